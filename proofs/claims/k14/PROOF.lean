import PyProof.Rows.All
import Wide.All
import OpenK.AllK
import Wide.FinOn
import Lean
import PyProof.EqAt
import PyProof.EqKinds
import PyProof.TupleCall
import PyProof.CompUse
import PyProof.NeData
import PyProof.WalksEnum
import PyProof.EnumMake
import PyProof.ZipIter
import PyProof.Rows.EnumRows
import PyProof.Rows.FactsT2
import KE.KDictList
import PyProof.Rows.SortRuns
import PyProof.Rows.SortWalk
import KE.KSortTup
import PyProof.Rows.SortStr
import PyProof.ListRange
import PyProof.StrOps2
import PyProof.StrBlock2
import PyProof.AutoIntG3
import PyProof.ListMulRight
import PyProof.Rows.ListMulArg
import PyProof.Rows.CallKwBuiltin
import PyProof.Rows.StrMul
import KE.KMinBuiltin
import PyProof.TupleKey
import PyProof.SetKind
import PyProof.Rows.SetFrom
import PyProof.DictWalks
import KE.KRevIter
import PyProof.NsDelKeeps
import PyProof.AutoSeq1
import PyProof.FactsAll.set_2
import Wide.More
import PySem.Challenge.RW_kinlook_k14_side_by_side
open PySem renaming wpAny_bind->ah,Value->ae,wpAny_pure->aI,Shared->ay,Addr->ag,starEach->bI,sizeLine->bS,model->aS,wpAny->aT,Program->dr,mainGlobals->fT,eval->cv,sizeLine_eq->hJ,Heap->cE,wpAny_setState_of->mG,World->dA,bootBuiltins->j3,Around->eB,compareOp->hV,wpAny_newObj_type->qE,wpAny_holding->oy,wpAny_Call_Name_kw->wc,backTo->iP,cLine->gE,wpAny_askSetting->zt,assignEach->qS,rawInt->ki,wpAny_mono->sq,attributeBase->ya,wpAny_truthy_bool->CC,wpAny_setEntries_of->EH,binaryOp->px,wpAny_call_entry->CD,putSet_of->sv,sysModules->u0,wpAny_storeSet_of->EI,wpAny_rule->wd,swapsWith->u3,Keyword->pz,foldedSetIterable->FV,wpAny_setEpoch_of->FX,wpAny_loadPart_at->FY,wpAny_typeNameOfWhole_keyiter->Pb,wpAny_callSpecial?_slot->MK,wpAny_setField_rec->KW,codeAny_builtin->GA,keywordEach->CF,wpAny_typeNameOf_keyiter->Pg,wpAny_isInstance->K0,tupleKind_room_in1->ML,wpAny_ite_split->K2,FuncData->zv,NameKind->zC,wpAny_dictEntries->MN,isSubtype_type->Lc,tupleKind->CH,setsByText->EJ,behindInMarks->Li,wpAny_field->GB,sliceBounds->GH,wpAny_of_eq->GL,wpAny_passesOwn->MP
open PySem.W renaming Frag->aE,kitOne->lI,nsIn->kG,mg_none_of->yb,kia_one->ve,mg_of->vi,fnOf->vj,findIn->zD,keepIn->EK,codeIn->Lj,mroIn->Ln,kitx_dict->Ph,kat_kind->Pj,methodObj->RW,kitx_list->RX,instObj->RZ,OpenLaw->R0
open List renaming length_map->cK,mem_cons_of_mem->eI,mem_append_right->fe,mem_cons_self->eL,mem_map->de,mem_append->eS,mem_cons->eM,size_toArray->hG,mem_append_left->jv,getElem?_eq_some_iff->lP,sublist_append_right->lS,nodup_append->iS,length_take->i7,length_append->kH,map_map->gi,map_cons->iF,append_nil->kr,map_append->k6,nodup_cons->lT,nodup_nil->k9,getElem?_eq_getElem->wm,mem_of_getElem?->tI,getElem?_map->qV,length_cons->sA,append_assoc->tJ,mem_singleton->vk,getElem?_append_right->CL,mem_range->rg,pairwise_map->wo,filterMap_cons->AZ,take_length->yi,getD_eq_getElem?_getD->GN,length_range->A5,getElem?_eq_none->EL,length_drop->A6,drop_eq_getElem_cons->Lp,mem_filter->A7,nil_sublist->CM,take_add_one->ER,take_of_length_le->Lq,flatMap_append->GO,getElem?_append_left->MQ,take_append_drop->Lr,pairwise_iff_getElem->MR,sublist_append_left->MS,map_congr_left->Ls,not_mem_nil->GP,all_eq_true->GU,append_eq_nil_iff->MT,length_filter_le->MV,all_cons->EV,ext_getElem?->Lv,filter_cons->Lw,length_eq_zero_iff->Pk,any_cons->GV,find?_cons->Ly,perm_append_comm->Pl,pairwise_append->Pm,mem_of_mem_drop->Pn,mem_of_mem_take->Pp,getElem_mem->MX,nodup_iff_pairwise_ne->R1,extract_eq_drop_take->R4,getElem?_replicate->R5,map_nil->Lz,eraseIdx_append_of_length_le->VB,findIdx?_eq_some_iff_getElem->VC,length_replicate->R6,cons_append->Pq,countP_cons->Pr,cons_ne_nil->Pt,nodup_range->Pu,mem_iff_getElem?->R7,map_take->MY,map_drop->MZ,mem_flatMap->Pw,getElem?_set_ne->R8,length_eraseIdx->R9,range_succ->Px,replicate_succ->R_,mem_map_of_mem->Sb,filter_eq_self->Sd,mem_filterMap->Se,filterMap_map->Sf,zip_cons_cons->Sg,contains_cons->Sh,filter_append->Si,getElem?_set->Sj,lookup_cons->Sn,drop_length->Sq
open PySem.Heap renaming get?_push_of_some->fE,lt_size->eP,get?_push_size->ku,get?_update_self->vn,get?_update_other->CY,get?_push_ne->Py,size_update->Pz
open Nat renaming le_refl->da,zero_le->eT,ne_of_lt->gI,lt_of_lt_of_le->oz,le_trans->ky,le_of_lt->mS,lt_succ_of_lt->zI,lt_irrefl->vt,succ_pos->wq,lt_succ_of_le->EW,add_sub_of_le->GW,pow_succ->A8,le_of_not_lt->M0,lt_of_not_le->LB,le_add_right->LC,not_lt_zero->GY,pow_le_pow_right->M6,add_assoc->G0,min_eq_left->LD,mul_assoc->He,le_of_lt_succ->M7,le_antisymm->M8,zero_add->LG,add_zero->LH,mul_le_mul->M9,lt_of_succ_lt->Sr,one_pos->LJ,add_comm->M_,sub_lt->LK,mod_lt->LM,mul_le_mul_left->Ss,lt_of_le_of_lt->xd6,add_mul->Nb,lt_trans->Sv,ne_of_gt->PB,mul_comm->PC
open PyProof.Rows renaming wpS_bind->cq,arrOf->bp,wpS_pure->df,Keyed->bP,SortSt->dv,kindOf->eR,pendingOf->kz,wpS_forRange->rh,failedOf->pE,envOfC->mh,SortKind->tN,wpS_mono->tP,elem'->ng,wpS_modify->Dp
open Bool renaming false_eq_true->iX,false_ne_true->kK,and_eq_true->k7,eq_iff_iff->EX,not_true->Nc,false_and->PD,not_eq_true'->Sw,and_self->PF
open Array renaming getElem?_toList->oa,toList_push->pS,getElem?_eq_getElem->A9,getElem?_eq_some_iff->Dx,length_toList->yk,getD_eq_getD_getElem?->EZ,eq_empty_of_size_eq_zero->LN,getElem?_eq_none->LP,size_extract->HC,append_assoc->LR,getElem?_setIfInBounds_ne->Sx,getElem?_extract->PH,perm_iff_toList_perm->Sy,toList_inj->Nf,mem_toList_iff->SD,toList_extract->SF,append_empty->SG,forIn_toList->SJ
open Int renaming toNat_of_nonneg->pT,emod_lt_of_pos->sC,emod_nonneg->tS,le_trans->yn,le_refl->yv,le_of_lt->DB,mul_nonneg->E3,lt_of_lt_of_le->Ng,zero_add->DC,mul_le_mul->HG,toNat_natCast->Nh
open Option renaming map_some->PJ,isSome_map->SK
local macro_rules | `(command| def $i:declId $s:optDeclSig $v:declVal)=>`(command| noncomputable def $i:declId $s:optDeclSig $v:declVal)
local macro_rules | `(command| abbrev $i:declId $s:optDeclSig $v:declVal)=>`(command| noncomputable abbrev $i:declId $s:optDeclSig $v:declVal)
set_option compiler.extract_closed false
local macro_rules | `(tactic| walk_at "l") => `(tactic| first | lia | omega)
local macro_rules | `(tactic| walk_at "s1") => `(tactic| solve_by_elim (maxDepth := 4) [Nat.lt_of_lt_of_le, Nat.lt_of_le_of_lt, Nat.le_trans, Nat.lt_trans, Nat.le_of_lt, Nat.le_of_not_lt])
local macro_rules | `(tactic| walk_at "s2") => `(tactic| solve_by_elim (maxDepth := 5) [Nat.lt_of_lt_of_le, Nat.lt_of_le_of_lt, Nat.le_trans, Nat.le_of_lt, Nat.le_of_not_lt, Nat.lt_of_not_le, Nat.lt_of_succ_lt, Nat.le_of_succ_le])
local macro_rules | `(tactic| walk_at "s3") => `(tactic| solve_by_elim (maxDepth := 5) [Int.lt_of_lt_of_le, Int.lt_of_le_of_lt, Int.le_trans, Int.le_of_lt, Int.not_lt.mp, Int.not_le.mp])
local macro_rules | `(tactic| walk_at "s4") => `(tactic| solve_by_elim (maxDepth := 5) [Nat.le_trans, Nat.lt_of_lt_of_le, Nat.le_of_lt, Nat.le_add_right, Nat.le_add_left, Nat.add_le_add_left, Nat.add_lt_add_left, Nat.succ_le_succ, Nat.sub_le])
theorem L2.gL{α β:Type _}{A B C:α->β->Prop}{G:Prop}(x:∃ a b,A a b/\B a b/\C a b)(k:∀ a b,A a b->B a b->C a b->G):G :=
 let ⟨a,b,p,q,r⟩:=x
 k a b p q r
set_option Elab.async false
set_option linter.all false
set_option maxRecDepth 100000
namespace L2
open PySem PySem.Spec PyProof.Rows
abbrev Key:=Sum Int Str
def HK:Key->ae->Bool
 |.inl k,v=>Value.isInt k v
 |.inr x,v=>Value.isStrOf x v
def bk'(w:dA):Key->Int
 |.inl k=>hashInt k
 |.inr x=>hashStr w x
theorem Bi:∀ {k:Key} {v:ae},HK k v=true->(∃ i t,k=Sum.inl i/\v=Value.int i t)\/(∃ x t,k=Sum.inr x/\v=Value.str x t)
 |.inl i,v,h=>by obtain⟨t,e⟩:=Value.isInt_shape (k:=i) (v:=v) h;exact .inl ⟨i,t,rfl,e⟩
 |.inr x,v,h=>by obtain⟨t,e⟩:=Value.isStrOf_shape (x:=x) (v:=v) h;exact .inr ⟨x,t,rfl,e⟩
theorem SN(i:Int)(t:Tok):HK (.inl i) (.int i t)=true:=by simp[HK,Value.isInt]
theorem PK(x:Str)(t:Tok):HK (.inr x) (.str x t)=true:=by simp[HK,Value.isStrOf]
theorem VD(a b:Int):decide ((Sum.inl a:Key)=Sum.inl b)=(a == b):=by
 by_cases e:a=b
 ·subst e;simp
 ·have h:¬ (Sum.inl a:Key)=Sum.inl b:=fun q=>e (Sum.inl.inj q);rw[decide_eq_false h];exact(beq_eq_false_iff_ne.mpr e).symm
theorem VF(a b:Str):decide ((Sum.inr a:Key)=Sum.inr b)=decide (a=b):=by
 by_cases e:a=b
 ·subst e;simp
 ·have h:¬ (Sum.inr a:Key)=Sum.inr b:=fun q=>e (Sum.inr.inj q);rw[decide_eq_false h,decide_eq_false e]
theorem bl'(a:Int)(b:Str):decide ((Sum.inl a:Key)=Sum.inr b)=false:=decide_eq_false (fun q=>nomatch q)
theorem bm'(a:Str)(b:Int):decide ((Sum.inr a:Key)=Sum.inl b)=false:=decide_eq_false (fun q=>nomatch q)
def kA(prog:dr)(w:dA):PySem.KeyKind prog w Key where
 is:=HK
 hash:=bk' w
 inj:=fun v a b ha hb=>by
  rcases Bi ha with⟨i,t,rfl,rfl⟩|⟨x,t,rfl,rfl⟩
  ·rcases Bi hb with⟨j,u,rfl,e⟩|⟨y,u,rfl,e⟩
   ·injection e with e1 _;rw[e1]
   ·exact nomatch e
  ·rcases Bi hb with⟨j,u,rfl,e⟩|⟨y,u,rfl,e⟩
   ·exact nomatch e
   ·injection e with e1 _;rw[e1]
 byValue:=fun k v h=>by rcases Bi h with⟨i,t,rfl,rfl⟩|⟨x,t,rfl,rfl⟩<;>rfl
 pyHash:=fun hv h=>by
  rcases Bi hv with⟨i,t,rfl,rfl⟩|⟨x,t,rfl,rfl⟩
  ·exact wpAny_pyHash_int h
  ·exact wpAny_pyHash_str h
 eqBool:=fun hu hv h=>by
  rcases Bi hu with⟨i,t,rfl,rfl⟩|⟨x,t,rfl,rfl⟩
  ·rcases Bi hv with⟨j,u,rfl,rfl⟩|⟨y,u,rfl,rfl⟩
   ·rw[VD] at h;exact wpAny_eqBool_int h
   ·rw[bl'] at h;exact SeqAt.EqAt.int_str i t y u _ _ _ _ h
  ·rcases Bi hv with⟨j,u,rfl,rfl⟩|⟨y,u,rfl,rfl⟩
   ·rw[bm'] at h;exact SeqAt.EqAt.str_int x t j u _ _ _ _ h
   ·rw[VF] at h;exact wpAny_eqBool_str h
 «strs» := fun k x t v h=>by
  rcases Bi h with⟨i,u,rfl,e⟩|⟨y,u,rfl,e⟩
  ·exact nomatch e
  ·injection e with e1 _;subst e1;cases v<;>rfl
theorem SQ(prog:dr)(w:dA)(k:Key)(v:ae):(kA prog w).is k v=HK k v:=rfl
theorem bn'(prog:dr)(w:dA)(i:Int)(t:Tok):(kA prog w).is (.inl i) (.int i t)=true:=SN i t
theorem bo'(prog:dr)(w:dA)(x:Str)(t:Tok):(kA prog w).is (.inr x) (.str x t)=true:=PK x t
inductive V where
 |non|bl (b:Bool)|int (i:Int)|str (x:Str)|tT (b:Array UInt8)|Bn (b:UInt64)|ref (a:ag)|ty (n:String)
 deriving DecidableEq
def RelV:V->ae->Prop
 |.non,u=>u=Value.none
 |.bl b,u=>u=Value.bool b
 |.int i,u=>∃ t,u=Value.int i t
 |.str x,u=>∃ t,u=Value.str x t
 |.tT b,u=>∃ t,u=Value.bytes b t
 |.Bn b,u=>∃ t,u=Value.float b t
 |.ref a,u=>u=Value.ref a
 |.ty n,u=>u=Value.type n
abbrev Vals:List V->List ae->Prop:=Paired RelV
theorem Vals.length(r:Vals xs us):xs.length=us.length:=Paired.length r
theorem Vals.get:∀ {xs:List V} {us:List ae} {i:Nat} {x:V},Vals xs us->xs[i]? = some x->∃ u,us[i]? = some u/\RelV x u
 |_,_,_,_,.nil,e=>by simp at e
 |_,_,0,_,.cons r _,e=>by simp at e;subst e;exact⟨_,rfl,r⟩
 |_,_,i+1,x,.cons _ t,e=>by obtain⟨u,h1,h2⟩:=Vals.get (i:=i) (x:=x) t (by simpa using e);exact⟨u,by simpa using h1,h2⟩
theorem Vals.set(r:RelV x u):∀ {xs:List V} {us:List ae} (i:Nat),Vals xs us->Vals (xs.set i x) (us.set i u)
 |_,_,_,.nil=>.nil
 |_,_,0,.cons _ t=>.cons r t
 |_,_,i+1,.cons q t=>.cons q (Vals.set r i t)
theorem Vals.append:∀ {xs ys:List V} {us ws:List ae},Vals xs us->Vals ys ws->Vals (xs++ys) (us++ws)
 |_,_,_,_,.nil,s=>s
 |_,_,_,_,.cons r t,s=>.cons r (Vals.append t s)
theorem Vals.take:∀ {xs:List V} {us:List ae} (n:Nat),Vals xs us->Vals (xs.take n) (us.take n)
 |_,_,0,_=>.nil
 |_,_,_+1,.nil=>.nil
 |_,_,n+1,.cons r t=>.cons r (Vals.take n t)
theorem Vals.drop:∀ {xs:List V} {us:List ae} (n:Nat),Vals xs us->Vals (xs.drop n) (us.drop n)
 |_,_,0,r=>r
 |_,_,_+1,.nil=>.nil
 |_,_,n+1,.cons _ t=>Vals.drop n t
def wt:Option V->Option ae->Prop
 |some v,some u=>RelV v u
 |none,none=>True
 |_,_=>False
def KV{κ:Type}:List (κ × V)->List (κ × ae)->Prop:=Paired fun(p:κ × V) (q:κ × ae)=>p.1=q.1/\RelV p.2 q.2
def kV:Key->V
 |.inl i=>.int i
 |.inr x=>.str x
inductive HO where
 /-- a list -/
 |lst (xs:List V)
 /-- a tuple (never changes) -/
 |tup (xs:List V)
 /-- a dict whose keys are ints and texts;one whose keys are tuples of ints and texts (the empty one is both) -/
 |dK (kvs:List (Key × V))|dT (kvs:List (List Key × V))
 /-- a set of ints: its members,its size -/
 |set (S:Int->Bool) (n:Nat)
 /-- an instance of the class at C,its dict at dx,its attributes -/
 |ins (C dx:ag) (fs:List (Str × V))
 /-- the dict of the instance at x -/
 |own (x:ag)
 /-- the dict of an exception -/
 |xd (fs:List (Str × V))
 /-- a bound method,f of x -/
 |met (f x:ag)
 /-- a range object lo,lo+1,.. below hi -/
 |PL (lo hi:Int)
 /-- a thing that is known to the object (the script;a dict while a loop walks it): read,never written while it is so -/
 |nh (o:Obj) (u:HO)
 /-- a code object's table -/
 |E4 (ps:Array ae)
 /-- any other thing,by what is true of its one object (a def of lg' own: lh' a S n:=HO.ext fun h=>..) -/
 |ext (φ:cE->Prop)
abbrev Hp:=ag->Option HO
def upd(H:Hp)(a:ag)(o:HO):Hp:=fun b=>if b=a then some o else H b
theorem kQ:upd H a o a=some o:=by unfold upd;rw[if_pos rfl]
theorem iL(h:b≠a):upd H a o b=H b:=by unfold upd;rw[if_neg h]
theorem bp'{H:Hp}{a b:ag}{o u:HO}(h:H a=some o)(h':H b=some u)(d:o≠u):a≠b:=by intro e;subst e;rw[h] at h';exact d (Option.some.inj h')
theorem LS{H:Hp}{a b:ag}{o:HO}(h:H a=some o)(h':H b=none):a≠b:=by intro e;subst e;rw[h] at h';cases h'
section
variable (P:dr)(w:dA)
def gS(H:Hp)(h:cE)(a:ag):HO->Prop
 |.lst xs=>xs.length<=bS/\∃ (its:List ae) (n:Nat),Vals xs its/\h.get? a=some { cls:=.type "list",data:=.seq its.toArray n }
 |.tup xs=>xs.length<=bS/\∃ its:List ae,Vals xs its/\IsTup h a its.toArray
 |.dK kvs=>kvs.length<=bS/\(a == u0)=false/\∃ vs,KV kvs vs/\h.DictOf (kA P w) a vs
 |.dT kvs=>kvs.length<=bS/\(a == u0)=false/\∃ xs:List (List Key × ag × ae),
   Paired (fun(p:List Key × V) (q:List Key × ag × ae)=>p.1=q.1/\H q.2.1=some (.tup (p.1.map kV))/\RelV p.2 q.2.2) kvs xs /\
   ∃ o es ep,h.get? a=some o/\o.ExactDict/\o.data=.dict es ep/\es.toList=xs.map (entryOfKey (CH (kA P w)))/\(xs.map (·.1)).Nodup
 |.set S n=>h.SetOf (intKind P w) a S n
 |.ins C dx fs=>H dx=some (.own a)/\fs.length<=1000/\dx≠a/\h.get? a=some (RZ C dx) /\
   ∃ mA,h.Ns1 dx mA/\(∀ f,wt (fs.lookup f) (mA f))/\PySem.Within mA (fs.map (·.1))
 |.own _=>∃ o,h.get? a=some o
 |.xd fs=>∃ mA,h.Ns1 a mA/\∀ f,wt (fs.lookup f) (mA f)
 |.PL lo hi=>∃ t u v,h.get? a=some { cls:=.type "range",data:=.fields #[.int lo t,.int hi u,.int 1 v] }
 |.nh o u=>h.get? a=some o/\gS H h a u
 |.E4 ps=>h.get? a=some { cls:=.none,data:=.fields ps }
 |.met f x=>h.get? a=some (RW (.ref f) (.ref x))
 |.ext φ=>φ h/\(∃ o,h.get? a=some o)/\∀ h1 h2:cE,φ h1->(∀ o,h1.get? a=some o->h2.get? a=some o)->φ h2
def hX(H:Hp)(h:cE):Prop:=∀ a o,H a=some o->gS P w H h a o
end
section
variable {P:dr}{w:dA}{H H':Hp}{h h':cE}{a:ag}{o:HO}
theorem gS.lt(x:gS P w H h a o):a<h.objs.size:=by
 cases o with
 |lst xs=>obtain⟨_,_,_,_,e⟩:=x;exact eP e
 |tup xs=>obtain⟨_,_,_,p⟩:=x;exact p.lt
 |dK kvs=>obtain⟨_,_,_,_,o,_,_,e,_⟩:=x;exact eP e
 |dT kvs=>obtain⟨_,_,_,_,o,_,_,e,_⟩:=x;exact eP e
 |set S n=>obtain⟨o,_,_,_,e,_⟩:=x;exact eP e
 |ins C dx fs=>obtain⟨_,_,_,e,_⟩:=x;exact eP e
 |own y=>obtain⟨_,e⟩:=x;exact eP e
 |xd fs=>obtain⟨_,⟨_,_,_,e,_⟩,_⟩:=x;exact eP e
 |PL lo hi=>obtain⟨_,_,_,e⟩:=x;exact eP e
 |nh ob u=>obtain⟨e,_⟩:=x;exact eP e
 |E4 ps=>exact eP (show h.get? a=some _ from x)
 |met f y=>exact eP (show h.get? a=some _ from x)
 |ext φ=>obtain⟨_,⟨_,e⟩,_⟩:=x;exact eP e
theorem Paired.SV{α β:Type}{F G:α->β->Prop}:∀ {l₁:List α} {VG:List β},Paired F l₁ VG->(∀ a b,F a b->G a b)->Paired G l₁ VG
 |_,_,.nil,_=>.nil
 |_,_,.cons r t,f=>.cons (f _ _ r) (Paired.SV t f)
theorem gS.eW(x:gS P w H h a o)(k:∀ b u,(b=a\/H b=some (.own a))->h.get? b=some u->h'.get? b=some u)(ho:∀ b,H b=some (.own a)->H' b=some (.own a)) (ht:∀ b xs,H b=some (.tup xs)->H' b=some (.tup xs)):gS P w H' h' a o:=by
 induction o with
 |lst xs=>obtain⟨z,its,n,r,e⟩:=x;exact⟨z,its,n,r,k _ _ (.inl rfl) e⟩
 |tup xs=>obtain⟨z,its,r,ob,e,c⟩:=x;exact⟨z,its,r,ob,k _ _ (.inl rfl) e,c⟩
 |dK kvs=>obtain⟨z,y,vs,r,ob,es,ep,e,c⟩:=x;exact⟨z,y,vs,r,ob,es,ep,k _ _ (.inl rfl) e,c⟩
 |dT kvs =>obtain⟨z,y,xs,r,ob,es,ep,e,c⟩:=x;exact⟨z,y,xs,Paired.SV r fun p q z=>⟨z.1,ht _ _ z.2.1,z.2.2⟩,ob,es,ep,k _ _ (.inl rfl) e,c⟩
 |set S n=>obtain⟨ob,es,ep,t,e,c⟩:=x;exact⟨ob,es,ep,t,k _ _ (.inl rfl) e,c⟩
 |ins C dx fs =>obtain⟨d,z,ne,e,mA,⟨od,es,ep,e2,c⟩,r⟩:=x;exact⟨ho _ d,z,ne,k _ _ (.inl rfl) e,mA,⟨od,es,ep,k _ _ (.inr d) e2,c⟩,r⟩
 |own y=>obtain⟨ob,e⟩:=x;exact⟨ob,k _ _ (.inl rfl) e⟩
 |xd fs=>obtain⟨mA,⟨od,es,ep,e,c⟩,r⟩:=x;exact⟨mA,⟨od,es,ep,k _ _ (.inl rfl) e,c⟩,r⟩
 |PL lo hi=>obtain⟨t,u,v,e⟩:=x;exact⟨t,u,v,k _ _ (.inl rfl) e⟩
 |nh ob u ih=>obtain⟨e,q⟩:=x;exact⟨k _ _ (.inl rfl) e,ih q⟩
 |E4 ps =>have e:h.get? a=some { cls:=.none,data:=.fields ps }:=x;show h'.get? a=some { cls:=.none,data:=.fields ps };exact k a _ (.inl rfl) e
 |met f y =>have e:h.get? a=some (RW (.ref f) (.ref y)):=x;show h'.get? a=some (RW (.ref f) (.ref y));exact k a _ (.inl rfl) e
 |ext φ=>obtain⟨p,⟨o,e⟩,st⟩:=x;exact⟨st _ _ p fun o q=>k _ _ (.inl rfl) q,⟨o,k _ _ (.inl rfl) e⟩,st⟩
theorem hX.lt(x:hX P w H h)(e:H a=some o):a<h.objs.size:=(x a o e).lt
theorem hX.fresh(x:hX P w H h)(e:h.objs.size<=a):H a=none:=by
 cases q:H a with
 |none=>rfl
 |some u=>exact absurd (oz (x.lt q) e) (vt _)
theorem hX.kept(x:hX P w H h)(k:∀ b u,h.get? b=some u->h'.get? b=some u):hX P w H h':=fun a o e =>
 (x a o e).eW (fun b u _ q=>k b u q) (fun _ q=>q) fun _ _ q=>q
theorem hX.laid(x:hX P w H h)(k:∀ b u,h.get? b=some u->h'.get? b=some u)(hp:h.objs.size<=a)(new:gS P w (upd H a o) h' a o):hX P w (upd H a o) h':=fun b u e=>by
 have hn:=x.fresh hp;by_cases hb:b=a
 ·subst hb;rw[kQ] at e;cases e;exact new
 ·rw[iL hb] at e;exact(x b u e).eW (fun c v _ q=>k c v q) (fun c q=>by rw[iL (LS q hn)];exact q) fun c xs q=>by rw[iL (LS q hn)];exact q
end
def Rd(H:Hp)(a:ag)(u:HO):Prop:=H a=some u\/∃ o,H a=some (.nh o u)
theorem Rd.ok{P:dr}(r:Rd H a u)(x:hX P w H h):gS P w H h a u:=by
 rcases r with r|⟨o,r⟩
 ·exact x a u r
 ·obtain⟨_,q⟩:=x a _ r;exact q
def Ni:Option HO->Prop
 |some (.lst _)=>True
 |some (.dK _)=>True
 |some (.dT _)=>True
 |some (.set _ _)=>True
 |some (.ins _ _ _)=>True
 |some (.ext _)=>True
 |_=>False
section
variable {P:dr}{w:dA}{H:Hp}{h h':cE}{x e:ag}{o':HO}
theorem hX.write(ok:hX P w H h)(mu:Ni (H x))(he:e=x\/H e=some (.own x))(k:∀ b u,b≠e->h.get? b=some u->h'.get? b=some u)(LV:∃ u,h'.get? e=some u)(new:gS P w (upd H x o') h' x o'):hX P w (upd H x o') h':=fun b u q=>by
 have VH:∀ c y,H c=some (.own y)->c≠x:=fun c y r z=>by subst z;rw[r] at mu;exact mu
 have bq':∀ c xs,H c=some (.tup xs)->c≠x:=fun c xs r z=>by subst z;rw[r] at mu;exact mu
 by_cases hb:b=x
 ·subst hb;rw[kQ] at q;cases q;exact new
 ·rw[iL hb] at q;by_cases HL:b=e
  ·have q':H b=some (.own x):=by
    rcases he with z|z
    ·exact absurd (HL.trans z) hb
    ·rw[HL];exact z
   rw[q] at q';cases q';obtain⟨v,hv⟩:=LV;exact⟨v,by rw[HL];exact hv⟩
  ·refine(ok b u q).eW (fun c v hc r=>k c v ?_ r) (fun c r=>by rw[iL (VH c b r)];exact r) fun c xs r=>by rw[iL (bq' c xs r)];exact r
   rcases hc with rfl|hc
   ·exact HL
   ·rintro rfl;rcases he with z|z
    ·exact VH c b hc z
    ·rw[hc] at z;cases z;exact hb rfl
end
structure Un(fs ex:List ag)(H H':Hp)(h h':cE):Prop where
 keep:∀ b o,h.get? b=some o->H b=none->b∉fs->b∉ex->h'.get? b=some o
 slot:∀ b o,h.get? b=some o->H b=none->b∈fs->b∉ex->∃ sl,h'.get? b=some { o with slots:=sl }
 free:∀ b o,h.get? b=some o->H b=none->b∉ex->H' b=none
 there:∀ b o,h.get? b=some o->b∉ex->∃ o',h'.get? b=some o'
 i9:∀ b xs,H b=some (.tup xs)->H' b=some (.tup xs)
 rp:∀ b o u,H b=some (.nh o u)->H' b=some (.nh o u)
 sD:∀ b ps,H b=some (.E4 ps)->∃ more,H' b=some (.E4 (ps++more))
section
variable {fs ex:List ag}{H H1 H2:Hp}{h h1 h2 h':cE}{a x e:ag}{o:HO}
theorem Un.any(u:Un fs ex H H1 h h1)(q:h.get? b=some ob)(n:H b=none)(hx:b∉ex):∃ sl,h1.get? b=some { ob with slots:=sl }:=by
 by_cases hb:b∈fs
 ·exact u.slot b ob q n hb hx
 ·exact⟨ob.slots,u.keep b ob q n hb hx⟩
theorem Un.trans(a:Un fs ex H H1 h h1)(b:Un fs ex H1 H2 h1 h2):Un fs ex H H2 h h2 where
 keep:=fun c ob q n hc hx=>b.keep c ob (a.keep c ob q n hc hx) (a.free c ob q n hx) hc hx
 slot:=fun c ob q n hc hx=>by obtain⟨sl,e1⟩:=a.slot c ob q n hc hx;obtain⟨SW,e2⟩:=b.slot c _ e1 (a.free c ob q n hx) hc hx;exact⟨SW,e2⟩
 free:=fun c ob q n hx=>by obtain⟨o',e1⟩:=a.there c ob q hx;exact b.free c o' e1 (a.free c ob q n hx) hx
 there:=fun c ob q hx=>by obtain⟨o',e1⟩:=a.there c ob q hx;exact b.there c o' e1 hx
 i9:=fun c xs q=>b.i9 c xs (a.i9 c xs q)
 rp:=fun c ob xs q=>b.rp c ob xs (a.rp c ob xs q)
 sD:=fun c ps q=>by obtain⟨m1,e1⟩:=a.sD c ps q;obtain⟨m2,e2⟩:=b.sD c _ e1;exact⟨m1++m2,by rw[e2,LR]⟩
theorem Un.kept(k:∀ b u,h.get? b=some u->h'.get? b=some u):Un fs ex H H h h' :=
 ⟨fun b ob q _ _ _=>k b ob q,fun b ob q _ _ _=>⟨ob.slots,k b ob q⟩,fun _ _ _ n _=>n,fun b ob q _=>⟨ob,k b ob q⟩,fun _ _ q=>q,fun _ _ _ q=>q,fun _ ps q=>⟨#[],by rw[q];simp⟩⟩
theorem Un.refl:Un fs ex H H h h:=Un.kept fun _ _ q=>q
theorem Un.laid(k:∀ b u,h.get? b=some u->h'.get? b=some u)(hp:h.objs.size<=a)(hn:H a=none):Un fs ex H (upd H a o) h h' where
 keep:=fun b u q _ _ _=>k b u q
 slot:=fun b u q _ _ _=>⟨u.slots,k b u q⟩
 free:=fun b u q n _=>by rw[iL (gI (oz (eP q) hp))];exact n
 there:=fun b u q _=>⟨u,k b u q⟩
 i9:=fun b xs q=>by rw[iL (LS q hn)];exact q
 rp:=fun b u xs q=>by rw[iL (LS q hn)];exact q
 sD:=fun b ps q=>⟨#[],by rw[iL (LS q hn),q];simp⟩
theorem Un.write(mu:Ni (H x))(he:e=x\/H e=some (.own x))(k:∀ b u,b≠e->h.get? b=some u->h'.get? b=some u)(LV:∃ u,h'.get? e=some u):Un fs ex H (upd H x o) h h':=by
 have hx:∀ b,H b=none->b≠x:=fun b n z=>by subst z;rw[n] at mu;exact mu
 have hb:∀ b,H b=none->b≠e:=fun b n z=>by
  subst z;rcases he with r|r
  ·exact hx b n r
  ·rw[n] at r;cases r
 have hm:∀ b u,H b=some u->¬ Ni (some u)->b≠x:=fun b u q nm z=>by subst z;rw[q] at mu;exact nm mu
 refine⟨fun b u q n _ _=>k b u (hb b n) q,fun b u q n _ _=>⟨u.slots,k b u (hb b n) q⟩,fun b u q n _=>by rw[iL (hx b n)];exact n,fun b u q _=>?_,
  fun b xs q=>by rw[iL (hm b _ q fun z=>z)];exact q,fun b u xs q=>by rw[iL (hm b _ q fun z=>z)];exact q,fun b ps q=>⟨#[],by rw[iL (hm b _ q fun z=>z),q];simp⟩⟩
 by_cases HL:b=e
 ·subst HL;exact LV
 ·exact⟨u,k b u HL q⟩
end
def PN(h:cE)(H:Hp):List ag:=(List.range h.objs.size).filter fun a=>(H a).isSome
def DE(h:cE)(H:Hp):cE:=PySem.W.hideAll h (PN h H)
theorem bs'(h:cE)(H:Hp):(DE h H).objs.size=h.objs.size:=PySem.W.hideAll_size _ _
theorem bt'(e:h.get? b=some o)(n:H b=none):(DE h H).get? b=some o :=
 PySem.W.hideAll_get _ e fun hm=>by have q:(H b).isSome=true:=(A7.mp hm).2;rw[n] at q;simp at q
theorem bu'(e:(DE h H).get? b=some o):h.get? b=some o/\H b=none:=by
 have e':h.get? b=some o:=PySem.W.of_hideAll (PN h H) e;refine⟨e',?_⟩
 cases q:H b with
 |none=>rfl
 |some x =>have hm:b∈PN h H:=A7.mpr ⟨rg.mpr (eP e'),by simp[q]⟩;have z:(DE h H).get? b=none:=PySem.W.hideAll_none (PN h H) hm;rw[z] at e;cases e
def bv'(g h:cE)(L:ag):List (ag × Obj):=(List.range h.objs.size).filterMap fun a=>if a=L\/(g.get? a).isSome=true then none else (h.get? a).map fun o=>(a,o)
def rest(g h:cE)(L d:ag):List (ag × Obj):=(bv' g h L).filter fun p=>decide (p.1≠d)
structure Mod(K:aE)(mg:Str->Option ae)(base:cE):Prop where
 Nj:K.In base
 glob:base.Ns fT mg
 blt:∃ mb,base.Ns builtinsNs mb/\∀ x:Str,x ≠ "__name__"->mb x=j3 x
 nolimit:base.NoLimit
structure Cx where
 prog:dr
 w:dA
 K:aE
 mg:Str->Option ae
 base:cE
 A:eB
 N:List Str
 ft:ay
 zS:Hp
 env:Env
 outer:List Env
 stack:List Env
 ex:List ag
 fn:Str->Bool
 calm:Bool
 pn:List (ag × Obj)
 xe:ae->ay->Prop
def fN(l:List Env):List ag:=l.filterMap (·.frame)
abbrev Cx.fs(X:Cx):List ag:=fN X.outer
def Nk(sc:Scope)(x:Str):Prop:=sc.names.lookup x=some .local\/sc.names.lookup x=some .cell\/sc.names.lookup x=some .free
def Loc(sc:Scope)(x:Str):Prop:=sc.names.lookup x=some .local\/sc.names.lookup x=some .cell
def Look(env:Env)(h:cE)(m:Str->Option ae)(x:Str)(u:ae):Prop :=
 (env.kindOf x=some .local/\m x=some u)\/((env.kindOf x=some .cell\/env.kindOf x=some .free)/\∃ c,env.cells.lookup x=some c/\h.IsCell c (some u))
structure Cx.Ok(X:Cx):Prop where
 mod:Mod X.K X.mg X.base
 kind:X.env.scope.kind=.function
 glob:X.env.globals=fT
 blt:X.env.builtins=builtinsNs
 above:X.ft.heap.objs.size<=X.env.locals
 inj:∀ x y c,X.env.cells.lookup x=some c->X.env.cells.lookup y=some c->x=y
 has:∀ x,(X.env.kindOf x=some .cell\/X.env.kindOf x=some .free)->∃ c,X.env.cells.lookup x=some c
 Bz:∀ x c,X.fn x=true->X.env.cells.lookup x=some c->X.ft.heap.objs.size<=c
 hd:X.calm=true->X.A.handled=none
 frames:X.A.frames=some X.stack
 DF:X.stack=X.outer\/(X.stack=X.env :: X.outer/\X.env.frame=some X.env.locals)
 DH:∀ b∈X.ex,b≠X.env.locals/\∀ x c,X.env.cells.lookup x=some c->c≠b
 bs:∀ b o,X.base.get? b=some o->X.ft.heap.get? b=some o/\X.zS b=none
 w9:X.base.objs.size<=X.ft.heap.objs.size
 BD:∀ b o,X.base.get? b=some o->b∉X.ex
 BE:∀ b∈X.ex,b∉X.fs
 sF:X.ft.heap.FunFrames X.base X.outer
 z0:∀ b∈X.fs,X.zS b=none
structure Inv(X:Cx)(pins:List (ag × Obj))(σ:List (Option V))(H:Hp)(s:ay):Prop where
 ok:X.Ok
 os:s.os=X.ft.os
 bare:AllBare s.gens
 base:Un X.fs X.ex X.zS H X.ft.heap s.heap
 loc:∃ m,s.heap.Ns X.env.locals m/\∀ (i:Nat) (x:Str) (v:V),X.N[i]? = some x->σ[i]? = some (some v)->Nk X.env.scope x->∃ u,RelV v u/\Look X.env s.heap m x u
 cell:∀ x c,X.env.cells.lookup x=some c->∃ v,s.heap.IsCell c v
 free:H X.env.locals=none
 pV:∀ x c,X.env.cells.lookup x=some c->H c=none
 pin:∀ p∈X.pn++pins,s.heap.get? p.1=some p.2/\H p.1=none/\p.1≠X.env.locals/\p.1∉X.fs/\∀ v,p.2.data≠.cell v
 b9:hX X.prog X.w H s.heap
 len:σ.length=X.N.length
section
variable {X:Cx}{pins:List (ag × Obj)}{σ:List (Option V)}{H H':Hp}{s:ay}{h':cE}
theorem Cx.Ok.bw'(ok:X.Ok)(e:X.base.get? b=some o):b∉X.fs:=fun hb=>by have:=(ok.sF.mem hb).1;rw[e] at this;cases this
theorem Inv.bs(I:Inv X pins σ H s):∀ b o,X.base.get? b=some o->s.heap.get? b=some o/\H b=none:=fun b o e =>
 ⟨I.base.keep b o (I.ok.bs b o e).1 (I.ok.bs b o e).2 (I.ok.bw' e) (I.ok.BD b o e),I.base.free b o (I.ok.bs b o e).1 (I.ok.bs b o e).2 (I.ok.BD b o e)⟩
theorem Inv.bk(I:Inv X pins σ H s):∀ b o,X.base.get? b=some o->s.heap.get? b=some o:=fun b o e=>(I.bs b o e).1
theorem Inv.mod(I:Inv X pins σ H s):Mod X.K X.mg X.base:=I.ok.mod
theorem Inv.kB(I:Inv X pins σ H s):X.K.In s.heap:=I.ok.mod.Nj.keeps I.bk
theorem Inv.lt(I:Inv X pins σ H s):X.env.locals<s.heap.objs.size:=let ⟨_,hn,_⟩:=I.loc;hn.lt
theorem Inv.sz(I:Inv X pins σ H s):X.ft.heap.objs.size<=s.heap.objs.size:=ky I.ok.above (mS I.lt)
theorem Inv.bx'(I:Inv X pins σ H s)(h:s.heap.objs.size<=a):a∉X.fs:=fun hb=>by obtain⟨_,o,ho,_⟩:=I.ok.sF.mem hb;exact absurd (oz (eP ho) (ky I.sz h)) (vt _)
theorem Inv.DI(I:Inv X pins σ H s):∀ x c,X.env.cells.lookup x=some c->c≠X.env.locals:=fun x c e z=>by obtain⟨v,o,ho,hd⟩:=I.cell x c e;obtain⟨m,⟨o',es,ep,og,hd',_⟩,_⟩:=I.loc;rw[z,og] at ho;cases ho;rw[hd'] at hd;cases hd
theorem Inv.sF(I:Inv X pins σ H s):s.heap.FunFrames X.base X.outer:=by
 have all:∀ (l:List Env),(∀ b∈fN l,b∈X.fs)->X.ft.heap.FunFrames X.base l->s.heap.FunFrames X.base l:=by
  intro l
  induction l with
  |nil=>intro _ _;trivial
  |cons env r ih =>intro hs hl;obtain⟨hk,⟨L,o,hf,hn,ho,hd⟩,hr⟩:=hl;have hL:L∈X.fs:=hs L (by unfold fN;rw[AZ,hf];exact eL);obtain⟨sl,e⟩:=I.base.slot L o ho (I.ok.z0 L hL) hL fun z=>I.ok.BE L z hL;exact⟨hk,⟨L,_,hf,hn,e,hd⟩,ih (fun b hb=>hs b (by unfold fN;rw[AZ,hf];exact eI _ hb)) hr⟩
 exact all X.outer (fun _ hb=>hb) I.ok.sF
theorem Inv.stack(I:Inv X pins σ H s):s.heap.FunFrames X.base X.stack:=by
 rcases I.ok.DF with e|⟨e,hf⟩
 ·rw[e];exact I.sF
 ·rw[e];obtain⟨m,hn,_⟩:=I.loc;refine .cons (by rw[I.ok.kind];decide) hf hn ?_ I.sF;exact Heap.get?_none_of_le (ky I.ok.w9 I.ok.above)
theorem Inv.SX(I:Inv X pins σ H s):∀ b∈fN X.stack,b∈X.env.locals :: X.fs:=fun b hb=>by
 rcases I.ok.DF with e|⟨e,hf⟩
 ·rw[e] at hb;exact eI _ hb
 ·rw[e] at hb;unfold fN at hb;rw[AZ,hf] at hb;exact hb
theorem Inv.SY(I:Inv X pins σ H s):∀ b∈fN X.stack,H b=none:=fun b hb=>by
 rcases eM.mp (I.SX b hb) with e|hb
 ·rw[e];exact I.free
 ·obtain⟨_,o,ho,_⟩:=I.ok.sF.mem hb;exact I.base.free b o ho (I.ok.z0 b hb) fun z=>I.ok.BE b z hb
theorem Inv.step{g':Array GenState}{t':Nat}{d':Drawn}{ch:List ag}(I:Inv X pins σ H s)(BF:∀ b∈ch,(b∈X.ex\/X.ft.heap.objs.size<=b)/\b≠X.env.locals/\(∀ x c,X.env.cells.lookup x=some c->c≠b)/\∀ p∈X.pn++pins,p.1≠b)(keep:∀ b o,b≠X.env.locals->b∉X.fs->b∉ch->s.heap.get? b=some o->H b=none->h'.get? b=some o)(slot:∀ b o,b≠X.env.locals->b∈X.fs->b∉ch->s.heap.get? b=some o->H b=none->∃ sl,h'.get? b=some { o with slots:=sl }) (free:∀ b o,b∉ch->s.heap.get? b=some o->H b=none->H' b=none) (there:∀ b o,b∉ch->s.heap.get? b=some o->∃ o',h'.get? b=some o') (i9:∀ b xs,H b=some (.tup xs)->H' b=some (.tup xs)) (rp:∀ b o u,H b=some (.nh o u)->H' b=some (.nh o u)) (sD:∀ b ps,H b=some (.E4 ps)->∃ more,H' b=some (.E4 (ps++more))) (ns:∀ m,s.heap.Ns X.env.locals m->h'.Ns X.env.locals m) (b9:hX X.prog X.w H' h') (hg:AllBare g') :
  Inv X pins σ H' { s with heap:=h',gens:=g',drawn:=d',toks:=t' }:=by
 have Nm:∀ b o,X.ft.heap.get? b=some o->b≠X.env.locals:=fun b o e=>gI (oz (eP e) I.ok.above);have PQ:∀ b o,X.ft.heap.get? b=some o->b∉X.ex->b∉ch:=fun b o e hx hb=>by
  rcases (BF b hb).1 with z|z
  ·exact hx z
  ·exact absurd (oz (eP e) z) (vt _)
 have cellK:∀ x c,X.env.cells.lookup x=some c->∀ v,s.heap.IsCell c v->h'.IsCell c v:=fun x c e v d4=>by
  obtain⟨o,ho,hd⟩:=d4;have Nn:c∉ch:=fun z=>(BF c z).2.2.1 x c e rfl;by_cases hc:c∈X.fs
  ·obtain⟨sl,q⟩:=slot c o (I.DI x c e) hc Nn ho (I.pV x c e);exact⟨_,q,hd⟩
  ·exact⟨o,keep c o (I.DI x c e) hc Nn ho (I.pV x c e),hd⟩
 refine⟨I.ok,I.os,hg,⟨fun b o e n hb hx=>?_,fun b o e n hb hx=>?_,fun b o e n hx=>?_,fun b o e hx=>?_,fun b xs e=>i9 b xs (I.base.i9 b xs e),fun b o xs e=>rp b o xs (I.base.rp b o xs e),fun b ps e=>?_⟩,?_,fun x c e=>?_,?_,fun x c e=>?_,fun p hp=>?_,b9,I.len⟩
 ·exact keep b o (Nm b o e) hb (PQ b o e hx) (I.base.keep b o e n hb hx) (I.base.free b o e n hx)
 ·obtain⟨sl,e1⟩:=I.base.slot b o e n hb hx;obtain⟨SW,e2⟩:=slot b _ (Nm b o e) hb (PQ b o e hx) e1 (I.base.free b o e n hx);exact⟨SW,e2⟩
 ·obtain⟨o',e1⟩:=I.base.there b o e hx;exact free b o' (PQ b o e hx) e1 (I.base.free b o e n hx)
 ·obtain⟨o',e1⟩:=I.base.there b o e hx;exact there b o' (PQ b o e hx) e1
 ·obtain⟨m1,e1⟩:=I.base.sD b ps e;obtain⟨m2,e2⟩:=sD b _ e1;exact⟨m1++m2,by rw[e2,LR]⟩
 ·obtain⟨m,hn,hl⟩:=I.loc;refine⟨m,ns m hn,fun i x v e1 e2 e3=>?_⟩;obtain⟨u,r,l⟩:=hl i x v e1 e2 e3;refine⟨u,r,?_⟩;rcases l with l|⟨k,c,e,z⟩
  ·exact .inl l
  ·exact .inr ⟨k,c,e,cellK x c e _ z⟩
 ·obtain⟨v,z⟩:=I.cell x c e;exact⟨v,cellK x c e v z⟩
 ·obtain⟨m,⟨o,_,_,ho,_⟩,_⟩:=I.loc;exact free _ o (fun z=>(BF _ z).2.1 rfl) ho I.free
 ·obtain⟨v,o,ho,hd⟩:=I.cell x c e;exact free c o (fun z=>(BF c z).2.2.1 x c e rfl) ho (I.pV x c e)
 ·obtain⟨e,n,ne,nf,d⟩:=I.pin p hp;have Nn:p.1∉ch:=fun z=>(BF p.1 z).2.2.2 p hp rfl;exact⟨keep p.1 p.2 ne nf Nn e n,free p.1 p.2 Nn e n,ne,nf,d⟩
theorem Inv.un{t':Nat}(I:Inv X pins σ H s)(u:Un X.fs [] H H' s.heap h')(b9:hX X.prog X.w H' h'):Inv X pins σ H' { s with heap:=h',toks:=t' }:=by
 obtain⟨m,⟨o,es,ep,ho,r⟩,_⟩:=id I.loc;obtain⟨sl,hL⟩:=u.any ho I.free (by simp);exact I.step (g':=s.gens) (d':=s.drawn) (ch:=[]) (fun _ z=>nomatch z) (fun b o _ hb _ e n=>u.keep b o e n hb (by simp)) (fun b o _ hb _ e n=>u.slot b o e n hb (by simp)) (fun b o _ e n=>u.free b o e n (by simp)) (fun b o _ e=>u.there b o e (by simp)) u.i9 u.rp u.sD (fun m' hm=>by
  obtain⟨o',HM,Np,og,r'⟩:=hm;rw[ho] at og;cases og;exact⟨_,HM,Np,hL,r'⟩) b9 I.bare
theorem Inv.call{g':Array GenState}{t':Nat}{d':Drawn}{ch:List ag}(I:Inv X pins σ H s)(u:Un (fN X.stack) ch H H' s.heap h')(b9:hX X.prog X.w H' h')(hg:AllBare g')(BF:∀ b∈ch,(b∈X.ex\/X.ft.heap.objs.size<=b)/\b≠X.env.locals/\(∀ x c,X.env.cells.lookup x=some c->c≠b)/\∀ p∈X.pn++pins,p.1≠b) :
  Inv X pins σ H' { s with heap:=h',gens:=g',drawn:=d',toks:=t' }:=by
 obtain⟨m,⟨o,es,ep,ho,r⟩,_⟩:=id I.loc;obtain⟨sl,hL⟩:=u.any ho I.free fun z=>(BF _ z).2.1 rfl;exact I.step (ch:=ch) BF (fun b o hL hb hc e n=>u.keep b o e n (fun z=>(eM.mp (I.SX b z)).elim hL hb) hc) (fun b o _ _ hc e n=>u.any e n hc) (fun b o hc e n=>u.free b o e n hc) (fun b o hc e=>u.there b o e hc) u.i9 u.rp u.sD (fun m' hm=>by
  obtain⟨o',HM,Np,og,r'⟩:=hm;rw[ho] at og;cases og;exact⟨_,HM,Np,hL,r'⟩) b9 hg
theorem Inv.turned{t':Nat}{it:ag}(I:Inv X pins σ H s)(k:∀ b o,b≠it->s.heap.get? b=some o->h'.get? b=some o)(hn:H it=none)(hL:it≠X.env.locals)(h1:it∈X.ex\/X.ft.heap.objs.size<=it) (h2:∀ x c,X.env.cells.lookup x=some c->c≠it) (h3:∀ p∈X.pn++pins,p.1≠it):Inv X pins σ H { s with heap:=h',toks:=t' }:=by
 have VJ:∀ b u,H b=some u->b≠it:=fun b u e z=>by rw[z,hn] at e;cases e
 refine I.step (g':=s.gens) (d':=s.drawn) (ch:=[it]) (fun b hb=>?_) (fun b o _ _ hc e _=>k b o (fun z=>hc (by simp[z])) e) (fun b o _ _ hc e _=>⟨o.slots,k b o (fun z=>hc (by simp[z])) e⟩) (fun _ _ _ _ n=>n) (fun b o hc e=>⟨o,k b o (fun z=>hc (by simp[z])) e⟩) (fun _ _ e=>e) (fun _ _ _ e=>e) (fun b ps e=>⟨#[],by rw[e];simp⟩) (fun m hm=>?_) (fun b u e=>?_) I.bare
 ·have e:b=it:=by simpa using hb
  subst e;exact⟨h1,hL,h2,h3⟩
 ·obtain⟨o,es,ep,ho,r⟩:=hm;exact⟨o,es,ep,k _ o (Ne.symm hL) ho,r⟩
 ·refine(I.b9 b u e).eW (fun c v hc q=>k c v ?_ q) (fun _ q=>q) fun _ _ q=>q;rcases hc with z|z
  ·rw[z];exact VJ b u e
  ·exact VJ c _ z
theorem Inv.tok(I:Inv X pins σ H s)(t:Nat):Inv X pins σ H { s with toks:=t }:=I.un (h':=s.heap) (t':=t) Un.refl I.b9
theorem Inv.kept(I:Inv X pins σ H s)(k:∀ b u,s.heap.get? b=some u->h'.get? b=some u):Inv X pins σ H { s with heap:=h',toks:=t' }:=I.un (Un.kept k) (I.b9.kept k)
theorem Inv.laid(I:Inv X pins σ H s)(k:∀ b u,s.heap.get? b=some u->h'.get? b=some u)(hp:s.heap.objs.size<=a)(new:gS X.prog X.w (upd H a o) h' a o) :
  Inv X pins σ (upd H a o) { s with heap:=h',toks:=t' }:=I.un (Un.laid k hp (I.b9.fresh hp)) (I.b9.laid k hp new)
theorem Inv.write(I:Inv X pins σ H s)(mu:Ni (H x))(he:e=x\/H e=some (.own x))(k:∀ b u,b≠e->s.heap.get? b=some u->h'.get? b=some u)(LV:∃ u,h'.get? e=some u)(new:gS X.prog X.w (upd H x o) h' x o):Inv X pins σ (upd H x o) { s with heap:=h',toks:=t' }:=I.un (Un.write mu he k LV) (I.b9.write mu he k LV new)
theorem Inv.VL(I:Inv X pins σ H s)(h:∀ p∈oB,s.heap.get? p.1=some p.2/\H p.1=none/\p.1≠X.env.locals/\p.1∉X.fs/\∀ v,p.2.data≠.cell v):Inv X oB σ H s :=
 ⟨I.ok,I.os,I.bare,I.base,I.loc,I.cell,I.free,I.pV,fun p hp=>(eS.mp hp).elim (fun z=>I.pin p (jv _ z)) (h p),I.b9,I.len⟩
theorem VM{N:List Str}(hN:N.Nodup){i j:Nat}{x:Str}(a:N[i]? = some x)(b:N[j]? = some x):i=j:=by obtain⟨h1,e1⟩:=lP.mp a;obtain⟨h2,e2⟩:=lP.mp b;exact(List.getElem_inj hN).mp (e1.trans e2.symm)
theorem S5{M:Model}{A:eB}{E:ae->ay->Prop}{i:Nat}{x:Str}{v:V}{u:ae}{Q:Unit->ay->Prop}(I:Inv X pins σ H s)(hN:X.N.Nodup)(hi:X.N[i]? = some x)(hx:Loc X.env.scope x)(r:RelV v u)(h:∀ s',Inv X pins (σ.set i (some v)) H s'->(∃ a,Heap.SameBut a s.heap s'.heap/\(a=X.env.locals\/X.env.cells.lookup x=some a))->Q () s') (hf:X.fn x=true\/X.env.scope.names.lookup x=some .local:=by first|exact .inl rfl|exact .inr rfl|assumption):aT M A (storeName X.env x u) Q E s:=by
 obtain⟨m,hn,hl⟩:=id I.loc;have S6:(X.env.scope.kind == .class || (X.env.scope.kind == .module && X.env.locals != X.env.globals))=false:=by rw[I.ok.kind];rfl
 have VN:i<σ.length:=by rw[I.len];exact(lP.mp hi).1
 have DI:=I.DI;have tracked:∀ {a:ag} {h':cE},(∃ o,s.heap.get? a=some o/\H a=none)->Heap.SameBut a s.heap h'->hX X.prog X.w H h':=fun {a h'} ha hs b ob e=>by
  obtain⟨_,_,VP⟩:=ha;refine(I.b9 b ob e).eW (fun c w' hc q=>(hs.2 c ?_).trans q) (fun _ q=>q) fun _ _ q=>q;rintro rfl;rcases hc with rfl|hc
  ·rw[VP] at e;cases e
  ·rw[VP] at hc;cases hc
 rcases hx with hk|hk
 ·refine wpAny_storeName_local hk hn (fun h' LW hs=>?_) S6;obtain⟨oL,_,_,Nq,_⟩:=id hn;refine h _ ⟨I.ok,I.os,I.bare,⟨fun b o e n hb hx=>?_,fun b o e n hb hx=>?_,I.base.free,fun b o e hx=>?_,I.base.i9,I.base.rp,I.base.sD⟩,⟨_,LW,fun j y v' e1 e2 e3=>?_⟩,fun y c e=>?_,I.free,I.pV,fun p hp=>?_,tracked ⟨oL,Nq,I.free⟩ hs,by simpa using I.len⟩ ⟨_,hs,.inl rfl⟩
  ·exact(hs.2 b (gI (oz (eP e) I.ok.above))).trans (I.base.keep b o e n hb hx)
  ·obtain⟨sl,e1⟩:=I.base.slot b o e n hb hx;exact⟨sl,(hs.2 b (gI (oz (eP e) I.ok.above))).trans e1⟩
  ·obtain⟨o',e1⟩:=I.base.there b o e hx;exact⟨o',(hs.2 b (gI (oz (eP e) I.ok.above))).trans e1⟩
  ·by_cases hj:j=i
   ·subst hj;rw[hi] at e1;cases e1;rw[List.getElem?_set_self VN] at e2;cases e2;exact⟨u,r,.inl ⟨hk,by simp⟩⟩
   ·rw[R8 (Ne.symm hj)] at e2;obtain⟨u',r',q⟩:=hl j y v' e1 e2 e3;refine⟨u',r',?_⟩;rcases q with⟨k,e⟩|⟨k,c,e,z⟩
    ·refine .inl ⟨k,?_⟩;have:y≠x:=fun e=>hj (VM hN e1 (e ▸ hi));simp[this,e]
    ·exact .inr ⟨k,c,e,z.sameBut hs (DI y c e)⟩
  ·obtain⟨w',z⟩:=I.cell y c e;exact⟨w',z.sameBut hs (DI y c e)⟩
  ·obtain⟨e,n,ne,nf,d⟩:=I.pin p hp;exact⟨(hs.2 p.1 ne).trans e,n,ne,nf,d⟩
 ·have Nr:X.fn x=true:=by
   rcases hf with z|z
   ·exact z
   ·rw[z] at hk;cases hk
  obtain⟨c,hc⟩:=I.ok.has x (.inl hk);obtain⟨w',z⟩:=I.cell x c hc;refine wpAny_storeName_cell I.ok.kind hk hc z (fun h' DJ hs=>?_);obtain⟨oc,PR,bz'⟩:=id z;refine h { s with heap:=h' } ⟨I.ok,I.os,I.bare,⟨fun b o e n hb hx=>?_,fun b o e n hb hx=>?_,I.base.free,fun b o e hx=>?_,I.base.i9,I.base.rp,I.base.sD⟩,⟨m,hn.sameBut hs (Ne.symm (DI x c hc)),fun j y v' e1 e2 e3=>?_⟩,fun y c' e=>?_,I.free,I.pV,fun p hp=>?_,tracked ⟨oc,PR,I.pV x c hc⟩ hs,by simpa using I.len⟩ ⟨c,hs,.inr hc⟩
  ·exact(hs.2 b (gI (oz (eP e) (I.ok.Bz x c Nr hc)))).trans (I.base.keep b o e n hb hx)
  ·obtain⟨sl,e1⟩:=I.base.slot b o e n hb hx;exact⟨sl,(hs.2 b (gI (oz (eP e) (I.ok.Bz x c Nr hc)))).trans e1⟩
  ·obtain⟨o',e1⟩:=I.base.there b o e hx;exact⟨o',(hs.2 b (gI (oz (eP e) (I.ok.Bz x c Nr hc)))).trans e1⟩
  ·by_cases hj:j=i
   ·subst hj;rw[hi] at e1;cases e1;rw[List.getElem?_set_self VN] at e2;cases e2;exact⟨u,r,.inr ⟨.inl hk,c,hc,DJ⟩⟩
   ·rw[R8 (Ne.symm hj)] at e2;obtain⟨u',r',q⟩:=hl j y v' e1 e2 e3;refine⟨u',r',?_⟩;rcases q with q|⟨k,c',e,z'⟩
    ·exact .inl q
    ·refine .inr ⟨k,c',e,z'.sameBut hs ?_⟩;rintro rfl;exact hj (VM hN e1 (I.ok.inj _ _ _ e hc ▸ hi))
  ·by_cases PX:c'=c
   ·subst PX;exact⟨_,DJ⟩
   ·obtain⟨w2,z2⟩:=I.cell y c' e;exact⟨w2,z2.sameBut hs PX⟩
  ·obtain⟨e,n,ne,nf,d⟩:=I.pin p hp;refine⟨(hs.2 p.1 ?_).trans e,n,ne,nf,d⟩;intro q;rw[q,PR] at e;have q':oc=p.2:=Option.some.inj e;exact d w' (by rw[<- q'];exact bz')
theorem VQ(I:Inv X pins σ H s)(hN:X.N.Nodup)(hi:X.N[i]? = some x)(hx:Loc X.env.scope x)(r:RelV v u)(h:∀ s',Inv X pins (σ.set i (some v)) H s'->Q () s') (hf:X.fn x=true\/X.env.scope.names.lookup x=some .local:=by first|exact .inl rfl|exact .inr rfl|assumption):aT M A (storeName X.env x u) Q E s :=
 S5 I hN hi hx r (fun s' I' _=>h s' I') hf
theorem Inv.bA'(I:Inv X pins σ H s)(ho:s'.os=s.os)(u:Un (fN X.stack) ch H H' s.heap s'.heap)(b9:hX X.prog X.w H' s'.heap)(hg:AllBare s'.gens)(BF:∀ b∈ch,(b∈X.ex\/X.ft.heap.objs.size<=b)/\b≠X.env.locals/\(∀ x c,X.env.cells.lookup x=some c->c≠b)/\∀ p∈X.pn++pins,p.1≠b):Inv X pins σ H' s':=by
 obtain⟨h',g',d',t',o'⟩:=s';have e:o'=s.os:=ho;subst e;exact I.call (g':=g') (t':=t') (d':=d') u b9 hg BF
end
abbrev XK:=ae->Option ag->Hp->Prop
abbrev St:=List (Option V)
abbrev VK:=V->Hp->Prop
abbrev TE:=St->Hp->VK->Prop
abbrev TT:=St->Hp->(Bool->Hp->Prop)->Prop
abbrev TA:=St->Hp->(List V->Hp->Prop)->Prop
structure Ends where
 nx:St->Hp->Prop
 rt:VK
 bk:St->Hp->Prop:=fun _ _=>False
 ct:St->Hp->Prop:=fun _ _=>False
abbrev TS:=Ends->St->Hp->Prop
def EP(X:Cx)(pins:List (ag × Obj))(σ:St)(Q:VK)(u:ae)(s':ay):Prop:=∃ v H',Inv X pins σ H' s'/\RelV v u/\Q v H'
def TP(X:Cx)(pins:List (ag × Obj))(σ:St)(Q:Bool->Hp->Prop)(b:Bool)(s':ay):Prop:=∃ H',Inv X pins σ H' s'/\Q b H'
def AP(X:Cx)(pins:List (ag × Obj))(σ:St)(Q:List V->Hp->Prop)(us:List ae)(s':ay):Prop:=∃ vs H',Inv X pins σ H' s'/\Vals vs us/\Q vs H'
def SP(X:Cx)(pins:List (ag × Obj))(D:Ends)(f:Flow)(s':ay):Prop :=
 match f with
 |.next=>∃ cf H',Inv X pins cf H' s'/\D.nx cf H'
 |.brk=>∃ cf H',Inv X pins cf H' s'/\D.bk cf H'
 |.cont=>∃ cf H',Inv X pins cf H' s'/\D.ct cf H'
 |.ret u=>∃ v cf H',Inv X pins cf H' s'/\RelV v u/\D.rt v H'
def PE(X:Cx)(e:Expr)(t:TE):Prop :=
 ∀ (pins:List (ag × Obj)) (s:ay) (σ:St) (H:Hp) (Q:VK),Inv X pins σ H s->t σ H Q->aT (aS X.prog X.w) X.A (cv e X.env) (EP X pins σ Q) X.xe s
def PT(X:Cx)(e:Expr)(t:TT):Prop :=
 ∀ (pins:List (ag × Obj)) (s:ay) (σ:St) (H:Hp) (Q:Bool->Hp->Prop),Inv X pins σ H s->t σ H Q->aT (aS X.prog X.w) X.A (isTrue e X.env (cv e X.env)) (TP X pins σ Q) X.xe s
def PW(X:Cx)(e:Expr)(t:TT):Prop :=
 ∀ (whole:Sem ae) (pins:List (ag × Obj)) (s:ay) (σ:St) (H:Hp) (Q:Bool->Hp->Prop),Inv X pins σ H s->t σ H Q->aT (aS X.prog X.w) X.A (isTrue e X.env whole) (TP X pins σ Q) X.xe s
def PA(X:Cx)(es:List Expr)(t:TA):Prop :=
 ∀ (pos:Pos) (pins:List (ag × Obj)) (s:ay) (σ:St) (H:Hp) (Q:List V->Hp->Prop),Inv X pins σ H s->t σ H Q->aT (aS X.prog X.w) X.A (spliced (iP pos (bI es X.env))) (AP X pins σ Q) X.xe s
def PS(X:Cx)(st:Stmt)(t:TS):Prop :=
 ∀ (pins:List (ag × Obj)) (s:ay) (σ:St) (H:Hp) (D:Ends),Inv X pins σ H s->t D σ H->aT (aS X.prog X.w) X.A (exec st X.env) (SP X pins D) X.xe s
def oi(X:Cx)(st:List Stmt)(t:TS):Prop :=
 ∀ (pins:List (ag × Obj)) (s:ay) (σ:St) (H:Hp) (D:Ends),Inv X pins σ H s->t D σ H->aT (aS X.prog X.w) X.A (execs st X.env) (SP X pins D) X.xe s
theorem dz{α:Type}{t:Sem α}{Q Q':α->ay->Prop}{M:Model}{A:eB}{E:ae->ay->Prop}{s:ay}(h:aT M A t Q E s)(hQ:∀ a s,Q a s->Q' a s):aT M A t Q' E s:=sq h hQ fun _ _ x=>x
section
variable {X:Cx}
def DL(i:Nat):TE:=fun σ H Q=>∃ v,σ[i]? = some (some v)/\Q v H
def tC(v:V):TE:=fun _ H Q=>Q v H
theorem VR (hN:X.N[i]? = some x) (hv:Nk X.env.scope x) (hd:(x == ("__debug__" : Str))=false:=by decide) (rq:(x == ("__classdict__" : Str))=false:=by decide):PE X (.Name x pos) (DL i):=by
 intro pins s σ H Q I h;obtain⟨v,e,h⟩:=h;obtain⟨m,hn,hl⟩:=I.loc;obtain⟨u,r,l⟩:=hl i x v hN e hv;have fin:EP X pins σ Q u s:=⟨v,H,I,r,h⟩
 rcases l with⟨hk,hm⟩|⟨hk,c,hc,VS⟩
 ·exact wpAny_Name (wpAny_loadName_local I.ok.kind hk hn hm fin) hd
 ·rcases hk with hk|hk
  ·exact wpAny_Name (wpAny_loadName_cell I.ok.kind hk hc VS fin) hd
  ·exact wpAny_Name (wpAny_loadName_free I.ok.kind hk hc VS fin rq) hd
theorem bB'{i j pos}:PE X (.Constant (.int i) j pos) (tC (.int i)):=fun _ _ _ H _ I h=>wpAny_Constant_int ⟨.int i,H,I.tok _,⟨_,rfl⟩,h⟩
theorem bC'{b j pos}:PE X (.Constant (.bool b) j pos) (tC (.bl b)):=fun _ _ _ H _ I h=>Constant_bool ⟨.bl b,H,I,rfl,h⟩
theorem bD'{j pos}:PE X (.Constant .none j pos) (tC .non):=fun _ _ _ H _ I h=>Constant_none ⟨.non,H,I,rfl,h⟩
theorem bE'{x j pos}:PE X (.Constant (.str x) j pos) (tC (.str x)):=fun _ _ _ H _ I h=>Calls.Constant_str ⟨.str x,H,I.tok _,⟨_,rfl⟩,h⟩
def Gl(X:Cx)(x:Str):Prop:=X.env.kindOf x=some .globalImplicit
theorem Nt(I:Inv X pins σ H s)(hg:Gl X x)(hm:X.mg x=some u)(h:Q u s)(hd:(x == ("__debug__" : Str))=false:=by decide):aT (aS X.prog X.w) X.A (cv (.Name x pos) X.env) Q E s :=
 Calls.Name_function_global I.ok.kind hg (Calls.loadGlobal_global (by rw[I.ok.glob];exact I.mod.glob.keeps I.bk) hm h) hd
theorem vv(I:Inv X pins σ H s)(hg:Gl X x)(hm:X.mg x=none)(hv:j3 x=some u)(h:Q u s)(hn:x ≠ "__name__" := by decide) (hd:(x == ("__debug__" : Str))=false:=by decide):aT (aS X.prog X.w) X.A (cv (.Name x pos) X.env) Q E s:=by
 obtain⟨mb,h1,h2⟩:=I.mod.blt;exact Calls.Name_function_global I.ok.kind hg (Calls.loadGlobal_builtin (by rw[I.ok.glob];exact I.mod.glob.keeps I.bk) hm (by rw[I.ok.blt];exact h1.keeps I.bk) ((h2 x hn).trans hv) h) hd
theorem E5 (hg:Gl X x) (hm:X.mg x=some u) (r:RelV v u) (hd:(x == ("__debug__" : Str))=false:=by decide):PE X (.Name x pos) (tC v) :=
 fun _ _ _ H _ I h=>Nt I hg hm ⟨v,H,I,r,h⟩ hd
theorem bF' (hg:Gl X x) (hm:X.mg x=none) (hv:j3 x=some u) (r:RelV v u) (hn:x ≠ "__name__" := by decide) (hd:(x == ("__debug__" : Str))=false:=by decide):PE X (.Name x pos) (tC v) :=
 fun _ _ _ H _ I h=>vv I hg hm hv ⟨v,H,I,r,h⟩ hn hd
variable {a b:Expr}{ta tb:TE}{pos:Pos}
def tB(t:TE):TT:=fun σ H Q=>t σ H fun x H1=>∃ c,x=.bl c/\Q c H1
theorem bG'(h:PE X e t)(he:∀ whole,isTrue e X.env whole=(do let v <- whole;standAt e.pos;holding [v] (truthy v)):=by intro _;rfl):PT X e (tB t):=by intro pins s σ H Q I hw;refine isTrue_plain (dz (h pins s σ H _ I hw) fun v s1 dn=>L2.gL dn fun x H1 I1 r1 q1=>?_) (he _);obtain⟨d,rfl,q⟩:=q1;cases r1;exact CC ⟨H1,I1,q⟩
variable {tA VW:TT}{rest:List Expr}
def tOr(t u:TT):TT:=fun σ H Q=>t σ H fun c H1=>if c=true then Q true H1 else u σ H1 Q
def bI'(t:TT):TT:=fun σ H Q=>t σ H fun c H1=>Q (!c) H1
theorem pw_or1(ha:PT X a tA):PW X (.BoolOp .Or [a] pos) tA:=by
 intro wh pins s σ H Q I h;refine isTrue_or (dz (ha pins s σ H Q I h) fun c s1 e=>?_)
 cases c with
 |false=>exact isTrue_or_nil e
 |true=>exact e
theorem pw_or(ha:PT X a tA)(hb:PW X (.BoolOp .Or (b :: rest) pos) VW):PW X (.BoolOp .Or (a :: b :: rest) pos) (tOr tA VW):=by
 intro wh pins s σ H Q I h;refine isTrue_or (dz (ha pins s σ H _ I h) fun c s1 d4=>?_);obtain⟨H1,I1,q1⟩:=d4
 cases c with
 |true=>exact⟨H1,I1,q1⟩
 |false=>exact hb wh pins s1 σ H1 Q I1 q1
theorem bJ'(ha:PT X a tA):PT X (.UnaryOp .Not a pos) (bI' tA):=by intro pins s σ H Q I h;exact isTrue_not (ha pins s σ H (fun c H1=>Q (!c) H1) I h)
def bK'(ta tb:TE):TE:=fun σ H Q=>ta σ H fun x H1=>∃ c,x=.bl c/\if c=true then tb σ H1 Q else Q (.bl false) H1
def bL'(ta tb:TE):TE:=fun σ H Q=>ta σ H fun x H1=>∃ c,x=.bl c/\if c=true then Q (.bl true) H1 else tb σ H1 Q
def bM'(ta:TE):TE:=fun σ H Q=>ta σ H fun x H1=>∃ c,x=.bl c/\Q (.bl (!c)) H1
theorem bN'{op}(h:PE X a t):PE X (.BoolOp op [a] pos) t:=fun pins s σ H Q I hw=>BoolOp_one (h pins s σ H Q I hw)
theorem bO'(ha:PE X a ta)(hb:PE X (.BoolOp .And (b :: rest) pos) tb):PE X (.BoolOp .And (a :: b :: rest) pos) (bK' ta tb):=by
 intro pins s σ H Q I h;refine BoolOp_and (dz (ha pins s σ H _ I h) fun v s1 dn=>L2.gL dn fun x H1 I1 r1 q1=>?_);obtain⟨c,rfl,q1⟩:=q1;cases r1;refine CC ?_
 cases c with
 |true=>exact hb pins s1 σ H1 Q I1 q1
 |false=>exact⟨.bl false,H1,I1,rfl,q1⟩
theorem bP'(ha:PE X a ta)(hb:PE X (.BoolOp .Or (b :: rest) pos) tb):PE X (.BoolOp .Or (a :: b :: rest) pos) (bL' ta tb):=by
 intro pins s σ H Q I h;refine BoolOp_or (dz (ha pins s σ H _ I h) fun v s1 dn=>L2.gL dn fun x H1 I1 r1 q1=>?_);obtain⟨c,rfl,q1⟩:=q1;cases r1;refine CC ?_
 cases c with
 |false=>exact hb pins s1 σ H1 Q I1 q1
 |true=>exact⟨.bl true,H1,I1,rfl,q1⟩
theorem bQ'(ha:PE X a ta):PE X (.UnaryOp .Not a pos) (bM' ta):=by intro pins s σ H Q I h;refine UnaryOp_ (dz (ha pins s σ H _ I h) fun v s1 dn=>L2.gL dn fun x H1 I1 r1 q1=>?_);obtain⟨c,rfl,q1⟩:=q1;cases r1;exact not_of (CC ⟨.bl (!c),H1,I1,rfl,q1⟩)
end
def fq(K:aE)(H:Hp)(a:ag)(xs:List V):Prop :=
 Rd H a (.lst xs) \/
  ∃ (o:Obj) (its:Array ae) (n:Nat),K.lookup a=some o/\o.cls=.type "list"/\o.dict=none/\o.data=.seq its n/\its.size<=bS/\Vals xs its.toList
def oC(K:aE)(H:Hp)(a:ag)(xs:List V):Prop :=
 Rd H a (.tup xs) \/
  ∃ (o:Obj) (its:Array ae) (n:Nat),K.lookup a=some o/\o.cls=.type "tuple"/\o.data=.seq its n/\its.size<=bS/\Vals xs its.toList
def bR':ae->Option V
 |.none=>some .non
 |.bool b=>some (.bl b)
 |.int i _=>some (.int i)
 |.str x _=>some (.str x)
 |.bytes b _=>some (.tT b)
 |.float b _=>some (.Bn b)
 |.ref a=>some (.ref a)
 |.type n=>some (.ty n)
 |_=>none
theorem RelV.abs(r:RelV x u):bR' u=some x:=by
 cases x with
 |non=>cases r;rfl
 |bl _=>cases r;rfl
 |int _=>obtain⟨t,rfl⟩:=r;rfl
 |str _=>obtain⟨t,rfl⟩:=r;rfl
 |tT _=>obtain⟨t,rfl⟩:=r;rfl
 |Bn _=>obtain⟨t,rfl⟩:=r;rfl
 |ref _=>cases r;rfl
 |ty _=>cases r;rfl
theorem RelV.inj(r:RelV x u)(q:RelV y u):x=y:=Option.some.inj (r.abs.symm.trans q.abs)
theorem Vals.inj:∀ {xs ys:List V} {us:List ae},Vals xs us->Vals ys us->xs=ys
 |_,_,_,.nil,.nil=>rfl
 |_,_,_,.cons r t,.cons r' t'=>by rw[r.inj r',Vals.inj t t']
section
variable {X:Cx}{pins:List (ag × Obj)}{σ:St}{H:Hp}{s:ay}{a:ag}{xs ys:List V}
theorem Inv.list(I:Inv X pins σ H s)(h:fq X.K H a xs):∃ its:List ae,Vals xs its/\PlainL s.heap a its.toArray/\xs.length<=bS:=by
 rcases h with h|⟨o,its,n,hk,hc,hd,hs,hz,r⟩
 ·obtain⟨z,its,n,r,e⟩:=h.ok I.b9;exact⟨its,r,⟨_,n,e,rfl,rfl,rfl⟩,z⟩
 ·refine⟨its.toList,r,⟨o,n,I.kB a o hk,hc,hd,by simpa using hs⟩,?_⟩;have e:=r.length;simp only[yk] at e;lia
theorem Inv.tuple(I:Inv X pins σ H s)(h:oC X.K H a xs):∃ its:List ae,Vals xs its/\IsTup s.heap a its.toArray/\xs.length<=bS:=by
 rcases h with h|⟨o,its,n,hk,hc,hs,hz,r⟩
 ·obtain⟨z,its,r,p⟩:=h.ok I.b9;exact⟨its,r,p,z⟩
 ·refine⟨its.toList,r,⟨o,I.kB a o hk,hc,n,by simpa using hs⟩,?_⟩;have e:=r.length;simp only[yk] at e;lia
theorem Inv.bS'(I:Inv X pins σ H s)(h:fq X.K H a xs)(h':fq X.K H a ys):xs=ys:=by
 obtain⟨its,r,⟨o,n,e,_,_,d⟩,_⟩:=I.list h;obtain⟨its',r',⟨o',n',e',_,_,d'⟩,_⟩:=I.list h';rw[e] at e';cases e';rw[d] at d';injection d' with d1 _;have:its=its':=by simpa using congrArg Array.toList d1
 subst this;exact r.inj r'
end
abbrev Cx.wish(X:Cx)(E:ae->ay->Prop):Cx:={ X with xe:=E }
abbrev Cx.E6(X:Cx):Cx:=X.wish fun _ _=>False
theorem Cx.Ok.wish{X:Cx}(ok:X.Ok)(E:ae->ay->Prop):(X.wish E).Ok :=
 ⟨ok.mod,ok.kind,ok.glob,ok.blt,ok.above,ok.inj,ok.has,ok.Bz,ok.hd,ok.frames,ok.DF,ok.DH,ok.bs,ok.w9,ok.BD,ok.BE,ok.sF,ok.z0⟩
theorem Cx.Ok.E7{X:Cx}(ok:(X.wish E).Ok):X.Ok :=
 ⟨ok.mod,ok.kind,ok.glob,ok.blt,ok.above,ok.inj,ok.has,ok.Bz,ok.hd,ok.frames,ok.DF,ok.DH,ok.bs,ok.w9,ok.BD,ok.BE,ok.sF,ok.z0⟩
section
variable {X:Cx}{pins:List (ag × Obj)}{σ:St}{H:Hp}{s:ay}{E:ae->ay->Prop}
theorem Inv.wish(I:Inv X pins σ H s)(E:ae->ay->Prop):Inv (X.wish E) pins σ H s:=⟨I.ok.wish E,I.os,I.bare,I.base,I.loc,I.cell,I.free,I.pV,I.pin,I.b9,I.len⟩
theorem Inv.E7(I:Inv (X.wish E) pins σ H s):Inv X pins σ H s:=⟨I.ok.E7,I.os,I.bare,I.base,I.loc,I.cell,I.free,I.pV,I.pin,I.b9,I.len⟩
theorem SP.E7{D:Ends}(h:SP (X.wish E) pins D f s'):SP X pins D f s':=by
 cases f with
 |next=>obtain⟨cf,H',I,q⟩:=h;exact⟨cf,H',I.E7,q⟩
 |brk=>obtain⟨cf,H',I,q⟩:=h;exact⟨cf,H',I.E7,q⟩
 |cont=>obtain⟨cf,H',I,q⟩:=h;exact⟨cf,H',I.E7,q⟩
 |ret u=>obtain⟨v,cf,H',I,r,q⟩:=h;exact⟨v,cf,H',I.E7,r,q⟩
theorem oi.E6{st:List Stmt}(h:oi X.E6 st t):oi X st t:=fun pins s σ H D I hw =>
 sq (h pins s σ H D (I.wish _) hw) (fun _ _ q=>q.E7) fun _ _ z=>False.elim z
end
section
variable {X:Cx}{st:Stmt}{rest:List Stmt}{t u:TS}{e:Expr}{te:TE}{pos:Pos}
def bT':TS:=fun D σ H=>D.nx σ H
def VX(t u:TS):TS:=fun D σ H=>t { D with nx:=u D } σ H
theorem VY:oi X [] bT':=fun _ _ σ H _ I h=>wpAny_execs_nil ⟨σ,H,I,h⟩
theorem bU'(h1:PS X st t)(h2:oi X rest u):oi X (st :: rest) (VX t u):=by
 intro pins s σ H D I h;refine wpAny_execs_cons (dz (h1 pins s σ H { D with nx:=u D } I h) fun f s1 q=>?_)
 cases f with
 |next =>obtain⟨cf,H',I',q⟩:=q;exact h2 pins s1 cf H' D I' q
 |ret v=>exact q
 |brk=>exact q
 |cont=>exact q
theorem VZ(h1:PS X st t):oi X [st] t:=by
 intro pins s σ H D I h;refine wpAny_execs_cons (dz (h1 pins s σ H D I h) fun f s1 q=>?_)
 cases f with
 |next=>exact wpAny_execs_nil q
 |ret v=>exact q
 |brk=>exact q
 |cont=>exact q
theorem Inv.quiet(I:Inv X pins σ H s):interactive X.env=false:=by simp[interactive,I.ok.kind]
def bV'(te:TE):TS:=fun D σ H=>te σ H fun _ H1=>D.nx σ H1
theorem HP(he:PE X e te)(hs:u3 e none pos.line X.env=pure false:=by rfl):PS X (.Expr e pos) (bV' te):=by intro pins s σ H D I h;exact wpAny_Expr_any (dz (he pins s σ H _ I h) fun v s1 dn=>L2.gL dn fun x H1 I1 r1 q1=>⟨σ,H1,I1,q1⟩) I.quiet hs
def bW'(te:TE):TS:=fun D σ H=>te σ H D.rt
theorem S7(he:PE X e te):PS X (.Return (some e) pos) (bW' te):=by intro pins s σ H D I h;exact wpAny_Return_some (dz (he pins s σ H _ I h) fun v s1 dn=>L2.gL dn fun x H1 I1 r1 q1=>⟨x,σ,H1,I1,r1,q1⟩)
def bX'(c:TT)(t u:TS):TS:=fun D σ H=>c σ H fun b H1=>if b=true then t D σ H1 else u D σ H1
theorem bY'(hc:PT X c tc)(ha:oi X a t)(hb:oi X b u):PS X (.If c a b pos) (bX' tc t u):=by
 intro pins s σ H D I h;refine wpAny_If (dz (hc pins s σ H _ I h) fun d s1 d4=>?_);obtain⟨H1,I1,q1⟩:=d4
 cases d with
 |true=>exact ha pins s1 σ H1 D I1 q1
 |false=>exact hb pins s1 σ H1 D I1 q1
end
abbrev TG:=V->St->Hp->(St->Hp->Prop)->Prop
abbrev LZ:=List V->St->Hp->(St->Hp->Prop)->Prop
def PG(X:Cx)(target:Expr)(t:TG):Prop :=
 ∀ (pins:List (ag × Obj)) (s:ay) (σ:St) (H:Hp) (v:V) (u:ae) (Q:St->Hp->Prop),Inv X pins σ H s->RelV v u->t v σ H Q ->
  aT (aS X.prog X.w) X.A (assign target X.env u) (fun _ s'=>∃ cf H',Inv X pins cf H' s'/\Q cf H') X.xe s
def BG(X:Cx)(ts:List Expr)(t:LZ):Prop :=
 ∀ (pins:List (ag × Obj)) (s:ay) (σ:St) (H:Hp) (vs:List V) (us:List ae) (Q:St->Hp->Prop),Inv X pins σ H s->Vals vs us->t vs σ H Q ->
  aT (aS X.prog X.w) X.A (assignInOrder ((qS ts X.env).map (·.2)) us) (fun _ s'=>∃ cf H',Inv X pins cf H' s'/\Q cf H') X.xe s
section
variable {X:Cx}{pos:Pos}
def S8(i:Nat):TG:=fun v σ H Q=>Q (σ.set i (some v)) H
theorem S9(hN:X.N.Nodup)(hi:X.N[i]? = some x)(hx:Loc X.env.scope x)(hf:X.fn x=true\/X.env.scope.names.lookup x=some .local:=by first|exact .inl rfl|exact .inr rfl|assumption):PG X (.Name x pos) (S8 i):=by intro pins s σ H v u Q I r h;exact wpAny_assign_Name (VQ I hN hi hx r (fun s' I'=>⟨_,H,I',h⟩) hf)
def bZ':LZ:=fun vs σ H Q=>vs=[]/\Q σ H
def ca'(t:TG)(u:LZ):LZ:=fun vs σ H Q=>∃ v r,vs=v :: r/\t v σ H fun cf H'=>u r cf H' Q
theorem V0:BG X [] bZ':=by intro pins s σ H vs us Q I r h;obtain⟨e,h⟩:=h;subst e;cases r;exact assignInOrder_nil ⟨σ,H,I,h⟩
theorem S_(h1:PG X e t)(h2:BG X es u)(hs:(qS (e :: es) X.env).map (·.2)=assign e X.env :: (qS es X.env).map (·.2):=by rfl):BG X (e :: es) (ca' t u):=by
 intro pins s σ H vs us Q I r h;obtain⟨v,vr,e1,h⟩:=h;subst e1
 cases r with
 |cons r rr =>rw[hs];refine assignInOrder_cons (dz (h1 pins s σ H _ _ _ I r h) fun _ s1 d4=>?_);obtain⟨σ1,H1,I1,q1⟩:=d4;exact h2 pins s1 σ1 H1 _ _ Q I1 rr q1
def cc'(K:aE)(n:Nat)(t:LZ):TG:=fun v σ H Q=>∃ a xs,v=.ref a/\oC K H a xs/\xs.length=n/\t xs σ H Q
theorem V1(hc:X.calm=true)(h:BG X es t)(hn:(qS es X.env).length=n:=by rfl) (mI:(qS es X.env).findIdx? (·.1)=none:=by rfl):PG X (.Tuple es k pos) (cc' X.K n t):=by
 intro pins s σ H v u Q I r hw;obtain⟨a,xs,e1,hq,hl,hw⟩:=hw;subst e1;cases r;obtain⟨its,rv,ht,hz⟩:=I.tuple hq;refine assign_Tuple_tuple (I.ok.hd hc) ht (by simp[hn,<- hl,rv.length]) mI fun h' hx=>?_;have I1:Inv X pins σ H { s with heap:=h' }:=I.kept (t':=s.toks) fun b o e=>hx b o (gI (eP e)) e;exact h pins _ σ H xs _ Q I1 (by simpa using rv) hw
def Ta(te:TE)(g:TG):TS:=fun D σ H=>te σ H fun x H1=>g x σ H1 D.nx
theorem cd'(he:PE X e te)(hg:PG X tg g)(hs:swapsWithSole [tg] e pos.line X.env=pure false:=by rfl)(hw:swappedStores [tg] e X.env=pure none:=by rfl) (h1:(qS [tg] X.env).map (·.2)=[assign tg X.env]:=by rfl):PS X (.Assign [tg] e pos) (Ta te g):=by
 intro pins s σ H D I h;refine wpAny_Assign_stores (dz (he pins s σ H _ I h) fun v s1 dn=>L2.gL dn fun x H1 I1 r1 q1=>?_) hs hw;rw[h1];exact dz (hg pins s1 σ H1 x v _ I1 r1 q1) fun _ s2 q=>q
theorem Tb(hN:X.N.Nodup)(hi:X.N[i]? = some x)(hx:Loc X.env.scope x)(he:PE X e te)(hs:u3 e (some (.Name x pos')) pos.line X.env=pure false:=by rfl)(hf:X.fn x=true\/X.env.scope.names.lookup x=some .local:=by first|exact .inl rfl|exact .inr rfl|assumption) :
  PS X (.Assign [.Name x pos'] e pos) (Ta te (S8 i)):=by
 intro pins s σ H D I h;refine wpAny_Assign_Name (dz (he pins s σ H _ I h) fun v s1 dn=>L2.gL dn fun y H1 I1 r1 q1=>?_) hs;exact VQ I1 hN hi hx r1 (fun s2 I2=>⟨_,H1,I2,q1⟩) hf
end
structure It where
 go:Nat->Hp->Prop
 oD:Nat->Hp->V->Hp->Prop
 stop:Nat->Hp->Prop
def z5(X:Cx)(pins:List (ag × Obj))(H:Hp)(b:ag):Prop :=
 H b=none/\b≠X.env.locals/\b∉X.fs/\(b∈X.ex\/X.ft.heap.objs.size<=b)/\(∀ x c,X.env.cells.lookup x=some c->c≠b)/\∀ p∈X.pn++pins,p.1≠b
theorem Inv.PY{X:Cx}(I:Inv X pins σ H s)(hb:s.heap.objs.size<=b)(hn:H' b=none):z5 X pins H' b:=by
 refine⟨hn,PB (oz I.lt hb),I.bx' hb,.inr (ky I.sz hb),fun x c e z=>?_,fun p hp z=>?_⟩
 ·obtain⟨v,q⟩:=I.cell x c e;exact absurd (oz q.lt (by rw[z];exact hb)) (vt _)
 ·exact absurd (oz (eP (I.pin p hp).1) (by rw[z];exact hb)) (vt _)
structure Turn(P:dr)(w:dA)(K:aE)(tg:Expr)(J:It)(fp:List ag)(it:ag)(tn:Nat->cE->Prop):Prop where
 mem:it∈fp
 obj:∀ i h,tn i h->∀ b∈fp,∃ o,h.get? b=some o/\∀ v,o.data≠.cell v
 keep:∀ i h h',tn i h->(∀ b∈fp,∀ o,h.get? b=some o->h'.get? b=some o)->tn i h'
 item:∀ (X:Cx),X.prog=P->X.w=w->X.K=K->X.calm=true->∀ (i:Nat) (pins:List (ag × Obj)) (s:ay) (σ:St) (H:Hp) (E:ae->ay->Prop),Inv X pins σ H s->(∀ b∈fp,z5 X pins H b)->tn i s.heap->J.go i H ->
  aT (aS P w) X.A (pyNext (.ref it)) (fun r s1=>∃ u,r=some u /\
   aT (aS P w) X.A (letOwnedTupleGo tg (.ref it) u) (fun _ s2=>∃ x H',Inv X pins σ H' s2/\RelV x u/\J.oD i H x H'/\tn (i+1) s2.heap/\∀ b∈fp,H' b=none) E s1) E s
 done:∀ (X:Cx),X.prog=P->X.w=w->X.K=K->X.calm=true->∀ (i:Nat) (pins:List (ag × Obj)) (s:ay) (σ:St) (H:Hp) (E:ae->ay->Prop),Inv X pins σ H s->(∀ b∈fp,z5 X pins H b)->tn i s.heap->J.stop i H ->
  aT (aS P w) X.A (pyNext (.ref it)) (fun r s1=>r=none/\Inv X pins σ H s1) E s
 self:∀ (A:eB) (i:Nat) (s:ay) (Q:ae->ay->Prop) (E:ae->ay->Prop),tn i s.heap->Q (.ref it) s->aT (aS P w) A (pyIter (.ref it)) Q E s
abbrev TI:=St->Hp->(It->Hp->Prop)->Prop
def V2(X:Cx)(pins:List (ag × Obj))(σ:St)(tg:Expr)(R:It->Hp->Prop)(Tc:ae)(s2:ay):Prop :=
 ∃ (it:ag) (fp:List ag) (tn:Nat->cE->Prop) (J:It) (H':Hp),Tc=.ref it/\Inv X pins σ H' s2/\Turn X.prog X.w X.K tg J fp it tn/\tn 0 s2.heap/\(∀ b∈fp,z5 X pins H' b)/\R J H'
def PI(X:Cx)(tg iter:Expr)(wi:TI):Prop :=
 ∀ (pins:List (ag × Obj)) (s:ay) (σ:St) (H:Hp) (R:It->Hp->Prop),Inv X pins σ H s->wi σ H R ->
  aT (aS X.prog X.w) X.A (cv iter X.env) (fun v s1=>aT (aS X.prog X.w) X.A (pyIter v) (V2 X pins σ tg R) X.xe s1) X.xe s
theorem Td(ho:s.heap.get? it=some o)(hc:o.cls=.type n)(hd:o.data=.fields vs)(hn:["enumerate", "zip", "dict_itemiterator", "dict_reverseitemiterator", "odict_iterator", "itertools.zip_longest", "itertools.pairwise"].contains n=false) (hQ:Q () s):aT M A (letOwnedTupleGo tg (.ref it) u) Q E s:=by
 unfold letOwnedTupleGo;cases tg<;>first
  |exact aI hQ
  | (cases u<;>first
     |exact aI hQ
     | (refine ah (wpAny_load ho ?_)
        rw[hc,hd];show aT M A (if (["enumerate", "zip", "dict_itemiterator", "dict_reverseitemiterator", "odict_iterator", "itertools.zip_longest", "itertools.pairwise"].contains n && vs[0]? == some (ki _))=true then _ else _) Q E s;rw[if_neg (by intro h;rw[hn,PD] at h;cases h)];exact aI hQ))
def PZ(K:aE)(a:ag):It :=
 ⟨fun i H=>∃ xs x,fq K H a xs/\xs[i]? = some x,fun i H x H'=>H'=H/\∀ xs,fq K H a xs->xs[i]? = some x,fun i H=>∃ xs,fq K H a xs/\xs.length<=i⟩
def HV(lo:Int)(n:Nat):It:=⟨fun i _=>i<n,fun i H x H'=>H'=H/\x=.int (lo+i),fun i _=>n<=i⟩
theorem ce'{P:dr}{K:aE}(a it:ag):Turn P w K tg (PZ K a) [it] it (fun i h=>h.IsListIter it a i) where
 mem:=by simp
 obj:=fun i h st b hb=>by
  have e:b=it:=by simpa using hb
  subst e;obtain⟨o,e,c,d⟩:=st;exact⟨o,e,fun v z=>by rw[d] at z;cases z⟩
 keep:=fun i h h' st k=>st.at fun o e=>k it (by simp) o e
 item:=by intro X hP hw hK hc i pins s σ H E I hf st hg;subst hP hw hK;obtain⟨xs,x,hq,hx⟩:=hg;obtain⟨its,rv,p,hz⟩:=I.list hq;obtain⟨u,hu,ru⟩:=rv.get hx;obtain⟨f0,f1,f2,f3,f4,f5⟩:=hf it (by simp);refine wpAny_pyNext_list_item st p.isList (x:=u) (by simpa using hu) fun h' aw sb=>?_;have I1:Inv X pins σ H { s with heap:=h' }:=I.turned (t':=s.toks) (fun b o hb e=>(sb.2 b hb).trans e) f0 f1 f3 f4 f5;obtain⟨o,e,c,d⟩:=id aw;exact⟨u,rfl,Td (s:={ s with heap:=h' }) e c d (by decide) ⟨x,H,I1,ru,⟨rfl,fun ys hy=>by rw[I.bS' hy hq];exact hx⟩,aw,fun b hb=>(hf b hb).1⟩⟩
 done:=by intro X hP hw hK hc i pins s σ H E I hf st hg;subst hP hw hK;obtain⟨xs,hq,hx⟩:=hg;obtain⟨its,rv,p,hz⟩:=I.list hq;obtain⟨f0,f1,f2,f3,f4,f5⟩:=hf it (by simp);have hl:=rv.length;exact wpAny_pyNext_list_end (I.ok.hd hc) st p.isList (by simp;lia) fun h' eb=>⟨rfl,I.turned (t':=s.toks) (fun b o hb e=>eb b o hb e) f0 f1 f3 f4 f5⟩
 self:=fun _ _ _ _ _ st h=>wpAny_pyIter_listiter st h
theorem cf'{P:dr}{K:aE}(it:ag)(lo:Int)(n:Nat):Turn P w K tg (HV lo n) [it] it (fun i h=>IsRangeIter h it (lo+(i:Nat)*1) ((n:Int)-(i:Nat)) 1) where
 mem:=by simp
 obj:=fun i h st b hb=>by
  have e:b=it:=by simpa using hb
  subst e;exact⟨_,st,fun v z=>by
   have z':Data.fields _=Data.cell v:=z;cases z'⟩
 keep:=fun i h h' st k=>k it (by simp) _ st
 item:=by intro X hP hw hK hc i pins s σ H E I hf st hg;subst hP hw hK;obtain⟨f0,f1,f2,f3,f4,f5⟩:=hf it (by simp);have W:=Walks.range (prog:=X.prog) (w:=X.w) (I.ok.hd hc) it lo 1 n;refine W.item i s _ _ hg st fun v h' tk hv aw kk=>?_;obtain⟨t,rfl⟩:=hv;have I1:Inv X pins σ H { s with heap:=h',toks:=tk }:=I.turned (fun b o hb e=>kk b o (by simpa using hb) e) f0 f1 f3 f4 f5;refine⟨_,rfl,Td (s:={ s with heap:=h',toks:=tk }) (n := "range_iterator") aw rfl rfl (by decide) ⟨.int (lo+i),H,I1,⟨t,?_⟩,⟨rfl,rfl⟩,aw,fun b hb=>(hf b hb).1⟩⟩;rw[Int.mul_one]
 done:=by intro X hP hw hK hc i pins s σ H E I hf st hg;subst hP hw hK;obtain⟨f0,f1,f2,f3,f4,f5⟩:=hf it (by simp);exact wpAny_pyNext_range_end (I.ok.hd hc) st (by have:n<=i:=hg;lia) fun h' eb=>⟨rfl,I.turned (t':=s.toks) (fun b o hb e=>eb b o hb e) f0 f1 f3 f4 f5⟩
 self:=fun _ _ _ _ _ st h=>wpAny_pyIter_rangeiter st h
section
variable {X:Cx}{tg:Expr}
def cg'(K:aE)(tl:TE):TI:=fun σ H R=>tl σ H fun x H1=>∃ a,x=.ref a/\(∃ xs,fq K H1 a xs)/\R (PZ K a) H1
theorem V3(hl:PE X l tl):PI X tg l (cg' X.K tl):=by
 intro pins s σ H R I h;refine dz (hl pins s σ H _ I h) fun v s1 dn=>L2.gL dn fun x H1 I1 r1 q1=>?_;obtain⟨a,e,⟨xs,hq⟩,q⟩:=q1;subst e;cases r1;obtain⟨its,rv,p,hz⟩:=I1.list hq;refine wpAny_pyIter_list p.isList ?_;refine⟨s1.heap.objs.size,[s1.heap.objs.size],_,_,H1,rfl,I1.kept (t':=s1.toks) fun b o e=>fE _ e,ce' a _,⟨_,ku _ rfl,rfl,rfl⟩,fun b hb=>?_,q⟩;have e:b=s1.heap.objs.size:=by simpa using hb
 subst e;exact I1.PY (da _) (I1.b9.fresh (da _))
theorem V4{R:It->Hp->Prop}{lo hi:Int}(I:Inv X pins σ H s)(h1:-(2 ^ 62)<=lo)(h2:lo<2 ^ 62)(h3:-(2 ^ 62)<=hi)(h4:hi<2 ^ 62)(q:R (HV lo (hi-lo).toNat) H):aT (aS X.prog X.w) X.A (pyIter (.ref s.heap.objs.size)) (V2 X pins σ tg R) E { s with heap:=s.heap.push { cls:=.type "range",data:=.fields #[.int lo t,.int hi u,.int 1 v] },toks:=tk }:=by
 refine wpAny_pyIter_range (IsRange.new ..) (small_one h1 h2 h3 h4) ?_;have I1:Inv X pins σ H { s with heap:=s.heap.push { cls:=.type "range",data:=.fields #[.int lo t,.int hi u,.int 1 v] },toks:=tk }:=I.kept fun b o e=>fE _ e;refine⟨(s.heap.push { cls:=.type "range",data:=.fields #[.int lo t,.int hi u,.int 1 v] }).objs.size,[(s.heap.push { cls:=.type "range",data:=.fields #[.int lo t,.int hi u,.int 1 v] }).objs.size],_,_,H,rfl,
  I1.kept (t':=tk) fun b o e=>fE _ e,cf' _ lo (hi-lo).toNat,?_,fun b hb=>?_,q⟩
 ·have e1:lo+((0:Nat):Int)*1=lo:=by simp
  have e2:(((hi-lo).toNat:Nat):Int)-((0:Nat):Int)=Builtin.Range.rangeSize lo hi 1:=by rw[rangeSize_one];split<;>lia
  show IsRangeIter _ _ (lo+((0:Nat):Int)*1) ((((hi-lo).toNat:Nat):Int)-((0:Nat):Int)) 1;rw[e1,e2];exact ku _ rfl
 ·have e:b=(s.heap.push { cls:=.type "range",data:=.fields #[.int lo t,.int hi u,.int 1 v] }).objs.size:=by simpa using hb
  subst e;exact I1.PY (da _) (I1.b9.fresh (da _))
def ch'(ta:TA):TI:=fun σ H R=>ta σ H fun vs H1=>∃ j:Int,vs=[.int j]/\-(2 ^ 62)<=j/\j<2 ^ 62/\R (HV 0 j.toNat) H1
def ci'(ta:TA):TI:=fun σ H R=>ta σ H fun vs H1=>∃ i j:Int,vs=[.int i,.int j]/\(-(2 ^ 62)<=i/\i<2 ^ 62/\-(2 ^ 62)<=j/\j<2 ^ 62)/\R (HV i (j-i).toNat) H1
theorem cj' (hg:Gl X "range") (hm:X.mg "range" = none) (ha:PA X [a] ta) (hs:bI [a] X.env=[(false,cv a X.env)]:=by rfl):PI X tg (.Call (.Name "range" p) [a] [] pos) (ch' ta):=by
 intro pins s σ H R I h;refine Call_ (vv I hg hm boot_range (PyProof.Rows.callWith_type1 (dz (ha pos pins s σ H _ I h) fun us s1 dn=>L2.gL dn fun vs H1 I1 r1 q1=>?_) hs rfl));obtain⟨j,e,q1,q2,q⟩:=q1;subst e
 cases r1 with
 |cons r rr =>cases rr;obtain⟨t,rfl⟩:=r;exact call_range_1 (V4 I1 (by lia) (by lia) q1 q2 (by simpa using q))
theorem ck' (hg:Gl X "range") (hm:X.mg "range" = none) (ha:PA X [a,b] ta) (hs:bI [a,b] X.env=[(false,cv a X.env),(false,cv b X.env)]:=by rfl) (jI:bI [b] X.env=[(false,cv b X.env)]:=by rfl) :
  PI X tg (.Call (.Name "range" p) [a,b] [] pos) (ci' ta):=by
 intro pins s σ H R I h;refine Call_ (vv I hg hm boot_range (PyProof.Rows.callWith_type1 (dz (ha pos pins s σ H _ I h) fun us s1 dn=>L2.gL dn fun vs H1 I1 r1 q1=>?_) (by rw[hs,jI]) (by rw[jI];rfl)));obtain⟨i,j,e,⟨q1,q2,q3,q4⟩,q⟩:=q1;subst e
 cases r1 with
 |cons r rr =>
  cases rr with
  |cons r' rr =>cases rr;obtain⟨t,rfl⟩:=r;obtain⟨t',rfl⟩:=r';exact call_range_2 (V4 I1 q1 q2 q3 q4 q)
def V5(wi:TI)(g:TG)(tb:TS):TS:=fun D σ H=>wi σ H fun J H1=>∃ W:Nat->Nat->St->Hp->Prop,(∃ m,W 0 m σ H1)/\∀ i m σ H,W i m σ H -> (J.stop i H/\D.nx σ H)\/(J.go i H/\∃ N:St->Hp->Prop,(∀ cf H',N cf H'->∃ m',m'<m/\W (i+1) m' cf H')/\∀ x H',J.oD i H x H'->g x σ H' fun lh H2=>tb { D with nx:=N,ct:=N,bk:=D.nx } lh H2)
def Nu(fp:List ag)(h:cE):List (ag × Obj):=fp.filterMap fun b=>(h.get? b).map fun o=>(b,o)
theorem P0(hb:b∈fp)(e:h.get? b=some o):(b,o)∈Nu fp h:=Se.mpr ⟨b,hb,by rw[e];rfl⟩
theorem cl'(hp:p∈Nu fp h):p.1∈fp/\h.get? p.1=some p.2:=by
 obtain⟨b,hb,e⟩:=Se.mp hp
 cases q:h.get? b with
 |none=>rw[q] at e;cases e
 |some o =>rw[q] at e;have e':(b,o)=p:=Option.some.inj e;subst e';exact⟨hb,q⟩
theorem Inv.pinned(I:Inv X pins σ H s)(hf:∀ b∈fp,z5 X pins H b)(ho:∀ b∈fp,∃ o,s.heap.get? b=some o/\∀ v,o.data≠.cell v):Inv X (pins++Nu fp s.heap) σ H s :=
 I.VL fun p hp=>(eS.mp hp).elim (fun z=>I.pin p (fe _ z)) fun z=>by obtain⟨hb,e⟩:=cl' z;obtain⟨f0,f1,f2,_⟩:=hf p.1 hb;obtain⟨o,e',d⟩:=ho p.1 hb;rw[e] at e';cases e';exact⟨e,f0,f1,f2,d⟩
theorem Inv.P1(I:Inv X (pins++pl) σ H s):Inv X pins σ H s:=I.VL fun p hp=>I.pin p (fe _ (jv _ hp))
theorem cm'(hp:PassesOwn (aS X.prog X.w) X.A X.env X.xe)(hc:X.calm=true)(hi:PI X tg iter wi)(hg:PG X tg g)(hb:oi X body tb)(hs:∀ x,FV iter X.env x=pure x:=by intro _;rfl):PS X (.For tg iter body [] pos) (V5 wi g tb):=by
 intro pins s σ H D I h;refine wpAny_For (dz (hi pins s σ H _ I h) fun v s1 h1=>dz h1 fun Tc s2 h2=>?_) hs;obtain⟨it,fp,tn,J,H2,e,I2,T,yy,f2,W,⟨m0,w0⟩,turn⟩:=h2;subst e
 -- what stays true of the iterator's objects through the loop
 have stat:∀ {H':Hp},(∀ b∈fp,H' b=none)->∀ b∈fp,z5 X pins H' b:=fun hn b hb=>⟨hn b hb,(f2 b hb).2⟩
 refine codeAny_forLoop_any (fun n s'=>∃ i cf H',Inv X pins cf H' s'/\tn i s'.heap/\(∀ b∈fp,H' b=none)/\W i n cf H') ?_ m0 ⟨0,σ,H2,I2,yy,fun b hb=>(f2 b hb).1,w0⟩;rintro n s3 ⟨i,BH,H3,I3,yA,V6,w3⟩;rcases turn i n BH H3 w3 with⟨stop,qn⟩|⟨go,N,hN,step⟩
 ·refine MP hp (dz (T.done X rfl rfl rfl hc i pins s3 BH H3 X.xe I3 (stat V6) yA stop) fun r s4 d4=>?_);obtain⟨hr,I4⟩:=d4;subst hr;exact wpAny_execs_nil ⟨BH,H3,I4,qn⟩
 ·refine MP hp (dz (T.item X rfl rfl rfl hc i pins s3 BH H3 X.xe I3 (stat V6) yA go) fun r s4 d4=>?_);obtain⟨u,hr,h4⟩:=d4;subst hr;refine MP hp (dz h4 fun _ s5 d4=>?_);obtain⟨x,H5,I5,r5,y5,HZ,P2⟩:=d4;have I5':=I5.pinned (stat P2) (T.obj _ _ HZ);refine MP hp (dz (hg _ s5 BH H5 x u _ I5' r5 (step x H5 y5)) fun _ s6 d4=>?_);obtain⟨σ6,H6,I6,q6⟩:=d4;refine MP hp (dz (hb _ s6 σ6 H6 _ I6 q6) fun f s7 q7=>?_);have again:∀ {An:St} {H7:Hp},Inv X (pins++Nu fp s5.heap) An H7 s7->N An H7->∃ m,m<n/\∃ i cf H',Inv X pins cf H' s7/\tn i s7.heap/\(∀ b∈fp,H' b=none)/\W i m cf H':=fun {An H7} I7 n7=>by obtain⟨m',hm,w7⟩:=hN An H7 n7;refine⟨m',hm,i+1,An,H7,I7.P1,T.keep _ _ _ HZ fun b hb o e=>(I7.pin (b,o) (fe _ (fe _ (P0 hb e)))).1,fun b hb=>?_,w7⟩;obtain⟨o,e,d⟩:=T.obj _ _ HZ b hb;exact(I7.pin (b,o) (fe _ (fe _ (P0 hb e)))).2.1
  cases f with
  |next=>obtain⟨An,H7,I7,n7⟩:=q7;exact again I7 n7
  |cont=>obtain⟨An,H7,I7,n7⟩:=q7;exact again I7 n7
  |brk=>obtain⟨An,H7,I7,q7⟩:=q7;exact⟨An,H7,I7.P1,q7⟩
  |ret v=>obtain⟨x7,An,H7,I7,r7,q7⟩:=q7;exact⟨x7,An,H7,I7.P1,r7,q7⟩
end
abbrev R2:=V->V->Hp->VK->Prop
def eJ(X:Cx)(f:ae->ae->Sem ae)(r:R2):Prop :=
 ∀ (pins:List (ag × Obj)) (s:ay) (σ:St) (H:Hp) (x y:V) (v u:ae) (Q:VK),Inv X pins σ H s->RelV x v->RelV y u->r x y H Q ->
  aT (aS X.prog X.w) X.A (f v u) (EP X pins σ Q) X.xe s
def oI(X:Cx)(f:ae)(r:List V->Hp->VK->Prop):Prop :=
 ∀ (pins:List (ag × Obj)) (s:ay) (σ:St) (H:Hp) (xs:List V) (us:List ae) (Q:VK),Inv X pins σ H s->Vals xs us->r xs H Q ->
  aT (aS X.prog X.w) X.A (call f us) (EP X pins σ Q) X.xe s
def cp'(X:Cx)(r:V->Hp->(Bool->Hp->Prop)->Prop):Prop :=
 ∀ (pins:List (ag × Obj)) (s:ay) (σ:St) (H:Hp) (x:V) (v:ae) (Q:Bool->Hp->Prop),Inv X pins σ H s->RelV x v->r x H Q ->
  aT (aS X.prog X.w) X.A (truthy v) (TP X pins σ Q) X.xe s
def Nv(r:R2)(ta tb:TE):TE:=fun σ H Q=>ta σ H fun x H1=>tb σ H1 fun y H2=>r x y H2 Q
def P4(r:V->Hp->VK->Prop)(ta:TE):TE:=fun σ H Q=>ta σ H fun x H1=>r x H1 Q
def rI(C:Int->Int->Prop)(g:Int->Int->V):R2:=fun x y H Q=>∃ i j,x=.int i/\y=.int j/\C i j/\Q (g i j) H
def L4(g:Int->Int->V):R2:=fun x y H Q=>∃ i j,x=.int i/\y=.int j/\Q (g i j) H
section
variable {X:Cx}{a b:Expr}{ta tb:TE}{pos:Pos}
theorem Te(ha:PE X a ta)(hb:PE X b tb){pins:List (ag × Obj)}{s:ay}{σ:St}{H:Hp}{R:V->V->Hp->Prop}(I:Inv X pins σ H s)(h:ta σ H fun x H1=>tb σ H1 fun y H2=>R x y H2) {Q:ae->ay->Prop} {f:ae->ae->Sem ae}(hf:∀ v u s2 x y H2,Inv X pins σ H2 s2->RelV x v->RelV y u->R x y H2->aT (aS X.prog X.w) X.A (f v u) Q X.xe s2) :
  aT (aS X.prog X.w) X.A (cv a X.env) (fun v fm=>aT (aS X.prog X.w) X.A (cv b X.env) (fun u Ic=>aT (aS X.prog X.w) X.A (f v u) Q X.xe Ic) X.xe fm) X.xe s:=by
 refine dz (ha pins s σ H _ I h) fun v s1 dn=>L2.gL dn fun x H1 I1 r1 q1=>?_;refine dz (hb pins s1 σ H1 _ I1 q1) fun u s2 dn=>L2.gL dn fun y H2 I2 r2 q2=>?_;exact hf v u s2 x y H2 I2 r1 r2 q2
theorem cq'{op:Operator}{r:R2}(ho:eJ X (px op) r)(ha:PE X a ta)(hb:PE X b tb):PE X (.BinOp a op b pos) (Nv r ta tb):=by intro pins s σ H Q I h;exact wpAny_BinOp (Te ha hb I h fun v u s2 x y H2 I2 rx ry q=>ho pins s2 σ H2 x y v u Q I2 rx ry q)
theorem Tf{f:ae->ae->Sem ae}{C:Int->Int->Prop}{g:Int->Int->Int}(rule:∀ (i j:Int) (t u:Tok) (s:ay) (Q:ae->ay->Prop) (E:ae->ay->Prop),C i j->Q (.int (g i j) s.toks) { s with toks:=s.toks+1 }->aT (aS X.prog X.w) X.A (f (.int i t) (.int j u)) Q E s) :
  eJ X f (rI C fun i j=>.int (g i j)):=by
 intro pins s σ H x y v u Q I rx ry h;obtain⟨i,j,rfl,rfl,hc,q⟩:=h;obtain⟨t,rfl⟩:=rx;obtain⟨t',rfl⟩:=ry;exact rule i j t t' s _ _ hc ⟨.int (g i j),H,I.tok _,⟨_,rfl⟩,q⟩
theorem cr'{f:ae->ae->Sem ae}{g:Int->Int->Int}(rule:∀ (i j:Int) (t u:Tok) (s:ay) (Q:ae->ay->Prop) (E:ae->ay->Prop),Q (.int (g i j) s.toks) { s with toks:=s.toks+1 }->aT (aS X.prog X.w) X.A (f (.int i t) (.int j u)) Q E s) :
  eJ X f (L4 fun i j=>.int (g i j)):=by
 intro pins s σ H x y v u Q I rx ry h;obtain⟨i,j,rfl,rfl,q⟩:=h;obtain⟨t,rfl⟩:=rx;obtain⟨t',rfl⟩:=ry;exact rule i j t t' s _ _ ⟨.int (g i j),H,I.tok _,⟨_,rfl⟩,q⟩
theorem Tg{f:ae->ae->Sem ae}{g:Int->Int->Bool}(rule:∀ (i j:Int) (t u:Tok) (s:ay) (Q:ae->ay->Prop) (E:ae->ay->Prop),Q (.bool (g i j)) s->aT (aS X.prog X.w) X.A (f (.int i t) (.int j u)) Q E s) :
  eJ X f (L4 fun i j=>.bl (g i j)):=by
 intro pins s σ H x y v u Q I rx ry h;obtain⟨i,j,rfl,rfl,q⟩:=h;obtain⟨t,rfl⟩:=rx;obtain⟨t',rfl⟩:=ry;exact rule i j t t' s _ _ ⟨.bl (g i j),H,I,rfl,q⟩
def cs'(i j:Int):Prop:=0<j/\j<1073741824
def L5(i j:Int):Prop:=(-(2 ^ 64)<i/\i<2 ^ 64)\/(-(2 ^ 64)<j/\j<2 ^ 64)
theorem L5.ok(h:L5 i j):IntMulOk i j:=by
 rcases h with⟨h1,h2⟩|⟨h1,h2⟩
 ·exact .of_left (intBits_le_64 h1 h2)
 ·exact .of_right (intBits_le_64 h1 h2)
theorem ct':eJ X (px .Add) (L4 fun i j=>.int (i+j)):=cr' fun _ _ _ _ _ _ _ q=>add_int q
theorem cu':eJ X (px .Mult) (rI L5 fun i j=>.int (i*j)):=Tf fun _ _ _ _ _ _ _ hc q=>mul_int q hc.ok
theorem cv':eJ X (px .FloorDiv) (rI cs' fun i j=>.int (i / j)):=Tf fun i j _ _ _ _ _ hc q=>by have h1:(0:Int)<j:=hc.1;have h2:j<1073741824:=hc.2;exact floordiv_int (by lia) (by rw[Int.fdiv_eq_ediv_of_nonneg i (by exact DB ‹_›)];exact q) (.inl (PyProof.noPylong_small (by lia)))
theorem cw':eJ X (px .Mod) (rI (fun _ j=>0<j) fun i j=>.int (i % j)):=Tf fun i j _ _ _ _ _ hc q=>by have h1:(0:Int)<j:=hc;exact mod_int' (by lia) (by rw[Int.fmod_eq_emod_of_nonneg i (by exact DB ‹_›)];exact q)
end
def V7:V->V->Bool
 |.non,.non=>true|.non,.int _=>true|.int _,.non=>true|.non,.bl _=>true|.bl _,.non=>true|.non,.str _=>true|.str _,.non=>true
 |.int _,.int _=>true|.bl _,.bl _=>true|.str _,.str _=>true|.tT _,.tT _=>true
 |.int _,.str _=>true|.str _,.int _=>true|.bl _,.str _=>true|.str _,.bl _=>true
 |_,_=>false
def rEq:R2:=fun x y H Q=>V7 x y=true/\Q (.bl (decide (x=y))) H
def rNe:R2:=fun x y H Q=>V7 x y=true/\Q (.bl (!decide (x=y))) H
theorem V8:decide (V.int i=V.int j)=(i == j):=by rw[EX];simp
theorem V9:decide (V.bl i=V.bl j)=(i == j):=by rw[EX];simp
theorem V_:decide (V.str i=V.str j)=(i == j):=by rw[EX];simp
theorem Wa:decide (V.tT i=V.tT j)=(i.toList == j.toList):=by rw[EX];cases i;cases j;simp
section
variable {X:Cx}{a b c:Expr}{ta tb tc:TE}{pos:Pos}
theorem iN(I:Inv X pins σ H s)(q:Q (.bl k) H)(e:k=k'):EP X pins σ Q (.bool k') s:=by subst e;exact⟨.bl k,H,I,rfl,q⟩
theorem cz':eJ X (hV .Eq) rEq:=by
 intro pins s σ H x y v u Q I rx ry h;obtain⟨hs,q⟩:=h
 cases x with
 |non =>
  cases rx
  cases y with
  |non=>cases ry;exact PySem.EqNone.eq_none_none (iN I q (by simp))
  |bl j=>cases ry;exact PySem.EqNone.eq_none_bool (iN I q (by simp))
  |int j=>obtain⟨t',rfl⟩:=ry;exact PySem.EqNone.eq_none_int (iN I q (by simp))
  |str j=>obtain⟨t',rfl⟩:=ry;exact PySem.EqNone.eq_none_str (iN I q (by simp))
  |_=>exact absurd (show false=true from hs) kK
 |bl i =>
  cases rx
  cases y with
  |non=>cases ry;exact PySem.EqNone.eq_bool_none (iN I q (by simp))
  |bl j=>cases ry;exact eq_bool (iN I q V9)
  |str j=>obtain⟨t',rfl⟩:=ry;exact PySem.EqMixed.eq_bool_str (iN I q (by simp))
  |_=>exact absurd (show false=true from hs) kK
 |int i =>
  obtain⟨t,rfl⟩:=rx
  cases y with
  |non=>cases ry;exact PySem.EqNone.eq_int_none (iN I q (by simp))
  |int j=>obtain⟨t',rfl⟩:=ry;exact eq_int (iN I q V8)
  |str j=>obtain⟨t',rfl⟩:=ry;exact PySem.EqMixed.eq_int_str (iN I q (by simp))
  |_=>exact absurd (show false=true from hs) kK
 |str i =>
  obtain⟨t,rfl⟩:=rx
  cases y with
  |non=>cases ry;exact PySem.EqNone.eq_str_none (iN I q (by simp))
  |bl j=>cases ry;exact PySem.EqMixed.eq_str_bool (iN I q (by simp))
  |int j=>obtain⟨t',rfl⟩:=ry;exact PySem.EqMixed.eq_str_int (iN I q (by simp))
  |str j=>obtain⟨t',rfl⟩:=ry;exact eq_str (iN I q V_)
  |_=>exact absurd (show false=true from hs) kK
 |tT i =>
  obtain⟨t,rfl⟩:=rx
  cases y with
  |tT j=>obtain⟨t',rfl⟩:=ry;exact PySem.W.eq_bytes (iN I q Wa)
  |_=>exact absurd (show false=true from hs) kK
 |_=>cases y<;>exact absurd (show false=true from hs) kK
theorem cA':eJ X (hV .NotEq) rNe:=by
 intro pins s σ H x y v u Q I rx ry h;obtain⟨hs,q⟩:=h
 cases x with
 |non =>
  cases rx
  cases y with
  |non=>cases ry;exact PySem.EqNone.ne_none_none (iN I q (by simp))
  |bl j=>cases ry;exact PySem.EqNone.ne_none_bool (iN I q (by simp))
  |int j=>obtain⟨t',rfl⟩:=ry;exact PySem.EqNone.ne_none_int (iN I q (by simp))
  |str j=>obtain⟨t',rfl⟩:=ry;exact PySem.EqNone.ne_none_str (iN I q (by simp))
  |_=>exact absurd (show false=true from hs) kK
 |bl i =>
  cases rx
  cases y with
  |non=>cases ry;exact PySem.EqNone.ne_bool_none (iN I q (by simp))
  |bl j=>cases ry;exact ne_bool (iN I q (congrArg not V9))
  |str j=>obtain⟨t',rfl⟩:=ry;exact PySem.EqMixed.ne_bool_str (iN I q (by simp))
  |_=>exact absurd (show false=true from hs) kK
 |int i =>
  obtain⟨t,rfl⟩:=rx
  cases y with
  |non=>cases ry;exact PySem.EqNone.ne_int_none (iN I q (by simp))
  |int j=>obtain⟨t',rfl⟩:=ry;exact ne_int (iN I q (congrArg not V8))
  |str j=>obtain⟨t',rfl⟩:=ry;exact PySem.EqMixed.ne_int_str (iN I q (by simp))
  |_=>exact absurd (show false=true from hs) kK
 |str i =>
  obtain⟨t,rfl⟩:=rx
  cases y with
  |non=>cases ry;exact PySem.EqNone.ne_str_none (iN I q (by simp))
  |bl j=>cases ry;exact PySem.EqMixed.ne_str_bool (iN I q (by simp))
  |int j=>obtain⟨t',rfl⟩:=ry;exact PySem.EqMixed.ne_str_int (iN I q (by simp))
  |str j=>obtain⟨t',rfl⟩:=ry;exact ne_str (iN I q (congrArg not V_))
  |_=>exact absurd (show false=true from hs) kK
 |tT i =>
  obtain⟨t,rfl⟩:=rx
  cases y with
  |tT j=>obtain⟨t',rfl⟩:=ry;exact PySem.W.ne_bytes (iN I q (congrArg not Wa))
  |_=>exact absurd (show false=true from hs) kK
 |_=>cases y<;>exact absurd (show false=true from hs) kK
theorem cB':eJ X (hV .Lt) (L4 fun i j=>.bl (decide (i<j))):=Tg fun _ _ _ _ _ _ _ q=>lt_int q
theorem cC':eJ X (hV .LtE) (L4 fun i j=>.bl (decide (i<=j))):=Tg fun _ _ _ _ _ _ _ q=>le_int q
theorem cD':eJ X (hV .Gt) (L4 fun i j=>.bl (decide (j<i))):=Tg fun _ _ _ _ _ _ _ q=>gt_int q
theorem cE':eJ X (hV .Lt) (fun x y H Q=>∃ i j,x=.str i/\y=.str j/\Q (.bl (decide (i.cps.toList<j.cps.toList))) H):=by intro pins s σ H x y v u Q I rx ry h;obtain⟨i,j,rfl,rfl,q⟩:=h;obtain⟨t,rfl⟩:=rx;obtain⟨t',rfl⟩:=ry;exact lt_str (iN I q rfl)
theorem cF':eJ X (hV .In) (fun x y H Q=>∃ i j,x=.str i/\y=.str j/\Q (.bl (!(Builtin.Str.occurrences j i 0 j.length 1).isEmpty)) H):=by intro pins s σ H x y v u Q I rx ry h;obtain⟨i,j,rfl,rfl,q⟩:=h;obtain⟨t,rfl⟩:=rx;obtain⟨t',rfl⟩:=ry;exact in_str (iN I q rfl)
theorem cG':eJ X (hV .IsNot) (fun x y H Q=>y=.non/\Q (.bl (!decide (x=.non))) H):=by
 intro pins s σ H x y v u Q I rx ry h;obtain⟨rfl,q⟩:=h;cases ry;refine isnot_none_gen (iN I q ?_);cases x<;>first
  | (cases rx;rfl)
  | (obtain⟨t,rfl⟩:=rx;rfl)
theorem cH':eJ X (hV .NotIn) (fun x y H Q=>∃ i j,x=.str i/\y=.str j/\Q (.bl (!(!(Builtin.Str.occurrences j i 0 j.length 1).isEmpty))) H):=by intro pins s σ H x y v u Q I rx ry h;obtain⟨i,j,rfl,rfl,q⟩:=h;obtain⟨t,rfl⟩:=rx;obtain⟨t',rfl⟩:=ry;exact notIn_str (iN I q rfl)
theorem eJ.or(h:eJ X f r)(h':eJ X f r'):eJ X f (fun x y H Q=>r x y H Q\/r' x y H Q):=by
 intro pins s σ H x y v u Q I rx ry q;rcases q with q|q
 ·exact h pins s σ H x y v u Q I rx ry q
 ·exact h' pins s σ H x y v u Q I rx ry q
theorem Wb(b:Expr)(h:op≠.In:=by decide)(h2:op≠.NotIn:=by decide):Li op b=false:=by
 have e1:(op == CmpOp.In)=false:=by cases op<;>first|rfl|exact absurd rfl h
 have e2:(op == CmpOp.NotIn)=false:=by cases op<;>first|rfl|exact absurd rfl h2
 cases b<;>simp[Li,e1,e2]
theorem cI'{op:CmpOp}{r:R2}(ho:eJ X (hV op) r)(ha:PE X a ta)(hb:PE X b tb)(hm:Li op b=false):PE X (.Compare a [op] [b] pos) (Nv r ta tb):=by intro pins s σ H Q I h;exact wpAny_Compare1 (Te ha hb I h fun v u s2 x y H2 I2 rx ry q=>ho pins s2 σ H2 x y v u Q I2 rx ry q) hm
def Ti(t:TE):TT:=fun σ H Q=>t σ H fun x H'=>∃ k,x=.bl k/\Q k H'
theorem cJ'(ho:eJ X (hV op) r)(ha:PE X a ta)(hb:PE X b tb)(hm:Li op b=false):PT X (.Compare a [op] [b] pos) (Ti (Nv r ta tb)):=by
 intro pins s σ H Q I h;refine wpAny_isTrue_Compare1 (dz (ha pins s σ H _ I h) fun v s1 dn=>L2.gL dn fun x H1 I1 r1 q1=>dz (hb pins s1 σ H1 _ I1 q1) fun u s2 dn=>L2.gL dn fun y H2 I2 r2 q2 =>
  dz (ho pins s2 σ H2 x y v u _ I2 r1 r2 q2) fun c s3 ⟨z,H3,I3,r3,k,e,q3⟩=>?_) hm
 subst e;cases r3;exact CC ⟨H3,I3,q3⟩
def Wc(r r':R2)(ta tb tc:TE):TE:=fun σ H Q=>ta σ H fun x H1=>tb σ H1 fun y H2=>r x y H2 fun z H3=>∃ k,z=.bl k /\ (if k=true then tc σ H3 fun w' H4=>r' y w' H4 Q else Q (.bl false) H3)
theorem cK'(ho:eJ X (hV op) r)(og:eJ X (hV op') r')(ha:PE X a ta)(hb:PE X b tb)(hc:PE X c tc)(hm:lastMarks [op,op'] [b,c]=false:=by with_unfolding_all rfl):PT X (.Compare a [op,op'] [b,c] pos) (Ti (Wc r r' ta tb tc)):=by
 intro pins s σ H Q I h;refine isTrue_chain (dz (ha pins s σ H _ I h) fun v s1 dn=>L2.gL dn fun x H1 I1 r1 q1=>test_link (dz (hb pins s1 σ H1 _ I1 q1) fun u s2 dn=>L2.gL dn fun y H2 I2 r2 q2 =>
  dz (ho pins s2 σ H2 x y v u _ I2 r1 r2 q2) fun d s3 ⟨z,H3,I3,r3,k,e,q3⟩=>?_)) hm
 subst e;cases r3;refine CC ?_
 cases k with
 |false =>obtain⟨k',e',q'⟩:=q3;cases e';exact ite_ff ⟨H3,I3,q'⟩
 |true =>refine ite_tt (test_last (dz (hc pins s3 σ H3 _ I3 q3) fun w' s4 ⟨z',H4,I4,r4,q4⟩=>dz (og pins s4 σ H4 y z' u w' _ I4 r2 r4 q4) fun d' s5 d4=>?_));obtain⟨z2,H5,I5,r5,k2,e2,q5⟩:=d4;subst e2;cases r5;exact CC ⟨H5,I5,q5⟩
def Tj(K:aE)(x:V)(H:Hp)(k:Bool):Prop :=
 match x with
 |.non=>k=false
 |.bl b=>k=b
 |.int i=>k=(i != 0)
 |.str y=>y.length<=bS/\k=((y.length:Int) != 0)
 |.tT y=>y.size<=bS/\k=((y.size:Int) != 0)
 |.ref p=>(∃ xs,fq K H p xs/\k = !xs.isEmpty)\/(∃ xs,oC K H p xs/\k = !xs.isEmpty)\/∃ kvs,H p=some (.dK kvs)/\k = !kvs.isEmpty
 |_=>False
theorem cL'{κ:Type}{kvs:List (κ × V)}{vs:List (κ × ae)}(r:KV kvs vs):(!vs.isEmpty) = !kvs.isEmpty:=by cases r<;>rfl
theorem Wd(r:Vals xs its):(!its.toArray.isEmpty) = !xs.isEmpty:=by cases r<;>simp
theorem Nw:(bS:Nat)<2 ^ 63:=by rw[hJ];decide
theorem cM':cp' X (fun x H Q=>∃ k,Tj X.K x H k/\Q k H):=by
 intro pins s σ H x v Q I rx h;obtain⟨k,e,q⟩:=h;have hl:=Nw;have hs:bS=16777216:=hJ
 cases x with
 |non =>cases rx;have e':k=false:=e;subst e';exact truthy_none ⟨H,I,q⟩
 |bl b =>cases rx;have e':k=b:=e;subst e';exact CC ⟨H,I,q⟩
 |int i =>obtain⟨t,rfl⟩:=rx;have e':k=(i != 0):=e;subst e';exact PySem.P.truthy_int ⟨H,I,q⟩
 |str y =>obtain⟨t,rfl⟩:=rx;obtain⟨hy,e'⟩:y.length<=bS/\k=((y.length:Int) != 0):=e;subst e';exact PySem.P.truthy_str (by lia) ⟨H,I.tok _,q⟩
 |tT y =>obtain⟨t,rfl⟩:=rx;obtain⟨hy,e'⟩:y.size<=bS/\k=((y.size:Int) != 0):=e;subst e';exact PySem.W.truthy_bytes (by lia) ⟨H,I.tok _,q⟩
 |ref p =>
  cases rx;have e':(∃ xs,fq X.K H p xs/\k = !xs.isEmpty)\/(∃ xs,oC X.K H p xs/\k = !xs.isEmpty)\/∃ kvs,H p=some (.dK kvs)/\k = !kvs.isEmpty:=e;rcases e' with⟨xs,hx,e'⟩|⟨xs,hx,e'⟩|⟨kvs,hx,e'⟩
  ·subst e';obtain⟨its,r,pl,hz⟩:=I.list hx;have hlen:=r.length;exact wpAny_truthy_list pl.isList (by simp only[hG];lia) ⟨H,I.tok _,by rw[Wd r];exact q⟩
  ·subst e';obtain⟨its,r,pl,hz⟩:=I.tuple hx;have hlen:=r.length;exact truthy_tuple pl (by simp only[hG];lia) ⟨H,I.tok _,by rw[Wd r];exact q⟩
  ·subst e';obtain⟨hz,hS,vs,r,m⟩:kvs.length<=bS/\(p == u0)=false/\∃ vs,KV kvs vs/\s.heap.DictOf (kA X.prog X.w) p vs:=I.b9 p _ hx;have hlen:kvs.length=vs.length:=Paired.length r;exact wpAny_truthy_dict hS m (by lia) ⟨H,I.tok _,by rw[cL' r];exact q⟩
 |_=>exact(show False from e).elim
theorem cN'(ha:PE X a ta)(he:∀ whole,isTrue a X.env whole=(do let v <- whole;standAt a.pos;holding [v] (truthy v))) :
  PT X a (fun σ H Q=>ta σ H fun x H'=>∃ k,Tj X.K x H' k/\Q k H'):=by
 intro pins s σ H Q I h;exact isTrue_plain (dz (ha pins s σ H _ I h) fun v s1 dn=>L2.gL dn fun x H1 I1 r1 q1=>cM' pins s1 σ H1 x v Q I1 r1 q1) (he _)
theorem cO':eJ X (px .Add) (fun x y H Q=>∃ i j,x=.str i/\y=.str j/\i.length+j.length<=bS/\Q (.str (i++j)) H):=by intro pins s σ H x y v u Q I rx ry h;obtain⟨i,j,rfl,rfl,hz,q⟩:=h;obtain⟨t,rfl⟩:=rx;obtain⟨t',rfl⟩:=ry;exact add_str (fun t' tk=>⟨.str (i++j),H,I.tok _,⟨_,rfl⟩,q⟩) hz
theorem vals1(r:Vals [x] us):∃ u,us=[u]/\RelV x u:=by
 cases r with
 |cons r1 r2=>cases r2;exact⟨_,rfl,r1⟩
def cP'(K:aE)(x:V)(H:Hp)(n:Nat):Prop :=
 match x with
 |.str y=>y.length<=bS/\n=y.length
 |.tT y=>y.size<=bS/\n=y.size
 |.ref p=>(∃ xs,fq K H p xs/\n=xs.length)\/∃ xs,oC K H p xs/\n=xs.length
 |_=>False
theorem Tn:oI X (.builtin "len") (fun xs H Q=>∃ x n,xs=[x]/\cP' X.K x H n/\Q (.int n) H):=by
 intro pins s σ H xs us Q I r h;obtain⟨x,n,rfl,e,q⟩:=h;obtain⟨u,rfl,rx⟩:=vals1 r;have hl:=Nw;have hs:bS=16777216:=hJ
 cases x with
 |str y =>obtain⟨t,rfl⟩:=rx;obtain⟨hy,e'⟩:y.length<=bS/\n=y.length:=e;subst e';exact len_str (by lia) ⟨.int _,H,I.tok _,⟨_,rfl⟩,q⟩
 |tT y =>obtain⟨t,rfl⟩:=rx;obtain⟨hy,e'⟩:y.size<=bS/\n=y.size:=e;subst e';exact PySem.W.len_bytes (by walk_at "s4") ⟨.int _,H,I.tok _,⟨_,rfl⟩,q⟩
 |ref p =>
  cases rx;have e':(∃ xs,fq X.K H p xs/\n=xs.length)\/∃ xs,oC X.K H p xs/\n=xs.length:=e;rcases e' with⟨xs,hx,e'⟩|⟨xs,hx,e'⟩
  ·subst e';obtain⟨its,r',pl,hz⟩:=I.list hx;have hlen:=r'.length;exact Calls.call_len_list pl.isList (by simp only[hG];lia) ⟨.int xs.length,H,I.tok _,⟨_,by simp only[hG];rw[hlen]⟩,q⟩
  ·subst e';obtain⟨its,r',pl,hz⟩:=I.tuple hx;have hlen:=r'.length;exact len_tuple pl (by simp only[hG];lia) ⟨.int xs.length,H,I.tok _,⟨_,by simp only[hG];rw[hlen]⟩,q⟩
 |_=>exact(show False from e).elim
end
structure To(h:cE)(x dx C:ag)(mA:Str->Option ae):Prop where
 obj:h.get? x=some (RZ C dx)
 ns:h.Ns1 dx mA
 ne:dx≠x
theorem lookIn_ns{h:cE}{dx:ag}{mA:Str->Option ae}(n:h.Ns1 dx mA):∃ od,h.get? dx=some od/\∀ name,PySem.W.lookIn name od=some (mA name):=by
 obtain⟨o,es,ep,ho,hd,hk,_,hm⟩:=n;refine⟨o,ho,fun name=>?_⟩;have e:=hm name;unfold nsFind findBy at e;rw[<- Array.find?_toList] at e;unfold PySem.W.lookIn;rw[hd];dsimp only;split
 ·rename_i y q;rw[q] at e;exact congrArg some e
 ·rename_i q;rw[q] at e;have a:es.toList.any (·.refKey)=false:=by rw[List.any_eq_false];intro y hy;obtain⟨z,t,cQ'⟩:=hk y (SD.mp hy);simp[DictEntry.refKey,cQ']
  have a':¬ es.toList.any (·.refKey)=true:=by rw[a];exact kK
  rw[if_neg a'];exact congrArg some e
theorem To.look(I:To h x dx C mA):∃ od,PySem.W.InstAt h x (RZ C dx) C (some od)/\∀ name,PySem.W.lookIn name od=some (mA name) :=
 let ⟨od,ho,hl⟩:=lookIn_ns I.ns
 ⟨od,⟨I.obj,rfl,rfl,ho⟩,hl⟩
theorem wt.some_of(r:wt (some v) o):∃ u,o=some u/\RelV v u:=by
 cases o with
 |none=>exact(show False from r).elim
 |some u=>exact⟨u,rfl,r⟩
section
variable {P:dr}{w:dA}{H:Hp}{h:cE}{a C dx:ag}{fs:List (Str × V)}
theorem P5(b9:hX P w H h)(e:H a=some (.ins C dx fs)):∃ mA,To h a dx C mA/\(∀ f,wt (fs.lookup f) (mA f))/\PySem.Within mA (fs.map (·.1))/\fs.length<=1000/\H dx=some (.own a):=by
 obtain⟨d,z,ne,ob,mA,n,r,q⟩:=(show gS P w H h a (.ins C dx fs) from b9 a _ e)
 exact⟨mA,⟨ob,n,ne⟩,r,q,z,d⟩
end
structure Tp(K:aE)(C:ag):Prop where
 pg:PySem.W.plainGet K C Str.empty=true
 hd:PySem.W.hasDictIn K C=true
 po:PySem.W.plainOver K C=true
 sa:zD K (.ref C) "__setattr__" = some (some (.builtin "object.__setattr__"))
theorem Tp.get{K:aE}(c:Tp K C)(f:Str):PySem.W.plainGet K C f=true:=c.pg
section
variable {X:Cx}{pins:List (ag × Obj)}{σ:St}{H:Hp}{s:ay}{A:eB}{E:ae->ay->Prop}{Q:ae->ay->Prop}{c:ae}{b:Bool}
inductive yB(K:aE)(H:Hp):V->ae->Prop where
 |non:yB K H .non (.type "NoneType")
 |bl (x:Bool):yB K H (.bl x) (.type "bool")
 |int (i:Int):yB K H (.int i) (.type "int")
 |str (x:Str):yB K H (.str x) (.type "str")
 |Bn (x:UInt64):yB K H (.Bn x) (.type "float")
 |lst {a:ag} {xs:List V} (e:H a=some (.lst xs)):yB K H (.ref a) (.type "list")
 |nh {a:ag} {o:Obj} {xs:List V} (e:H a=some (.nh o (.lst xs))):yB K H (.ref a) (.type "list")
 |tup {a:ag} {xs:List V} (e:H a=some (.tup xs)):yB K H (.ref a) (.type "tuple")
 |dK {a:ag} {kvs:List (Key × V)} (e:H a=some (.dK kvs)):yB K H (.ref a) (.type "dict")
 |dT {a:ag} {kvs:List (List Key × V)} (e:H a=some (.dT kvs)):yB K H (.ref a) (.type "dict")
 |ins {a C dx:ag} {fs:List (Str × V)} (e:H a=some (.ins C dx fs)) (cl:Tp K C) (ha:zD K (.ref C) "__class__" = some (some (.builtin "object.__class__")))
   (hn:PySem.W.specialIn K (.builtin "object.__class__") "__get__" = some (some (.builtin "getset_descriptor.__get__"))) (Wg:PySem.W.takesIn K (.builtin "object.__class__")=some true)
   (hm:Ln K C (.type "object")=some true):yB K H (.ref a) (.ref C)
theorem Nx(I:Inv X pins σ H s)(rx:RelV x u)(ty:yB X.K H x t)(e:lI X.K t c=some b)(h:∀ tk,Q (.bool b) { s with toks:=tk }) :
  aT (aS X.prog X.w) A (call (.builtin "isinstance") [u,c]) Q E s:=by
 cases ty with
 |non=>cases (show u=Value.none from rx);exact ve PySem.W.kitx_none I.kB True.intro e (fun z=>nomatch z) h
 |bl y=>cases (show u=Value.bool y from rx);exact ve PySem.W.kitx_bool I.kB True.intro e (fun z=>nomatch z) h
 |int i=>obtain⟨t,q⟩:=(show ∃ t,u=Value.int i t from rx);cases q;exact ve PySem.W.kitx_int I.kB True.intro e (fun z=>nomatch z) h
 |str y=>obtain⟨t,q⟩:=(show ∃ t,u=Value.str y t from rx);cases q;exact ve PySem.W.kitx_str I.kB True.intro e (fun z=>nomatch z) h
 |Bn y=>obtain⟨t,q⟩:=(show ∃ t,u=Value.float y t from rx);cases q;exact ve PySem.W.kitx_float I.kB True.intro e (fun z=>nomatch z) h
 |@lst a xs ea =>
  cases (show u=Value.ref a from rx);obtain⟨_,_,n,_,h1⟩:=(show gS X.prog X.w H s.heap a (.lst xs) from I.b9 a _ ea)
  exact ve RX I.kB ⟨_,h1,rfl⟩ e (fun z=>nomatch z) h
 |@nh a ob xs ea =>
  cases (show u=Value.ref a from rx);obtain⟨_,_,_,n,_,h1⟩:=(show gS X.prog X.w H s.heap a (.nh ob (.lst xs)) from I.b9 a _ ea)
  exact ve RX I.kB ⟨_,h1,rfl⟩ e (fun z=>nomatch z) h
 |@tup a xs ea =>
  cases (show u=Value.ref a from rx);obtain⟨_,_,_,p⟩:=(show gS X.prog X.w H s.heap a (.tup xs) from I.b9 a _ ea)
  obtain⟨o,h1,h2,_⟩:=p;exact ve PySem.W.kitx_tuple I.kB ⟨o,h1,h2⟩ e (fun z=>nomatch z) h
 |@dK a kvs ea =>
  cases (show u=Value.ref a from rx);obtain⟨_,_,vs,_,p⟩:=(show gS X.prog X.w H s.heap a (.dK kvs) from I.b9 a _ ea)
  obtain⟨o,es,ep,h1,h2,_⟩:=p;exact ve Ph I.kB ⟨o,h1,h2.1⟩ e (fun z=>nomatch z) h
 |@dT a kvs ea =>
  cases (show u=Value.ref a from rx);obtain⟨_,_,xs,_,o,es,ep,h1,h2,_⟩:=(show gS X.prog X.w H s.heap a (.dT kvs) from I.b9 a _ ea)
  exact ve Ph I.kB ⟨o,h1,h2.1⟩ e (fun z=>nomatch z) h
 |@ins a C dx fs ea cl ha hn Wg hm =>cases (show u=Value.ref a from rx);obtain⟨mA,O,_⟩:=P5 I.b9 ea;obtain⟨od,J,_⟩:=O.look;exact ve (PySem.W.kitx_own (cl.get _) cl.hd ha hn Wg hm) I.kB J e (fun z=>nomatch z) h
end
structure kC(k:Nat)(A:eB):Prop where
 hd:A.handled=none
 dp:A.depth+3*k+5<recursionLimit
 un:A.units+16*k+200<gE
theorem kC.mono(r:kC k A)(h:j<=k):kC j A:=⟨r.hd,by have:=r.dp;lia,by have:=r.un;lia⟩
theorem kC.deeper(r:kC (k+1) A)(env:Env):kC k (A.deeper env) :=
 ⟨r.hd,by have:=r.dp;show A.depth+1+3*k+5<_;lia,by have:=r.un;show A.units+3+16*k+200<_;lia⟩
theorem kC.depth(r:kC k A):A.depth<recursionLimit:=by have:=r.dp;lia
theorem kC.units(r:kC k A):A.units+64<gE:=by have:=r.un;lia
def Tq:TA:=fun _ H Q=>Q [] H
def Tr(ta:TE)(tr:TA):TA:=fun σ H Q=>ta σ H fun x H1=>tr σ H1 fun xs H2=>Q (x :: xs) H2
section
variable {X:Cx}{e:Expr}{es:List Expr}{te:TE}{t:TA}{pos:Pos}
theorem rL:PA X [] Tq:=fun _ _ _ _ H Q I h=>Calls.spliced_nil ⟨[],H,I,.nil,h⟩
theorem mr(ha:PE X e te)(hr:PA X es t)(hs:bI (e :: es) X.env=(false,cv e X.env) :: bI es X.env:=by rfl):PA X (e :: es) (Tr te t):=by intro pos pins s σ H Q I h;rw[hs];show aT _ _ (spliced ((false,cv e X.env) :: iP pos (bI es X.env))) _ _ s;refine Calls.spliced_cons (dz (ha pins s σ H _ I h) fun u s1 dn=>L2.gL dn fun x H1 I1 r1 q1=>?_);exact dz (hr pos pins s1 σ H1 _ I1 q1) fun us s2 dn=>L2.gL dn fun xs H2 I2 r2 q2=>⟨x :: xs,H2,I2,.cons r1 r2,q2⟩
def cR'(t:TA):TE:=fun σ H Q=>t σ H fun xs H1=>xs.length<=bS/\∀ p,H1 p=none->Q (.ref p) (upd H1 p (.tup xs))
def cS'(t:TA):TE:=fun σ H Q=>t σ H fun xs H1=>xs.length<=bS/\∀ p,H1 p=none->Q (.ref p) (upd H1 p (.lst xs))
theorem Ts{x1}(h:PA X es t):PE X (.Tuple es x1 pos) (cR' t):=by intro pins s σ H Q I hq;refine wpAny_Tuple_spliced (dz (h pos pins s σ H _ I hq) fun us s1 ⟨xs,H1,I1,r,z,q⟩=>⟨by rw[<- r.length];exact z,?_⟩);have hf:H1 s1.heap.objs.size=none:=I1.b9.fresh (da _);refine⟨.ref s1.heap.objs.size,upd H1 s1.heap.objs.size (.tup xs),I1.laid (t':=s1.toks) (fun b u e=>fE _ e) (da _) ?_,rfl,q _ hf⟩;exact⟨z,us,r,⟨_,ku _ rfl,rfl,_,rfl⟩⟩
theorem cT'(h:PA X es t):PE X (.List es pos) (cS' t):=by intro pins s σ H Q I hq;refine wpAny_List_spliced (dz (h pos pins s σ H _ I hq) fun us s1 ⟨xs,H1,I1,r,z,q⟩=>⟨by rw[<- r.length];exact z,?_⟩);have hf:H1 s1.heap.objs.size=none:=I1.b9.fresh (da _);refine⟨.ref s1.heap.objs.size,upd H1 s1.heap.objs.size (.lst xs),I1.laid (t':=s1.toks) (fun b u e=>fE _ e) (da _) ?_,rfl,q _ hf⟩;exact⟨z,us,0,r,ku _ rfl⟩
end
abbrev Sp:=List V->Hp->VK->XK->Prop
abbrev DM:=List Env->Hp->ay->XK->ae->ay->Prop
structure P6(P:dr)(w:dA)(K:aE)(mg:Str->Option ae)(base:cE)(A:eB)(outer:List Env)(s:ay)(H:Hp):Prop where
 frames:A.frames=some outer
 mod:Mod K mg base
 bs:∀ b o,base.get? b=some o->s.heap.get? b=some o/\H b=none
 w9:base.objs.size<=s.heap.objs.size
 sF:s.heap.FunFrames base outer
 z0:∀ b∈fN outer,H b=none
 b9:hX P w H s.heap
 bare:AllBare s.gens
def CE(outer:List Env)(P:dr)(w:dA)(H:Hp)(s:ay)(Q:VK)(u:ae)(s':ay):Prop :=
 ∃ v H',s'.os=s.os/\AllBare s'.gens/\Un (fN outer) [] H H' s.heap s'.heap/\hX P w H' s'.heap/\RelV v u/\Q v H'
def CR(CX:DM)(outer:List Env)(P:dr)(w:dA)(H:Hp)(s:ay)(Q:VK)(E:XK)(r:Result)(s':ay):Prop :=
 match r with
 |.ok (.ret u)=>CE outer P w H s Q u s'
 |.ok _=>False
 |.error e=>CX outer H s E e s'
structure t5(P:dr)(w:dA)(K:aE)(mg:Str->Option ae)(base:cE)(CX:DM)(k:Nat)(f:ag)(fd:zv)(ps:List Str)(sp:Sp):Prop where
 len:∀ vs H Q E,sp vs H Q E->vs.length=ps.length
 run:∀ (A:eB) (outer:List Env) (s:ay) (H:Hp) (args:Args) (us:List ae) (vs:List V) (Q:VK) (E:XK),kC k A->P6 P w K mg base A outer s H->BindsTo s fd args (ps.zip us)->Vals vs us->sp vs H Q E ->
  codeAny (aS P w) A (.call (.ref f) args) (CR CX outer P w H s Q E) s
section
variable {X:Cx}{pins:List (ag × Obj)}{σ:St}{H:Hp}{s s':ay}
theorem Inv.Wh(I:Inv X pins σ H s):P6 X.prog X.w X.K X.mg X.base X.A X.stack s H :=
 ⟨I.ok.frames,I.ok.mod,I.bs,ky I.ok.w9 I.sz,I.stack,I.SY,I.b9,I.bare⟩
theorem Inv.after(I:Inv X pins σ H s)(h:CE X.stack X.prog X.w H s Q u s'):EP X pins σ Q u s':=by obtain⟨v,H',os,bare,un,b9,r,q⟩:=h;obtain⟨hh,g,d,t,Tt⟩:=s';obtain rfl:Tt=s.os:=os;exact⟨v,H',I.call (h':=hh) (g':=g) (d':=d) (t':=t) (ch:=[]) un b9 bare (fun b z=>absurd z (by simp)),r,q⟩
end
def Iq(sp:Sp)(E8:List V)(E:XK)(t:TA):TE:=fun σ H Q=>t σ H fun vs H1=>sp (vs++E8) H1 Q E
def Binds(K:aE)(fd:zv)(ps:List Str)(ds:List ae):Prop :=
 ∀ (s:ay) (us:List ae),K.In s.heap->(us++ds).length=ps.length->BindsTo s fd ⟨us,[]⟩ (ps.zip (us++ds))
theorem Binds.all{K:aE}{ps:List Str}(h:∀ us:List ae,us.length=ps.length->bindArgs fd ⟨us,[]⟩=pure (ps.zip us)):Binds K fd ps []:=fun s us _ hl=>by rw[kr] at hl ⊢;exact .of_eq (h us hl)
def Passes(CX:DM)(X:Cx)(E:XK):Prop:=∀ (pins:List (ag × Obj)) (σ:St) (H:Hp) (s:ay) (e:ae) (s':ay),Inv X pins σ H s->CX X.stack H s E e s'->X.xe e s'
section
variable {X:Cx}{CX:DM}{k:Nat}{f:ag}{fd:zv}{ps:List Str}{sp:Sp}{E8:List V}{ds:List ae}{E:XK}{x:Str}{p pos:Pos}{e:Expr}{es:List Expr}{t:TA}
theorem cU'(F:t5 X.prog X.w X.K X.mg X.base CX k f fd ps sp)(hr:kC k X.A)(hb:Binds X.K fd ps ds)(hd:Vals E8 ds)(hx:Passes CX X E)(I:Inv X pins σ H s) (r:Vals vs us) (h:sp (vs++E8) H Q E):aT (aS X.prog X.w) X.A (call (.ref f) us) (EP X pins σ Q) X.xe s:=by
 have r2:Vals (vs++E8) (us++ds):=r.append hd;have hl:(us++ds).length=ps.length:=by rw[<- r2.length];exact F.len _ _ _ _ h
 refine wpAny_call (codeAny_mono (F.run X.A X.stack s H ⟨us,[]⟩ (us++ds) (vs++E8) Q E hr I.Wh (hb s us I.kB hl) r2 h) fun r s' hq=>?_)
 cases r with
 |error e=>exact hx pins σ H s e s' I hq
 |ok fl =>
  cases fl with
  |ret u=>exact I.after hq
  |next=>exact False.elim hq
  |brk=>exact False.elim hq
  |cont=>exact False.elim hq
theorem Wi(F:t5 X.prog X.w X.K X.mg X.base CX k f fd ps sp)(hr:kC k X.A)(hg:Gl X x)(hm:X.mg x=some (.ref f))(hk:EK X.K (.ref f)=true)(hb:Binds X.K fd ps ds)(hd:Vals E8 ds)(hx:Passes CX X E)(ha:PA X (e :: es) t) (kL:(x == ("__debug__" : Str))=false:=by decide) (he:bI (e :: es) X.env=(false,cv e X.env) :: bI es X.env:=by rfl) (jS:(iP pos (bI es X.env)).any (·.1)=false:=by rfl) :
  PE X (.Call (.Name x p) (e :: es) [] pos) (Iq sp E8 E t):=by
 intro pins s σ H Q I h;refine wc (Nt I hg hm ?_ kL);refine PySem.W.callWith_K (h₀:=X.base) I.ok.mod.Nj hk (dz (ha pos pins s σ H _ I h) fun us s1 dn=>L2.gL dn fun vs H1 I1 r q=>⟨I1.kB,?_⟩) he jS;exact cU' F hr hb hd hx I1 r q
end
structure Iy(N P:List Str)(sc:Scope):Prop where
 kind:sc.kind=.function
 co:sc.isCoroutine=false
 gen:sc.isGenerator=false
 nd:N.Nodup
 pre:N.take P.length=P
 par:∀ x∈P,sc.names.lookup x=some .local\/sc.names.lookup x=some .cell
 cV':∀ y∈sc.names,y.2≠.free
theorem Wj{eR:Str->Option zC}:∀ {binds:List (Str × ae)} {m:Str->Option ae},(∀ v,(x,v)∉binds)->bindL eR binds m x=m x
 |[],_,_=>rfl
 | (n,v) :: r,m,h=>by
  unfold bindL;rw[Wj fun w hw=>h w (eI _ hw)];split
  ·have:x≠n:=by rintro rfl;exact h v eL
   simp[this]
  ·rfl
theorem Wk{eR:Str->Option zC}:∀ {binds:List (Str × ae)} {m:Str->Option ae},(∀ v,(x,v)∉binds)->bindC eR binds m x=m x
 |[],_,_=>rfl
 | (n,v) :: r,m,h=>by
  unfold bindC;rw[Wk fun w hw=>h w (eI _ hw)];split
  ·rfl
  ·have:x≠n:=by rintro rfl;exact h v eL
   simp[this]
theorem Wl{eR:Str->Option zC}:∀ {P:List Str} {vs:List ae} {i:Nat} {m:Str->Option ae},P.Nodup->P[i]? = some x->vs[i]? = some v->eR x=some .local ->
  bindL eR (P.zip vs) m x=some v
 |[],_,_,_,_,h,_,_=>by simp at h
 |_ :: _,[],_,_,_,_,h,_=>by simp at h
 |p :: P,w :: vs,0,m,nd,h1,h2,hk=>by simp at h1 h2;subst h1;subst h2;show bindL eR ((p,w) :: P.zip vs) m p=_;unfold bindL;rw[Wj fun v hv=>(lT.mp nd).1 (List.of_mem_zip hv).1,if_pos hk];simp
 |p :: P,w :: vs,i+1,m,nd,h1,h2,hk=>by show bindL eR ((p,w) :: P.zip vs) m x=_;unfold bindL;exact Wl (i:=i) (lT.mp nd).2 (by simpa using h1) (by simpa using h2) hk
theorem Wm{eR:Str->Option zC}:∀ {P:List Str} {vs:List ae} {i:Nat} {m:Str->Option ae},P.Nodup->P[i]? = some x->vs[i]? = some v->eR x≠some .local ->
  bindC eR (P.zip vs) m x=some v
 |[],_,_,_,_,h,_,_=>by simp at h
 |_ :: _,[],_,_,_,_,h,_=>by simp at h
 |p :: P,w :: vs,0,m,nd,h1,h2,hk=>by simp at h1 h2;subst h1;subst h2;show bindC eR ((p,w) :: P.zip vs) m p=_;unfold bindC;rw[Wk fun v hv=>(lT.mp nd).1 (List.of_mem_zip hv).1,if_neg hk];simp
 |p :: P,w :: vs,i+1,m,nd,h1,h2,hk=>by show bindC eR ((p,w) :: P.zip vs) m x=_;unfold bindC;exact Wm (i:=i) (lT.mp nd).2 (by simpa using h1) (by simpa using h2) hk
def start(N:List Str)(vs:List V):St:=vs.map some++List.replicate (N.length-vs.length) none
def p9(CX:DM)(P:dr)(w:dA)(K:aE)(mg:Str->Option ae)(base:cE)(N:List Str)(qual:Str)(scope:Scope)(f:ag)(cd:ae)(A:eB)(outer:List Env)(s:ay)(H:Hp)(E:XK):Cx where
 prog:=P
 w:=w
 K:=K
 mg:=mg
 base:=base
 A:=A.deeper (mh qual scope s.heap.objs.size f cd)
 N:=N
 ft:=s
 zS:=H
 env:=mh qual scope s.heap.objs.size f cd
 outer:=outer
 stack:=mh qual scope s.heap.objs.size f cd :: outer
 ex:=[]
 calm:=true
 fn:=fun _=>true
 pn:=[]
 xe:=fun e s'=>aT (aS P w) (A.deeper (mh qual scope s.heap.objs.size f cd)) (leaving (mh qual scope s.heap.objs.size f cd) e) (fun _ BI=>CX outer H s E e BI) (fun e' BI=>CX outer H s E e' BI) s'
theorem Wn{sc:Scope}{n:Nat}{x:Str}(h:sc.names.lookup x=some .cell):∃ c,(cellsFrom n sc.names []).lookup x=some c:=by have q:=PySem.W.cellsFrom_some sc.names n [] (.inl h);exact Option.isSome_iff_exists.mp q
theorem cW'{CX:DM}{P:dr}{w:dA}{K:aE}{mg:Str->Option ae}{base:cE}{N ps:List Str}{qual:Str}{scope:Scope}{f:ag}{cd:ae}{A:eB}{outer:List Env}{s s1:ay}{H:Hp}{E:XK}{us:List ae}{vs:List V}(S:Iy N ps scope) (hd:A.handled=none) (e0:P6 P w K mg base A outer s H) (hl:vs.length=ps.length) (r:Vals vs us)(x:InCallC s s.heap.objs.size (bindL (mh qual scope s.heap.objs.size f cd).kindOf (ps.zip us) fun _=>none) (cellsFrom (s.heap.objs.size+1) scope.names []) (bindC (mh qual scope s.heap.objs.size f cd).kindOf (ps.zip us) fun _=>none) s1) :
  Inv (p9 CX P w K mg base N qual scope f cd A outer s H E) [] (start N vs) H s1:=by
 have jS:ps.length<=N.length:=by have:=congrArg List.length S.pre;rw[i7] at this;lia
 obtain⟨h1,tk,rfl,hk⟩:=x.done;have Ny:∀ b:ag,b∉(p9 CX P w K mg base N qual scope f cd A outer s H E).ex:=fun b z=>absurd (show b∈([]:List ag) from z) (by simp);refine⟨⟨e0.mod,S.kind,rfl,rfl,da _,fun y z c h1 h2=>?_,fun y hy=>?_,fun y c _ h=>?_,fun _=>hd,Around.frames_deeper e0.frames,.inr ⟨rfl,rfl⟩,fun b z=>absurd z (Ny b),e0.bs,e0.w9,fun b _ _=>Ny b,fun b z=>absurd z (Ny b),e0.sF,e0.z0⟩,
  rfl,e0.bare,Un.kept hk,⟨_,x.toInCall.ns,fun i y v h1 h2 h3=>?_⟩,fun y c h=>⟨_,x.cell y c h⟩,e0.b9.fresh (da _),fun y c h=>?_,fun p hp=>absurd (show p∈([]:List (ag × Obj)) from hp) (by simp),e0.b9.kept hk,?_⟩
 ·exact name_of_addr x.apart (PySem.mem_of_lookup h1) (PySem.mem_of_lookup h2)
 ·have hy:scope.names.lookup y=some .cell\/scope.names.lookup y=some .free:=hy;rcases hy with hy|hy
  ·exact Wn hy
  ·exact absurd rfl (S.cV' _ (PySem.mem_of_lookup hy))
 ·exact mS (x.above y c (PySem.mem_of_lookup h))
 ·have hi:i<vs.length:=by
   unfold start at h2;by_cases hi:i<vs.length
   ·exact hi
   ·rw[CL (by simpa using hi)] at h2;rw[R5] at h2;split at h2<;>cases h2
  have ha:vs[i]? = some v:=by
   unfold start at h2;rw[MQ (by simpa using hi),qV] at h2
   cases e:vs[i]? with
   |none=>rw[e] at h2;cases h2
   |some a=>rw[e] at h2;cases h2;rfl
  obtain⟨u,hu,rv⟩:=r.get ha;have hp:ps[i]? = some y:=by rw[<- S.pre,List.getElem?_take_of_lt (by lia)];exact h1
  have Wo:ps.Nodup:=by rw[<- S.pre];exact S.nd.sublist (List.take_sublist _ _)
  refine⟨u,rv,?_⟩;rcases S.par y (tI hp) with k|k
  ·exact .inl ⟨k,Wl Wo hp hu k⟩
  ·obtain⟨c,e⟩:=Wn (n:=s.heap.objs.size+1) k;refine .inr ⟨.inl k,c,e,?_⟩;have q:=x.cell y c e;rw[Wm Wo hp hu (by show scope.names.lookup y≠_;rw[k];decide)] at q;exact q
 ·exact e0.b9.fresh (mS (x.above y c (PySem.mem_of_lookup h)))
 ·unfold start;show _=N.length;rw[kH,cK,R6];lia
theorem Wq{P:dr}{K:aE}{dV kV doc pm dP ct oc:ae}{N ps:List Str} (lk:K.lookup f=some ⟨oc,od,.func (vj name qual params body scope dV kV doc pm an dP ct),Ap⟩) (rq:Lj K dP qual=true) (S:Iy N ps scope)(len:∀ vs H Q E,sp vs H Q E->vs.length=ps.length)(DS:∀ (A:eB) (outer:List Env) (s:ay) (H:Hp) (vs:List V) (Q:VK) (E:XK),kC k (A.deeper (mh qual scope s.heap.objs.size f dP))->sp vs H Q E ->
   ∃ t,oi (p9 CX P w K mg base N qual scope f dP A outer s H E) body t/\t { nx:=fun _ H'=>Q .non H',rt:=Q } (start N vs) H) :
  t5 P w K mg base CX (k+1) f (vj name qual params body scope dV kV doc pm an dP ct) ps sp:=by
 refine⟨len,fun A outer s H args us vs Q E hr e0 hb r BM=>?_⟩;have hl:=len _ _ _ _ BM;have KX:K.In s.heap:=e0.mod.Nj.keeps fun b o e=>(e0.bs b o e).1;have lim:s.heap.NoLimit:=e0.mod.nolimit.keeps fun b o e=>(e0.bs b o e).1;have cX':∀ y∈ps.zip us,scope.names.lookup y.1=some .local\/(scope.names.lookup y.1=some .cell/\((cellsFrom (s.heap.objs.size+1) scope.names []).lookup y.1).isSome=true):=fun⟨n,v⟩ hy=>by
  rcases S.par n (List.of_mem_zip hy).1 with q|q
  ·exact .inl q
  ·exact .inr ⟨q,PySem.W.cellsFrom_some _ _ _ (.inl q)⟩
 refine codeAny_call_function hr.depth (KX _ _ lk) rfl S.co S.gen rfl (PySem.W.codeRec_of KX rq) (hb _ _ _ _ ?_);refine wpAny_newFunctionEnv_cells S.kind cX' fun env he s1 x=>?_;subst he;refine⟨lim.keeps x.toInCall.keep,codeAny_func ?_⟩;obtain⟨t,ht,hq⟩:=DS A outer s H vs Q E (hr.deeper _) BM;have I:Inv (p9 CX P w K mg base N qual scope f dP A outer s H E) [] (start N vs) H s1:=cW' S hr.hd e0 hl r x;refine sq (ht [] s1 (start N vs) H _ I hq) (fun fl s' hs=>?_) fun e s' hs=>hs;have fin:∀ {cf:St} {H':Hp} {v:V} {u:ae},Inv (p9 CX P w K mg base N qual scope f dP A outer s H E) [] cf H' s'->RelV v u->Q v H'->CE outer P w H s Q u s' :=
  fun {cf H' v u} J rv q=>⟨v,H',J.os,J.bare,J.base,J.b9,rv,q⟩
 cases fl with
 |ret u =>obtain⟨v,cf,H',J,rv,q⟩:=hs;exact fin J rv q
 |next =>obtain⟨cf,H',J,q⟩:=hs;exact fin (v:=V.non) (u:=Value.none) J rfl q
 |brk =>obtain⟨_,_,_,q⟩:=hs;exact False.elim q
 |cont =>obtain⟨_,_,_,q⟩:=hs;exact False.elim q
section
variable {X:Cx}{x:Str}{p pos:Pos}{e:Expr}{es:List Expr}{t:TA}{id T:String}{r:List V->Hp->VK->Prop}
def Tv(r:List V->Hp->VK->Prop)(t:TA):TE:=fun σ H Q=>t σ H fun vs H1=>r vs H1 Q
theorem P7 (hc:oI X (.builtin id) r) (hg:Gl X x) (hm:X.mg x=none) (hv:j3 x=some (.builtin id)) (ha:PA X (e :: es) t) (hn:x ≠ "__name__" := by decide) (kL:(x == ("__debug__" : Str))=false:=by decide) (he:bI (e :: es) X.env=(false,cv e X.env) :: bI es X.env:=by rfl) (jS:(iP pos (bI es X.env)).any (·.1)=false:=by rfl):PE X (.Call (.Name x p) (e :: es) [] pos) (Tv r t):=by
 intro pins s σ H Q I h;refine wc (vv I hg hm hv ?_ hn kL);exact PyProof.Rows.callWith_builtin1 (dz (ha pos pins s σ H _ I h) fun us s1 dn=>L2.gL dn fun vs H1 I1 r1 q1=>hc pins s1 σ H1 vs us Q I1 r1 q1) he jS
theorem cY' (hc:oI X (.type T) r) (hg:Gl X x) (hm:X.mg x=none) (hv:j3 x=some (.type T)) (ha:PA X (e :: es) t) (hn:x ≠ "__name__" := by decide) (kL:(x == ("__debug__" : Str))=false:=by decide) (he:bI (e :: es) X.env=(false,cv e X.env) :: bI es X.env:=by rfl) (jS:(iP pos (bI es X.env)).any (·.1)=false:=by rfl):PE X (.Call (.Name x p) (e :: es) [] pos) (Tv r t):=by
 intro pins s σ H Q I h;refine wc (vv I hg hm hv ?_ hn kL);exact PyProof.Rows.callWith_type1 (dz (ha pos pins s σ H _ I h) fun us s1 dn=>L2.gL dn fun vs H1 I1 r1 q1=>hc pins s1 σ H1 vs us Q I1 r1 q1) he jS
end
end L2
namespace HT
open PySem PyProof.Rows
section
open PySem.SeqAt
open PySem.AutoSeq1 (wpAny_loadPart')
open PySem.MeetsSeq PySem.MeetsSeq2 PySem.MeetsSeq3
end
section
variable {prog:dr}{w:dA}{A:eB}{E:ae->ay->Prop}{s:ay}
theorem cZ'(ht:IsTup s.heap t vs.toArray)(hb:IsTup s.heap b ws.toArray)(hv:vs≠[])(h1:ws=[]->Q (.ref t) s) (h2:ws≠[]->Q (.ref s.heap.objs.size) { s with heap:=s.heap.push { cls:=.type "tuple",data:=.seq (vs++ws).toArray } }) (fz:vs.length+ws.length<=bS):aT (aS prog w) A (px .Add (.ref t) (.ref b)) Q E s:=by
 obtain⟨⟨cls,dd,data,sl⟩,ho,hc,n,hd⟩:=id ht;obtain⟨⟨da',P8,data2,P9⟩,mw,Nz,n2,hd2⟩:=id hb;simp only at hc hd Nz hd2;subst hc hd Nz hd2;have e:vs.toArray++ws.toArray=(vs++ws).toArray:=by simp
 by_cases hw:ws=[]
 ·exact concat_meets ⟨_,ho,rfl⟩ ⟨_,mw,rfl⟩ noFill_tuple_add seq_tuple_add PySem.F.slot_tuple_add PySem.F.entry_tuple_add (PySem.F.args_tuple_add_2 _ _) (tuple_addW1 t b vs.toArray ws.toArray n n2 dd P8 sl P9 (by simpa using hv) (by simp[hw])) ⟨ho,mw,h1 hw⟩
 ·refine concat_meets ⟨_,ho,rfl⟩ ⟨_,mw,rfl⟩ noFill_tuple_add seq_tuple_add PySem.F.slot_tuple_add PySem.F.entry_tuple_add (PySem.F.args_tuple_add_2 _ _) (tuple_addW2 t b vs.toArray ws.toArray n n2 dd P8 sl P9 (by simpa using hv) (by simpa using hw) (by rw[hG,hG];exact fz)) ⟨ho,mw,?_⟩
  rw[e];exact h2 hw
def cp(n d:Nat):Option Int->Nat
 |none=>d
 |some v=>if v<0 then (v+(n:Int)).toNat else min v.toNat n
theorem db'(n d:Nat)(hd:d<=n)(o:Option Int):cp n d o<=n:=by
 cases o with
 |none=>exact hd
 |some v =>
  show(if v<0 then (v+(n:Int)).toNat else min v.toNat n)<=n;by_cases hv:v<0
  ·rw[if_pos hv];lia
  ·rw[if_neg hv];exact Nat.min_le_right _ _
theorem Wr(v:Int)(n d:Nat):(if v<0 then max (v+(n:Int)) 0 else min v (n:Int))=((cp n d (some v):Nat):Int):=by
 show(if v<0 then max (v+(n:Int)) 0 else min v (n:Int))=(((if v<0 then (v+(n:Int)).toNat else min v.toNat n):Nat):Int)
 by_cases hv:v<0
 ·simp only[if_pos hv];lia
 ·simp only[if_neg hv];lia
theorem dc'(lo hi:Option Int)(n:Nat):Builtin.Slice.sliceAdjust lo hi 1 (n:Int)=(((cp n 0 lo:Nat):Int),((cp n n hi:Nat):Int)):=by
 have h1:¬ ((1:Int)<0):=by decide
 unfold Builtin.Slice.sliceAdjust;simp only[h1,if_false];refine Prod.ext ?_ ?_
 ·cases lo with
  |none=>rfl
  |some v=>exact Wr v n 0
 ·cases hi with
  |none=>rfl
  |some v=>exact Wr v n n
theorem de'(i j:Nat):Builtin.Slice.slicePlaces (i:Int) (j:Int) 1=j-i:=by
 unfold Builtin.Slice.slicePlaces;have h1:(1:Int)>0:=by exact yv _
 simp only[h1,if_true,Int.ediv_one];split<;>lia
theorem Ws(p:IsPart v o)(h:Q o s):aT (aS prog w) A (Builtin.Slice.slicePartIndex v) Q E s:=by
 cases p with
 |none=>exact slicePart_none h
 |int i t=>exact slicePart_int h
theorem df'{sl:ag}{vl vu:ae}{lo hi:Option Int}{n:Nat}{Q:Int × Int × Nat->ay->Prop}(hs:s.heap.IsSliceOf sl vl vu .none)(pl:IsPart vl lo)(pu:IsPart vu hi)(h:Q (((cp n 0 lo:Nat):Int),1,cp n n hi-cp n 0 lo) s):aT (aS prog w) A (Builtin.Slice.sliceApplied (.ref sl) (pure (n:Int))) Q E s:=by
 obtain⟨os,NB,yT,P_⟩:=id hs;unfold Builtin.Slice.sliceApplied Builtin.Slice.sliceFields;refine ah (ah (GB NB P_ (x:=vl) rfl (ah (GB NB P_ (x:=vu) rfl (ah (GB NB P_ (x:=.none) rfl (aI ?_)))))));refine ah (slicePart_none ?_);show aT _ _ (if ((1:Int) == 0)=true then _ else _) _ _ s;rw[if_neg (by decide)];refine ah (Ws pl (ah (Ws pu (ah (aI ?_)))));show aT _ _ (match Builtin.Slice.sliceAdjust lo hi 1 (n:Int) with|(lo,hi)=>pure (lo,(1:Int),Builtin.Slice.slicePlaces lo hi 1)) _ _ s;rw[dc' lo hi n];show aT _ _ (pure (((cp n 0 lo:Nat):Int),(1:Int),Builtin.Slice.slicePlaces ((cp n 0 lo:Nat):Int) ((cp n n hi:Nat):Int) 1)) _ _ s;rw[de'];exact aI h
theorem dg'(xs:Array ae)(i k:Nat):((List.range k).filterMap fun(m:Nat)=>xs[((i:Int)+(m:Int)*1).toNat]?).toArray=((xs.toList.drop i).take k).toArray:=by
 have e:(fun(m:Nat)=>xs[((i:Int)+(m:Int)*1).toNat]?)=fun m=>xs[i+m]? := by
  funext m;have:((i:Int)+(m:Int)*1).toNat=i+m:=by exact(G0 ..).symm
  rw[this]
 rw[e];have:=pick_run xs i k;rw[Sf] at this;have e2:((fun x=>xs[x]?) ∘ fun x=>i+x)=fun m=>xs[i+m]? := rfl;rw[e2] at this;rw[this]
theorem dh'{lo hi:Option Int}(ht:IsTup s.heap t items)(hs:s.heap.IsSliceOf sl vl vu .none)(pl:IsPart vl lo)(pu:IsPart vu hi)(hw:¬ (cp items.size 0 lo=0/\cp items.size items.size hi=items.size))(h:Q (.ref s.heap.objs.size) { s with heap:=s.heap.push { cls:=.type "tuple",data:=.seq ((items.toList.drop (cp items.size 0 lo)).take (cp items.size items.size hi-cp items.size 0 lo)).toArray } }) (fz:items.size<=bS):aT (aS prog w) A (getItem (.ref t) (.ref sl)) Q E s:=by
 have Qa:sizeOk (.seq ((items.toList.drop (cp items.size 0 lo)).take (cp items.size items.size hi-cp items.size 0 lo)).toArray):=by show((items.toList.drop (cp items.size 0 lo)).take (cp items.size items.size hi-cp items.size 0 lo)).toArray.size<=bS;rw[hG,i7,A6,yk];lia
 have hj:cp items.size items.size hi<=items.size:=db' _ _ (da _) hi;obtain⟨os,NB,yT,P_⟩:=id hs;have hTs:s.TypeIs (.ref sl) "slice" := ⟨os,NB,yT⟩
 unfold getItem;try with_reducible refine oy ?_
 first|refine ah (aI ?_)|skip
 refine ah (wpAny_sequenceKey ht.typeIs (by decide) ?_);refine ah (MK (name:=Str.ofString "__getitem__") ht.typeIs PyProof.Rows.slot_tuple_getitem (CD PyProof.Rows.slot_tuple_getitem ht.typeIs entry_tuple_getitem ?_ (args_tuple_getitem _ _)))
 show aT _ _ (Builtin.Tuple.tupleItemsOf (.ref t) >>= _) _ _ s;refine ah (tupleItemsOf_ ht ?_);refine ah (wpAny_typeOf hTs ?_);rw[if_pos (by decide)];refine ah (df' hs pl pu ?_);have Qb:¬ ((((cp items.size 0 lo:Nat):Int) == 0 && (1:Int) == 1 && (cp items.size items.size hi-cp items.size 0 lo) == items.size)=true):=by intro q;rw[k7,k7] at q;have q1:((cp items.size 0 lo:Nat):Int)=0:=eq_of_beq q.1.1;have q2:cp items.size items.size hi-cp items.size 0 lo=items.size:=eq_of_beq q.2;exact hw ⟨by lia,by lia⟩
 show aT _ _ (if (((cp items.size 0 lo:Nat):Int) == 0 && (1:Int) == 1 && (cp items.size items.size hi-cp items.size 0 lo) == items.size)=true then _ else _) _ _ s;rw[if_neg Qb,dg'];first
  |exact ah (m:=Builtin.Tuple.tupleExact _) (qE (aI ⟨_,rfl,aI h⟩) Qa)
  |exact ah (m:=Builtin.Tuple.tupleExact _) (qE (ah (aI (aI ⟨_,rfl,aI h⟩))) Qa)
  |exact ah (ah (m:=Builtin.Tuple.tupleExact _) (qE (aI (aI ⟨_,rfl,aI h⟩)) Qa))
  |exact ah (ah (m:=Builtin.Tuple.tupleExact _) (qE (aI ⟨_,rfl,aI h⟩) Qa))
end
end HT
namespace L2
open PySem PySem.Spec PyProof.Rows
abbrev TO:=St->Hp->(Option Int->Hp->Prop)->Prop
def PO(X:Cx)(e:Option Expr)(t:TO):Prop :=
 ∀ (pins:List (ag × Obj)) (s:ay) (σ:St) (H:Hp) (Q:Option Int->Hp->Prop),Inv X pins σ H s->t σ H Q ->
  aT (aS X.prog X.w) X.A (evalPart e X.env) (fun u s'=>∃ o H',Inv X pins σ H' s'/\IsPart u o/\Q o H') X.xe s
def dk':TO:=fun _ H Q=>Q none H
def dl'(t:TE):TO:=fun σ H Q=>t σ H fun x H1=>∃ i,x=.int i/\Q (some i) H1
section
variable {X:Cx}{e:Expr}{te:TE}{lo hi:Option Expr}{tl th:TO}{pos p2:Pos}
theorem dm':PO X none dk':=by intro pins s σ H Q I h;rw[evalPart_none];exact aI ⟨none,H,I,.none,h⟩
theorem dn'(h:PE X e te):PO X (some e) (dl' te):=by intro pins s σ H Q I hw;rw[evalPart_some];refine dz (h pins s σ H _ I hw) fun u s1 dn=>L2.gL dn fun x H1 I1 r1 q1=>?_;obtain⟨i,rfl,q⟩:=q1;obtain⟨t,rfl⟩:=r1;exact⟨some i,H1,I1,.int i t,q⟩
def L6(X:Cx)(r:V->Option Int->Option Int->Hp->VK->Prop):Prop :=
 ∀ (pins:List (ag × Obj)) (s:ay) (σ:St) (H:Hp) (x:V) (v vl vu:ae) (lo hi:Option Int) (sl:ag) (Q:VK),Inv X pins σ H s->RelV x v->s.heap.IsSliceOf sl vl vu .none->IsPart vl lo->IsPart vu hi->r x lo hi H Q ->
  ∃ T id,typeLookup (.type T) "__getitem__" = pure (some (.builtin id))/\s.TypeIs v T/\aT (aS X.prog X.w) X.A (getItem v (.ref sl)) (EP X pins σ Q) X.xe s
def tSl(r:V->Option Int->Option Int->Hp->VK->Prop)(te:TE)(tl th:TO):TE:=fun σ H Q=>te σ H fun x H1=>tl σ H1 fun l H2=>th σ H2 fun u H3=>r x l u H3 Q
theorem dq'(hr:L6 X r)(he:PE X e te)(hl:PO X lo tl)(hu:PO X hi th):PE X (.Subscript e (.Slice lo hi none p2) pos) (tSl r te tl th):=by intro pins s σ H Q I h;refine Subscript_ (dz (he pins s σ H _ I h) fun v s1 dn=>L2.gL dn fun x H1 I1 r1 q1=>?_);refine wpAny_Slice (dz (hl pins s1 σ H1 _ I1 q1) fun vl s2 dn=>L2.gL dn fun l H2 I2 pl q2=>dz (hu pins s2 σ H2 _ I2 q2) fun vu s3 dn=>L2.gL dn fun u H3 I3 pu q3=>?_);rw[evalPart_none];refine aI ?_;have I4:Inv X pins σ H3 { s3 with heap:=s3.heap.push { cls:=.type "slice",data:=.fields #[vl,vu,.none] } }:=I3.kept (t':=s3.toks) fun b ob q=>fE _ q;obtain⟨T,id,hT,ht,hg⟩:=hr pins { s3 with heap:=s3.heap.push { cls:=.type "slice",data:=.fields #[vl,vu,.none] } } σ H3 x v vl vu l u s3.heap.objs.size Q I4 r1 (Heap.IsSliceOf.new ..) pl pu q3;show aT (aS X.prog X.w) X.A (subscriptTail e (.Slice lo hi none p2) v (.ref s3.heap.objs.size)) (EP X pins σ Q) X.xe { s3 with heap:=s3.heap.push { cls:=.type "slice",data:=.fields #[vl,vu,.none] } };exact tail_any (ops:=[.ref s3.heap.objs.size,v]) ht hT hg (by with_unfolding_all rfl)
def DT(xs:List V)(lo hi:Option Int):List V:=(xs.drop (HT.cp xs.length 0 lo)).take (HT.cp xs.length xs.length hi-HT.cp xs.length 0 lo)
theorem Wt(xs:List V)(lo hi:Option Int):(DT xs lo hi).length<=xs.length:=by unfold DT;rw[i7,A6];lia
def Wu(K:aE):V->Option Int->Option Int->Hp->VK->Prop:=fun x lo hi H Q=>∃ a xs,x=.ref a/\oC K H a xs /\
 ¬ (HT.cp xs.length 0 lo=0/\HT.cp xs.length xs.length hi=xs.length)/\∀ p,H p=none->Q (.ref p) (upd H p (.tup (DT xs lo hi)))
theorem dr':L6 X (Wu X.K):=by
 intro pins s σ H x v vl vu lo hi sl Q I rx hs pl pu h;obtain⟨a,xs,rfl,hx,hw,q⟩:=h;cases rx;obtain⟨its,r,ht,hz⟩:=I.tuple hx;have hlen:its.toArray.size=xs.length:=by rw[hG];exact r.length.symm
 refine⟨"tuple",_,PyProof.Rows.slot_tuple_getitem.lookup,ht.typeIs,?_⟩;refine HT.dh' ht hs pl pu (by rw[hlen];exact hw) ?_ (by rw[hlen];exact hz);rw[hlen];refine⟨.ref s.heap.objs.size,_,I.laid (t':=s.toks) (o:=.tup (DT xs lo hi)) (fun b ob q=>fE _ q) (da _) ?_,rfl,q _ (I.b9.fresh (da _))⟩;exact⟨ky (Wt xs lo hi) hz,_,(r.drop (HT.cp xs.length 0 lo)).take (HT.cp xs.length xs.length hi-HT.cp xs.length 0 lo),IsTup.new _ _⟩
def Tw(K:aE):R2:=fun x y H Q=>∃ a b xs ys,x=.ref a/\y=.ref b/\oC K H a xs/\oC K H b ys/\xs≠[]/\xs.length+ys.length<=bS /\ (ys=[]->Q (.ref a) H)/\(ys≠[]->∀ p,H p=none->Q (.ref p) (upd H p (.tup (xs++ys))))
theorem Vals.Tx(r:Vals xs us):us=[]↔xs=[]:=by
 cases r with
 |nil=>simp
 |cons _ _=>simp
theorem ds':eJ X (px .Add) (Tw X.K):=by intro pins s σ H x y v u Q I rx ry h;obtain⟨a,b,xs,ys,rfl,rfl,ha,hb,hx,hz,q1,q2⟩:=h;cases rx;cases ry;obtain⟨its,r1,p1,_⟩:=I.tuple ha;obtain⟨DU,r2,p2,_⟩:=I.tuple hb;refine HT.cZ' p1 p2 (fun z=>hx (r1.Tx.mp z)) (fun z=>⟨.ref a,H,I,rfl,q1 (r2.Tx.mp z)⟩) (fun z=>?_) (by rw[<- r1.length,<- r2.length];exact hz);refine⟨.ref s.heap.objs.size,_,I.laid (t':=s.toks) (o:=.tup (xs++ys)) (fun b ob q=>fE _ q) (da _) ?_,rfl,q2 (fun w=>z (r2.Tx.mpr w)) _ (I.b9.fresh (da _))⟩;exact⟨by rw[kH];exact hz,_,r1.append r2,IsTup.new _ _⟩
end
def t9(n:Nat)(i:Int):Option Nat:=if 0<=i then (if i<n then some i.toNat else none) else if -(n:Int)<=i then some (i+n).toNat else none
def gV{α:Type}(xs:List α)(i:Int):Option α:=(t9 xs.length i).bind fun j=>xs[j]?
theorem dt'(h:t9 n i=some j):seqIndex? i n=some j/\j<n/\-(n:Int)<=i/\i<n:=by
 unfold t9 at h;by_cases h0:0<=i
 ·rw[if_pos h0] at h;by_cases h1:i<n
  ·rw[if_pos h1] at h;have e:i.toNat=j:=Option.some.inj h;exact⟨by rw[seqIndex_of h0 h1,e],by lia,by lia,h1⟩
  ·rw[if_neg h1] at h;cases h
 ·rw[if_neg h0] at h;by_cases h1:-(n:Int)<=i
  ·rw[if_pos h1] at h;have e:(i+n).toNat=j:=Option.some.inj h;exact⟨by rw[seqIndex_neg (by lia) h1,e],by lia,h1,by lia⟩
  ·rw[if_neg h1] at h;cases h
theorem Tz{α:Type}{xs:List α}{i:Int}{v:α}(h:gV xs i=some v):∃ j,seqIndex? i xs.length=some j/\xs[j]? = some v/\j<xs.length/\-(xs.length:Int)<=i/\i<xs.length:=by
 unfold gV at h
 cases e:t9 xs.length i with
 |none=>rw[e] at h;cases h
 |some j =>rw[e] at h;obtain⟨h1,h2,h3,h4⟩:=dt' e;exact⟨j,h1,h,h2,h3,h4⟩
theorem DV{α:Type}{xs:List α}{j:Nat}{v:α}(h:xs[j]? = some v):gV xs (j:Int)=some v:=by
 have hj:j<xs.length:=(lP.mp h).1;have e:t9 xs.length (j:Int)=some j:=by unfold t9;rw[if_pos (by walk_at "s1"),if_pos (by lia)];simp
 unfold gV;rw[e];exact h
def TB(b:Expr):Prop:=∀ o i,subscripted b false o i=operate [o,i] (getItem o i)
def y1(X:Cx)(r:R2):Prop :=
 ∀ (value slice:Expr) (pins:List (ag × Obj)) (s:ay) (σ:St) (H:Hp) (x y:V) (v u:ae) (Q:VK),Inv X pins σ H s->RelV x v->RelV y u->r x y H Q ->
  subscripted slice false v u=operate [v,u] (getItem v u)->aT (aS X.prog X.w) X.A (subscriptTail value slice v u) (EP X pins σ Q) X.xe s
def Qc(X:Cx)(id:String)(r:V->List V->Hp->VK->Prop):Prop :=
 ∀ (pins:List (ag × Obj)) (s:ay) (σ:St) (H:Hp) (x:V) (xs:List V) (v:ae) (us:List ae) (Q:VK),Inv X pins σ H s->RelV x v->Vals xs us->r x xs H Q ->
  aT (aS X.prog X.w) X.A (call (.builtin id) (v :: us)) (EP X pins σ Q) X.xe s
section
variable {X:Cx}{a b:Expr}{ta tb:TE}{pos:Pos}
theorem y1.or(h:y1 X r)(h':y1 X r'):y1 X (fun x y H Q=>r x y H Q\/r' x y H Q):=by
 intro value slice pins s σ H x y v u Q I rx ry q hs;rcases q with q|q
 ·exact h value slice pins s σ H x y v u Q I rx ry q hs
 ·exact h' value slice pins s σ H x y v u Q I rx ry q hs
theorem Wv{r:R2}(hr:y1 X r)(ha:PE X a ta)(hb:PE X b tb)(hs:TB b):PE X (.Subscript a b pos) (Nv r ta tb):=by intro pins s σ H Q I h;exact Subscript_ (Te ha hb I h fun v u s2 x y H2 I2 rx ry q=>hr a b pins s2 σ H2 x y v u Q I2 rx ry q (hs _ _))
def Ww(K:aE):R2:=fun x y H Q=>∃ p xs i v,x=.ref p/\y=.int i/\fq K H p xs/\gV xs i=some v/\Q v H
def Wx(K:aE):R2:=fun x y H Q=>∃ p xs i v,x=.ref p/\y=.int i/\oC K H p xs/\gV xs i=some v/\Q v H
def Wy:R2:=fun x y H Q=>∃ z i c,x=.str z/\y=.int i/\z.length<=bS/\gV z.cps.toList i=some c/\Q (.str ⟨#[c]⟩) H
theorem du':y1 X (Ww X.K):=by
 intro value slice pins s σ H x y v u Q I rx ry h hs;obtain⟨p,xs,i,z,rfl,rfl,hq,he,q⟩:=h;cases rx;obtain⟨t,rfl⟩:=ry;obtain⟨its,r,pl,hz⟩:=I.list hq;obtain⟨j,h1,h2,h3,h4,h5⟩:=Tz he;obtain⟨w,ew,rS⟩:=r.get h2;have hl:=r.length;have hn:=Nw;have fin:EP X pins σ Q w s:=⟨z,H,I,rS,q⟩
 by_cases h0:0<=i
 ·have hj:i.toNat=j:=by rw[seqIndex_of h0 h5] at h1;exact Option.some.inj h1
  exact item_listR pl.isList h0 (by lia) (by rw[hj];simpa using ew) fin hs
 ·have hj:(i+(its.toArray.size:Int)).toNat=j:=by rw[seqIndex_neg (by exact Int.not_le.mp ‹_›) h4] at h1;rw[hG,<- hl];exact Option.some.inj h1
  exact subscriptTail_builtinR (x:=w) pl.isList.typeIs slot_list_getitem.lookup (wpAny_getItem_list_neg (Q:=fun r s'=>r=w/\EP X pins σ Q r s') pl.isList (by exact Int.not_le.mp ‹_›) (by rw[hG]<;>lia) (by lia) (by rw[hj];simpa using ew) ⟨rfl,fin⟩) hs
theorem dv':y1 X (Wx X.K):=by
 intro value slice pins s σ H x y v u Q I rx ry h hs;obtain⟨p,xs,i,z,rfl,rfl,hq,he,q⟩:=h;cases rx;obtain⟨t,rfl⟩:=ry;obtain⟨its,r,pl,hz⟩:=I.tuple hq;obtain⟨j,h1,h2,h3,h4,h5⟩:=Tz he;obtain⟨w,ew,rS⟩:=r.get h2;have hl:=r.length;have hn:=Nw;have fin:EP X pins σ Q w s:=⟨z,H,I,rS,q⟩
 exact subscriptTail_builtinR (x:=w) pl.typeIs slot_tuple_getitem.lookup (getItem_tuple (j:=j) (Q:=fun r s'=>r=w/\EP X pins σ Q r s') pl (by lia) (by lia) (by rw[hG,<- hl];exact h1) (by simpa using ew) ⟨rfl,fin⟩) hs
theorem dw':y1 X Wy:=by
 intro value slice pins s σ H x y v u Q I rx ry h hs;obtain⟨z,i,c,rfl,rfl,hz,he,q⟩:=h;obtain⟨t,rfl⟩:=rx;obtain⟨t',rfl⟩:=ry;obtain⟨j,h1,h2,h3,h4,h5⟩:=Tz he;have hl:z.cps.toList.length=z.length:=by simp[Str.length]
 rw[hl] at h1 h4 h5;have hn:=Nw;exact tail_any (typeIs_str s z t) slot_str_getitem.lookup (getItem_str (c:=c) (by
  have e1:decide (i < -(2 ^ 63:Int))=false:=decide_eq_false (by lia);have e2:decide (i >= 2 ^ 63)=false:=decide_eq_false (by lia);rw[e1,e2,Bool.or_false]) (by rw[h1];simpa using h2) ⟨.str ⟨#[c]⟩,H,I.tok _,⟨_,rfl⟩,q⟩) hs
def rIx(K:aE):R2:=fun x y H Q=>Ww K x y H Q\/Wx K x y H Q\/Wy x y H Q
theorem dy':y1 X (rIx X.K):=du'.or (dv'.or dw')
theorem dz'(lo hi:Option Int)(n:Nat):(GH lo hi none n).1=((HT.cp n 0 lo:Nat):Int)/\(GH lo hi none n).2.1=((HT.cp n n hi:Nat):Int)/\(GH lo hi none n).2.2=1:=by
 refine⟨?_,?_,rfl⟩
 ·cases lo with
  |none=>simp[GH,HT.cp]
  |some i =>
   simp only[GH,HT.cp,Option.getD_none,show(1:Int)>0 by decide,if_true];by_cases h:i<0
   ·simp only[h,if_true]<;>lia
   ·simp only[h,if_false]<;>lia
 ·cases hi with
  |none=>simp[GH,HT.cp]
  |some i =>
   simp only[GH,HT.cp,Option.getD_none,show(1:Int)>0 by decide,if_true];by_cases h:i<0
   ·simp only[h,if_true]<;>lia
   ·simp only[h,if_false]<;>lia
theorem dA'(its:List ae)(lo hi:Option Int):slicePick its.toArray lo hi none=((its.drop (HT.cp its.length 0 lo)).take (HT.cp its.length its.length hi-HT.cp its.length 0 lo)).toArray:=by obtain⟨h1,h2,h3⟩:=dz' lo hi its.toArray.size;unfold slicePick;rw[h1,h2,h3];simp only[sliceRange_one,pick_run,hG]<;>rfl
def dB'(K:aE):V->Option Int->Option Int->Hp->VK->Prop:=fun x lo hi H Q=>∃ a xs,x=.ref a/\fq K H a xs/\∀ p,H p=none->Q (.ref p) (upd H p (.lst (DT xs lo hi)))
theorem dC':L6 X (dB' X.K):=by intro pins s σ H x v vl vu lo hi sl Q I rx hs pl pu h;obtain⟨a,xs,rfl,hx,q⟩:=h;cases rx;obtain⟨its,r,ht,hz⟩:=I.list hx;have hlen:=r.length;refine⟨"list",_,slot_list_getitem.lookup,ht.isList.typeIs,?_⟩;refine wpAny_getItem_list_slice ht.isList hs pl pu .none (by simp) ?_ (by rw[hG]<;>lia);rw[dA',<- hlen];refine⟨.ref s.heap.objs.size,_,I.laid (t':=s.toks) (o:=.lst (DT xs lo hi)) (fun b ob q=>fE _ q) (da _) ?_,rfl,q _ (I.b9.fresh (da _))⟩;exact⟨ky (Wt xs lo hi) hz,_,0,(r.drop (HT.cp xs.length 0 lo)).take (HT.cp xs.length xs.length hi-HT.cp xs.length 0 lo),ku _ rfl⟩
def BO:V->Bool
 |.non=>true
 |.bl _=>true
 |.int _=>true
 |.str _=>true
 |_=>false
def DZ:V->V->Bool
 |.non,.non=>true
 |.bl a,.bl b=>a == b
 |.bl a,.int b=>(if a then 1 else 0) == b
 |.int a,.bl b=>a == (if b then 1 else 0)
 |.int a,.int b=>a == b
 |.str a,.str b=>a == b
 |_,_=>false
theorem dD'(ry:RelV y u)(rx:RelV x v)(fy:BO y=true)(fx:BO x=true):SeqAt.EqAt A s u v (DZ y x):=by
 cases y with
 |non =>
  cases ry
  cases x with
  |non=>cases rx;exact SeqAt.EqAt.same _
  |bl b=>cases rx;exact SeqAt.EqAt.none_bool b
  |int b=>obtain⟨t,rfl⟩:=rx;exact SeqAt.EqAt.none_int b t
  |str b=>obtain⟨t,rfl⟩:=rx;exact SeqAt.EqAt.none_str b t
  |_=>exact absurd (show false=true from fx) kK
 |bl a =>
  cases ry
  cases x with
  |non=>cases rx;exact SeqAt.EqAt.bool_none a
  |bl b=>cases rx;exact SeqAt.EqAt.bool_bool a b
  |int b=>obtain⟨t,rfl⟩:=rx;exact SeqAt.EqAt.bool_int a b t
  |str b=>obtain⟨t,rfl⟩:=rx;exact SeqAt.EqAt.bool_str a b t
  |_=>exact absurd (show false=true from fx) kK
 |int a =>
  obtain⟨t',rfl⟩:=ry
  cases x with
  |non=>cases rx;exact SeqAt.EqAt.int_none a t'
  |bl b=>cases rx;exact SeqAt.EqAt.int_bool a t' b
  |int b=>obtain⟨t,rfl⟩:=rx;exact SeqAt.EqAt.int_int a t' b t
  |str b=>obtain⟨t,rfl⟩:=rx;exact SeqAt.EqAt.int_str a t' b t
  |_=>exact absurd (show false=true from fx) kK
 |str a =>
  obtain⟨t',rfl⟩:=ry
  cases x with
  |non=>cases rx;exact SeqAt.EqAt.str_none a t'
  |bl b=>cases rx;exact SeqAt.EqAt.str_bool a t' b
  |int b=>obtain⟨t,rfl⟩:=rx;exact SeqAt.EqAt.str_int a t' b t
  |str b=>obtain⟨t,rfl⟩:=rx;exact SeqAt.EqAt.str_str a t' b t
  |_=>exact absurd (show false=true from fx) kK
 |_=>exact absurd (show false=true from fy) kK
def ua(x:V)(u:ae):Bool:=match u with
 |.none=>DZ .non x
 |.bool b=>DZ (.bl b) x
 |.int i _=>DZ (.int i) x
 |.str z _=>DZ (.str z) x
 |_=>false
theorem Wz(r:RelV y u)(f:BO y=true):ua x u=DZ y x:=by
 cases y with
 |non=>cases r;rfl
 |bl b=>cases r;rfl
 |int i=>obtain⟨t,rfl⟩:=r;rfl
 |str z=>obtain⟨t,rfl⟩:=r;rfl
 |_=>exact absurd (show false=true from f) kK
theorem NC:∀ {xs:List V} {us:List ae},Vals xs us->xs.all BO=true->us.any (ua x)=xs.any fun y=>DZ y x
 |_,_,.nil,_=>rfl
 |y :: xs,u :: us,.cons r t,f=>by rw[EV,k7] at f;rw[GV,GV,Wz r f.1,NC t f.2]
theorem ND(rx:RelV x v)(fx:BO x=true):∀ {xs:List V} {us:List ae},Vals xs us->xs.all BO=true->∀ u∈us,SeqAt.EqAt A s u v (ua x u)
 |_,_,.nil,_=>fun u hu=>by cases hu
 |y :: xs,u :: us,.cons r t,f=>fun u' hu=>by
  rw[EV,k7] at f;rcases eM.mp hu with rfl|hu
  ·rw[Wz r f.1];exact dD' r rx f.1 fx
  ·exact ND rx fx t f.2 u' hu
def Qe(x:V)(xs:List V):Bool:=xs.any fun y=>DZ y x
def NF(K:aE)(neg:Bool):R2:=fun x y H Q=>∃ p xs,y=.ref p/\(fq K H p xs\/oC K H p xs)/\BO x=true/\xs.all BO=true/\Q (.bl (if neg then !Qe x xs else Qe x xs)) H
theorem dE':eJ X (hV .In) (NF X.K false):=by
 intro pins s σ H x y v u Q I rx ry h;obtain⟨p,xs,rfl,hq,fx,fs,q⟩:=h;cases ry;rcases hq with hq|hq
 ·obtain⟨its,r,pl,hz⟩:=I.list hq;refine SeqAt.in_listAt (ua x) pl.isList (fun w hw=>ND rx fx r fs w (by simpa using hw)) ⟨.bl _,H,I,rfl,?_⟩;rw[show its.toArray.any (ua x)=its.any (ua x) by simp,NC r fs];exact q
 ·obtain⟨its,r,pl,hz⟩:=I.tuple hq;refine SeqAt.in_tupleAt (ua x) pl (fun w hw=>ND rx fx r fs w (by simpa using hw)) ⟨.bl _,H,I,rfl,?_⟩;rw[show its.toArray.any (ua x)=its.any (ua x) by simp,NC r fs];exact q
theorem dF':eJ X (hV .NotIn) (NF X.K true):=by
 intro pins s σ H x y v u Q I rx ry h;obtain⟨p,xs,rfl,hq,fx,fs,q⟩:=h;cases ry;rcases hq with hq|hq
 ·obtain⟨its,r,pl,hz⟩:=I.list hq;refine SeqAt.notIn_listAt (ua x) pl.isList (fun w hw=>ND rx fx r fs w (by simpa using hw)) ⟨.bl _,H,I,rfl,?_⟩;rw[show its.toArray.any (ua x)=its.any (ua x) by simp,NC r fs];exact q
 ·obtain⟨its,r,pl,hz⟩:=I.tuple hq;refine SeqAt.notIn_tupleAt (ua x) pl (fun w hw=>ND rx fx r fs w (by simpa using hw)) ⟨.bl _,H,I,rfl,?_⟩;rw[show its.toArray.any (ua x)=its.any (ua x) by simp,NC r fs];exact q
theorem oI.or(h:oI X f r)(h':oI X f r'):oI X f (fun xs H Q=>r xs H Q\/r' xs H Q):=by
 intro pins s σ H xs us Q I rs q;rcases q with q|q
 ·exact h pins s σ H xs us Q I rs q
 ·exact h' pins s σ H xs us Q I rs q
theorem dG':oI X (.type "list") (fun xs H Q=>∃ p ys,xs=[.ref p]/\(fq X.K H p ys\/oC X.K H p ys)/\∀ l,H l=none->Q (.ref l) (upd H l (.lst ys))):=by
 intro pins s σ H xs us Q I r h;obtain⟨p,ys,rfl,hq,q⟩:=h;obtain⟨u,rfl,rx⟩:=vals1 r;cases rx;have fin:∀ (its:List ae),Vals ys its->ys.length<=bS->∀ (h':cE) (c':Nat),(∀ b o',s.heap.get? b=some o'->h'.get? b=some o') ->
   h'.get? s.heap.objs.size=some { cls:=.type "list",dict:=none,data:=.seq its.toArray c',slots:=#[] }->EP X pins σ Q (.ref s.heap.objs.size) { s with heap:=h' }:=fun its r' hz h' c' kp e =>
  ⟨.ref s.heap.objs.size,_,I.laid (t':=s.toks) kp (da _) (show gS X.prog X.w _ h' _ (.lst ys) from⟨hz,its,c',r',e⟩),rfl,q _ (I.b9.fresh (da _))⟩
 rcases hq with hq|hq
 ·obtain⟨its,r',pl,hz⟩:=I.list hq;have hlen:=r'.length;obtain⟨o,ho,hc,n,hd⟩:=pl.isList;exact call_list_seq p (.inl rfl) ho hc hd (fun h' c' kp e=>fin its r' hz h' c' kp e) (by simp only[hG]<;>lia)
 ·obtain⟨its,r',pl,hz⟩:=I.tuple hq;have hlen:=r'.length;obtain⟨o,ho,hc,n,hd⟩:=pl;exact call_list_seq p (.inr rfl) ho hc hd (fun h' c' kp e=>fin its r' hz h' c' kp e) (by simp only[hG]<;>lia)
def Qf(K:aE)(T:String)(x:V)(H:Hp):Prop:=match x with
 |.str _=>T = "str"
 |.int _=>T = "int"
 |.ref p=>(T = "list"/\∃ xs,fq K H p xs)\/(T = "tuple"/\∃ o,K.lookup p=some o/\o.cls=.type "tuple"/\o.dict=none) \/
   (T = "dict"/\((∃ kvs,H p=some (.dK kvs))\/∃ kvs,H p=some (.dT kvs)))\/(T = "set"/\∃ S n,H p=some (.set S n))
 |_=>False
theorem WC{T:String}(I:Inv X pins σ H s)(r:RelV x v)(ty:Qf X.K T x H) :
  s.TypeIs v T/\∀ a,v=.ref a->∃ ob,s.heap.get? a=some ob/\ob.dict=none:=by
 cases x with
 |str z =>obtain⟨t,rfl⟩:=r;cases (show T = "str" from ty);exact⟨typeIs_str s z t,fun _ e=>nomatch e⟩
 |int i =>obtain⟨t,rfl⟩:=r;cases (show T = "int" from ty);exact⟨typeIs_int s i t,fun _ e=>nomatch e⟩
 |ref p =>
  cases r;rcases ty with⟨rfl,xs,hq⟩|⟨rfl,o,hk,hc,hd⟩|⟨rfl,hk⟩|⟨rfl,S,n,hk⟩
  ·obtain⟨its,_,pl,_⟩:=I.list hq;refine⟨pl.isList.typeIs,fun a e=>?_⟩;cases e;obtain⟨o,n,e,c,hd,_⟩:=pl;exact⟨o,e,hd⟩
  ·refine⟨⟨o,I.kB p o hk,hc⟩,fun a e=>?_⟩;cases e;exact⟨o,I.kB _ o hk,hd⟩
  ·have z:∃ o,s.heap.get? p=some o/\o.ExactDict:=by
    rcases hk with⟨kvs,hk⟩|⟨kvs,hk⟩
    ·obtain⟨_,_,_,_,o,_,_,e,ex,_⟩:=I.b9 p _ hk;exact⟨o,e,ex⟩
    ·obtain⟨_,_,_,_,o,_,_,e,ex,_⟩:=I.b9 p _ hk;exact⟨o,e,ex⟩
   obtain⟨o,e,ex⟩:=z;refine⟨⟨o,e,ex.1⟩,fun a e2=>?_⟩;cases e2;exact⟨o,e,ex.2.1⟩
  ·obtain⟨o,_,_,_,e,ex,_⟩:=I.b9 p _ hk;refine⟨⟨o,e,ex.1⟩,fun a e2=>?_⟩;cases e2;exact⟨o,e,ex.2.1⟩
 |_=>exact False.elim ty
def dH'(K:aE)(T:String)(r:V->List V->Hp->VK->Prop)(to:TE):TE:=fun σ H Q=>to σ H fun x H1=>Qf K T x H1/\r x [] H1 Q
def tBM(K:aE)(T:String)(r:V->List V->Hp->VK->Prop)(to:TE)(t:TA):TE:=fun σ H Q=>to σ H fun x H1=>Qf K T x H1/\t σ H1 fun xs H2=>r x xs H2 Q
variable {o e:Expr}{es:List Expr}{to:TE}{t:TA}{name:Str}{apos dE:Pos}{T id:String}{r:V->List V->Hp->VK->Prop}
theorem WD (pa:PlainAttrs T) (slot:Slot T name id) (E9:typeOf (.builtin id)=pure (.type "method_descriptor")) (hm:Qc X id r) (ho:PE X o to)(oP:ya o name X.env (cv o X.env)=cv o X.env:=by rfl) (hline:(apos.endLine == dE.line)=true:=by rfl):PE X (.Call (.Attribute o name apos) [] [] dE) (dH' X.K T r to):=by
 intro pins s σ H Q I h;refine wpAny_Call_method0_late oP hline (dz (ho pins s σ H _ I h) fun v s1 d4=>?_);obtain⟨x,H1,I1,r1,ty,q1⟩:=d4;obtain⟨h1,h2⟩:=WC I1 r1 ty;exact⟨T,id,pa,slot,E9,h1,h2,Calls.callWith_builtin rfl (PySem.evalArgs_none (hm pins s1 σ H1 x [] v [] Q I1 r1 .nil q1))⟩
theorem L7 (pa:PlainAttrs T) (slot:Slot T name id) (E9:typeOf (.builtin id)=pure (.type "method_descriptor")) (hm:Qc X id r) (ho:PE X o to) (ha:PA X (e :: es) t)(oP:ya o name X.env (cv o X.env)=cv o X.env:=by rfl) (rU:((iP dE (bI (e :: es) X.env)).all (fun x=>!x.1) && (backToKw dE (CF [] X.env)).all (fun x=>x.1.isSome)
   && decide ((e :: es).length+([]:List pz).length+(if ([]:List pz).isEmpty then 0 else 1)<30))=true:=by rfl)
  (hline:(apos.endLine == dE.line)=true:=by rfl) (hs:bI (e :: es) X.env=(false,cv e X.env) :: bI es X.env:=by rfl) (w_:(iP dE (bI es X.env)).any (·.1)=false:=by rfl) :
  PE X (.Call (.Attribute o name apos) (e :: es) [] dE) (tBM X.K T r to t):=by
 intro pins s σ H Q I h;refine wpAny_Call_method_late oP rU hline rfl (dz (ho pins s σ H _ I h) fun v s1 d4=>?_);obtain⟨x,H1,I1,r1,ty,q1⟩:=d4;obtain⟨h1,h2⟩:=WC I1 r1 ty;refine⟨T,id,pa,slot,E9,h1,h2,?_⟩;have hA:=ha dE pins s1 σ H1 _ I1 q1;rw[hs] at hA ⊢;refine Calls.callWith_builtin (by show(false || (iP dE (bI es X.env)).any (·.1))=false;rw[w_]<;>rfl) (Calls.evalArgs_plain ?_);exact dz hA fun us s2 dn=>L2.gL dn fun vs H2 I2 r2 q2=>hm pins s2 σ H2 x vs v us Q I2 r1 r2 q2
end
def NH(X:Cx)(id:String)(r:V->List V->Hp->VK->Prop):Prop :=
 ∀ (pins:List (ag × Obj)) (s:ay) (σ:St) (H:Hp) (x:V) (xs:List V) (v:ae) (us:List ae) (Q:VK),Inv X pins σ H s->RelV x v->Vals xs us->r x xs H Q ->
  aT (aS X.prog X.w) X.A (call (.builtin id) (v :: us)) (EP X pins σ Q) X.xe s
theorem Vals.one{x:V}{us:List ae}(h:Vals [x] us):∃ u,us=[u]/\RelV x u:=by cases h;rename_i r h;cases h;exact⟨_,rfl,‹_›⟩
theorem Vals.two{x y:V}{us:List ae}(h:Vals [x,y] us):∃ u v,us=[u,v]/\RelV x u/\RelV y v:=by cases h;rename_i r h;cases h;rename_i q h;cases h;exact⟨_,_,rfl,‹_›,‹_›⟩
theorem Vals.zero:∀ {us:List ae},Vals [] us->us=[]
 |_,.nil=>rfl
theorem Vals.eraseIdx:∀ {xs:List V} {us:List ae} (i:Nat),Vals xs us->Vals (xs.eraseIdx i) (us.eraseIdx i)
 |_,_,_,.nil=>.nil
 |_,_,0,.cons _ t=>t
 |_,_,i+1,.cons r t=>.cons r (Vals.eraseIdx i t)
theorem WH{α:Type}:∀ (l:List α) (i:Nat),(l.eraseIdx i).length<=l.length
 |[],_=>da _
 |_ :: _,0=>Nat.le_succ _
 |_ :: r,i+1=>Nat.succ_le_succ (WH r i)
section
variable {X:Cx}{pins:List (ag × Obj)}{σ:St}{H:Hp}{s:ay}{l:ag}{xs ys:List V}
theorem Inv.NJ{its its':List ae}{n:Nat}{f:Array ae->Array ae}{t':Nat}(I:Inv X pins σ H s)(hH:H l=some (.lst xs))(e:s.heap.get? l=some { cls:=.type "list",data:=.seq its.toArray n }) (hf:f its.toArray=its'.toArray) (hv:Vals ys its') (hz:ys.length<=bS) :
  Inv X pins σ (upd H l (.lst ys)) { s with heap:=s.heap.update l (Obj.mapSeq f),toks:=t' }:=by
 have q:=PySem.IsL.update e f;rw[hf] at q;refine I.write (x:=l) (e:=l) (by rw[hH];exact trivial) (.inl rfl) (fun b' u hb hu=>(CY s.heap (Obj.mapSeq f) (Ne.symm hb)).trans hu) ⟨_,q⟩ ?_;exact⟨hz,its',_,hv,q⟩
theorem Inv.WK(I:Inv X pins σ H s)(hv:Vals ys its)(hz:ys.length<=bS) :
  Inv X pins σ (upd H s.heap.objs.size (.lst ys)) { s with heap:=s.heap.push { cls:=.type "list",data:=.seq its.toArray },toks:=t' } :=
 I.laid (fun _ _ q=>fE _ q) (da _) ⟨hz,its,0,hv,ku _ rfl⟩
theorem Inv.fresh(I:Inv X pins σ H s):H s.heap.objs.size=none:=I.b9.fresh (da _)
theorem Inv.L8 (I:Inv X pins σ H s) (hH:H l=some (.lst xs)):xs.length<=bS/\∃ (its:List ae) (n:Nat),Vals xs its/\xs.length=its.length/\s.heap.get? l=some { cls:=.type "list",data:=.seq its.toArray n }:=by obtain⟨z,its,n,r,e⟩:=I.b9 l _ hH;exact⟨z,its,n,r,r.length,e⟩
theorem dJ'(h:n<=bS):Builtin.List.listTooLong n=false:=by unfold Builtin.List.listTooLong;exact decide_eq_false (by lia)
end
section
variable {X:Cx}
def WL:V->List V->Hp->VK->Prop:=fun x vs H Q=>∃ l xs y,x=.ref l/\vs=[y]/\H l=some (.lst xs)/\xs.length<bS/\Q .non (upd H l (.lst (xs++[y])))
theorem TC:NH X "list.append" WL:=by intro pins s σ H x vs v us Q I rx rv h;obtain⟨l,xs,y,rfl,rfl,hH,hz,q⟩:=h;cases rx;obtain⟨u,rfl,ru⟩:=rv.one;obtain⟨z,its,n,r,hl,e⟩:=I.L8 hH;refine call_meets F.slot_list_append ⟨_,e,rfl⟩ F.entry_list_append (F.args_list_append_2 _ _) (PySem.list_append l its.toArray n u (by rw[hG];lia)) ⟨e,?_⟩;refine⟨.non,_,I.NJ (its':=its++[u]) hH e (by simp) (r.append (.cons ru .nil)) ?_,rfl,q⟩;rw[kH,List.length_singleton];assumption
def dK':V->List V->Hp->VK->Prop:=fun x vs H Q=>∃ l b xs zs,x=.ref l/\vs=[.ref b]/\H l=some (.lst xs)/\H b=some (.lst zs)/\xs.length+zs.length<=bS/\Q .non (upd H l (.lst (xs++zs)))
theorem dL':NH X "list.extend" dK':=by
 intro pins s σ H x vs v us Q I rx rv h;obtain⟨l,b,xs,zs,rfl,rfl,hH,hB,hz,q⟩:=h;cases rx;obtain⟨u,rfl,ru⟩:=rv.one;cases ru;obtain⟨z,its,n,r,hl,e⟩:=I.L8 hH;obtain⟨z2,DU,n2,r2,y3,e2⟩:=I.L8 hB;have fz:its.toArray.size+DU.toArray.size<=bS:=by rw[hG,hG];lia
 have dM':¬ (!its.toArray.isEmpty && Builtin.List.listTooLong (its.toArray.size+DU.toArray.size))=true:=by rw[dJ' fz,Bool.and_false];exact kK
 refine call_meets F.slot_list_extend ⟨_,e,rfl⟩ F.entry_list_extend (F.args_list_extend_2 _ _) (AutoSeq1.list_extend_list_list_0 l its.toArray n b DU.toArray n2 dM' (by rw[hG];lia) (by lia)) ⟨e,e2,?_⟩
 refine⟨.non,_,I.NJ (its':=its++DU) hH e (by simp) (r.append r2) ?_,rfl,q⟩;rw[kH];lia
def dN':V->List V->Hp->VK->Prop:=fun x vs H Q=>∃ l xs i k y,x=.ref l/\vs=[.int i]/\H l=some (.lst xs)/\-(2 ^ 63)<=i/\i<2 ^ 63/\seqIndex? i xs.length=some k/\xs[k]? = some y/\Q y (upd H l (.lst (xs.eraseIdx k)))
theorem dO':NH X "list.pop" dN':=by
 intro pins s σ H x vs v us Q I rx rv h;obtain⟨l,xs,i,k,y,rfl,rfl,hH,h1,h2,hk,hy,q⟩:=h;cases rx;obtain⟨u,rfl,ru⟩:=rv.one;obtain⟨t,rfl⟩:=ru;obtain⟨z,its,n,r,hl,e⟩:=I.L8 hH;obtain⟨w,hw,rS⟩:=r.get hy;refine call_meets F.slot_list_pop ⟨_,e,rfl⟩ F.entry_list_pop (F.args_list_pop_2 _ _) (MeetsSeq.list_pop_at l its.toArray n i t k w (fitsIndex_both h1 h2) (by rw[hG,<- hl];exact hk) (by rw[<- oa];exact hw) (by rw[hG];lia)) ⟨e,?_⟩
 refine⟨y,_,I.NJ (its':=its.eraseIdx k) hH e ?_ (r.eraseIdx k) ?_,rS,q⟩
 ·show its.toArray.eraseIdxIfInBounds k=(its.eraseIdx k).toArray;rw[List.eraseIdxIfInBounds_toArray]
 ·have:=WH xs k;lia
def dP':V->List V->Hp->VK->Prop:=fun x vs H Q=>∃ l xs,x=.ref l/\vs=[]/\H l=some (.lst xs)/\Q .non (upd H l (.lst []))
theorem dQ':NH X "list.clear" dP':=by intro pins s σ H x vs v us Q I rx rv h;obtain⟨l,xs,rfl,rfl,hH,q⟩:=h;cases rx;have TF:=rv.zero;subst TF;obtain⟨z,its,n,r,hl,e⟩:=I.L8 hH;refine call_meets F.slot_list_clear ⟨_,e,rfl⟩ F.entry_list_clear (F.args_list_clear_1 _) (AutoSeq1.list_clear_list_0 l its.toArray n (by rw[hG];lia)) ⟨e,?_⟩;exact⟨.non,_,I.NJ (its':=[]) (ys:=[]) hH e rfl .nil (eT _),rfl,q⟩
theorem len_rep{α:Type}(xs:List α)(k:Nat):(List.replicate k xs).flatten.length=k*xs.length:=by
 induction k with
 |zero=>simp
 |succ k ih=>rw[R_,List.flatten_cons,kH,ih,Nat.succ_mul,M_]
end
section
set_option maxRecDepth 100000 in
end
section
variable {κ:Type}[DecidableEq κ]
def g7(kvs:List (κ × V))(k:κ):Option V:=(kvs.find? fun kv=>decide (kv.1=k)).map (·.2)
def putK(kvs:List (κ × V))(k:κ)(v:V):List (κ × V) :=
 if (kvs.any fun kv=>decide (kv.1=k))=true then kvs.map (fun kv=>if kv.1=k then (kv.1,v) else kv) else kvs++[(k,v)]
def WM(kvs:List (κ × V))(k:κ):List (κ × V):=kvs.filter fun kv=>decide (kv.1≠k)
theorem xa{p:κ × V}{r:List (κ × V)}{k:κ}(e:p.1=k):g7 (p :: r) k=some p.2:=by simp[g7,Ly,e]
theorem xh{p:κ × V}{r:List (κ × V)}{k:κ}(e:¬ p.1=k):g7 (p :: r) k=g7 r k:=by simp[g7,Ly,e]
theorem NK(k:κ):∀ kvs:List (κ × V),(kvs.any fun kv=>decide (kv.1=k))=(g7 kvs k).isSome
 |[]=>rfl
 |p :: r=>by
  rw[GV];by_cases e:p.1=k
  ·simp only[xa e,decide_eq_true e,Bool.true_or,Option.isSome_some]
  ·rw[xh e,decide_eq_false e,Bool.false_or];exact NK k r
theorem WN(k j:κ)(y:V):∀ kvs:List (κ × V),g7 (kvs.map fun kv=>if kv.1=k then (kv.1,y) else kv) j=(g7 kvs j).map fun x=>if j=k then y else x
 |[]=>rfl
 |p :: r=>by
  have ih:=WN k j y r;rw[iF];by_cases h:p.1=k
  ·rw[if_pos h];by_cases e:p.1=j
   ·rw[xa (p:=(p.1,y)) e,xa e,PJ,if_pos (e.symm.trans h)]
   ·rw[xh (p:=(p.1,y)) e,xh e,ih]
  ·rw[if_neg h];by_cases e:p.1=j
   ·rw[xa (p:=p) e,xa e,PJ,if_neg (fun z=>h (e.trans z))]
   ·rw[xh (p:=p) e,xh e,ih]
theorem WQ(k j:κ)(y:V):∀ kvs:List (κ × V),g7 kvs k=none->g7 (kvs++[(k,y)]) j=if j=k then some y else g7 kvs j
 |[],_=>by
  by_cases e:k=j
  ·rw[if_pos e.symm];exact xa (p:=(k,y)) e
  ·rw[if_neg (fun z=>e z.symm)];exact xh (p:=(k,y)) e
 |p :: r,hn=>by
  rw[Pq];have hk:¬ p.1=k:=fun z=>by rw[xa z] at hn;cases hn
  rw[xh hk] at hn;have ih:=WQ k j y r hn;by_cases e:p.1=j
  ·rw[xa e,xa e,if_neg (fun z=>hk (e.trans z))]
  ·rw[xh e,xh e,ih]
theorem dR'(kvs:List (κ × V))(k j:κ)(y:V):g7 (putK kvs k y) j=if j=k then some y else g7 kvs j:=by
 unfold putK;by_cases a:(kvs.any fun kv=>decide (kv.1=k))=true
 ·rw[if_pos a,WN];rw[NK] at a;by_cases e:j=k
  ·obtain⟨x,hx⟩:=Option.isSome_iff_exists.mp a;rw[if_pos e,e,hx,PJ,if_pos rfl]
  ·rw[if_neg e]
   cases g7 kvs j with
   |none=>rfl
   |some x=>rw[PJ,if_neg e]
 ·rw[if_neg a];refine WQ k j y kvs ?_;rw[NK] at a
  cases q:g7 kvs k with
  |none=>rfl
  |some x=>rw[q] at a;exact(a rfl).elim
theorem dS'(kvs:List (κ × V))(k:κ)(v:V):(putK kvs k v).length<=kvs.length+1:=by
 unfold putK;split
 ·rw[cK];exact LC _ _
 ·rw[kH,sA,List.length_nil];exact da _
theorem wt.NM(r:wt o u):o.isSome=u.isSome:=by
 cases o with
 |none=>cases u with
  |none=>rfl
  |some _=>exact(show False from r).elim
 |some _=>cases u with
  |none=>exact(show False from r).elim
  |some _=>rfl
theorem wt.getD(r:wt o u)(rd:RelV d d'):RelV (o.getD d) (u.getD d'):=by
 cases o with
 |none=>cases u with
  |none=>exact rd
  |some _=>exact(show False from r).elim
 |some _=>cases u with
  |none=>exact(show False from r).elim
  |some _=>exact r
theorem KV.val{kvs:List (κ × V)}{vs:List (κ × ae)}(r:KV kvs vs)(k:κ):wt (g7 kvs k) (valueAt vs k):=by
 unfold KV at r
 induction r with
 |nil=>exact True.intro
 |@cons p q ps qs h t ih =>
  obtain⟨h1,h2⟩:=h;by_cases e:p.1=k
  ·have e':q.1=k:=h1.symm.trans e;have b:valueAt (q :: qs) k=some q.2:=by simp[valueAt,Ly,e']
   rw[xa e,b];exact h2
  ·have e':¬ q.1=k:=fun z=>e (h1.trans z);have b:valueAt (q :: qs) k=valueAt qs k:=by simp[valueAt,Ly,e']
   rw[xh e,b];exact ih
theorem KV.any(r:KV kvs vs)(k:κ):(kvs.any fun kv=>decide (kv.1=k))=vs.any fun kv=>decide (kv.1=k):=by
 unfold KV at r
 induction r with
 |nil=>rfl
 |cons h t ih=>rw[GV,GV,ih,h.1]
theorem KV.repl(r:KV kvs vs)(k:κ)(ry:RelV y u) :
  KV (kvs.map fun kv=>if kv.1=k then (kv.1,y) else kv) (vs.map fun kv=>if kv.1=k then (kv.1,u) else kv):=by
 unfold KV at r ⊢
 induction r with
 |nil=>exact .nil
 |@cons p q ps qs h t ih =>
  rw[iF,iF];refine .cons ?_ ih;obtain⟨h1,h2⟩:=h;by_cases e:p.1=k
  ·rw[if_pos e,if_pos (h1.symm.trans e)];exact⟨h1,ry⟩
  ·rw[if_neg e,if_neg (fun z=>e (h1.trans z))];exact⟨h1,h2⟩
theorem KV.put(r:KV kvs vs)(k:κ)(ry:RelV y u):KV (putK kvs k y) (stored vs k u):=by
 unfold putK stored;rw[r.any k];by_cases e:(vs.any fun kv=>decide (kv.1=k))=true
 ·rw[if_pos e,if_pos e];exact r.repl k ry
 ·rw[if_neg e,if_neg e];exact Paired.snoc r ⟨rfl,ry⟩
theorem KV.drop(r:KV kvs vs)(k:κ):KV (WM kvs k) (without vs k):=by
 unfold KV at r ⊢;unfold WM without
 induction r with
 |nil=>exact .nil
 |@cons p q ps qs h t ih =>
  obtain⟨h1,h2⟩:=h;rw[Lw,Lw];by_cases e:p.1=k
  ·have a:¬ decide (p.1≠k)=true:=by simp[e]
   have b:¬ decide (q.1≠k)=true:=by simp[h1.symm.trans e]
   rw[if_neg a,if_neg b];exact ih
  ·have e':¬ q.1=k:=fun z=>e (h1.trans z);have a:decide (p.1≠k)=true:=by simp[e]
   have b:decide (q.1≠k)=true:=by simp[e']
   rw[if_pos a,if_pos b];exact .cons ⟨h1,h2⟩ ih
theorem KV.length(r:KV kvs vs):kvs.length=vs.length:=Paired.length r
end
theorem NP{P:dr}(r:RelV (kV k) u):(kA P w).is k u=true:=by
 cases k with
 |inl i=>obtain⟨t,e⟩:=(show ∃ t,u=Value.int i t from r);subst e;exact bn' P w i t
 |inr x=>obtain⟨t,e⟩:=(show ∃ t,u=Value.str x t from r);subst e;exact bo' P w x t
theorem Qg{P:dr}:∀ {ks:List Key} {us:List ae},Vals (ks.map kV) us->ItemsAre (kA P w) ks us
 |[],_,r=>by rw[Lz] at r;cases r;exact .nil
 |k :: ks,_,r=>by
  rw[iF] at r
  cases r with
  |cons h t=>exact .cons (NP h) (Qg t)
abbrev KT(H:Hp):List (List Key × V)->List (List Key × ag × ae)->Prop:=Paired fun p q=>p.1=q.1/\H q.2.1=some (.tup (p.1.map kV))/\RelV p.2 q.2.2
theorem KT.val{H:Hp}{kvs:List (List Key × V)}{xs:List (List Key × ag × ae)}(r:KT H kvs xs)(k:List Key):wt (g7 kvs k) ((atKey xs k).map (·.2)):=by
 induction r with
 |nil=>exact True.intro
 |@cons p q ps qs h t ih =>
  obtain⟨h1,_,h2⟩:=h;by_cases e:p.1=k
  ·have e':q.1=k:=h1.symm.trans e;have b:atKey (q :: qs) k=some q.2:=by simp[atKey,Ly,e']
   rw[xa e,b];exact h2
  ·have e':¬ q.1=k:=fun z=>e (h1.trans z);have b:atKey (q :: qs) k=atKey qs k:=by simp[atKey,Ly,e']
   rw[xh e,b];exact ih
theorem KT.repl(r:KT H kvs xs)(k:List Key)(ry:RelV y u) :
  KT H (kvs.map fun kv=>if kv.1=k then (kv.1,y) else kv) (xs.map (putAt k u)):=by
 induction r with
 |nil=>exact .nil
 |@cons p q ps qs h t ih =>
  rw[iF,iF];refine .cons ?_ ih;obtain⟨h1,h2,h3⟩:=h;unfold putAt;by_cases e:p.1=k
  ·rw[if_pos e,if_pos (h1.symm.trans e)];exact⟨h1,h2,ry⟩
  ·rw[if_neg e,if_neg (fun z=>e (h1.trans z))];exact⟨h1,h2,h3⟩
theorem KT.put(r:KT H kvs xs)(k:List Key)(hb:H b=some (.tup (k.map kV)))(ry:RelV y u) :
  KT H (putK kvs k y) (storedH xs k b u):=by
 have e:(kvs.any fun kv=>decide (kv.1=k))=(atKey xs k).isSome:=by rw[NK,(r.val k).NM,SK]
 unfold putK storedH;rw[e];by_cases q:(atKey xs k).isSome=true
 ·rw[if_pos q,if_pos q];exact r.repl k ry
 ·rw[if_neg q,if_neg q];exact Paired.snoc r ⟨rfl,hb,ry⟩
theorem KT.keeps(r:KT H kvs xs)(ht:∀ b ys,H b=some (.tup ys)->H' b=some (.tup ys)):KT H' kvs xs :=
 Paired.SV r fun _ _ z=>⟨z.1,ht _ _ z.2.1,z.2.2⟩
section
variable {P:dr}{w:dA}{H:Hp}{h:cE}{a:ag}
theorem WR(ok:hX P w H h)(e:Rd H a u):gS P w H h a u:=e.ok ok
theorem IA(ok:hX P w H h)(e:Rd H a (.dK kvs)):kvs.length<=bS/\(a == u0)=false/\∃ vs,KV kvs vs/\h.DictOf (kA P w) a vs :=
 show gS P w H h a (.dK kvs) from WR ok e
theorem L9(ok:hX P w H h)(e:H a=some (.tup (ks.map kV))):(CH (kA P w)).is h ks a:=by
 obtain⟨_,its,r,o,h1,h2,n,h3⟩:=(show gS P w H h a (.tup (ks.map kV)) from ok a _ e)
 exact⟨o,its.toArray,n,h1,h2,h3,by simpa using Qg r⟩
theorem IB(ok:hX P w H h)(e:Rd H a (.dT kvs)):kvs.length<=bS/\(a == u0)=false /\
  ∃ xs,KT H kvs xs/\h.DictOfH (CH (kA P w)) a xs:=by
 obtain⟨z,y,xs,r,o,es,ep,h1,h2,h3,h4,h5⟩:=(show gS P w H h a (.dT kvs) from WR ok e)
 refine⟨z,y,xs,r,o,es,ep,h1,h2,h3,h4,fun x hx=>?_,h5⟩;have all:∀ {l:List (List Key × V)} {m:List (List Key × ag × ae)},KT H l m->∀ x∈m,(CH (kA P w)).is h x.1 x.2.1:=by
  intro l m q
  induction q with
  |nil=>intro x hx;exact nomatch hx
  |@cons p q ps qs hq t ih =>
   intro x hx;rcases eM.mp hx with e|hx
   ·subst e;exact L9 ok (by rw[<- hq.1];exact hq.2.1)
   ·exact ih x hx
 exact all r x hx
theorem dT'(ok:hX P w H h)(e:H a=some (.dT kvs)):kvs.length<=bS/\(a == u0)=false /\
  ∃ xs,KT H kvs xs/\h.DictOfH (CH (kA P w)) a xs:=IB ok (.inl e)
end
def mz(H:Hp)(a:ag)(y:V)(r:Option V):Prop :=
 (∃ kvs k,Rd H a (.dK kvs)/\y=kV k/\r=g7 kvs k)\/∃ kvs k b,Rd H a (.dT kvs)/\y=.ref b/\H b=some (.tup (k.map kV))/\r=g7 kvs k
def Qh(H:Hp)(a:ag)(y v:V)(H':Hp):Prop :=
 (∃ kvs k,H a=some (.dK kvs)/\y=kV k/\kvs.length<bS/\H'=upd H a (.dK (putK kvs k v))) \/
 ∃ kvs k b,H a=some (.dT kvs)/\y=.ref b/\H b=some (.tup (k.map kV))/\kvs.length<bS/\H'=upd H a (.dT (putK kvs k v))
theorem mz.k{H:Hp}{a:ag}{kvs:List (Key × V)}{k:Key}(e:H a=some (.dK kvs)):mz H a (kV k) (g7 kvs k):=.inl ⟨kvs,k,.inl e,rfl,rfl⟩
theorem mz.t{H:Hp}{a b:ag}{kvs:List (List Key × V)}{k:List Key}(e:H a=some (.dT kvs))(eb:H b=some (.tup (k.map kV))):mz H a (.ref b) (g7 kvs k):=.inr ⟨kvs,k,b,.inl e,rfl,eb,rfl⟩
theorem Qh.k{H:Hp}{a:ag}{kvs:List (Key × V)}{k:Key}{v:V}(e:H a=some (.dK kvs))(hl:kvs.length<bS):Qh H a (kV k) v (upd H a (.dK (putK kvs k v))):=.inl ⟨kvs,k,e,rfl,hl,rfl⟩
theorem Qh.t{H:Hp}{a b:ag}{kvs:List (List Key × V)}{k:List Key}{v:V}(e:H a=some (.dT kvs))(eb:H b=some (.tup (k.map kV)))(hl:kvs.length<bS) :
  Qh H a (.ref b) v (upd H a (.dT (putK kvs k v))):=.inr ⟨kvs,k,b,e,rfl,eb,hl,rfl⟩
section
variable {X:Cx}{pins:List (ag × Obj)}{σ:St}{H:Hp}{s:ay}{a:ag}{y v:V}{u:ae}{o:Option V}{A:eB}{E:ae->ay->Prop}
theorem Inv.big(I:Inv X pins σ H s):u0<s.heap.objs.size:=by have h:fT<s.heap.objs.size:=(I.mod.glob.keeps I.bk).lt;exact Sv (by decide) h
theorem dU'(hu:A.units+1<gE)(I:Inv X pins σ H s)(g:mz H a y (some v))(ry:RelV y u)(h:∀ w' s',Inv X pins σ H s'->RelV v w'->Q w' s') :
  aT (aS X.prog X.w) A (getItem (.ref a) u) Q E s:=by
 rcases g with⟨kvs,k,e,ey,l⟩|⟨kvs,k,b,e,ey,eb,l⟩
 ·subst ey;obtain⟨z,hd,vs,rel,dd⟩:=IA I.b9 e;obtain⟨w',hw,rS⟩:=wt.some_of (v:=v) (o:=valueAt vs k) (by rw[l];exact rel.val k);exact wpAny_getItem_of (NP ry) dd.mapOf hw (h w' _ (I.tok _) rS)
 ·subst ey;cases (show u=Value.ref b from ry);obtain⟨z,hd,xs,rel,dd⟩:=IB I.b9 e;obtain⟨w',hw,rS⟩:=wt.some_of (v:=v) (o:=(atKey xs k).map (·.2)) (by rw[l];exact rel.val k);obtain⟨p,hp,L_⟩:=Option.map_eq_some_iff.mp hw;refine wpAny_getItem_heap (ML hu) (L9 I.b9 eb) dd hp ?_;rw[L_];exact h w' _ (I.tok _) rS
theorem dV'(hu:A.units+1<gE)(I:Inv X pins σ H s)(g:mz H a y o)(ry:RelV y u)(h:∀ s',Inv X pins σ H s'->Q (.bool o.isSome) s') :
  aT (aS X.prog X.w) A (hV .In u (.ref a)) Q E s:=by
 rcases g with⟨kvs,k,e,ey,l⟩|⟨kvs,k,b,e,ey,eb,l⟩
 ·subst ey;obtain⟨z,hd,vs,rel,dd⟩:=IA I.b9 e;refine wpAny_in_of (NP ry) hd dd.mapOf ?_;rw[<- (rel.val k).NM,<- l];exact h _ (I.tok _)
 ·subst ey;cases (show u=Value.ref b from ry);obtain⟨z,hd,xs,rel,dd⟩:=IB I.b9 e;refine wpAny_in_heap (ML hu) (L9 I.b9 eb) hd dd ?_;have q:=(rel.val k).NM;rw[SK] at q;rw[<- q,<- l];exact h _ (I.tok _)
theorem dW'(hu:A.units+1<gE)(I:Inv X pins σ H s)(g:mz H a y o)(ry:RelV y u)(h:∀ s',Inv X pins σ H s'->Q (.bool (!o.isSome)) s') :
  aT (aS X.prog X.w) A (hV .NotIn u (.ref a)) Q E s:=by
 rcases g with⟨kvs,k,e,ey,l⟩|⟨kvs,k,b,e,ey,eb,l⟩
 ·subst ey;obtain⟨z,hd,vs,rel,dd⟩:=IA I.b9 e;refine wpAny_notIn_of (NP ry) hd dd.mapOf ?_;rw[<- (rel.val k).NM,<- l];exact h _ (I.tok _)
 ·subst ey;cases (show u=Value.ref b from ry);obtain⟨z,hd,xs,rel,dd⟩:=IB I.b9 e;refine wpAny_notIn_heap (ML hu) (L9 I.b9 eb) hd dd ?_;have q:=(rel.val k).NM;rw[SK] at q;rw[<- q,<- l];exact h _ (I.tok _)
theorem dX'(I:Inv X pins σ H s)(mu:Ni (H a))(hs:Heap.SameBut a s.heap h')(he:∃ q,h'.get? a=some q)(new:gS X.prog X.w (upd H a ob) h' a ob) :
  Inv X pins σ (upd H a ob) { s with heap:=h',toks:=t' } :=
 I.write (x:=a) (e:=a) mu (.inl rfl) (fun b q hb z=>(hs.2 b hb).trans z) he new
end
section
variable {X:Cx}{pins:List (ag × Obj)}{σ:St}{H:Hp}{s:ay}{a:ag}{kvs:List (Key × V)}{A:eB}{E:ae->ay->Prop}
theorem dY' (I:Inv X pins σ H s) (e:Rd H a (.dK kvs)) (h:∀ t s',Inv X pins σ H s'->Q (.int kvs.length t) s'):aT (aS X.prog X.w) A (call (.builtin "len") [.ref a]) Q E s:=by obtain⟨z,hd,vs,rel,dd⟩:=IA I.b9 e;refine call_len_dict hd dd (by rw[<- rel.length];rw[hJ] at z;lia) ?_;rw[<- rel.length];exact h _ _ (I.tok _)
end
theorem dZ' {X:Cx} (I:Inv X pins σ H s) (g:mz H a y o):s.TypeIs (.ref a) "dict" := by
 rcases g with⟨kvs,k,e,_,_⟩|⟨kvs,k,b,e,_,_,_⟩
 ·obtain⟨_,_,vs,_,dd⟩:=IA I.b9 e;exact dd.typeIs
 ·obtain⟨_,_,xs,_,dd⟩:=IB I.b9 e;exact dd.typeIs
theorem ea' {P:dr} (h:cE) (hb:u0<h.objs.size):gS P w H (h.push { cls:=.type "dict",data:=.dict #[] }) h.objs.size (.dT []) :=
 ⟨eT _,beq_eq_false_iff_ne.mpr (Ne.symm (gI hb)),[],.nil,_,#[],0,ku _ rfl,⟨rfl,rfl,rfl⟩,rfl,rfl,k9⟩
def eb':TE:=fun _ H Q=>∀ p,H p=none->Q (.ref p) (upd H p (.dT []))
section
variable {X:Cx}{pos:Pos}
theorem ec':PE X (.Dict [] [] pos) eb':=fun pins s σ H Q I h =>
 wpAny_Dict_empty ⟨.ref s.heap.objs.size,_,I.laid (a:=s.heap.objs.size) (o:=.dT []) (t':=s.toks) (fun _ _ q=>fE _ q) (da _) (ea' s.heap I.big),rfl,h _ (I.b9.fresh (da _))⟩
end
structure M1(X:Cx)(o:Expr)(m:Str)(apos:Pos)(e:Expr)(dE:Pos):Prop where
 base:ya o m X.env (cv o X.env)=cv o X.env
 few:((iP dE (bI [e] X.env)).all (fun x=>!x.1) && (backToKw dE (CF [] X.env)).all (fun x=>x.1.isSome)
  && decide (([e]:List Expr).length+([]:List pz).length+(if ([]:List pz).isEmpty then 0 else 1)<30))=true
 line:(apos.endLine == dE.line)=true
 trees:iP dE (bI [e] X.env)=[(false,cv e X.env)]
structure M2(X:Cx)(o:Expr)(m:Str)(apos:Pos)(e f:Expr)(dE:Pos):Prop where
 base:ya o m X.env (cv o X.env)=cv o X.env
 few:((iP dE (bI [e,f] X.env)).all (fun x=>!x.1) && (backToKw dE (CF [] X.env)).all (fun x=>x.1.isSome)
  && decide (([e,f]:List Expr).length+([]:List pz).length+(if ([]:List pz).isEmpty then 0 else 1)<30))=true
 line:(apos.endLine == dE.line)=true
 trees:iP dE (bI [e,f] X.env)=[(false,cv e X.env),(false,cv f X.env)]
def Qi(H:Hp)(a:ag):Prop:=(∃ kvs,Rd H a (.dK kvs))\/∃ kvs,Rd H a (.dT kvs)
theorem WU{X:Cx}(I:Inv X pins σ H s)(d:Qi H a) :
  s.TypeIs (.ref a) "dict"/\(∀ b,Value.ref a=.ref b->∃ ob,s.heap.get? b=some ob/\ob.dict=none)/\(a == u0)=false:=by
 rcases d with⟨kvs,e⟩|⟨kvs,e⟩
 ·obtain⟨_,hd,vs,_,dd⟩:=IA I.b9 e;refine⟨dd.typeIs,fun b q=>?_,hd⟩;cases q;obtain⟨ob,_,_,h1,h2,_⟩:=dd;exact⟨ob,h1,h2.2.1⟩
 ·obtain⟨_,hd,xs,_,dd⟩:=IB I.b9 e;refine⟨dd.typeIs,fun b q=>?_,hd⟩;cases q;obtain⟨ob,_,_,h1,h2,_⟩:=dd;exact⟨ob,h1,h2.2.1⟩
section
variable {X:Cx}{pins:List (ag × Obj)}{σ:St}{H:Hp}{s:ay}{a:ag}{y d:V}{u r:ae}{o:Option V}{A:eB}{E:ae->ay->Prop}
theorem ed'(hu:A.units+1<gE)(I:Inv X pins σ H s)(g:mz H a y o)(ry:RelV y u)(rd:RelV d r)(h:∀ w' s',Inv X pins σ H s'->RelV (o.getD d) w'->Q w' s') :
  aT (aS X.prog X.w) A (call (.builtin "dict.get") [.ref a,u,r]) Q E s:=by
 rcases g with⟨kvs,k,e,ey,l⟩|⟨kvs,k,b,e,ey,eb,l⟩
 ·subst ey;obtain⟨z,hd,vs,rel,dd⟩:=IA I.b9 e;refine call_meetsIn PySem.F.slot_dict_get dd.typeIs PySem.F.entry_dict_get (PySem.F.args_dict_get_3 _ _ _) (meets_dict_get_default (kA X.prog X.w) a (NP ry) hd r) ⟨_,dd.mapOf,h _ _ (I.tok _) ?_⟩;rw[l];exact(rel.val k).getD rd
 ·subst ey;cases (show u=Value.ref b from ry);obtain⟨z,hd,xs,rel,dd⟩:=IB I.b9 e;refine call_meetsIn PySem.F.slot_dict_get dd.typeIs PySem.F.entry_dict_get (PySem.F.args_dict_get_3 _ _ _) (meetsH_dict_get_default (CH (kA X.prog X.w)) a b hd r) ⟨ML hu,k,xs,L9 I.b9 eb,dd,h _ _ (I.tok _) ?_⟩;rw[l];exact(rel.val k).getD rd
end
def WV(td ty tx:TE):TE:=fun σ H Q=>td σ H fun x H1=>∃ a,x=.ref a/\Qi H1 a/\ty σ H1 fun y H2=>tx σ H2 fun z H3=>∃ o,mz H3 a y o/\Q (o.getD z) H3
section
variable {X:Cx}{o e f:Expr}{apos dE:Pos}{td ty tx:TE}
theorem ee' (hu:X.A.units+1<gE) (ho:PE X o td) (he:PE X e ty) (hf:PE X f tx) (m:M2 X o "get" apos e f dE):PE X (.Call (.Attribute o "get" apos) [e,f] [] dE) (WV td ty tx):=by
 intro pins s σ H Q I h;refine wpAny_Call_method m.base m.few m.line PySem.F.plainAttrs_dict PySem.F.slot_dict_get PySem.F.type_dict_get (dz (ho pins s σ H _ I h) fun u s1 d4=>?_);obtain⟨x,H1,I1,rx,a,ex,d,q1⟩:=d4;subst ex;obtain rfl:u=Value.ref a:=rx;obtain⟨t1,t2,_⟩:=WU I1 d;refine⟨t1,t2,?_⟩;rw[m.trees];refine Calls.callWith_builtin rfl (Calls.evalArgs_plain (Calls.spliced_cons (dz (he pins s1 σ H1 _ I1 q1) fun iv s2 dn=>L2.gL dn fun y H2 I2 ry q2 =>
  Calls.spliced_cons (dz (hf pins s2 σ H2 _ I2 q2) fun fv s3 ⟨z,H3,I3,rz,ov,g,q3⟩=>Calls.spliced_nil ?_))))
 exact ed' hu I3 g ry rz fun w' s4 I4 rS=>⟨_,H3,I4,rS,q3⟩
end
end L2
namespace WW
open PySem PySem.W PySem.Calls PyProof.Rows
theorem ef'{P:Params}:∀ (ns:List Int) (vs:List ae),WellAll P h vs (ns.map WData.int)->IntsAre vs ns:=by
 intro ns
 induction ns with
 |nil =>intro vs w;rw[Lz] at w;cases w;exact .nil
 |cons n ns ih =>
  intro vs w;rw[iF] at w
  cases w with
  |cons a b =>cases a;exact .cons _ _ (ih _ b)
theorem eg'{l:OpenLaw}{n:Nat}(hn:l.most=some n){P:Params}{h:cE}{args:List WData}{vals:List ae}(Fc:l.row.toRowW.claim.pre args=true) (TH:WellAll P h vals args) :
  ∃ a vs ns,vals=[Value.ref a]/\args=[WData.list (ns.map WData.int)]/\h.get? a=some { cls:=.type "list",data:=.seq vs.toArray }/\IntsAre vs ns/\ns.length<=n:=by
 have ub:WShape.hasAll [] args [.list .int]=true:=(pre_splitW Fc).1;have hc:l.pre.holds [] { args:=args }=true:=(pre_splitW Fc).2;obtain⟨d,r,rfl,h1,h2⟩:=hasAllW_cons ub;obtain rfl:=hasAllW_nil h2;obtain⟨xs,rfl,h3⟩:=hasW_list h1;obtain⟨ns,rfl⟩:=items_int h3;have hlen:ns.length<=n:=by
  unfold OpenLaw.pre at hc;have h4:(WTm.not (.lt (.lit (.int (n:Int))) (.len (.arg 0)))).holds [] { args:=[.list (ns.map .int)] }=true:=by have h4:=(holds_andW hc).1;rw[hn] at h4;exact h4
  have h5:=condW_of h4 (w_not (w_lt w_lit (w_len_list (w_arg rfl))));rw[cK] at h5;refine M0 fun q=>?_;have q':(n:Int)<((ns.length:Nat):Int):=by lia
  first
   | (rw[decide_eq_true q'] at h5;exact absurd h5 (by decide))
   | (simp at h5;lia)
 cases TH with
 |cons w1 w2 =>
  cases w2
  cases w1 with
  |list ho oj=>exact⟨_,_,ns,rfl,rfl,ho,ef' ns _ oj,hlen⟩
theorem eh'(l:OpenLaw)(args:List WData):l.row.toRowW.claim.post args (.bool true) args=true :=
 postW_of (r:=l.row.toRowW) (X:=(true == true)) (show WShape.has [] (.bool true) .bool=true by first|rfl|decide|simp[WShape.has,WShape.arms,WShape.armsAll]) (show(WTm.eq .res (.lit (.bool true))).value [] { args:=args,res:=some (.bool true),after:=args }=some (.bool (true == true)) from w_eq_bool (w_res rfl) w_lit) rfl
theorem ei'{l:OpenLaw}{n:Nat}{q:dr}{loose:List Str}{XP:(Str->Option ae)->cE->Prop}{YP:dA->cE->Prop}{d:DefRec}(hn:l.most=some n) (NQ:d.params.defaults=[])(call:∀ (w:dA) (ft fm:ay) (mg mb:Str->Option ae) (fa:ag) (o:Obj) (pm cd doc:ae) (a:ag) (vs:List ae) (ns:List Int),
   Ground q loose [] XP w ft mg mb fm.heap->YP w fm.heap ->
   fm.heap.get? fa=some o->o.data=.func (docDef d.name d.params d.body d.scope pm cd doc)->fm.heap.CodeRec cd d.name->mg d.name=some (.ref fa) ->
   fm.heap.get? a=some { cls:=.type "list",data:=.seq vs.toArray }->IntsAre vs ns->ns.length<=n->fm.gens = #[] ->
   codeAny (aS l.prog w) callerA (.call (.ref fa) ⟨[.ref a],[]⟩) (fun r s'=>r=.ok (.ret (.bool true))/\OldK fm.heap s'.heap/\s'.os=fm.os/\AllBare s'.gens) fm) :
  WalkO q loose XP YP l.row.toRowW d [] (fun f vs=>PySem.call f vs):=by
 intro w ft fm mg mb G Y fa o pm cd doc dV kV ho hd rq hD NR hg args vals as Fc hlay hrd TH Fh;obtain rfl:dV=.none:=Dflts.none hD NQ;obtain rfl:kV=.none:=Dflts.noKw hD;obtain⟨a,vs,ns,rfl,rfl,TJ,hints,hlen⟩:=eg' hn Fc TH;refine enter_call (codeAny_mono (call w ft fm mg mb fa o pm cd doc a vs ns G Y ho (fd_plain hd) rq NR TJ hints hlen hg) fun r s' hq=>?_);obtain⟨rfl,h2,h3,h4⟩:=hq;exact⟨.inl ⟨.bool true,.bool true,[],rfl,fun _=>rfl,.bool true,eh' l _,fun _=>⟨List.Pairwise.nil,fun _ hm=>(nomatch hm)⟩⟩,h2,h3,h4⟩
end WW
namespace L2
open PySem PySem.Spec PyProof.Rows
theorem WY:∀ {vs:List ae} {ns:List Int},IntsAre vs ns->Vals (ns.map V.int) vs
 |_,_,.nil=>.nil
 |_,_,.cons n t h=>.cons ⟨t,rfl⟩ (WY h)
def Only(H:Hp):Prop:=∀ b,H b=none\/∃ o xs,H b=some (.nh o (.lst xs))
theorem ej'{P:dr}{K:aE}(KX:K.In fm.heap) (IC:fm.heap.Ns fT mg) (hb:fm.heap.Ns builtinsNs mb) (hbb:∀ x:Str,x ≠ "__name__"->mb x=j3 x) (el':fm.heap.NoLimit) (hg:fm.gens = #[])(ha:fm.heap.get? a=some { cls:=.type "list",data:=.seq vs.toArray }) (hi:IntsAre vs ns) (hl:ns.length<=bS) (hr:kC k callerA) (F:∀ base:cE,K.In base->base.Ns fT mg->t5 P w K mg base CX k fa fd [x] sp) (em':∀ (s:ay) (u:ae),BindsTo s fd ⟨[u],[]⟩ [(x,u)]) (BM:∀ H:Hp,Only H->fq K H a (ns.map V.int)->sp [.ref a] H (fun v _=>v=.bl true) fun _ _ _=>False) (TK:∀ H e s',CX [] H fm (fun _ _ _=>False) e s'->False) :
  codeAny (aS P w) callerA (.call (.ref fa) ⟨[.ref a],[]⟩) (fun r s'=>r=.ok (.ret (.bool true))/\OldK fm.heap s'.heap/\s'.os=fm.os/\AllBare s'.gens) fm:=by
 have rv:=WY hi;have en':=hi.length
 -- from an abstract heap in which nothing but the script may be tracked
 have core:∀ H:Hp,Only H->fq K H a (ns.map V.int)->hX P w H fm.heap->(∀ b,H b≠none->b=a)->(H a≠none->K.lookup a=none) ->
   codeAny (aS P w) callerA (.call (.ref fa) ⟨[.ref a],[]⟩) (fun r s'=>r=.ok (.ret (.bool true))/\OldK fm.heap s'.heap/\s'.os=fm.os/\AllBare s'.gens) fm:=by
  intro H hO hS b9 hA hK;have WZ:∀ {b:ag} {o:Obj},fm.heap.get? b=some o->H b=none->(DE fm.heap H).get? b=some o:=fun e n=>bt' e n;have Ny:∀ {b:ag} {o:Obj} {es:Array DictEntry} {ep:Nat},fm.heap.get? b=some o->o.data=.dict es ep->H b=none:=fun {b o es ep} e d=>by
   cases q:H b with
   |none=>rfl
   |some u =>have e':b=a:=hA b (by rw[q];simp);subst e';rw[ha] at e;cases e;have d':Data.seq vs.toArray _=Data.dict es ep:=d;cases d'
  have Qj:∀ {b:ag} {m:Str->Option ae},fm.heap.Ns b m->(DE fm.heap H).Ns b m:=fun {b m} ⟨o,es,ep,e,d,r⟩=>⟨o,es,ep,WZ e (Ny e d),d,r⟩
  have W0:K.In (DE fm.heap H):=fun b o e=>WZ (KX b o e) (by
   cases q:H b with
   |none=>rfl
   |some u =>
    have e':b=a:=hA b (by rw[q];simp);subst e';rw[hK (by rw[q];simp)] at e;cases e)
  have hM:Mod K mg (DE fm.heap H):=⟨W0,Qj IC,⟨mb,Qj hb,hbb⟩,let ⟨mc,h1,h2⟩:=el';⟨mc,Qj h1,h2⟩⟩
  have e0:P6 P w K mg (DE fm.heap H) callerA [] fm H:=⟨rfl,hM,fun b o e=>bu' e,Nat.le_of_eq (bs' _ _),trivial,fun b hb=>absurd (show b∈([]:List ag) from hb) (by simp),b9,.of_eq hg⟩
  refine codeAny_mono ((F _ W0 (Qj IC)).run callerA [] fm H ⟨[.ref a],[]⟩ [.ref a] [.ref a] _ _ hr e0 (em' fm (.ref a)) (.cons rfl .nil) (BM H hO hS)) fun r s' h=>?_
  cases r with
  |error e=>exact(TK H e s' h).elim
  |ok fl =>
   cases fl with
   |next=>exact False.elim h
   |brk=>exact False.elim h
   |cont=>exact False.elim h
   |ret u =>
    obtain⟨v,H',os,bare,un,eo',r',q⟩:=h;have q':v=.bl true:=q;subst q';obtain rfl:u=Value.bool true:=r';refine⟨rfl,OldK.of_keep fun b o e=>?_,os,bare⟩
    cases q:H b with
    |none=>exact un.keep b o e q (by intro z;exact absurd (show b∈([]:List ag) from z) (by simp)) (by simp)
    |some u =>
     rcases hO b with z|⟨ob,xs,z⟩
     ·rw[q] at z;cases z
     ·have z2:=un.rp b ob _ z;obtain⟨e1,_⟩:=b9 b _ z;obtain⟨e2,_⟩:=eo' b _ z2;rw[e] at e1;cases e1;exact e2
 cases hk:K.lookup a with
 |some o =>
  -- the script is one of the module's own objects
  have e:=KX a o hk;rw[ha] at e;cases e;refine core (fun _=>none) (fun _=>.inl rfl) (.inr ⟨_,vs.toArray,_,hk,rfl,rfl,rfl,by rw[hG,en'];exact hl,by simpa using rv⟩) (fun b u z=>by have z':(none:Option HO)=some u:=z;cases z') (fun b z=>absurd rfl z) fun z=>absurd rfl z
 |none =>
  refine core (fun b=>if b=a then some (.nh { cls:=.type "list",data:=.seq vs.toArray } (.lst (ns.map V.int))) else none) (fun b=>?_) (.inl (.inr ⟨{ cls:=.type "list",data:=.seq vs.toArray },if_pos rfl⟩)) (fun b u z=>?_) (fun b z=>?_) fun _=>hk
  ·by_cases hb:b=a
   ·exact .inr ⟨_,_,if_pos hb⟩
   ·exact .inl (if_neg hb)
  ·by_cases hb:b=a
   ·have z':=(if_pos hb).symm.trans z;cases z';subst hb;exact⟨ha,by rw[cK];exact hl,vs,_,rv,ha⟩
   ·have z':=(if_neg hb).symm.trans z;cases z'
  ·by_cases hb:b=a
   ·exact hb
   ·exact absurd (if_neg hb) z
theorem eq'{l:R0}{n k:Nat}{q:dr}{loose:List Str}{XP:(Str->Option ae)->cE->Prop}{YP:dA->cE->Prop}{d:DefRec}{K:Params->aE}{CX:dA->DM}{sp:dA->Sp}{x:Str}(hn:l.most=some n) (Ma:n<=bS) (NQ:d.params.defaults=[]) (hr:kC k callerA)(hY:∀ (w:dA) (h:cE),YP w h->(K w.params).In h)(F:∀ (w:dA) (mg:Str->Option ae) (fa:ag) (h:cE),(K w.params).In h->h.Ns fT mg->mg d.name=some (.ref fa) ->
   ∃ fd:zv,(∀ (s:ay) (u:ae),BindsTo s fd ⟨[u],[]⟩ [(x,u)]) /\
    ∀ base:cE,(K w.params).In base->base.Ns fT mg->t5 l.prog w (K w.params) mg base (CX w) k fa fd [x] (sp w))
  (BM:∀ (w:dA) (H:Hp) (a:ag) (ns:List Int),ns.length<=n->Only H->fq (K w.params) H a (ns.map V.int)->sp w [.ref a] H (fun v _=>v=.bl true) fun _ _ _=>False)
  (TK:∀ (w:dA) (H:Hp) (s:ay) (e:ae) (s':ay),CX w [] H s (fun _ _ _=>False) e s'->False) :
  PySem.W.WalkO q loose XP YP l.row.toRowW d [] (fun f vs=>PySem.call f vs):=by
 refine WW.ei' hn NQ fun w ft fm mg mb fa o pm cd doc a vs ns G Y ho hd rq NR TJ hints hlen hg=>?_;have KX:=hY w _ Y;obtain⟨fd,hb,hF⟩:=F w mg fa _ KX G.T.g NR;exact ej' KX G.T.g G.T.b G.T.builtins G.T.nolimit hg TJ hints (ky hlen Ma) hr hF hb (fun H hO hS=>BM w H a ns hlen hO hS) fun H e s'=>TK w H fm e s'
def y6(s:Stmt):Arguments:=match s with
 |.FunctionDef _ a _ _ _ _ _ _ _ _=>a
 |_=>{ posonlyargs:=[],args:=[],vararg:=none,kwonlyargs:=[],kw_defaults:=[],kwarg:=none,defaults:=[] }
def rV(s:Stmt):List Stmt:=match s with
 |.FunctionDef _ _ b _ _ _ _ _ _ _=>b
 |_=>[]
def hZ(s:Stmt):Scope:=match s with
 |.FunctionDef _ _ _ _ _ _ sc _ _ _=>sc
 |_=>{ kind:=.function,names:=[],isGenerator:=false,isCoroutine:=false }
abbrev vw:DM:=fun _ _ _ _ _ _=>False
abbrev E0:XK:=fun _ _ _=>False
theorem er'{X:Cx}:Passes vw X E0:=fun _ _ _ _ _ _ _ h=>h.elim
structure ui(K:aE)(x qual:Str)(st:Stmt)(f:ag)(fd:zv):Prop where
 ex:∃ (oc:ae) (od:Option ag) (kV doc pm:ae) (an:Option ag) (dP ct:ae) (Ap:Array (Option ae)),
  fd=vj x qual (y6 st) (rV st) (hZ st) .none kV doc pm an dP ct/\K.lookup f=some ⟨oc,od,.func fd,Ap⟩/\Lj K dP qual=true
 kp:EK K (.ref f)=true
section
variable {P:dr}{w:dA}{K:aE}{mg:Str->Option ae}{base:cE}
theorem ui.ok{st:Stmt}{N ps:List Str}(F:ui K x qual st f fd)(S:Iy N ps (hZ st))(len:∀ vs H Q E,sp vs H Q E->vs.length=ps.length)(DS:∀ (dP:ae) (A:eB) (outer:List Env) (s:ay) (H:Hp) (vs:List V) (Q:VK) (E:XK),kC k (A.deeper (mh qual (hZ st) s.heap.objs.size f dP))->sp vs H Q E ->
   ∃ t,oi (p9 vw P w K mg base N qual (hZ st) f dP A outer s H E).E6 (rV st) t/\t { nx:=fun _ H'=>Q .non H',rt:=Q } (start N vs) H):t5 P w K mg base vw (k+1) f fd ps sp:=by
 obtain⟨oc,od,kV,doc,pm,an,dP,ct,Ap,rfl,lk,rq⟩:=F.ex;refine Wq lk rq S len fun A outer s H vs Q E hr BM=>?_;obtain⟨t,h,q⟩:=DS dP A outer s H vs Q E hr BM;exact⟨t,h.E6,q⟩
theorem ui.binds{st:Stmt}{ps:List Str}(F:ui K x qual st f fd)(h:∀ (kV doc pm:ae) (an:Option ag) (dP ct:ae) (us:List ae),us.length=ps.length->bindArgs (vj x qual (y6 st) (rV st) (hZ st) .none kV doc pm an dP ct) ⟨us,[]⟩=pure (ps.zip us)):Binds K fd ps []:=by
 obtain⟨oc,od,kV,doc,pm,an,dP,ct,Ap,rfl,lk,rq⟩:=F.ex;exact .all (h kV doc pm an dP ct)
theorem W3{st:Stmt}{kV doc pm dP ct:ae}(l:K.lookup f=some ⟨oc,od,.func (vj x qual (y6 st) (rV st) (hZ st) .none kV doc pm an dP ct),Ap⟩)(c:Lj K dP qual=true) (k:EK K (.ref f)=true):ui K x qual st f (vj x qual (y6 st) (rV st) (hZ st) .none kV doc pm an dP ct):=⟨⟨oc,od,kV,doc,pm,an,dP,ct,Ap,rfl,l,c⟩,k⟩
end
section
variable {X:Cx}
theorem pv (i:Nat) (hN:X.N[i]? = some x:=by rfl) (hv:Nk X.env.scope x:=by first|exact Or.inl rfl|exact Or.inr (Or.inl rfl)|exact Or.inr (Or.inr rfl)) (hd:(x == ("__debug__" : Str))=false:=by decide) (rq:(x == ("__classdict__" : Str))=false:=by decide):PE X (.Name x pos) (DL i):=VR hN hv hd rq
end
def bG(H H':Hp):Prop:=∀ b o,H b=some o->H' b=some o
theorem bG.refl(H:Hp):bG H H:=fun _ _ h=>h
theorem bG.trans(a:bG H H1)(b:bG H1 H2):bG H H2:=fun c o h=>b c o (a c o h)
theorem bG.free(e:bG H H')(h:H' l=Option.none):H l=Option.none:=by
 cases q:H l with
 |none=>rfl
 |some o =>rw[e l o q] at h;cases h
theorem bG.seq{K:aE}(e:bG H H')(h:fq K H a xs):fq K H' a xs:=by
 rcases h with(h|⟨o,h⟩)|h
 ·exact .inl (.inl (e _ _ h))
 ·exact .inl (.inr ⟨o,e _ _ h⟩)
 ·exact .inr h
end L2
set_option maxHeartbeats 4000000
namespace L2
open PySem PySem.Spec PyProof.Rows
def uj(env:Env):List (Str × zC)->List (Str × ag)->List (Str × ag)
 |[],cs=>cs
 | (n,k) :: r,cs=>uj env r (if k == NameKind.free then (n,(env.cells.lookup n).getD 0) :: cs else cs)
theorem gW(env:Env):∀ (names:List (Str × zC)) (cs:List (Str × ag)),(∀ y∈names,y.2=.free->∃ c,env.cells.lookup y.1=some c) -> (forIn names cs fun x r=>match x with
   | (name,kind)=>if (kind == NameKind.free)=true then do let a <- cellOf env name;pure (ForInStep.yield ((name,a) :: r)) else pure (ForInStep.yield r):Sem (List (Str × ag)))=pure (uj env names cs)
 |[],cs,_=>rfl
 | (n,k) :: r,cs,h=>by
  rw[List.forIn_cons];have ih:=gW env r;by_cases hk:k=.free
  ·subst hk;obtain⟨c,e⟩:=h (n,.free) eL rfl;have e:env.cells.lookup n=some c:=e;have e2:cellOf env n=pure c:=by unfold cellOf;rw[e]
   have e3:uj env ((n,.free) :: r) cs=uj env r ((n,c) :: cs):=by show uj env r (if (NameKind.free == NameKind.free)=true then (n,(env.cells.lookup n).getD 0) :: cs else cs)=_;rw[e];rfl
   rw[e3,<- ih ((n,c) :: cs) fun y hy=>h y (eI _ hy)];simp only[beq_self_eq_true,if_true,e2];rfl
  ·have hb:(k == NameKind.free)=false:=by simpa using hk
   have e3:uj env ((n,k) :: r) cs=uj env r cs:=by show uj env r (if (k == NameKind.free)=true then _ else cs)=_;rw[hb];rfl
   rw[e3,<- ih cs fun y hy=>h y (eI _ hy)];simp only[hb,iX,if_false];rfl
theorem lV(h:∀ y∈scope.names,y.2=.free->∃ c,env.cells.lookup y.1=some c):closureFor scope env=pure (uj env scope.names []):=by have:=gW env scope.names [] h;unfold closureFor;rw[<- bind_pure (forIn scope.names [] _)] at this;exact this
theorem nj:∀ {names:List (Str × zC)} {cs:List (Str × ag)},(∀ y∈names,y.2=.free->∃ c,env.cells.lookup y.1=some c)->(∀ y d,cs.lookup y=some d->env.cells.lookup y=some d) -> (uj env names cs).lookup x=some c->env.cells.lookup x=some c
 |[],cs,_,h,e=>h x c e
 | (n,k) :: r,cs,hf,h,e=>by
  refine nj (names:=r) (fun y hy=>hf y (eI _ hy)) ?_ e;intro y d hd;by_cases hk:k=.free
  ·subst hk;obtain⟨c',e'⟩:=hf (n,.free) eL rfl;have e':env.cells.lookup n=some c':=e';simp only[beq_self_eq_true,if_true,e',Option.getD_some,Sn] at hd
   cases hb:y == n with
   |true=>rw[hb] at hd;have:y=n:=eq_of_beq hb;subst this;rw[e'];exact hd
   |false=>rw[hb] at hd;exact h y d hd
  ·have hb:(k == NameKind.free)=false:=by simpa using hk
   simp only[hb,iX,if_false] at hd;exact h y d hd
theorem jE:∀ {names:List (Str × zC)} {cs:List (Str × ag)},((x,NameKind.free)∈names\/∃ c,cs.lookup x=some c)->∃ c,(uj env names cs).lookup x=some c
 |[],cs,h=>by
  rcases h with h|h
  ·exact nomatch h
  ·exact h
 | (n,k) :: r,cs,h=>by
  refine jE (names:=r) ?_;rcases h with h|⟨c,h⟩
  ·rcases eM.mp h with e|h
   ·cases e;refine .inr ⟨(env.cells.lookup x).getD 0,?_⟩;simp only[beq_self_eq_true,if_true,Sn]
   ·exact .inl h
  ·refine .inr ?_;by_cases hk:(k == NameKind.free)=true
   ·simp only[hk,if_true,Sn]
    cases hb:x == n with
    |true=>exact⟨_,rfl⟩
    |false=>exact⟨c,h⟩
   ·simp only[hk,if_false];exact⟨c,h⟩
def aQ(X:Cx)(scope:Scope)(C:ag)(N:List Str)(fp:List ag)(ic:ay)(ja:Hp):Cx :=
 { X with N:=N,ft:=ic,zS:=ja,env:=compEnvC scope (uj X.env scope.names []) C X.env,outer:=X.stack,stack:=X.stack,ex:=fp,fn:=fun _=>false,pn:=[],xe:=fun _ _=>False }
def BQ(X:Cx)(ifs:List Expr)(t:TT):Prop :=
 ∀ (pins:List (ag × Obj)) (s:ay) (σ:St) (H:Hp) (Q:Bool->Hp->Prop),Inv X pins σ H s->t σ H Q ->
  aT (aS X.prog X.w) X.A (forIn ifs true fun c r=>if r=true then do let ok <- isTrue c X.env (cv c X.env);pure (ForInStep.yield ok) else pure (ForInStep.yield r)) (TP X pins σ Q) X.xe s
def et':TT:=fun _ H Q=>Q true H
theorem BZ{X:Cx}:BQ X [] et':=fun _ _ _ H _ I h=>wpAny_tests_nil ⟨H,I,h⟩
theorem Cu{X:Cx}(h:PT X c t):BQ X [c] t:=fun pins s σ H Q I hw=>wpAny_tests_one (h pins s σ H Q I hw)
theorem fQ{R:Result->ay->Prop}(I:Nat->ay->Prop)(E:ae->ay->Prop)(turn:∀ n s,I n s->aT (aS prog w) A (pyNext it) (fun r fm=>match r with
   |none=>R (.ok .next) fm
   |some v=>aT (aS prog w) A (letOwnedTupleGo target it v) (fun _ ft=>aT (aS prog w) A (assign target env v) (fun _ Ic =>
     aT (aS prog w) A (forIn ifs true fun c r=>if r=true then do let ok <- isTrue c env (cv c env);pure (ForInStep.yield ok) else pure (ForInStep.yield r)) (fun ok ic =>
      if ok=true then aT (aS prog w) A (cv elt env) (fun x W4 =>
       aT (aS prog w) A (call (.builtin "list.append") [acc,x]) (fun _ W5=>∃ m,m<n/\I m W5) E W4) E ic
      else ∃ m,m<n/\I m ic) E Ic) E ft) E fm) E s)
  (hE:∀ e s',E e s'->notedBy (aS prog w) A env (fun e s'=>R (.error e) s') e s')
  (n:Nat) (h:I n s) :
  codeAny (aS prog w) A (.compLoop (.ListComp elt [⟨target,iter,ifs,0⟩] scope pos) 0 it acc env) R s:=by
 refine codeAny_loop rfl I (fun n s hI=>?_) n h;show aT _ A ((compTurn (.ListComp elt [⟨target,iter,ifs,0⟩] scope pos) 0 it acc env).onRaise (fun x=>do noteFrame x env;theTreesLotGoes x)) _ _ s;refine wpAny_noted ?_;rw[compTurn_list];refine sq (Q:=_) (E:=E) ?_ (fun _ _ q=>q) hE;refine ah (wpAny_standAt (ah (sq (turn n s hI) (fun r fm NS=>?_) fun _ _ h'=>h')))
 cases r with
 |none=>exact aI NS
 |some v =>
  refine ah (sq NS (fun _ ft h₀=>?_) fun _ _ h'=>h');refine ah (sq h₀ (fun _ Ic eu'=>ah (sq eu' (fun ok ic W6=>?_) fun _ _ h'=>h')) fun _ _ h'=>h')
  cases ok with
  |false=>exact aI ⟨rfl,W6⟩
  |true =>exact ah (ah (sq W6 (fun x W4 ev'=>ah (sq ev' (fun _ W5 ew'=>aI (aI ⟨rfl,ew'⟩)) fun _ _ h'=>h')) fun _ _ h'=>h'))
def mF(tn:Nat)(ix:List Nat)(σ:St):St:=List.replicate tn none++ix.map fun j=>(σ[j]?).join
def wU(wi:TI)(g:TG)(tc:TT)(te:TE)(tn:Nat)(ix:List Nat):TE:=fun σ H Q=>wi σ H fun J H1=>∀ D,H1 D=none ->
 ∃ W:Nat->Nat->St->Hp->Prop,(∃ m,W 0 m (mF tn ix σ) (upd H1 D (.lst [])))/\∀ i m τ H,W i m τ H -> (J.stop i H/\Q (.ref D) H)\/(J.go i H/\∃ (N1:St->V->Hp->Prop) (N2:St->Hp->Prop), (∀ nv v H4,N1 nv v H4->∃ ys m',H4 D=some (.lst ys)/\ys.length<bS/\m'<m/\W (i+1) m' nv (upd H4 D (.lst (ys++[v])))) /\ (∀ nv H3,N2 nv H3->∃ m',m'<m/\W (i+1) m' nv H3) /\
   ∀ x H',J.oD i H x H'->g x τ H' fun nv H2=>tc nv H2 fun b H3=>if b=true then te nv H3 (N1 nv) else N2 nv H3)
section
variable {X:Cx}{tg iter elt:Expr}{ifs:List Expr}{scope:Scope}{pos:Pos}{wi:TI}{g:TG}{tc:TT}{te:TE}{tn cn:List Str}{ix:List Nat}
structure dM(X:Cx)(scope:Scope)(tn cn:List Str)(ix:List Nat):Prop where
 kind:scope.kind=.function
 ex':∀ y∈scope.names,y.2≠.cell
 free:∀ y∈scope.names,y.2=.free->X.env.scope.names.lookup y.1=some .cell\/X.env.scope.names.lookup y.1=some .free
 names:∀ y∈scope.names,y.2=.local->scope.names.lookup y.1=some .local
 len:ix.length=cn.length
 cap:∀ (k j:Nat),ix[k]? = some j->∃ y,cn[k]? = some y/\X.N[j]? = some y/\(X.env.scope.names.lookup y=some .cell\/X.env.scope.names.lookup y=some .free)/\(y,NameKind.free)∈scope.names /\
  ((relabel scope X.env).names.lookup y=some .cell\/(relabel scope X.env).names.lookup y=some .free)
 all:∀ x,(relabel scope X.env).names.lookup x=some .cell\/(relabel scope X.env).names.lookup x=some .free->(x,NameKind.free)∈scope.names
theorem uW(O:dM X scope tn cn ix)(I:Inv X pins σ H s)(hf:∀ b∈fp,z5 X pins H b)(TL:∀ b∈fp,b<s.heap.objs.size)(hC:s.heap.objs.size<=C) : (aQ X scope C (tn++cn) fp s H).Ok:=by
 have ny:∀ y∈scope.names,y.2=.free->∃ c,X.env.cells.lookup y.1=some c:=fun y hy hk=>I.ok.has y.1 (O.free y hy hk);have sub:∀ x c,(uj X.env scope.names []).lookup x=some c->X.env.cells.lookup x=some c:=fun x c e=>nj ny (fun y d h=>by simp at h) e;refine⟨I.ok.mod,O.kind,I.ok.glob,I.ok.blt,hC,fun x y c h1 h2=>I.ok.inj x y c (sub x c h1) (sub y c h2),fun x hx=>jE (.inl (O.all x hx)),(fun x c h _=>nomatch h),I.ok.hd,I.ok.frames,.inl rfl,fun b hb=>⟨?_,fun x c e=>?_⟩,
  I.bs,ky I.ok.w9 I.sz,fun b o e hb=>?_,fun b hb=>?_,I.stack,I.SY⟩
 ·exact gI (oz (TL b hb) hC)
 ·exact(hf b hb).2.2.2.2.1 x c (sub x c e)
 ·rcases (hf b hb).2.2.2.1 with z|z
  ·exact I.ok.BD b o e z
  ·exact absurd (oz (eP e) (ky I.ok.w9 z)) (vt _)
 ·intro hz;rcases eM.mp (I.SX b hz) with e|e
  ·exact(hf b hb).2.1 e
  ·exact(hf b hb).2.2.1 e
theorem tO{P:ae->ay->Prop}(hc:X.calm=true)(hi:PI X tg iter wi)(O:dM X scope tn cn ix)(hg:∀ C fp ic ja,PG (aQ X scope C (tn++cn) fp ic ja) tg g) (yT:∀ C fp ic ja,BQ (aQ X scope C (tn++cn) fp ic ja) ifs tc) (he:∀ C fp ic ja,PE (aQ X scope C (tn++cn) fp ic ja) elt te)(hs:∀ x,FV iter X.env x=pure x) (I:Inv X pins σ H s) (h:wU wi g tc te tn.length ix σ H Q)(fin:∀ (C D:ag) (m:Str->Option ae) (H5:Hp) (s6:ay) (r:Flow),Inv X pins σ H5 s6->s6.heap.Ns C m->H5 C=none->z5 X pins H5 C->Q (.ref D) H5->compPost (aS X.prog X.w) X.A X.xe use P (.ref D) C (.ok r) s6) :
  aT (aS X.prog X.w) X.A (comprehension (.ListComp elt [⟨tg,iter,ifs,0⟩] scope pos) scope X.env lj' (newList []) false (cv iter X.env) use) P X.xe s:=by
 have ny:∀ y∈scope.names,y.2=.free->∃ c,X.env.cells.lookup y.1=some c:=fun y hy hk=>I.ok.has y.1 (O.free y hy hk);have sub:∀ x c,(uj X.env scope.names []).lookup x=some c->X.env.cells.lookup x=some c:=fun x c e=>nj ny (fun y d h=>by simp at h) e;refine wpAny_comprehension_free (use:=use) rfl hs (lV ny) O.kind O.names (dz (hi pins s σ H _ I h) fun v s1 h1=>dz h1 fun Tc s2 h2=>?_);obtain⟨it,fp,Qk,J,H2,e,I2,T,yy,f2,h2⟩:=h2;subst e;obtain⟨W,⟨m0,w0⟩,turn⟩:=h2 s2.heap.objs.size (I2.b9.fresh (da _));refine qE ?_;have I3:Inv X pins σ (upd H2 s2.heap.objs.size (.lst [])) { s2 with heap:=s2.heap.push { cls:=.type "list",data:=.seq ([]:List ae).toArray } }:=I2.WK (its:=[]) (t':=s2.toks) .nil (eT _);generalize hD:s2.heap.objs.size=D at *
 generalize Ql:({ s2 with heap:=s2.heap.push { cls:=.type "list",data:=.seq ([]:List ae).toArray } }:ay)=s3 at *
 have k23:∀ b o,s2.heap.get? b=some o->s3.heap.get? b=some o:=fun b o e=>by rw[<- Ql];exact fE _ e
 have sz3:s3.heap.objs.size=D+1:=by rw[<- Ql,<- hD];exact Heap.size_push ..
 have f3:∀ b∈fp,z5 X pins (upd H2 D (.lst [])) b:=fun b hb=>by obtain⟨f0,fr⟩:=f2 b hb;obtain⟨o,ho,_⟩:=T.obj _ _ yy b hb;refine⟨?_,fr⟩;rw[iL (gI (by rw[<- hD];exact eP ho))];exact f0
 have yA:Qk 0 s3.heap:=T.keep _ _ _ yy fun b hb o e=>k23 b o e;have lt3:∀ b∈fp,b<s3.heap.objs.size:=fun b hb=>by obtain⟨o,ho,_⟩:=T.obj _ _ yA b hb;exact eP ho
 refine wpAny_newFunctionEnv O.ex' (by intro y hy;simp at hy) (fun NS eA' eB'=>?_) O.kind;have IE:∀ b o,s3.heap.get? b=some o->NS.get? b=some o:=fun b o e=>eB'.extBut b o (gI (eP e)) (fE _ e)
 -- the block's context
 have Qm:=uW (C:=s3.heap.objs.size) O I3 f3 lt3 (da _);have I4:Inv (aQ X scope s3.heap.objs.size (tn++cn) fp s3 (upd H2 D (.lst []))) [] (mF tn.length ix σ) (upd H2 D (.lst [])) { s3 with heap:=NS,toks:=s3.toks+([]:List (Str × ae)).length }:=by
  refine⟨Qm,rfl,I3.bare,Un.kept IE,⟨_,eA',fun i x v e1 e2 e3=>?_⟩,fun x c e=>?_,I3.b9.fresh (da _),fun x c e=>I3.pV x c (sub x c e),fun p hp=>absurd hp (by simp[aQ]),I3.b9.kept IE,?_⟩
  ·have nE:tn.length<=i:=by
    by_cases q:i<tn.length
    ·unfold mF at e2;rw[MQ (by simpa using q),R5] at e2;simp[q] at e2
    ·lia
   unfold mF at e2;rw[CL (by simpa using nE),R6,qV] at e2;have e1:(tn++cn)[i]? = some x:=e1;rw[CL nE] at e1
   cases q:ix[i-tn.length]? with
   |none=>rw[q] at e2;cases e2
   |some j =>
    rw[q] at e2;obtain⟨y,c1,c2,c3,c4,c5⟩:=O.cap _ _ q;rw[c1] at e1;cases e1;have e2:σ[j]?.join=some v:=Option.some.inj e2;have ej:σ[j]? = some (some v):=by
     cases z:σ[j]? with
     |none=>rw[z] at e2;cases e2
     |some o=>rw[z] at e2;exact congrArg some e2
    obtain⟨m,hn,hl⟩:=I3.loc;obtain⟨u,r,l⟩:=hl j x v c2 ej (c3.elim (fun z=>.inr (.inl z)) fun z=>.inr (.inr z));refine⟨u,r,.inr ⟨c5,?_⟩⟩;rcases l with⟨hk,_⟩|⟨hk,c,PX,hce⟩
    ·have hk:X.env.scope.names.lookup x=some .local:=hk;rcases c3 with z|z
     ·rw[z] at hk;cases hk
     ·rw[z] at hk;cases hk
    ·obtain⟨c',DJ⟩:=jE (env:=X.env) (cs:=[]) (Or.inl c4);have:=sub x c' DJ;rw[PX] at this;cases this;obtain⟨o,ho,hd⟩:=hce;exact⟨c,DJ,o,IE _ _ ho,hd⟩
  ·obtain⟨v,o,ho,hd⟩:=I3.cell x c (sub x c e);exact⟨v,o,IE _ _ ho,hd⟩
  ·show(mF tn.length ix σ).length=(tn++cn).length;unfold mF;simp[O.len]
 -- from the block back to the body
 have back:∀ {τ:St} {H':Hp} {s':ay},Inv (aQ X scope s3.heap.objs.size (tn++cn) fp s3 (upd H2 D (.lst []))) [] τ H' s'->Inv X pins σ H' s':=fun {τ H' s'} I' =>
  Inv.bA' (ch:=fp) I3 I'.os I'.base I'.b9 I'.bare fun b hb=>by obtain⟨_,f1,_,f3',f4,f5⟩:=f3 b hb;exact⟨f3',f1,f4,f5⟩
 have TN:∀ {H':Hp},(∀ b∈fp,H' b=none)->∀ b∈fp,z5 (aQ X scope s3.heap.objs.size (tn++cn) fp s3 (upd H2 D (.lst []))) [] H' b:=fun hn b hb =>
  ⟨hn b hb,(Qm.DH b hb).1,Qm.BE b hb,.inl hb,(Qm.DH b hb).2,fun p hp=>absurd hp (by simp[aQ])⟩
 have loop:∀ s4:ay,Inv (aQ X scope s3.heap.objs.size (tn++cn) fp s3 (upd H2 D (.lst []))) [] (mF tn.length ix σ) (upd H2 D (.lst [])) s4->Qk 0 s4.heap ->
   codeAny (aS X.prog X.w) X.A (.compLoop (.ListComp elt [⟨tg,iter,ifs,0⟩] scope pos) 0 (.ref it) (.ref D) (compEnvC scope (uj X.env scope.names []) s3.heap.objs.size X.env)) (compPost (aS X.prog X.w) X.A X.xe use P (.ref D) s3.heap.objs.size) s4:=by
  intro s4 I4 xi;refine fQ (fun n s'=>∃ i τ H',Inv (aQ X scope s3.heap.objs.size (tn++cn) fp s3 (upd H2 D (.lst []))) [] τ H' s'/\Qk i s'.heap/\(∀ b∈fp,H' b=none)/\W i n τ H') (fun _ _=>False) ?_ (fun _ _ z=>z.elim) m0 ⟨0,_,_,I4,xi,fun b hb=>(f3 b hb).1,w0⟩
  rintro n s5 ⟨i,τ,H5,I5,HZ,P2,w5⟩;rcases turn i n τ H5 w5 with⟨stop,qn⟩|⟨go,N1,N2,hN1,Mb,step⟩
  ·refine dz (T.done (aQ X scope s3.heap.objs.size (tn++cn) fp s3 (upd H2 D (.lst []))) rfl rfl rfl hc i [] s5 τ H5 (fun _ _=>False) I5 (TN P2) HZ stop) fun r s6 d4=>?_;obtain⟨hr,I6⟩:=d4;subst hr;have J6:=back I6;obtain⟨m,hn,_⟩:=I6.loc;exact fin _ D m H5 s6 _ J6 hn I6.free (I3.PY (b:=s3.heap.objs.size) (H':=H5) (da _) I6.free) qn
  ·refine dz (T.item (aQ X scope s3.heap.objs.size (tn++cn) fp s3 (upd H2 D (.lst []))) rfl rfl rfl hc i [] s5 τ H5 (fun _ _=>False) I5 (TN P2) HZ go) fun r s6 d4=>?_;obtain⟨u,hr,h6⟩:=d4;subst hr;refine dz h6 fun _ s7 d4=>?_;obtain⟨x,H7,I7,r7,y7,TQ,fr7⟩:=d4;have I7':=I7.pinned (TN fr7) (T.obj _ _ TQ);refine dz (hg _ _ _ _ _ s7 τ H7 x u _ I7' r7 (step x H7 y7)) fun _ s8 d4=>?_;obtain⟨Mf,H8,I8,q8⟩:=d4;refine dz (yT _ _ _ _ _ s8 Mf H8 _ I8 q8) fun ok s9 d4=>?_;obtain⟨H9,I9,q9⟩:=d4;have again:∀ {s':ay} {H':Hp} {m':Nat},Inv (aQ X scope s3.heap.objs.size (tn++cn) fp s3 (upd H2 D (.lst []))) ([]++Nu fp s7.heap) Mf H' s'->m'<n->W (i+1) m' Mf H' ->
     ∃ m,m<n/\∃ i τ H',Inv (aQ X scope s3.heap.objs.size (tn++cn) fp s3 (upd H2 D (.lst []))) [] τ H' s'/\Qk i s'.heap/\(∀ b∈fp,H' b=none)/\W i m τ H':=fun {s' H' m'} J hm w'=>by
    refine⟨m',hm,i+1,Mf,H',J.P1,T.keep _ _ _ TQ fun b hb o e=>(J.pin (b,o) (fe _ (fe _ (P0 hb e)))).1,fun b hb=>?_,w'⟩;obtain⟨o,e,d⟩:=T.obj _ _ TQ b hb;exact(J.pin (b,o) (fe _ (fe _ (P0 hb e)))).2.1
   cases ok with
   |false =>rw[if_neg kK] at q9 ⊢;obtain⟨m',hm,w'⟩:=Mb _ _ q9;exact again I9 hm w'
   |true =>rw[if_pos rfl] at q9 ⊢;refine dz (he _ _ _ _ _ s9 Mf H9 _ I9 q9) fun x9 s10 dn=>L2.gL dn fun v10 W7 I10 r10 q10=>?_;obtain⟨ys,m',hH,hz,hm,w'⟩:=hN1 _ _ _ q10;refine dz (TC _ s10 Mf W7 (.ref D) [v10] (.ref D) [x9] (fun _ H'=>H'=upd W7 D (.lst (ys++[v10]))) I10 rfl (.cons r10 .nil) ⟨D,ys,v10,rfl,rfl,hH,hz,rfl⟩) fun _ s11 dn=>L2.gL dn fun _ H11 I11 _ q11=>?_;subst q11;exact again I11 hm w'
 exact codeAny_compStart_list (loop _ I4 (T.keep _ _ _ yA fun b hb o e=>IE b o e)) (T.self _ 0 _ _ _ (T.keep _ _ _ yA fun b hb o e=>IE b o e) (loop _ I4 (T.keep _ _ _ yA fun b hb o e=>IE b o e)))
theorem Be(hc:X.calm=true)(hi:PI X tg iter wi)(O:dM X scope tn cn ix)(hg:∀ C fp ic ja,PG (aQ X scope C (tn++cn) fp ic ja) tg g) (yT:∀ C fp ic ja,BQ (aQ X scope C (tn++cn) fp ic ja) ifs tc) (he:∀ C fp ic ja,PE (aQ X scope C (tn++cn) fp ic ja) elt te)(hs:∀ x,FV iter X.env x=pure x:=by intro _;rfl):PE X (.ListComp elt [⟨tg,iter,ifs,0⟩] scope pos) (wU wi g tc te tn.length ix):=by
 intro pins s σ H Q I h;rw[eval_ListComp];refine tO (use:=none) (P:=EP X pins σ Q) hc hi O hg yT he hs I h fun C D m H5 s6 r J6 hn hf ⟨_,g1,_,g3,g4,g5⟩ qn=>⟨m,hn,fun h' Qn=>⟨.ref D,H5,?_,rfl,qn⟩⟩
 exact J6.turned (t':=s6.toks) (fun b o hb e=>Qn.extBut b o hb e) hf g1 g3 g4 g5
theorem um(hN:X.N.Nodup)(D1:X.N[i]? = some x)(hx:Loc X.env.scope x)(hc:X.calm=true)(hi:PI X tg iter wi)(O:dM X scope tn cn ix)(hg:∀ C fp ic ja,PG (aQ X scope C (tn++cn) fp ic ja) tg g) (yT:∀ C fp ic ja,BQ (aQ X scope C (tn++cn) fp ic ja) ifs tc) (he:∀ C fp ic ja,PE (aQ X scope C (tn++cn) fp ic ja) elt te)(TR:u3 (.ListComp elt [⟨tg,iter,ifs,0⟩] scope pos) (some (.Name x pos')) TV.line X.env=pure true)(hs:∀ x,FV iter X.env x=pure x:=by intro _;rfl) (hf:X.fn x=true\/X.env.scope.names.lookup x=some .local:=by first|exact .inl rfl|exact .inr rfl|assumption) :
  PS X (.Assign [.Name x pos'] (.ListComp elt [⟨tg,iter,ifs,0⟩] scope pos) TV) (Ta (wU wi g tc te tn.length ix) (S8 i)):=by
 intro pins s σ H D0 I h;rw[exec_Assign_Name_used _ _ _ _ TR];refine ah (wpAny_standAt (ah ?_));show aT _ _ (do let _ <- comprehension (.ListComp elt [⟨tg,iter,ifs,0⟩] scope pos) scope X.env _ (newList []) false (cv iter X.env) (some (assign (.Name x pos') X.env))) _ _ s;refine ah (sq (tO (use:=some (assign (.Name x pos') X.env)) (P:=fun _ s'=>SP X pins D0 .next s') hc hi O hg yT he hs I h fun C D m H5 s6 r J6 hn sL ⟨_,g1,_,g3,g4,g5⟩ qn=>?_) (fun _ s' hq=>aI (aI hq)) fun _ _ e=>e);refine(show aT _ _ (assign (.Name x pos') X.env (.ref D)) _ _ s6 from wpAny_assign_Name (S5 J6 hN D1 hx (v:=.ref D) rfl (fun s7 I7 d4=>?_) hf));obtain⟨a,sb,ha⟩:=d4;have hCa:C≠a:=by
  rcases ha with rfl|ha
  ·exact g1
  ·exact Ne.symm (g4 _ a ha)
 refine⟨m,hn.sameBut sb hCa,fun h' Qn=>⟨_,H5,?_,qn⟩⟩;exact I7.turned (t':=s7.toks) (fun b o hb e=>Qn.extBut b o hb e) sL g1 g3 g4 g5
end
def Mh (a b:String):Bool:=a == b || (a == "bool" && b == "int")
def TX (b:String):Bool:=["str", "int", "bool", "list", "tuple", "dict"].contains b
theorem iT (K:aE) (a b:String) (ha:a∈["NoneType", "bool", "int", "str", "list", "tuple", "dict"]) (hb:b∈["str", "int", "bool", "list", "tuple", "dict"]):lI K (.type a) (.type b)=some (Mh a b):=by simp only[eM,GP,or_false] at ha hb;rcases ha with rfl|rfl|rfl|rfl|rfl|rfl|rfl<;>rcases hb with rfl|rfl|rfl|rfl|rfl|rfl<;>kernel_rfl
section
variable {X:Cx}
theorem eJ.imp(h:eJ X f r)(hi:∀ x y H Q,r' x y H Q->r x y H Q):eJ X f r' :=
 fun pins s σ H x y v u Q I rx ry q=>h pins s σ H x y v u Q I rx ry (hi x y H Q q)
def Hb(K:aE):R2:=fun x y H Q=>∃ l b xs zs,x=.ref l/\y=.ref b/\fq K H l xs/\fq K H b zs/\xs.length+zs.length<=bS/\∀ p,H p=none->Q (.ref p) (upd H p (.lst (xs++zs)))
theorem Cr:eJ X (px .Add) (Hb X.K):=by
 intro pins s σ H x y v u Q I rx ry h;obtain⟨l,b,xs,zs,rfl,rfl,hH,hB,hz,q⟩:=h;cases rx;cases ry;obtain⟨its,r,pl,z⟩:=I.list hH;obtain⟨DU,r2,pl2,z2⟩:=I.list hB;have hl:=r.length;have y3:=r2.length;obtain⟨⟨cls,dd,data,sl⟩,ho,hc,n,hd⟩:=id pl.isList;obtain⟨⟨da',P8,data2,P9⟩,mw,Nz,n2,hd2⟩:=id pl2.isList;simp only at hc hd Nz hd2;subst hc hd Nz hd2;have ea:its.toArray++DU.toArray=(its++DU).toArray:=by simp
 refine concat_meets ⟨_,ho,rfl⟩ ⟨_,mw,rfl⟩ noFill_list_add seq_list_add PySem.F.slot_list_add PySem.F.entry_list_add (PySem.F.args_list_add_2 _ _) (list_addW l b its.toArray DU.toArray n n2 dd P8 sl P9 (by simp only[hG];lia)) ⟨ho,mw,?_⟩;rw[ea];exact⟨.ref _,_,I.WK (t':=s.toks) (r.append r2) (by rw[kH];lia),rfl,q _ I.fresh⟩
def yG(K:aE):R2:=fun x y H Q=>match x,y with
 |.int i,.int j=>Q (.int (i+j)) H
 |.str i,.str j=>i.length+j.length<=bS/\Q (.str (i++j)) H
 |.ref a,.ref b=>∃ xs zs,fq K H a xs/\fq K H b zs/\xs.length+zs.length<=bS/\∀ p,H p=none->Q (.ref p) (upd H p (.lst (xs++zs)))
 |_,_=>False
theorem Bt:eJ X (px .Add) (yG X.K):=by
 refine(ct'.or (cO'.or Cr)).imp fun x y H Q h=>?_;unfold yG at h;split at h
 ·exact .inl ⟨_,_,rfl,rfl,h⟩
 ·exact .inr (.inl ⟨_,_,rfl,rfl,h.1,h.2⟩)
 ·obtain⟨xs,zs,h1,h2,h3,h4⟩:=h;exact .inr (.inr ⟨_,_,xs,zs,rfl,rfl,h1,h2,h3,h4⟩)
 ·exact h.elim
def Ah:R2:=fun x y H Q=>match x,y with
 |.int i,.int j=>L5 i j/\Q (.int (i*j)) H
 |_,_=>False
theorem Bb:eJ X (px .Mult) Ah:=cu'.imp fun x y H Q h=>by
 unfold Ah at h;split at h
 ·exact⟨_,_,rfl,rfl,h.1,h.2⟩
 ·exact h.elim
def Cw:R2:=fun x y H Q=>match x,y with
 |.int i,.int j=>(0<j/\j<1073741824)/\Q (.int (i / j)) H
 |_,_=>False
theorem Cd:eJ X (px .FloorDiv) Cw:=cv'.imp fun x y H Q h=>by
 unfold Cw at h;split at h
 ·exact⟨_,_,rfl,rfl,h.1,h.2⟩
 ·exact h.elim
def Af:R2:=fun x y H Q=>match x,y with
 |.int i,.int j=>0<j/\Q (.int (i % j)) H
 |_,_=>False
theorem zP:eJ X (px .Mod) Af:=cw'.imp fun x y H Q h=>by
 unfold Af at h;split at h
 ·exact⟨_,_,rfl,rfl,h.1,h.2⟩
 ·exact h.elim
def rX(x y:Str):Bool:=decide (x.cps.toList<y.cps.toList)
def TY:R2:=fun x y H Q=>match x,y with
 |.int i,.int j=>Q (.bl (decide (i<j))) H
 |.str i,.str j=>Q (.bl (rX i j)) H
 |_,_=>False
theorem Dw:eJ X (hV .Lt) TY:=(cB'.or cE').imp fun x y H Q h=>by
 unfold TY at h;split at h
 ·exact .inl ⟨_,_,rfl,rfl,h⟩
 ·exact .inr ⟨_,_,rfl,rfl,h⟩
 ·exact h.elim
theorem uC:eJ X (hV .LtE) (fun x y H Q=>∃ i j,x=.str i/\y=.str j/\Q (.bl (!rX j i)) H):=by intro pins s σ H x y v u Q I rx ry h;obtain⟨i,j,rfl,rfl,q⟩:=h;obtain⟨t,rfl⟩:=rx;obtain⟨t',rfl⟩:=ry;exact PySem.P.le_str ⟨.bl _,H,I,rfl,q⟩
def T1:R2:=fun x y H Q=>match x,y with
 |.int i,.int j=>Q (.bl (decide (i<=j))) H
 |.str i,.str j=>Q (.bl (!rX j i)) H
 |_,_=>False
theorem zF:eJ X (hV .LtE) T1:=(cC'.or uC).imp fun x y H Q h=>by
 unfold T1 at h;split at h
 ·exact .inl ⟨_,_,rfl,rfl,h⟩
 ·exact .inr ⟨_,_,rfl,rfl,h⟩
 ·exact h.elim
def T4:R2:=fun x y H Q=>match x,y with
 |.int i,.int j=>Q (.bl (decide (j<i))) H
 |_,_=>False
theorem kZ:eJ X (hV .Gt) T4:=cD'.imp fun x y H Q h=>by
 unfold T4 at h;split at h
 ·exact⟨_,_,rfl,rfl,h⟩
 ·exact h.elim
theorem Inv.rd(I:Inv X pins σ H s)(e:Rd H a u):gS X.prog X.w H s.heap a u:=e.elim (I.b9 a _) fun⟨o,e⟩=>(show gS X.prog X.w H s.heap a (.nh o u) from I.b9 a _ e).2
def Qo(K:aE):List V->Hp->VK->Prop:=fun xs H Q=>match xs with
 |[.str y]=>y.length<=bS/\Q (.int y.length) H
 |[.ref p]=>(∃ ys,fq K H p ys/\Q (.int ys.length) H)\/(∃ ys,oC K H p ys/\Q (.int ys.length) H)\/∃ kvs,Rd H p (.dK kvs)/\Q (.int kvs.length) H
 |_=>False
theorem u_:oI X (.builtin "len") (Qo X.K):=by
 intro pins s σ H xs us Q I r h;unfold Qo at h;split at h
 ·exact Tn pins s σ H _ us Q I r ⟨_,_,rfl,⟨h.1,rfl⟩,h.2⟩
 ·rcases h with⟨ys,h1,h2⟩|⟨ys,h1,h2⟩|⟨kvs,h1,h2⟩
  ·exact Tn pins s σ H _ us Q I r ⟨_,_,rfl,.inl ⟨ys,h1,rfl⟩,h2⟩
  ·exact Tn pins s σ H _ us Q I r ⟨_,_,rfl,.inr ⟨ys,h1,rfl⟩,h2⟩
  ·obtain⟨u,rfl,ru⟩:=vals1 r;cases ru;exact dY' I h1 fun t s' I'=>⟨.int kvs.length,H,I',⟨t,rfl⟩,h2⟩
 ·exact h.elim
def T5(K:aE):R2:=fun x y H Q=>match x,y with
 |.ref p,.int i=>(∃ xs v,fq K H p xs/\gV xs i=some v/\Q v H)\/∃ xs v,oC K H p xs/\gV xs i=some v/\Q v H
 |.str z,.int i=>z.length<=bS/\∃ c,gV z.cps.toList i=some c/\Q (.str ⟨#[c]⟩) H
 |_,_=>False
theorem Dc:y1 X (T5 X.K):=by
 intro value slice pins s σ H x y v u Q I rx ry h hs;refine dy' value slice pins s σ H x y v u Q I rx ry ?_ hs;unfold T5 at h;split at h
 ·rcases h with⟨xs,w,h1,h2,h3⟩|⟨xs,w,h1,h2,h3⟩
  ·exact .inl ⟨_,xs,_,w,rfl,rfl,h1,h2,h3⟩
  ·exact .inr (.inl ⟨_,xs,_,w,rfl,rfl,h1,h2,h3⟩)
 ·obtain⟨h1,c,h2,h3⟩:=h;exact .inr (.inr ⟨_,_,c,rfl,rfl,h1,h2,h3⟩)
 ·exact h.elim
def kR(z:Str)(lo hi:Option Int):Str:=⟨((z.cps.toList.drop (HT.cp z.length 0 lo)).take (HT.cp z.length z.length hi-HT.cp z.length 0 lo)).toArray⟩
end
theorem v5(l:List Nat)(lo hi:Option Int)(h:((l.drop (HT.cp l.length 0 lo)).take (HT.cp l.length l.length hi-HT.cp l.length 0 lo)).length=l.length) : (l.drop (HT.cp l.length 0 lo)).take (HT.cp l.length l.length hi-HT.cp l.length 0 lo)=l:=by
 generalize HT.cp l.length 0 lo=a at *
 generalize HT.cp l.length l.length hi=b at *
 by_cases hl:l.length=0
 ·have:l=[]:=Pk.mp hl;subst this;simp
 ·rw[i7,A6] at h;have h1:a=0:=by lia
  subst h1;rw[List.drop_zero];exact Lq (by lia)
theorem uF(lo hi:Option Int)(n:Nat):Builtin.Str.strSliceIndices lo hi 1 n=(List.range (HT.cp n n hi-HT.cp n 0 lo)).map (HT.cp n 0 lo + ·):=by
 unfold Builtin.Str.strSliceIndices;have e1:(match lo with|none=>(0:Int)|some i=>max 0 (min (if i<0 then i+n else i) n))=((HT.cp n 0 lo:Nat):Int):=by
  cases lo with
  |none=>simp[HT.cp]
  |some i =>
   simp only[HT.cp];by_cases h:i<0
   ·simp only[h,if_true]<;>lia
   ·simp only[h,if_false]<;>lia
 have e2:(match hi with|none=>(n:Int)|some i=>max 0 (min (if i<0 then i+n else i) n))=((HT.cp n n hi:Nat):Int):=by
  cases hi with
  |none=>simp[HT.cp]
  |some i =>
   simp only[HT.cp];by_cases h:i<0
   ·simp only[h,if_true]<;>lia
   ·simp only[h,if_false]<;>lia
 rw[<- sliceRange_one,<- e1,<- e2];simp only[show(1:Int)>0 by decide,if_true];cases lo<;>cases hi<;>rfl
section
variable {X:Cx}
theorem part_of(h:IsPart v o):∃ p:Option (Int × Tok),v=partValue p/\p.map (·.1)=o:=by
 cases h with
 |none=>exact⟨none,rfl,rfl⟩
 |int i t=>exact⟨some (i,t),rfl,rfl⟩
def T6(K:aE):V->Option Int->Option Int->Hp->VK->Prop:=fun x lo hi H Q=>match x with
 |.str z=>z.length<=bS/\Q (.str (kR z lo hi)) H
 |.ref a=>∃ xs,fq K H a xs/\∀ p,H p=none->Q (.ref p) (upd H p (.lst (DT xs lo hi)))
 |_=>False
theorem Du:L6 X (fun x lo hi H Q=>∃ z,x=.str z/\z.length<=bS/\Q (.str (kR z lo hi)) H):=by
 intro pins s σ H x v vl vu lo hi sl Q I rx hs pl pu h;obtain⟨z,rfl,hz,q⟩:=h;obtain⟨t,rfl⟩:=rx;obtain⟨p1,rfl,e1⟩:=part_of pl;obtain⟨p2,rfl,e2⟩:=part_of pu;refine⟨"str",_,F.slot_str_getitem.lookup,typeIs_str s z t,wpAny_getItem_str_slice (l:=p1) (u:=p2) (st:=none) hs rfl ?_⟩;have hl:z.cps.toList.length=z.length:=by simp[Str.length]
 have ep:slicePicked z p1 p2 none=(List.range (HT.cp z.length z.length hi-HT.cp z.length 0 lo)).map (HT.cp z.length 0 lo + ·):=by unfold slicePicked;rw[e1,e2];exact uF lo hi z.length
 have ef:(slicePicked z p1 p2 none).filterMap (z.cps[·]?)=(z.cps.toList.drop (HT.cp z.length 0 lo)).take (HT.cp z.length z.length hi-HT.cp z.length 0 lo):=by rw[ep];exact pick_run z.cps _ _
 unfold sliceMade;split
 ·rename_i hc;have hw:(slicePicked z p1 p2 none).length=z.length:=by simpa using hc
  have:kR z lo hi=z:=by
   unfold kR;have e3:((z.cps.toList.drop (HT.cp z.cps.toList.length 0 lo)).take (HT.cp z.cps.toList.length z.cps.toList.length hi-HT.cp z.cps.toList.length 0 lo)).length=z.cps.toList.length:=by
    rw[hl,i7,A6,hl];rw[ep,cK,A5] at hw;have h0:HT.cp z.length 0 lo<=z.length:=by
     cases lo with
     |none=>simp[HT.cp]
     |some i=>simp only[HT.cp];split<;>lia
    have h1:HT.cp z.length z.length hi<=z.length:=by
     cases hi with
     |none=>simp[HT.cp]
     |some i=>simp only[HT.cp];split<;>lia
    lia
   have:=v5 z.cps.toList lo hi e3;rw[hl] at this;rw[this]
  rw[this] at q;exact⟨.str z,H,I,⟨t,rfl⟩,q⟩
 ·rw[ef];exact⟨by
   show(kR z lo hi).length<=bS;unfold kR Str.length;simp only[hG,i7,A6,hl];have:z.cps.toList.length=z.length:=hl;lia,⟨.str (kR z lo hi),H,I.tok _,⟨_,rfl⟩,q⟩⟩
theorem Dl:L6 X (T6 X.K):=by
 intro pins s σ H x v vl vu lo hi sl Q I rx hs pl pu h;unfold T6 at h;split at h
 ·exact Du pins s σ H _ v vl vu lo hi sl Q I rx hs pl pu ⟨_,rfl,h.1,h.2⟩
 ·obtain⟨xs,h1,h2⟩:=h;exact dC' pins s σ H _ v vl vu lo hi sl Q I rx hs pl pu ⟨_,xs,rfl,h1,h2⟩
 ·exact h.elim
def NT(z:Str):It:=⟨fun i _=>i<z.cps.size,fun i H x H'=>H'=H/\∃ c,z.cps[i]? = some c/\x=.str ⟨#[c]⟩,fun i _=>z.cps.size<=i⟩
theorem sO {P:dr} {K:aE} (E9:ty = "str_ascii_iterator"\/ty = "str_iterator") :
  Turn P w K tg (NT z) [it] it (fun i h=>h.IsStrIter it ty z t i/\i<=z.cps.size) where
 mem:=by simp
 obj:=fun i h st b hb=>by
  have e:b=it:=by simpa using hb
  subst e;obtain⟨⟨o,e,c,d⟩,_⟩:=st;exact⟨o,e,fun v z=>by rw[d] at z;cases z⟩
 keep:=fun i h h' st k=>let ⟨⟨o,e,c,d⟩,l⟩:=st;⟨⟨o,k it (by simp) o e,c,d⟩,l⟩
 item:=by
  intro X hP hw hK hc i pins s σ H E I hf st hg;subst hP hw hK;obtain⟨f0,f1,f2,f3,f4,f5⟩:=hf it (by simp);obtain⟨st,_⟩:=st;have hg:i<z.cps.size:=hg;have W:Walks X.prog X.w X.A it [it] [it] z.cps.size (SignAt z) (fun i h=>h.IsStrIter it ty z t i):=by
   rcases E9 with rfl|rfl
   ·exact Walks.strAscii (I.ok.hd hc) it z t
   ·exact Walks.strWide (I.ok.hd hc) it z t
  refine W.item i s _ _ hg st fun v h' tk hv aw kk=>?_;obtain⟨c,u,ec,rfl⟩:=hv;have I1:Inv X pins σ H { s with heap:=h',toks:=tk }:=I.turned (fun b o hb e=>kk b o (by simpa using hb) e) f0 f1 f3 f4 f5;obtain⟨o,e,c',d⟩:=id aw;exact⟨_,rfl,Td (s:={ s with heap:=h',toks:=tk }) e c' d (by rcases E9 with rfl|rfl<;>decide) ⟨.str ⟨#[c]⟩,H,I1,⟨u,rfl⟩,⟨rfl,c,ec,rfl⟩,⟨aw,hg⟩,fun b hb=>(hf b hb).1⟩⟩
 done:=by
  intro X hP hw hK hc i pins s σ H E I hf st hg;subst hP hw hK;obtain⟨f0,f1,f2,f3,f4,f5⟩:=hf it (by simp);obtain⟨st,hle⟩:=st;have hg:z.cps.size<=i:=hg;have e:i=z.cps.size:=M8 hle hg;subst e;have W:Walks X.prog X.w X.A it [it] [it] z.cps.size (SignAt z) (fun i h=>h.IsStrIter it ty z t i):=by
   rcases E9 with rfl|rfl
   ·exact Walks.strAscii (I.ok.hd hc) it z t
   ·exact Walks.strWide (I.ok.hd hc) it z t
  exact W.done s _ _ st fun h' tk kk=>⟨rfl,I.turned (fun b o hb e=>kk b o (by simpa using hb) e) f0 f1 f3 f4 f5⟩
 self:=fun A i s Q E st h=>by
  rcases E9 with rfl|rfl
  ·exact wpAny_pyIter_striter_ascii st.1 h
  ·exact wpAny_pyIter_striter_wide st.1 h
theorem DQ(hl:PE X l tl):PI X tg l (fun σ H R=>tl σ H fun x H1=>∃ z,x=.str z/\R (NT z) H1):=by
 intro pins s σ H R I h;refine dz (hl pins s σ H _ I h) fun v s1 dn=>L2.gL dn fun x H1 I1 r1 q1=>?_;obtain⟨z,rfl,q⟩:=q1;obtain⟨t,rfl⟩:=r1;have fp:∀ b∈[s1.heap.objs.size],z5 X pins H1 b:=fun b hb=>by
  have e:b=s1.heap.objs.size:=by simpa using hb
  subst e;exact I1.PY (da _) (I1.b9.fresh (da _))
 cases ha:z.cps.all (· < 128)
 ·exact wpAny_pyIter_wide ha ⟨s1.heap.objs.size,[s1.heap.objs.size],_,_,H1,rfl,I1.kept (t':=s1.toks) fun b o e=>fE _ e,sO (.inr rfl),⟨⟨_,ku _ rfl,rfl,rfl⟩,eT _⟩,fp,q⟩
 ·exact wpAny_pyIter_ascii ha ⟨s1.heap.objs.size,[s1.heap.objs.size],_,_,H1,rfl,I1.kept (t':=s1.toks) fun b o e=>fE _ e,sO (.inl rfl),⟨⟨_,ku _ rfl,rfl,rfl⟩,eT _⟩,fp,q⟩
end
structure jw(J:It)(its:List V)(cond:Hp->Prop):Prop where
 go:∀ i H,cond H->i<its.length->J.go i H
 oD:∀ i H x H',cond H->i<its.length->J.oD i H x H'->H'=H/\its[i]? = some x
 stop:∀ H,cond H->J.stop its.length H
def Qp(z:Str):List V:=z.cps.toList.map fun c=>.str ⟨#[c]⟩
theorem BW(z:Str):jw (NT z) (Qp z) (fun _=>True) where
 go:=fun i H _ h=>by simpa[Qp,NT] using h
 oD:=fun i H x H' _ _ h=>by obtain⟨rfl,c,e,rfl⟩:=h;refine⟨rfl,?_⟩;unfold Qp;rw[qV,oa,e];rfl
 stop:=fun H _=>by simp[Qp,NT]
theorem yx(K:aE)(a:ag)(xs:List V):jw (PZ K a) xs (fun H=>fq K H a xs) where
 go:=fun i H h hi=>⟨xs,xs[i],h,by simp[hi]⟩
 oD:=fun i H x H' h _ y=>⟨y.1,y.2 xs h⟩
 stop:=fun H h=>⟨xs,h,da _⟩
def wY(lo:Int)(n:Nat):List V:=(List.range n).map fun i=>.int (lo+(i:Nat))
theorem vD(lo:Int)(n:Nat):jw (HV lo n) (wY lo n) (fun _=>True) where
 go:=fun i H _ h=>by simpa[wY,HV] using h
 oD:=fun i H x H' _ hi h=>by
  have hi:i<n:=by simpa[wY] using hi
  obtain⟨rfl,rfl⟩:=h;refine⟨rfl,?_⟩;simp[wY,hi]
 stop:=fun H _=>by simp[wY,HV]
def eP'(J:It)(g:TG)(tb:TS)(D:Ends)(σ:St)(H:Hp):Prop :=
 ∃ W:Nat->Nat->St->Hp->Prop,(∃ m,W 0 m σ H)/\∀ i m σ H,W i m σ H -> (J.stop i H/\D.nx σ H)\/(J.go i H/\∃ N:St->Hp->Prop,(∀ cf H',N cf H'->∃ m',m'<m/\W (i+1) m' cf H')/\∀ x H',J.oD i H x H'->g x σ H' fun lh H2=>tb { D with nx:=N,ct:=N,bk:=D.nx } lh H2)
theorem Ax(wi:TI)(g:TG)(tb:TS)(D:Ends)(σ:St)(H:Hp):V5 wi g tb D σ H=wi σ H fun J H1=>eP' J g tb D σ H1:=rfl
def Gj(J:It)(g:TG)(tc:TT)(te:TE)(τ0:St)(H1:Hp)(D:ag)(Q:VK):Prop :=
 ∃ W:Nat->Nat->St->Hp->Prop,(∃ m,W 0 m τ0 (upd H1 D (.lst [])))/\∀ i m τ H,W i m τ H -> (J.stop i H/\Q (.ref D) H)\/(J.go i H/\∃ (N1:St->V->Hp->Prop) (N2:St->Hp->Prop), (∀ nv v H4,N1 nv v H4->∃ ys m',H4 D=some (.lst ys)/\ys.length<bS/\m'<m/\W (i+1) m' nv (upd H4 D (.lst (ys++[v])))) /\ (∀ nv H3,N2 nv H3->∃ m',m'<m/\W (i+1) m' nv H3) /\
   ∀ x H',J.oD i H x H'->g x τ H' fun nv H2=>tc nv H2 fun b H3=>if b=true then te nv H3 (N1 nv) else N2 nv H3)
theorem xZ(wi:TI)(g:TG)(tc:TT)(te:TE)(tn:Nat)(ix:List Nat)(σ:St)(H:Hp)(Q:VK):wU wi g tc te tn ix σ H Q=wi σ H fun J H1=>∀ D,H1 D=none->Gj J g tc te (mF tn ix σ) H1 D Q:=rfl
mutual
inductive Rep(K:aE)(H:Hp):PyData->V->Prop
 |none:Rep K H .none .non
 |bool (b:Bool):Rep K H (.bool b) (.bl b)
 |int (i:Int):Rep K H (.int i) (.int i)
 |str (x:Str):Rep K H (.str x) (.str x)
 |list {a:ag} {vs:List V} {ds:List PyData}:fq K H a vs->bT K H ds vs->Rep K H (.list ds) (.ref a)
 |tuple {a:ag} {vs:List V} {ds:List PyData}:oC K H a vs->bT K H ds vs->Rep K H (.tuple ds) (.ref a)
inductive bT(K:aE)(H:Hp):List PyData->List V->Prop
 |nil:bT K H [] []
 |cons {d:PyData} {v:V} {ds:List PyData} {vs:List V}:Rep K H d v->bT K H ds vs->bT K H (d :: ds) (v :: vs)
end
section
variable {X:Cx}{pins:List (ag × Obj)}{σ:St}{H:Hp}{s:ay}
mutual
theorem Rep.reads(I:Inv X pins σ H s):∀ {d:PyData} {v:V} {u:ae},Rep X.K H d v->RelV v u->∃ as,Reads s.heap u d as
 |_,_,_,.none,r=>by cases (show _=Value.none from r);exact⟨_,.none⟩
 |_,_,_,.bool b,r=>by cases (show _=Value.bool b from r);exact⟨_,.bool b⟩
 |_,_,_,.int i,r=>by obtain⟨t,e⟩:=r;subst e;exact⟨_,.int i t⟩
 |_,_,_,.str x,r=>by obtain⟨t,e⟩:=r;subst e;exact⟨_,.str x t⟩
 |_,_,_,.list h hs,r=>by cases r;obtain⟨its,rv,pl,_⟩:=I.list h;obtain⟨o,e,c,n,d⟩:=pl.isList;obtain⟨as,q⟩:=bT.reads I hs rv;exact⟨_,.list e c d q⟩
 |_,_,_,.tuple h hs,r=>by cases r;obtain⟨its,rv,⟨o,e,c,n,d⟩,_⟩:=I.tuple h;obtain⟨as,q⟩:=bT.reads I hs rv;exact⟨_,.tuple e c d q⟩
theorem bT.reads(I:Inv X pins σ H s):∀ {ds:List PyData} {vs:List V} {us:List ae},bT X.K H ds vs->Vals vs us->∃ as,ReadsAll s.heap us ds as
 |_,_,_,.nil,.nil=>⟨_,.nil⟩
 |_,_,_,.cons h hs,.cons r rs=>by obtain⟨as,q⟩:=Rep.reads I h r;obtain⟨bs,q'⟩:=bT.reads I hs rs;exact⟨_,.cons q q'⟩
end
def T7(K:aE):R2:=fun x y H Q=>∃ d e,Rep K H d x/\Rep K H e y/\d.canLay0=true/\e.canLay0=true/\d.depth<=60/\Q (.bl (PyData.eqv d e)) H
def T8(K:aE):R2:=fun x y H Q=>∃ d e,Rep K H d x/\Rep K H e y/\d.canLay0=true/\e.canLay0=true/\d.depth<=60/\Q (.bl (!PyData.eqv d e)) H
theorem Eu(hu:X.A.units+64<gE):eJ X (hV .Eq) (T7 X.K):=by intro pins s σ H x y v u Q I rx ry h;obtain⟨d,e,h1,h2,h3,h4,h5,q⟩:=h;obtain⟨as,r1⟩:=h1.reads I rx;obtain⟨bs,r2⟩:=h2.reads I ry;exact PySem.SeqAt.rcAt_reads r1 r2 h3 h4 (by lia) X.prog X.w X.xe _ ⟨.bl _,H,I,rfl,q⟩
theorem Fi(hu:X.A.units+64<gE):eJ X (hV .NotEq) (T8 X.K):=by intro pins s σ H x y v u Q I rx ry h;obtain⟨d,e,h1,h2,h3,h4,h5,q⟩:=h;obtain⟨as,r1⟩:=h1.reads I rx;obtain⟨bs,r2⟩:=h2.reads I ry;exact PySem.SeqAt.rcNeAt_reads r1 r2 h3 h4 (by lia) X.prog X.w X.xe _ ⟨.bl _,H,I,rfl,q⟩
def Qq(K:aE):R2:=fun x y H Q=>match x,y with
 |.int i,.int j=>Q (.bl (decide (i=j))) H
 |.str i,.str j=>Q (.bl (decide (i=j))) H
 |.bl i,.bl j=>Q (.bl (decide (i=j))) H
 |_,_=>T7 K x y H Q
theorem Ew(hu:X.A.units+64<gE):eJ X (hV .Eq) (Qq X.K):=(cz'.or (Eu hu)).imp fun x y H Q h=>by
 unfold Qq at h;split at h
 ·refine .inl ⟨rfl,?_⟩;simpa using h
 ·refine .inl ⟨rfl,?_⟩;simpa using h
 ·refine .inl ⟨rfl,?_⟩;simpa using h
 ·exact .inr h
def Qr(K:aE):R2:=fun x y H Q=>match x,y with
 |.int i,.int j=>Q (.bl (!decide (i=j))) H
 |.str i,.str j=>Q (.bl (!decide (i=j))) H
 |.bl i,.bl j=>Q (.bl (!decide (i=j))) H
 |_,_=>T8 K x y H Q
theorem Fe(hu:X.A.units+64<gE):eJ X (hV .NotEq) (Qr X.K):=(cA'.or (Fi hu)).imp fun x y H Q h=>by
 unfold Qr at h;split at h
 ·refine .inl ⟨rfl,?_⟩;simpa using h
 ·refine .inl ⟨rfl,?_⟩;simpa using h
 ·refine .inl ⟨rfl,?_⟩;simpa using h
 ·exact .inr h
def Qs(K:aE):List V->Hp->VK->Prop:=fun xs H Q=>match xs with
 |[.ref a]=>∃ bs:List Bool,fq K H a (bs.map V.bl)/\Q (.bl (bs.all id)) H
 |_=>False
theorem uT (hc:X.calm=true):oI X (.builtin "all") (Qs X.K):=by
 intro pins s σ H xs us Q I r h;unfold Qs at h;split at h
 ·rename_i a;obtain⟨bs,e,q⟩:=h;obtain⟨u,rfl,ru⟩:=Vals.one r;cases ru;obtain⟨its,rv,pl,hz⟩:=I.list e;have hl:s.heap.IsList a its.toArray:=pl.isList;obtain⟨o,ho,PR,n,IG⟩:=id hl;have hlen:=rv.length;rw[cK] at hlen;refine call_all_walk (wpAny_pyIter_list hl ?_);have gX:a≠s.heap.objs.size:=gI (eP ho);have xk:X.A.in1.handled=none:=I.ok.hd hc;refine⟨s.heap.objs.size,_,_,_,_,_,fun i=>bs.getD i true,rfl,Walks.list xk s.heap.objs.size a gX its.toArray,⟨⟨_,ku _ rfl,rfl,rfl⟩,⟨_,fE _ ho,PR,n,IG⟩⟩,?_,fun h' tk hk=>?_⟩
  ·intro i v s' Q' E' hv hq;have hv:its.toArray[i]? = some v:=hv;have om:its[i]? = some v:=by simpa using hv
   have hi:i<bs.length:=by have:=(lP.mp om).1;lia
   obtain⟨w',e1,r1⟩:=rv.get (i:=i) (x:=V.bl bs[i]) (by simp[hi]);rw[om] at e1;cases e1;cases (show v=Value.bool bs[i] from r1);have e2:bs.getD i true=bs[i]:=by simp[List.getD,hi]
   have hq:Q' (bs.getD i true) s':=hq;rw[e2] at hq;exact CC hq
  ·have e3:((List.range its.toArray.size).all fun i=>bs.getD i true)=bs.all id:=by
    rw[hG,<- hlen];apply EX.mpr;simp only[GU,rg,id];constructor
    ·intro h b hb;obtain⟨i,hi,rfl⟩:=List.mem_iff_getElem.mp hb;have:=h i hi;simpa[List.getD,hi] using this
    ·intro h i hi;have:=h bs[i] (MX hi);simpa[List.getD,hi] using this
   rw[e3];refine⟨.bl (bs.all id),H,?_,rfl,q⟩;exact I.kept (t':=tk) fun b o e=>hk b o (by simp;exact gI (eP e)) (fE _ e)
 ·exact h.elim
end
end L2
namespace L2
open PySem PySem.Spec PyProof.Rows
def NV(sc:Scope)(names:List (Str × zC)):List (Str × zC):=names.map fun y=>if (y.2 == NameKind.free && sc.kind == .function && sc.names.lookup y.1 == some .cell)=true then (y.1,NameKind.cell) else (y.1,y.2)
def NW(o:Option zC):Bool:=o == some .cell || o == some .free
def zR(sc scope:Scope)(N cn:List Str)(ix:List Nat):Bool :=
 scope.kind == .function && scope.names.all (fun y=>y.2 != .cell) && scope.names.all (fun y=>y.2 != .free || NW (sc.names.lookup y.1)) && scope.names.all (fun y=>y.2 != .local || scope.names.lookup y.1 == some .local) &&
 ix.length == cn.length && (List.range ix.length).all (fun k=>match ix[k]?,cn[k]? with
  |some j,some y=>N[j]? == some y && NW (sc.names.lookup y) && scope.names.contains (y,NameKind.free) && NW ((NV sc scope.names).lookup y)
  |_,_=>false) &&
 (NV sc scope.names).all (fun y=>!(y.2 == .cell || y.2 == .free) || scope.names.contains (y.1,NameKind.free))
theorem qU(h:NW o=true):o=some .cell\/o=some .free:=by unfold NW at h;simpa using h
theorem dM.of{X:Cx}(ip:X.env.scope=sc)(hN:X.N=N)(h:zR sc scope N cn ix=true):dM X scope tn cn ix:=by
 unfold zR at h;simp only[k7] at h;obtain⟨⟨⟨⟨⟨⟨h1,h2⟩,h3⟩,h4⟩,h5⟩,h6⟩,h7⟩:=h;rw[GU] at h2 h3 h4 h6 h7;have W8:(relabel scope X.env).names=NV sc scope.names:=by unfold relabel NV;rw[<- ip];rfl
 refine⟨by simpa using h1,fun y hy=>by simpa using h2 y hy,fun y hy hk=>?_,fun y hy hk=>?_,by simpa using h5,fun k j hk=>?_,fun x hx=>?_⟩
 ·have:=h3 y hy;rw[hk] at this;rw[ip];exact qU (by simpa using this)
 ·have:=h4 y hy;rw[hk] at this;simpa using this
 ·have oQ:k<ix.length:=(lP.mp hk).1;have:=h6 k (rg.mpr oQ);rw[hk] at this
  cases e:cn[k]? with
  |none=>rw[e] at this;cases this
  |some y =>rw[e] at this;simp only[k7] at this;obtain⟨⟨⟨a1,a2⟩,a3⟩,a4⟩:=this;refine⟨y,rfl,by rw[hN];simpa using a1,by rw[ip];exact qU a2,by simpa using a3,by rw[W8];exact qU a4⟩
 ·rw[W8] at hx;have mem:∃ k,(x,k)∈NV sc scope.names/\(k=.cell\/k=.free):=by
   rcases hx with hx|hx
   ·exact⟨_,PySem.mem_of_lookup hx,.inl rfl⟩
   ·exact⟨_,PySem.mem_of_lookup hx,.inr rfl⟩
  obtain⟨k,hm,hk⟩:=mem;have:=h7 _ hm;rcases hk with rfl|rfl<;>simpa using this
theorem dM.by{X:Cx}(c:X.env.scope=sc/\X.N=N)(h:zR sc scope N cn ix=true):dM X scope tn cn ix:=.of c.1 c.2 h
structure Qt(P:dr)(w:dA)(K:aE)(mg:Str->Option ae)(base:cE)(k:Nat)(x:Str)(ps:List Str)(sp:Sp):Prop where
 ex:∃ (g:ag) (fd:zv),mg x=some (.ref g)/\EK K (.ref g)=true/\Binds K fd ps []/\t5 P w K mg base vw k g fd ps sp
section
variable {X:Cx}{k:Nat}{x:Str}{ps:List Str}{sp:Sp}{p pos:Pos}{e:Expr}{es:List Expr}{t:TA}
theorem Ei (C:Qt X.prog X.w X.K X.mg X.base k x ps sp) (hr:kC k X.A) (ha:PA X (e :: es) t) (hg:Gl X x:=by rfl) (kL:(x == ("__debug__" : Str))=false:=by decide) (he:bI (e :: es) X.env=(false,cv e X.env) :: bI es X.env:=by rfl) (jS:(iP pos (bI es X.env)).any (·.1)=false:=by rfl):PE X (.Call (.Name x p) (e :: es) [] pos) (Iq sp [] E0 t):=by
 obtain⟨g,fd,hm,hk,hb,F⟩:=C.ex;exact Wi F hr hg hm hk hb .nil er' ha kL he jS
end
theorem ui.cal{P:dr}{K:aE}{st:Stmt}{ps:List Str}(F:ui K x qual st f fd)(hm:mg x=some (.ref f))(G:t5 P w K mg base vw k f fd ps sp)(h:∀ (kV doc pm:ae) (an:Option ag) (dP ct:ae) (us:List ae),us.length=ps.length->bindArgs (vj x qual (y6 st) (rV st) (hZ st) .none kV doc pm an dP ct) ⟨us,[]⟩=pure (ps.zip us)):Qt P w K mg base k x ps sp :=
 ⟨f,fd,hm,F.kp,F.binds h,G⟩
def T9(mg:Str->Option ae)(x:Str)(z:Str):Prop:=∃ t,mg x=some (.str z t)
def Mi(mg:Str->Option ae)(x:Str)(i:Int):Prop:=∃ t,mg x=some (.int i t)
theorem Hd {X:Cx} (h:T9 X.mg x z) (hg:Gl X x:=by rfl) (hd:(x == ("__debug__" : Str))=false:=by decide):PE X (.Name x pos) (tC (.str z)):=by obtain⟨t,e⟩:=h;exact E5 hg e ⟨t,rfl⟩ hd
theorem Ho {X:Cx} (h:Mi X.mg x i) (hg:Gl X x:=by rfl) (hd:(x == ("__debug__" : Str))=false:=by decide):PE X (.Name x pos) (tC (.int i)):=by obtain⟨t,e⟩:=h;exact E5 hg e ⟨t,rfl⟩ hd
theorem zA:j3 "str" = some (.type "str"):=by decide +kernel
theorem yX:j3 "int" = some (.type "int"):=by decide +kernel
theorem z_:j3 "bool" = some (.type "bool"):=by decide +kernel
theorem jT:j3 "list" = some (.type "list"):=by decide +kernel
theorem tH:j3 "tuple" = some (.type "tuple"):=by decide +kernel
theorem dq:j3 "isinstance" = some (.builtin "isinstance"):=by decide +kernel
theorem Dd:j3 "all" = some (.builtin "all"):=by decide +kernel
theorem dg:j3 "len" = some (.builtin "len"):=by decide +kernel
theorem pB {X:Cx} {T:String} (hm:X.mg x=none) (hv:j3 x=some (.type T)) (hg:Gl X x:=by rfl) (hn:x ≠ "__name__" := by decide) (hd:(x == ("__debug__" : Str))=false:=by decide):PE X (.Name x pos) (tC (.ty T)) :=
 bF' hg hm hv rfl hn hd
def BU(i j:Str):Bool:=!(Builtin.Str.occurrences j i 0 j.length 1).isEmpty
theorem Bw(c:Nat)(j:Str):BU ⟨#[c]⟩ j=decide (c∈j.cps.toList):=PySem.StrLaws.found_one j c
def IH(K:aE)(neg:Bool):R2:=fun x y H Q=>match x,y with
 |.str i,.str j=>Q (.bl (if neg then !BU i j else BU i j)) H
 |_,.ref p=>(∃ o,mz H p x o/\Q (.bl (if neg then !o.isSome else o.isSome)) H)\/NF K neg x y H Q
 |_,_=>False
theorem Es{X:Cx}(hu:X.A.units+64<gE):eJ X (hV .In) (IH X.K false):=by
 intro pins s σ H x y v u Q I rx ry h;unfold IH at h;split at h
 ·exact cF' pins s σ H _ _ v u Q I rx ry ⟨_,_,rfl,rfl,h⟩
 ·rcases h with⟨o,g,q⟩|h
  ·cases ry;exact dV' (by lia) I g rx fun s3 I3=>⟨.bl o.isSome,H,I3,rfl,q⟩
  ·exact dE' pins s σ H _ _ v u Q I rx ry h
 ·exact h.elim
theorem vQ{X:Cx}(hu:X.A.units+64<gE):eJ X (hV .NotIn) (IH X.K true):=by
 intro pins s σ H x y v u Q I rx ry h;unfold IH at h;split at h
 ·exact cH' pins s σ H _ _ v u Q I rx ry ⟨_,_,rfl,rfl,h⟩
 ·rcases h with⟨o,g,q⟩|h
  ·cases ry;exact dW' (by lia) I g rx fun s3 I3=>⟨.bl (!o.isSome),H,I3,rfl,q⟩
  ·exact dF' pins s σ H _ _ v u Q I rx ry h
 ·exact h.elim
theorem bG.upd(h:bG H H')(hp:H' p=none):bG H (upd H' p o):=fun b u e=>by have e':=h b u e;rw[iL (LS e' hp)];exact e'
theorem bG.lst{K:aE}(e:bG H H')(h:fq K H a xs):fq K H' a xs:=e.seq h
theorem bG.tup{K:aE}(e:bG H H')(h:oC K H a xs):oC K H' a xs:=by
 rcases h with(h|⟨o,h⟩)|h
 ·exact .inl (.inl (e _ _ h))
 ·exact .inl (.inr ⟨o,e _ _ h⟩)
 ·exact .inr h
mutual
theorem Rep.same{K:aE}(s:bG H H'):∀ {d:PyData} {v:V},Rep K H d v->Rep K H' d v
 |_,_,.none=>.none
 |_,_,.bool b=>.bool b
 |_,_,.int i=>.int i
 |_,_,.str x=>.str x
 |_,_,.list h hs=>.list (s.lst h) (bT.same s hs)
 |_,_,.tuple h hs=>.tuple (s.tup h) (bT.same s hs)
theorem bT.same{K:aE}(s:bG H H'):∀ {ds:List PyData} {vs:List V},bT K H ds vs->bT K H' ds vs
 |_,_,.nil=>.nil
 |_,_,.cons h hs=>.cons (Rep.same s h) (bT.same s hs)
end
section
variable {X:Cx}{K:aE}
theorem Au(hK:X.K=K:=by rfl)(hu:X.A.units+64<gE:=by assumption):eJ X (hV .Eq) (Qq K):=by subst hK;exact Ew hu
theorem NX(hK:X.K=K:=by rfl)(hu:X.A.units+64<gE:=by assumption):eJ X (hV .NotEq) (Qr K):=by subst hK;exact Fe hu
theorem kB(hK:X.K=K:=by rfl)(hu:X.A.units+64<gE:=by assumption):eJ X (hV .In) (IH K false):=by subst hK;exact Es hu
theorem wV(hK:X.K=K:=by rfl)(hu:X.A.units+64<gE:=by assumption):eJ X (hV .NotIn) (IH K true):=by subst hK;exact vQ hu
theorem eS' (hc:X.calm=true:=by rfl) (hK:X.K=K:=by rfl):oI X (.builtin "all") (Qs K):=by subst hK;exact uT hc
end
theorem Ko{α:Type}{a:α}{p:α->Prop}:(∃ v,a=v/\p v)↔p a:=⟨fun⟨_,e,h⟩=>e ▸ h,fun h=>⟨a,rfl,h⟩⟩
end L2
namespace L2
open PySem PySem.Spec PyProof.Rows
abbrev T_:=Array DictEntry
def vx(h:cE)(d:ag)(es:T_)(ep:Nat):Prop:=∃ o,h.get? d=some o/\o.ExactDict/\o.data=.dict es ep
theorem vx.typ {s:ay} {d:ag} {es:T_} {ep:Nat} (x:vx s.heap d es ep):s.TypeIs (.ref d) "dict" := let ⟨o,e,c,_⟩:=x;⟨o,e,c.1⟩
section
variable {prog:dr}{w:dA}{A:eB}{E:ae->ay->Prop}{s:ay}{d it:ag}{es:T_}{ep i:Nat}
theorem xU{Q:ae->ay->Prop}(lo:(d == u0)=false)(x:vx s.heap d es ep)(q:Q (.ref s.heap.objs.size) { s with heap:=s.heap.push { cls:=.type "dict_keyiterator",data:=.fields #[.ref d,.int 0 0,.int es.size 0,.int ep 0] } }):aT (aS prog w) A (pyIter (.ref d)) Q E s:=by
 obtain⟨o,ho,hc,Qu⟩:=id x;refine wpAny_pyIter_slot x.typ F.slot_dict_iter (CD F.slot_dict_iter x.typ F.entry_dict_iter ?_ (F.args_dict_iter_1 _));unfold Builtin.«dict.__iter__»;refine ah ?_;unfold Builtin.Dict.dictSlotNone;refine ah (wpAny_notOrdered_dict x.typ ?_);refine(show aT _ _ (pure (Value.ref d)) _ _ s from aI ?_);refine(show aT _ _ (Builtin.Dict.showsAll d >>= _) _ _ s from ?_);unfold Builtin.Dict.showsAll;rw[if_neg (by rw[lo];decide)];refine ah (aI (ah (MN ho Qu (ah (wpAny_dictEpoch ho Qu (ah (qE (aI ⟨_,rfl, "dict_keyiterator",_,⟨_,ku _ rfl,rfl⟩,F.slot_dict_keyiterator_next.lookup,?_⟩))))))));simpa[ki] using q
theorem yE(hit:s.heap.IsKeyIter it d i es.size ep)(x:vx s.heap d es ep)(hx:i<es.size)(q:∀ h',h'.IsKeyIter it d (i+1) es.size ep->Heap.SameBut it s.heap h'->Q (some es[i].key) { s with heap:=h' }):aT (aS prog w) A (pyNext (.ref it)) Q E s:=by
 obtain⟨o,ho,hc,hd⟩:=id hit;obtain⟨od,IG,rq,Fm⟩:=id x;have ty:=hit.typeIs;unfold pyNext;refine ah (wpAny_attempt (MK (name:=Str.ofString "__next__") ty F.slot_dict_keyiterator_next (CD F.slot_dict_keyiterator_next ty F.entry_dict_keyiterator_next ?_ (F.args_dict_keyiterator_next_1 _))));refine ah (aI (ah (ah ?_)));first|refine ah (Pb ty (aI ?_))|refine ah (Pg ty (aI ?_))
 refine ah (wpAny_fieldsOf ho hd ?_);simp only[show Builtin.Dict_items.ownsTuple "dict_keyiterator" = false by decide,iX,if_false];refine(show aT _ _ (if (Value.ref d == Value.none)=true then _ else _) _ _ s from ?_);rw[if_neg (show ¬ ((Value.ref d == Value.none)=true) by intro h;cases h)];refine ah (aI (ah (MN IG Fm ?_)));rw[if_neg (by intro h;simp at h)];refine ah (aI (ah (wpAny_dictEpoch IG Fm ?_)));rw[if_neg (by intro h;simp at h)];refine aI ?_;simp only[show ¬ ((i:Int)<0) by lia,if_false,Nh,A9 hx];refine ah ?_;first|refine ah (Pb ty (aI ?_))|refine ah (Pg ty (aI ?_))
 refine ah (wpAny_isOneOf_keyiter ty ?_);refine(show aT _ _ (setField (.ref it) 1 (ki ((i:Int)+1)) >>= _) _ _ s from ah (wpAny_setField ho hd (by simp) ?_));have W9:(s.heap.update it (Obj.mapFields (·.setIfInBounds 1 (ki ((i:Int)+1))))).IsKeyIter it d (i+1) es.size ep :=
  ⟨_,vn _ ho (Obj.isFreed_of_fields (Obj.data_mapFields hd _)),(Obj.cls_mapFields ..).trans hc,by rw[Obj.data_mapFields hd];simp[ki]⟩
 refine ah (oy (ah (wpAny_isOneOf_keyiter (s:={ s with heap:=s.heap.update it (Obj.mapFields (·.setIfInBounds 1 (ki ((i:Int)+1)))) }) W9.typeIs ?_)));refine(show aT _ _ (pure es[i].key) _ _ _ from aI (aI ⟨_,rfl,aI (q _ W9 (Heap.SameBut.update ..))⟩))
theorem yc(hh:A.handled=none)(hit:s.heap.IsKeyIter it d es.size es.size ep)(x:vx s.heap d es ep)(q:∀ h',Heap.ExtBut it s.heap h'->Q none { s with heap:=h' }) :
  aT (aS prog w) A (pyNext (.ref it)) Q E s:=by
 obtain⟨o,ho,hc,hd⟩:=id hit;obtain⟨od,IG,rq,Fm⟩:=id x;have ty:=hit.typeIs;unfold pyNext;refine ah (wpAny_attempt (MK (name:=Str.ofString "__next__") ty F.slot_dict_keyiterator_next (CD F.slot_dict_keyiterator_next ty F.entry_dict_keyiterator_next ?_ (F.args_dict_keyiterator_next_1 _))));refine ah (aI (ah (ah ?_)));first|refine ah (Pb ty (aI ?_))|refine ah (Pg ty (aI ?_))
 refine ah (wpAny_fieldsOf ho hd ?_);simp only[show Builtin.Dict_items.ownsTuple "dict_keyiterator" = false by decide,iX,if_false];refine(show aT _ _ (if (Value.ref d == Value.none)=true then _ else _) _ _ s from ?_);rw[if_neg (show ¬ ((Value.ref d == Value.none)=true) by intro h;cases h)];refine ah (aI (ah (MN IG Fm ?_)));rw[if_neg (by intro h;simp at h)];refine ah (aI (ah (wpAny_dictEpoch IG Fm ?_)));rw[if_neg (by intro h;simp at h)];refine aI ?_;simp only[show ¬ ((es.size:Int)<0) by lia,if_false,Nh,LP (da es.size)];refine ah ?_;first|refine ah (Pb ty (aI ?_))|refine ah (Pg ty (aI ?_))
 refine(show aT _ _ (setField (.ref it) 0 .none >>= _) _ _ s from ah (wpAny_setField ho hd (by simp) ?_));refine(show aT _ _ (newExc (.type "StopIteration") [] >>= _) _ _ _ from ah ?_);simp only[newExc,newTuple];refine ah (qE ?_ (by size_fits));refine ah (m:=firstArgMember _ _) (GL (a:=Value.none) (by first|rfl|(simp only[firstArgMember];rfl)) (qE ?_ (by size_fits)));simp only[raiseNew];refine ah (wpAny_handled ?_);rw[show A.in1.handled=none from hh];refine ah (aI (wpAny_throw ?_));refine ah (K0 (b:=true) (T := "StopIteration") ⟨_,ku _ rfl,rfl⟩ isSubtype_stop ?_);exact aI (q _ (((Heap.SameBut.update ..).extBut.push _).push _))
theorem vx.at(x:vx h d es ep)(e:∀ o,h.get? d=some o->h'.get? d=some o):vx h' d es ep:=let ⟨o,ho,r⟩:=x;⟨o,e o ho,r⟩
theorem vx.lt(x:vx h d es ep):d<h.objs.size:=let ⟨_,e,_⟩:=x;eP e
theorem uQ(hh:A.handled=none)(I:ag)(gX:d≠I):Walks prog w A I [I,d] [I] es.size (fun i v=>∃ e,es[i]? = some e/\v=e.key) (fun i h=>h.IsKeyIter I d i es.size ep/\vx h d es ep) where
 sub:=fun b hb=>by simp at hb;simp[hb]
 frame:=fun _ _ _ st hk=>⟨st.1.at fun o e=>hk I (by simp) o e,st.2.at fun o e=>hk d (by simp) o e⟩
 item:=fun i s Q E hi st hQ=>yE st.1 st.2 hi fun h' a b=>hQ _ h' s.toks ⟨es[i],by simp[hi],rfl⟩ ⟨a,st.2.at fun o e=>b.extBut d o gX e⟩ fun c o hb e=>b.extBut c o (fun h=>hb (by simp[h])) e
 done:=fun s Q E st hQ=>yc hh st.1 st.2 fun h' Qw=>hQ h' s.toks fun b o hb e=>Qw b o (fun h=>hb (by simp[h])) e
 self:=fun _ _ _ _ st hQ=>wpAny_pyIter_keyiter st.1 hQ
theorem Ce (lo:(d == u0)=false):PySem.W.KdlSrc prog w "dict" d d es.size (fun i v=>∃ e,es[i]? = some e/\v=e.key) (fun h=>vx h d es ep) where
 type:=fun _ x=>x.typ
 there:=fun _ x=>⟨x.lt,x.lt⟩
 keep:=fun _ _ x hk=>x.at fun o e=>hk d (.inl rfl) o e
 notList:=by decide
 notTuple:=by decide
 hint:=fun _ _ _ _ x hq=>PySem.W.kdl_hint_dict x.typ hq
 iter:=fun _ _ hh x=>⟨_,_,(fun _ _ hq=>xU lo x hq),uQ hh _ (gI x.lt),⟨⟨_,ku _ rfl,rfl,rfl⟩,x.at fun o e=>fE _ e⟩⟩
end
theorem Paired.n0{α β:Type}{R:α->β->Prop}{bs:List β}(h:Paired R [] bs):bs=[]:=by cases h;rfl
theorem Paired.c{α β:Type}{R:α->β->Prop}{a:α}{as:List α}{bs:List β}(h:Paired R (a :: as) bs):∃ b cs,bs=b :: cs/\R a b/\Paired R as cs:=by
 cases h with
 |cons r t=>exact⟨_,_,rfl,r,t⟩
def b8(H:Hp)(ys:List V)(ks:List (List Key)):Prop:=Paired (fun(v:V) (k:List Key)=>∃ b,v=.ref b/\H b=some (.tup (k.map kV))) ys ks
section
variable {X:Cx}
def rC:List V->Hp->VK->Prop:=fun xs H Q=>match xs with
 |[.ref p]=>∃ kvs,Rd H p (.dT kvs)/\∀ ys l,b8 H ys (kvs.map (·.1))->H l=none->Q (.ref l) (upd H l (.lst ys))
 |_=>False
theorem Ae (h:Paired (fun(p:List Key × V) (q:List Key × ag × ae)=>p.1=q.1/\H q.2.1=some (.tup (p.1.map kV))/\RelV p.2 q.2.2) kvs xs) :
  b8 H (xs.map fun q=>.ref q.2.1) (kvs.map (·.1))/\Vals (xs.map fun q=>.ref q.2.1) ((xs.map (entryOfKey (CH (kA prog w)))).map (·.key)):=by
 induction h with
 |nil=>exact⟨.nil,.nil⟩
 |cons r t ih=>exact⟨.cons ⟨_,rfl,r.2.1⟩ ih.1,.cons rfl ih.2⟩
theorem t8 (hc:X.calm=true):oI X (.type "list") rC:=by
 intro pins s σ H xs us Q I r h;unfold rC at h;split at h
 ·rename_i p;obtain⟨kvs,e,q⟩:=h;obtain⟨u,rfl,ru⟩:=Vals.one r;cases ru;obtain⟨z,y,ps,rel,o,es,ep,h1,h2,h3,h4,h5⟩:=(show gS X.prog X.w H s.heap p (.dT kvs) from I.rd e)
  obtain⟨ta,va⟩:=Ae (prog:=X.prog) (w:=X.w) rel;have hlen:es.size=kvs.length:=by have:=congrArg List.length h4;rw[yk,cK] at this;rw[this];exact rel.length.symm
  refine PySem.W.kdl_call (Ce (es:=es) (ep:=ep) y) (I.ok.hd hc) ⟨o,h1,h2,h3⟩ (by lia) fun h' tk acc c kp eo NZ=>?_;have hv:acc.toList=(ps.map (entryOfKey (CH (kA X.prog X.w)))).map (·.key):=by
   apply Lv;intro i;by_cases hi:i<es.size
   ·have qa:i<acc.size:=by rw[NZ.1];exact hi
    obtain⟨en,e1,e2⟩:=NZ.2 i acc[i] (by simp[qa]);rw[<- h4,qV,oa,oa,e1];simp[qa,e2]
   ·rw[<- h4,qV,oa,oa,LP (by rw[NZ.1];lia),LP (by lia)];rfl
  refine⟨.ref s.heap.objs.size,_,I.laid (t':=tk) kp (da _) (show gS X.prog X.w _ h' _ (.lst (ps.map fun q=>.ref q.2.1)) from⟨?_,acc.toList,c,?_,?_⟩),rfl,q _ _ ta (I.b9.fresh (da _))⟩
  ·rw[cK,<- rel.length];exact z
  ·rw[hv];exact va
  ·rw[Array.toArray_toList];exact eo
 ·exact h.elim
end
end L2
namespace B1
open PySem PyProof.Rows
def R(r:ae->Int)(xs:Array bP)(i:Nat):Int:=match xs[i]? with
 |some p=>r p.1
 |none=>0
theorem cH(h:xs[i]? = ys[j]?):R r xs i=R r ys j:=by unfold R;rw[h]
def oS(prog:dr)(w:dA)(A:eB)(s:ay)(κ:tN)(r:ae->Int)(P:ae->Prop):Prop :=
 ∀ x y,P x->P y->∀ (Q:Bool->ay->Prop) (E:ae->ay->Prop),Q (decide (r x<r y)) s->aT (aS prog w) A (keyLt' κ x y) Q E s
def AllP(P:ae->Prop)(xs:Array bP):Prop:=∀ p∈xs.toList,P p.1
theorem AllP.perm{P:ae->Prop}(h:AllP P xs)(hp:ys.Perm xs):AllP P ys:=fun p hm=>h p ((Sy.mp hp).mem_iff.mp hm)
theorem AllP.at{P:ae->Prop}{xs:Array bP}(h:AllP P xs){i:Nat}{p:bP}(e:xs[i]? = some p):P p.1:=h p (by
 obtain⟨hi,rfl⟩:=Dx.mp e;simp)
structure mM(lo hi:Nat)(st aw:dv):Prop where
 kind:eR aw=eR st
 failed:pE aw=pE st
 pend:kz aw=kz st
 perm:(bp aw).Perm (bp st)
 out:∀ k,k<lo\/hi<=k->(bp aw)[k]? = (bp st)[k]?
theorem mM.refl(lo hi:Nat)(st:dv):mM lo hi st st:=⟨rfl,rfl,rfl,Array.Perm.refl _,fun _ _=>rfl⟩
theorem mM.trans{lo hi:Nat}{a b c:dv}(h:mM lo hi a b)(g:mM lo hi b c):mM lo hi a c :=
 ⟨g.kind.trans h.kind,g.failed.trans h.failed,g.pend.trans h.pend,g.perm.trans h.perm,fun k hk=>(g.out k hk).trans (h.out k hk)⟩
theorem mM.mono{lo hi II nE:Nat}{a b:dv}(h:mM lo hi a b)(h1:II<=lo)(h2:hi<=nE):mM II nE a b :=
 ⟨h.kind,h.failed,h.pend,h.perm,fun k hk=>h.out k (by lia)⟩
theorem mM.size{lo hi:Nat}{a b:dv}(h:mM lo hi a b):(bp b).size=(bp a).size:=h.perm.size_eq
def Up(r:ae->Int)(xs:Array bP)(lo hi:Nat):Prop:=∀ i j,lo<=i->i<=j->j<hi->R r xs i<=R r xs j
def Down(r:ae->Int)(xs:Array bP)(lo hi:Nat):Prop:=∀ i j,lo<=i->i<=j->j<hi->R r xs j<=R r xs i
theorem tL(hs:src<xs.size)(hd:d<=src)(k:Nat) :
  R r (bubble xs src d) k=if k=src-d then R r xs src else if src-d<k/\k<=src then R r xs (k-1) else R r xs k:=by
 have e:=getElem?_bubble hs d hd k;by_cases h1:k=src-d
 ·rw[if_pos h1] at e ⊢;exact cH e
 ·rw[if_neg h1] at e ⊢;by_cases h2:src-d<k/\k<=src
  ·rw[if_pos h2] at e ⊢;exact cH e
  ·rw[if_neg h2] at e ⊢;exact cH e
theorem lR(hj:j<=xs.size)(k:Nat) :
  R r (mirror xs i j ((j-i) / 2)) k=if i<=k/\k<j then R r xs (i+j-1-k) else R r xs k:=by
 have e:=getElem?_mirror_all (i:=i) hj k;by_cases h1:i<=k/\k<j
 ·rw[if_pos h1] at e ⊢;exact cH e
 ·rw[if_neg h1] at e ⊢;exact cH e
theorem bw(hj:j<=xs.size)(heq:∀ k,i<=k->k<j->R r xs k=R r xs (j-1))(k:Nat) :
  R r (mirror xs i j ((j-i) / 2)) k=R r xs k:=by
 rw[lR hj];split
 ·rw[heq _ (by lia) (by lia),heq k (by lia) (by lia)]
 ·rfl
section
variable {prog:dr}{w:dA}{A:eB}{E:ae->ay->Prop}{s:ay}{κ:tN}{r:ae->Int}{P:ae->Prop}
theorem pO{st:dv}{x y:bP}{Q:Option Bool->dv->Prop}(C:oS prog w A s κ r P)(hk:eR st=κ)(hx:P x.1)(hy:P y.1)(h:Q (some (decide (r x.1<r y.1))) st) :
  wpS (aS prog w) A E s (lt' x y) Q st:=by
 rw[lt'_eq];refine cq (wpS_get ?_);rw[hk];refine cq (wpS_lift (wpAny_attempt (C x.1 y.1 hx hy _ _ ⟨rfl,?_⟩)));exact df h
theorem aF{xs:Array bP}{i:Nat}{Q:bP->dv->Prop}{st:dv}(hi:i<xs.size)(h:∀ p,xs[i]? = some p->Q p st):wpS (aS prog w) A E s (ng xs i) Q st:=by rw[elem'_eq,getElem?_pos xs i hi];exact df (h _ (getElem?_pos xs i hi))
theorem jG{st:dv}{i j:Nat}{Q:Option Bool->dv->Prop}(C:oS prog w A s κ r P)(hk:eR st=κ)(hP:AllP P (bp st))(hi:i<(bp st).size)(hj:j<(bp st).size)(h:Q (some (decide (R r (bp st) i<R r (bp st) j))) st):wpS (aS prog w) A E s (ltAt' i j) Q st:=by
 rw[ltAt'_eq];refine cq (wpS_get ?_);show wpS _ _ _ _ (do let x <- ng (bp st) i;let y <- ng (bp st) j;lt' x y) Q st;refine cq (aF hi fun p ep=>cq (aF hj fun q eq=>pO C hk (hP.at ep) (hP.at eq) ?_));have e1:R r (bp st) i=r p.1:=by unfold R;rw[ep]
 have e2:R r (bp st) j=r q.1:=by unfold R;rw[eq]
 rw[<- e1,<- e2];exact h
theorem cN{st:dv}{i j:Nat}{Q:Unit->dv->Prop}(h:Q () (setArr st (mirror (bp st) i j ((j-i) / 2)))) :
  wpS (aS prog w) A E s (reverseSlice' i j) Q st:=by
 rw[reverseSlice'_eq];exact Dp h
theorem fJ{st:dv}{i j:Nat}(hj:j<=(bp st).size):mM i j st (setArr st (mirror (bp st) i j ((j-i) / 2))) :=
 ⟨rfl,rfl,rfl,mirror_perm _ _ _ _,fun k hk=>by
  have e:=getElem?_mirror_all (i:=i) hj k;rw[if_neg (by lia)] at e;exact e⟩
theorem ue{st:dv}{lo src d:Nat}(hs:src<(bp st).size)(hd:lo+d<=src):mM lo (src+1) st (setArr st (bubble (bp st) src d)) :=
 ⟨rfl,rfl,rfl,bubble_perm _ _ _,fun k hk=>by
  have e:=getElem?_bubble hs d (by walk_at "s4") k;rw[if_neg (by lia),if_neg (by lia)] at e;exact e⟩
theorem wpS_binarySort{st:dv}{lo n ok:Nat}{Q:Bool->dv->Prop}(C:oS prog w A s κ r P)(hk:eR st=κ)(hP:AllP P (bp st))(hn:lo+n<=(bp st).size)(b9:ok<=n)(hs:Up r (bp st) lo (lo+ok))(h:∀ aw,mM lo (lo+n) st aw->Up r (bp aw) lo (lo+n)->Q true aw):wpS (aS prog w) A E s (binarySort' lo n ok) Q st:=by
 rw[binarySort'_eq];refine cq (tP (rh (I:=fun k c aw=>c=(none,())/\mM lo (lo+n) st aw/\Up r (bp aw) lo (lo+min k n)) (Q:=fun c aw=>c=(none,())/\mM lo (lo+n) st aw/\Up r (bp aw) lo (lo+n)) ?step ?fin ?init) ?post)
 case post =>
  rintro c aw ⟨rfl,kc,fF⟩;exact df (h aw kc fF)
 case init =>
  refine⟨rfl,.refl _ _ _,fun i j hl kS hj=>?_⟩;by_cases h1:ok=0
  ·have:i=j:=by lia
   subst this;exact yv _
  ·exact hs i j hl kS (by lia)
 case fin =>
  rintro c aw ⟨hc,kc,fF⟩;refine⟨hc,kc,?_⟩;rwa[show min (max (max ok 1) n) n=n by lia] at fF
 case step =>
  rintro k c aw hak hkn ⟨rfl,kc,fF⟩;rw[show min k n=k by lia] at fF;have fz:=kc.size;have oQ:eR aw=κ:=kc.kind.trans hk;have sM:=hP.perm kc.perm;refine cq (tP (rh (I:=fun x c AA=>AA=aw/\∃ l r',c=(none,l,r')/\l<=r'/\r'<=k/\r'-l<=k-x /\ (∀ i,lo<=i->i<lo+l->R r (bp aw) i<=R r (bp aw) (lo+k))/\(∀ i,lo+r'<=i->i<lo+k->R r (bp aw) (lo+k)<R r (bp aw) i)) (Q:=fun c AA=>AA=aw/\∃ l r',c=(none,l,r')/\l<=k /\ (∀ i,lo<=i->i<lo+l->R r (bp aw) i<=R r (bp aw) (lo+k))/\(∀ i,lo+l<=i->i<lo+k->R r (bp aw) (lo+k)<R r (bp aw) i)) ?eT' ?eU' ?eV') ?eW')
  case eV'=>exact⟨rfl,0,k,rfl,by exact eT _,by exact da _,by exact Nat.sub_le _ _,fun i _ hi=>by lia,fun i h1 h2=>by lia⟩
  case eU' =>
   rintro c AA ⟨rfl,l,r',rfl,hlr,Ua,hm,Fh,B3⟩;have:l=r':=by lia
   subst this;exact⟨rfl,l,l,rfl,Ua,Fh,B3⟩
  case eT' =>
   rintro x c AA _ hxk ⟨rfl,l,r',rfl,hlr,Ua,hm,Fh,B3⟩;dsimp only;by_cases sN:l >= r'
   ·rw[if_pos sN];have:l=r':=by exact M8 ‹_› ‹_›
    subst this;exact df ⟨rfl,l,l,rfl,Ua,Fh,B3⟩
   ·rw[if_neg sN];refine cq (jG C oQ sM (by lia) (by lia) ?_);by_cases xl:R r (bp AA) (lo+k)<R r (bp AA) (lo+(l+r') / 2)
    ·simp only[xl,decide_true,if_true];refine df ⟨rfl,l,(l+r') / 2,rfl,by lia,by lia,by lia,Fh,fun i h1 h2=>?_⟩;exact Ng xl (fF _ _ (by exact LC _ _) h1 h2)
    ·simp only[xl,decide_false,iX,if_false];refine df ⟨rfl,(l+r') / 2+1,r',rfl,by lia,by lia,by lia,fun i h0 h1=>?_,B3⟩;exact yn (fF i (lo+(l+r') / 2) h0 (by lia) (by lia)) (Int.not_lt.mp xl)
  case eW' =>
   rintro c AA ⟨rfl,l,r',rfl,hlk,Fh,B3⟩;show wpS _ _ _ _ (do moveDown' (lo+k) (lo+l);pure (ForInStep.yield (none,()))) _ _;rw[moveDown'_eq];have Ub:lo+k<(bp AA).size:=by lia
   refine cq (Dp (df ⟨rfl,kc.trans ((ue (lo:=lo) Ub (by lia)).mono (da _) (by lia)),?_⟩));rw[show min (k+1) n=k+1 by exact LD ‹_›];intro i j hl kS hj;show R r (bubble (bp AA) (lo+k) (lo+k-(lo+l))) i<=R r (bubble (bp AA) (lo+k) (lo+k-(lo+l))) j;rw[tL Ub (by exact Nat.sub_le _ _),tL Ub (by exact Nat.sub_le _ _),show lo+k-(lo+k-(lo+l))=lo+l by lia]
   repeat' split
   all_goals first
    | (exfalso;lia)
    |exact yv _
    |exact Fh _ (by lia) (by lia)
    |exact DB (B3 _ (by lia) (by lia))
    |exact fF _ _ (by lia) (by lia) (by lia)
end
def ascL(lo a nrem:Nat):StateT dv Sem AscSt :=
 forIn [a:nrem] ((none,a):AscSt) fun _ __s=>do
  let __x ← ltAt' (lo + __s.snd) (lo + __s.snd - 1)
  match __x with
  |some smaller=>if smaller=true then pure (ForInStep.done (none,__s.snd)) else pure (ForInStep.yield (none,__s.snd+1))
  |_=>pure (ForInStep.done (some none,__s.snd))
def nY(lo n nrem:Nat):StateT dv Sem (Option Nat):=do
 reverseSlice' lo (lo+n)
 let __s ← ascL lo n nrem
 match __s.fst with
 |some r=>pure r
 |none=>pure (some __s.snd)
def yF(lo n nrem:Nat):StateT dv Sem DescSt :=
 forIn [n:nrem] ((none,n,0):DescSt) fun _ __s=>do
  let __x ← ltAt' (lo + __s.snd.fst) (lo + __s.snd.fst - 1)
  match __x with
  |some smaller =>
   if smaller=true then
    if __s.snd.snd>0 then do
     reverseSlice' (lo+__s.snd.fst-(__s.snd.snd+1)) (lo+__s.snd.fst)
     pure (ForInStep.yield (none,__s.snd.fst+1,0))
    else pure (ForInStep.yield (none,__s.snd.fst+1,0))
   else do
    let __x ← ltAt' (lo+__s.snd.fst - 1) (lo+__s.snd.fst)
    match __x with
    |some larger =>
     if larger=true then pure (ForInStep.done (none,__s.snd.fst,__s.snd.snd))
     else pure (ForInStep.yield (none,__s.snd.fst+1,__s.snd.snd+1))
    |_=>pure (ForInStep.done (some none,__s.snd.fst,__s.snd.snd))
  |_=>pure (ForInStep.done (some none,__s.snd.fst,__s.snd.snd))
def fD(lo n nrem:Nat):StateT dv Sem (Option Nat):=do
 liftM (rule "list.sort.descending-run")
 let __s ← yF lo (n+1) nrem
 match __s.fst with
 |some r=>pure r
 |none =>
  if __s.snd.snd>0 then do
   reverseSlice' (lo+__s.snd.fst-(__s.snd.snd+1)) (lo+__s.snd.fst)
   nY lo __s.snd.fst nrem
  else nY lo __s.snd.fst nrem
theorem pD(lo nrem:Nat):countRun' lo nrem=(do
  let __s ← ascL lo 1 nrem
  match __s.fst with
  |some r=>pure r
  |none =>
   if (__s.snd == nrem)=true then pure (some __s.snd)
   else if __s.snd>1 then do
    let __x ← ltAt' lo (lo+__s.snd - 1)
    match __x with
    |some W_=>if W_=true then pure (some __s.snd) else do
      reverseSlice' lo (lo+__s.snd)
      fD lo __s.snd nrem
    |_=>pure none
   else fD lo __s.snd nrem):=by
 rw[countRun'_eq];dsimp only;unfold fD nY yF ascL;congr 1;funext __s;obtain⟨r,n⟩:=__s
 cases r with
 |some r=>rfl
 |none =>
  dsimp only;split
  ·rfl
  ·split
   ·congr 1;funext x
    cases x with
    |none=>rfl
    |some W_ =>
     dsimp only;split
     ·rfl
     ·congr 1;funext _r
      (congr 1;funext _u;congr 1;congr 1;funext s2;obtain⟨r2,n2,q2⟩:=s2;cases r2 with
       |some r2=>rfl
       |none=>(dsimp only;split;(congr 1;funext _v;(congr 1;funext _w;congr 1;(funext s3;obtain⟨r3,n3⟩:=s3;cases r3<;>rfl)));(congr 1;funext _w;congr 1;(funext s3;obtain⟨r3,n3⟩:=s3;cases r3<;>rfl))))
   ·(congr 1;funext _u;congr 1;congr 1;funext s2;obtain⟨r2,n2,q2⟩:=s2;cases r2 with
     |some r2=>rfl
     |none=>(dsimp only;split;(congr 1;funext _v;(congr 1;funext _w;congr 1;(funext s3;obtain⟨r3,n3⟩:=s3;cases r3<;>rfl)));(congr 1;funext _w;congr 1;(funext s3;obtain⟨r3,n3⟩:=s3;cases r3<;>rfl))))
section
variable {prog:dr}{w:dA}{A:eB}{E:ae->ay->Prop}{s:ay}{κ:tN}{r:ae->Int}{P:ae->Prop}
theorem tD{st:dv}{lo a nrem:Nat}{Q:AscSt->dv->Prop}(C:oS prog w A s κ r P)(hk:eR st=κ)(hP:AllP P (bp st))(hn:lo+nrem<=(bp st).size)(ha:1<=a)(han:a<=nrem)(hs:Up r (bp st) lo (lo+a))(h:∀ n,a<=n->n<=nrem->Up r (bp st) lo (lo+n)->(n=nrem\/R r (bp st) (lo+n)<R r (bp st) (lo+n-1))->Q (none,n) st) :
  wpS (aS prog w) A E s (ascL lo a nrem) Q st:=by
 unfold ascL;refine rh (I:=fun x c aw=>aw=st/\c=(none,x)/\Up r (bp st) lo (lo+x)) ?step ?fin ⟨rfl,rfl,hs⟩;case fin =>
  rintro c aw ⟨rfl,rfl,fF⟩;rw[show max a nrem=nrem by lia] at fF ⊢;exact h nrem han (da _) fF (.inl rfl)
 case step =>
  rintro x c aw Uc hxn ⟨rfl,rfl,fF⟩;dsimp only;refine cq (jG C hk hP (by lia) (by lia) ?_);by_cases xl:R r (bp aw) (lo+x)<R r (bp aw) (lo+x-1)
  ·simp only[xl,decide_true,if_true];exact df (h x Uc (by exact mS ‹_›) fF (.inr xl))
  ·simp only[xl,decide_false,iX,if_false];refine df ⟨rfl,rfl,fun i j hl kS hj=>?_⟩;by_cases N0:j<lo+x
   ·exact fF i j hl kS N0
   ·have y8:j=lo+x:=by lia
    subst y8;by_cases nE:i=lo+x
    ·subst nE;exact yv _
    ·exact yn (fF i (lo+x-1) hl (by lia) (by lia)) (Int.not_lt.mp xl)
theorem lK{st:dv}{lo n nrem:Nat}{Q:Option Nat->dv->Prop}(C:oS prog w A s κ r P)(hk:eR st=κ)(hP:AllP P (bp st))(hn:lo+nrem<=(bp st).size)(h1:1<=n)(D2:n<=nrem)(hs:Down r (bp st) lo (lo+n)) (h:∀ m aw,mM lo (lo+nrem) st aw->1<=m->m<=nrem->Up r (bp aw) lo (lo+m)->Q (some m) aw) :
  wpS (aS prog w) A E s (nY lo n nrem) Q st:=by
 unfold nY;have fz:lo+n<=(bp st).size:=by lia
 refine cq (cN ?_);have kc:=fJ (i:=lo) fz;refine cq (tD C (kc.kind.trans hk) (hP.perm kc.perm) (by rw[kc.size];exact hn) h1 D2 ?_ fun m AB k8 Ud _=>df (h m _ (kc.mono (da _) (by lia)) (by walk_at "s1") k8 Ud));intro i j hl kS hj;show R r (mirror (bp st) lo (lo+n) ((lo+n-lo) / 2)) i<=R r (mirror (bp st) lo (lo+n) ((lo+n-lo) / 2)) j;rw[lR fz,lR fz,if_pos (by lia),if_pos (by lia)];exact hs _ _ (by lia) (by lia) (by lia)
theorem vH{st:dv}{lo n nrem:Nat}{Q:DescSt->dv->Prop}(C:oS prog w A s κ r P)(hk:eR st=κ)(hP:AllP P (bp st))(hn:lo+nrem<=(bp st).size)(h1:1<=n)(D2:n<=nrem)(hs:Down r (bp st) lo (lo+n))(h:∀ m sP aw,mM lo (lo+nrem) st aw->n<=m->m<=nrem->Down r (bp aw) lo (lo+m)->sP+1<=m->(∀ i,lo+m-(sP+1)<=i->i<lo+m->R r (bp aw) i=R r (bp aw) (lo+m-1))->Q (none,m,sP) aw) :
  wpS (aS prog w) A E s (yF lo n nrem) Q st:=by
 unfold yF;refine rh (I:=fun x c aw=>∃ sP,c=(none,x,sP)/\mM lo (lo+nrem) st aw/\Down r (bp aw) lo (lo+x)/\sP+1<=x /\ (∀ i,lo+x-(sP+1)<=i->i<lo+x->R r (bp aw) i=R r (bp aw) (lo+x-1))) ?step ?fin ⟨0,rfl,.refl _ _ _,hs,by lia,fun i h1 h2=>by congr 1;lia⟩
 case fin =>
  rintro c aw ⟨sP,rfl,kc,fF,hq,he⟩;rw[show max n nrem=nrem by lia] at fF hq he ⊢;exact h nrem sP aw kc D2 (da _) fF hq he
 case step =>
  rintro x c aw Uc hxn ⟨sP,rfl,kc,fF,hq,he⟩;dsimp only;have hz:=kc.size;have fz:lo+x<=(bp aw).size:=by lia
  have oQ:=kc.kind.trans hk;have sM:=hP.perm kc.perm;refine cq (jG C oQ sM (by lia) (by lia) ?_);by_cases xl:R r (bp aw) (lo+x)<R r (bp aw) (lo+x-1)
  ·simp only[xl,decide_true,if_true];have Za:∀ xs:Array bP,(∀ k,R r xs k=R r (bp aw) k)->Down r xs lo (lo+(x+1)):=by
    intro xs Zb i j hl kS hj;rw[Zb,Zb];by_cases N0:j<lo+x
    ·exact fF i j hl kS N0
    ·have y8:j=lo+x:=by lia
     subst y8;by_cases nE:i=lo+x
     ·subst nE;exact yv _
     ·exact yn (DB xl) (fF i (lo+x-1) hl (by lia) (by lia))
   by_cases N5:sP>0
   ·rw[if_pos N5];refine cq (cN (df ⟨0,rfl,kc.trans ((fJ fz).mono (by lia) (by lia)),Za _ (bw fz he),by exact wq _,fun i h1 h2=>by congr 1;lia⟩))
   ·rw[if_neg N5];exact df ⟨0,rfl,kc,Za _ (fun _=>rfl),by exact wq _,fun i h1 h2=>by congr 1;lia⟩
  ·simp only[xl,decide_false,iX,if_false];refine cq (jG C oQ sM (by lia) (by lia) ?_);by_cases Zc:R r (bp aw) (lo+x-1)<R r (bp aw) (lo+x)
   ·simp only[Zc,decide_true,if_true];exact df (h x sP aw kc Uc (by exact mS ‹_›) fF hq he)
   ·simp only[Zc,decide_false,iX,if_false];have Zd:R r (bp aw) (lo+x)=R r (bp aw) (lo+x-1):=by lia
    refine df ⟨sP+1,rfl,kc,fun i j hl kS hj=>?_,by exact EW ‹_›,fun i h1 h2=>?_⟩
    ·by_cases N0:j<lo+x
     ·exact fF i j hl kS N0
     ·have y8:j=lo+x:=by lia
      subst y8;by_cases nE:i=lo+x
      ·subst nE;exact yv _
      ·rw[Zd];exact fF i (lo+x-1) hl (by lia) (by lia)
    ·rw[show lo+(x+1)-1=lo+x by rfl];by_cases IJ:i=lo+x
     ·subst IJ;rfl
     ·rw[Zd];exact he i (by lia) (by lia)
theorem gQ{st:dv}{lo n nrem:Nat}{Q:Option Nat->dv->Prop}(C:oS prog w A s κ r P)(hk:eR st=κ)(hP:AllP P (bp st))(hn:lo+nrem<=(bp st).size)(D2:n+1<=nrem)(hs:Down r (bp st) lo (lo+(n+1))) (h:∀ m aw,mM lo (lo+nrem) st aw->1<=m->m<=nrem->Up r (bp aw) lo (lo+m)->Q (some m) aw) :
  wpS (aS prog w) A E s (fD lo n nrem) Q st:=by
 unfold fD;refine cq (wpS_lift (wd ⟨rfl,?_⟩));refine cq (vH C hk hP hn (by exact wq _) D2 hs fun m sP aw kc AB k8 fF hq he=>?_);dsimp only;have hz:=kc.size;have fz:lo+m<=(bp aw).size:=by lia
 have oQ:=kc.kind.trans hk;have sM:=hP.perm kc.perm;by_cases N5:sP>0
 ·rw[if_pos N5];have hW:=fJ (i:=lo+m-(sP+1)) fz;refine cq (cN (lK C (hW.kind.trans oQ) (sM.perm hW.perm) (by rw[hW.size,hz];exact hn) (by walk_at "s2") k8 ?_ fun m2 yy N6=>h m2 yy ((kc.trans (hW.mono (by lia) (by lia))).trans N6)));intro i j hl kS hj;show R r (mirror (bp aw) _ _ _) j<=R r (mirror (bp aw) _ _ _) i;rw[bw fz he,bw fz he];exact fF i j hl kS hj
 ·rw[if_neg N5];exact lK C oQ sM (by rw[hz];exact hn) (by lia) k8 fF fun m2 yy N6=>h m2 yy (kc.trans N6)
theorem wpS_countRun{st:dv}{lo nrem:Nat}{Q:Option Nat->dv->Prop}(C:oS prog w A s κ r P)(hk:eR st=κ)(hP:AllP P (bp st))(hn:lo+nrem<=(bp st).size)(h1:1<=nrem)(h:∀ m aw,mM lo (lo+nrem) st aw->1<=m->m<=nrem->Up r (bp aw) lo (lo+m)->Q (some m) aw) :
  wpS (aS prog w) A E s (countRun' lo nrem) Q st:=by
 rw[pD];refine cq (tD C hk hP hn (da 1) h1 (fun i j hl kS hj=>by
  have:i=j:=by lia
  subst this;exact yv _) fun n Ze Ma pd hor=>?_)
 dsimp only;by_cases D2:n=nrem
 ·rw[if_pos (by simpa using D2)];exact df (h n st (.refl _ _ _) Ze Ma pd)
 ·rw[if_neg (by simpa using D2)];have gp:R r (bp st) (lo+n)<R r (bp st) (lo+n-1):=hor.resolve_left D2;by_cases Zf:n>1
  ·rw[if_pos Zf];refine cq (jG C hk hP (by lia) (by lia) ?_);by_cases Zg:R r (bp st) lo<R r (bp st) (lo+n-1)
   ·simp only[Zg,decide_true,if_true];exact df (h n st (.refl _ _ _) Ze Ma pd)
   ·simp only[Zg,decide_false,iX,if_false];have fz:lo+n<=(bp st).size:=by lia
    have oj:∀ k,lo<=k->k<lo+n->R r (bp st) k=R r (bp st) (lo+n-1):=by intro k hl hk;have a1:=pd lo k (by exact da _) hl hk;have a2:=pd k (lo+n-1) hl (by lia) (by lia);lia
    have hW:=fJ (i:=lo) fz;refine cq (cN (gQ C (hW.kind.trans hk) (hP.perm hW.perm) (by rw[hW.size];exact hn) (by lia) ?_ fun m2 yy N6=>h m2 yy ((hW.mono (da _) (by lia)).trans N6)));intro i j hl kS hj;show R r (mirror (bp st) _ _ _) j<=R r (mirror (bp st) _ _ _) i;rw[bw fz oj,bw fz oj];by_cases hjn:j<lo+n
    ·rw[oj i hl (by walk_at "s1"),oj j (by walk_at "s1") hjn];exact yv _
    ·have y8:j=lo+n:=by lia
     subst y8;by_cases nE:i=lo+n
     ·subst nE;exact yv _
     ·rw[oj i hl (by lia)];exact DB gp
  ·rw[if_neg Zf];have fd':n=1:=by lia
   subst fd';refine gQ C hk hP hn (by lia) ?_ h;intro i j hl kS hj;by_cases nE:i=j
   ·subst nE;exact yv _
   ·have D1:i=lo:=by lia
    have hj1:j=lo+1:=by lia
    subst D1;subst hj1;exact DB gp
end
def wF(left:Bool)(key:bP)(arr:Array bP)(base i:Nat):StateT dv Sem (Option Bool):=do
 let x ← elem' arr (base+i)
 if left then lt' x key else return (<- lt' key x).map (!·)
def jA:Bool->bP->Array bP->Nat->Nat->Nat->StateT dv Sem (Option Nat):=sortPriv% PySem.Builtin.gallop
section
variable {prog:dr}{w:dA}{A:eB}{E:ae->ay->Prop}{s:ay}{κ:tN}{r:ae->Int}{P:ae->Prop}
def fI(r:ae->Int)(left:Bool)(key:bP)(arr:Array bP)(base i:Nat):Bool :=
 if left then decide (R r arr (base+i)<r key.1) else !decide (r key.1<R r arr (base+i))
theorem cZ{st:dv}{left:Bool}{key:bP}{arr:Array bP}{base i:Nat}{Q:Option Bool->dv->Prop}(C:oS prog w A s κ r P)(hk:eR st=κ)(hP:AllP P arr)(hy:P key.1)(hi:base+i<arr.size)(h:Q (some (fI r left key arr base i)) st):wpS (aS prog w) A E s (wF left key arr base i) Q st:=by
 unfold wF;refine cq (aF hi fun p ep=>?_);have e1:R r arr (base+i)=r p.1:=by unfold R;rw[ep]
 unfold fI at h;rw[e1] at h
 cases left with
 |true =>simp only[if_true] at h ⊢;exact pO C hk (hP.at ep) hy h
 |false =>simp only[iX,if_false] at h ⊢;exact cq (pO C hk hy (hP.at ep) (df h))
theorem yS(hu:Up r arr base (base+n))(kS:i<=j)(hj:j<n)(h:fI r left key arr base j=true):fI r left key arr base i=true:=by
 have q:=hu (base+i) (base+j) (by lia) (by lia) (by lia);unfold fI at h ⊢
 cases left with
 |true=>simp only[if_true,decide_eq_true_eq] at h ⊢;lia
 |false=>simp only[iX,if_false,Sw,decide_eq_false_iff_not] at h ⊢;lia
theorem cB{st:dv}{left:Bool}{key:bP}{arr:Array bP}{base n hint:Nat}{Q:Option Nat->dv->Prop}(C:oS prog w A s κ r P)(hk:eR st=κ)(hP:AllP P arr)(hy:P key.1)(hn:base+n<=arr.size)(hh:hint<n)(hu:Up r arr base (base+n))(h:∀ k,k<=n->(∀ i,i<k->fI r left key arr base i=true)->(∀ i,k<=i->i<n->fI r left key arr base i=false)->Q (some k) st):wpS (aS prog w) A E s (jA left key arr base n hint) Q st:=by
 have mono:∀ {i j},i<=j->j<n->fI r left key arr base j=true->fI r left key arr base i=true:=fun a b c=>yS hu a b c;have Qx:∀ {i j},i<=j->j<n->fI r left key arr base i=false->fI r left key arr base j=false:=fun {i j} a b c=>by
  cases q:fI r left key arr base j with
  |false=>rfl
  |true=>rw[mono a b q] at c;cases c
 refine cq (cZ C hk hP hy (by lia) ?_);dsimp only
 cases q0:fI r left key arr base hint with
 |true =>
  simp only[if_true];refine cq (tP (rh (I:=fun x c aw=>aw=st/\∃ lst fA,c=(none,lst,fA)/\lst<fA/\lst<n-hint/\x+1<=fA/\fI r left key arr base (hint+lst)=true) (Q:=fun c aw=>aw=st/\∃ lst fA,c=(none,lst,fA)/\lst<fA/\lst<n-hint/\fI r left key arr base (hint+lst)=true/\(n-hint<=fA\/fI r left key arr base (hint+fA)=false)) ?step ?fin ?init) ?post)
  case init=>exact⟨rfl,0,1,rfl,by exact wq _,by lia,by exact wq _,q0⟩
  case fin =>
   rintro c aw ⟨rfl,lst,fA,rfl,h1,h2,h3,h4⟩;exact⟨rfl,lst,fA,rfl,h1,h2,h4,.inl (by lia)⟩
  case step =>
   rintro x c aw _ hx ⟨rfl,lst,fA,rfl,h1,h2,h3,h4⟩;dsimp only;by_cases sN:fA >= n-hint
   ·rw[if_pos sN];exact df ⟨rfl,lst,fA,rfl,h1,h2,h4,.inl sN⟩
   ·rw[if_neg sN];refine cq (cZ C hk hP hy (by lia) ?_)
    cases q:fI r left key arr base (hint+fA) with
    |true =>simp only[Nc,iX,if_false];exact df ⟨rfl,_,_,rfl,by lia,by exact LB ‹_›,by lia,q⟩
    |false =>simp only[Bool.not_false,if_true];exact df ⟨rfl,lst,fA,rfl,h1,h2,h4,.inr q⟩
  case post =>
   rintro c aw ⟨rfl,lst,fA,rfl,h1,h2,h4,h5⟩;dsimp only;generalize aw=st at *
   have hl:∀ i,i<hint+lst+1->fI r left key arr base i=true:=fun i hi=>mono (j:=hint+lst) (by lia) (by lia) h4;have B3:∀ i,hint+min fA (n-hint)<=i->i<n->fI r left key arr base i=false:=fun i hi pe=>by
    rcases h5 with h5|h5
    ·lia
    ·by_cases z:n-hint<=fA
     ·lia
     ·exact Qx (i:=hint+fA) (by lia) pe h5
   have Ue:hint+lst+1<=hint+min fA (n-hint):=by lia
   have Ug:hint+min fA (n-hint)<=n:=by lia
   generalize hint+lst+1=lo at *
   generalize hint+min fA (n-hint)=hi at *
   refine cq (tP (rh (I:=fun x c aw=>aw=st/\∃ l u,c=(none,l,u)/\l<=u/\u<=n/\u-l<=n-x/\(∀ i,i<l->fI r left key arr base i=true)/\(∀ i,u<=i->i<n->fI r left key arr base i=false)) (Q:=fun c aw=>aw=st/\∃ l,c=(none,l,l)/\l<=n/\(∀ i,i<l->fI r left key arr base i=true)/\(∀ i,l<=i->i<n->fI r left key arr base i=false)) ?fg' ?fh' ?fi') ?postA)
   case fi'=>exact⟨rfl,lo,hi,rfl,Ue,Ug,by lia,hl,B3⟩
   case fh' =>
    rintro c aw ⟨rfl,l,u,rfl,h1,h2,h3,h4,h5⟩;have:l=u:=by lia
    subst this;exact⟨rfl,l,rfl,h2,h4,h5⟩
   case fg' =>
    rintro x c aw _ hx ⟨rfl,l,u,rfl,h1,h2,h3,h4,h5⟩;dsimp only;by_cases sN:l >= u
    ·rw[if_pos sN];have:l=u:=by exact M8 ‹_› ‹_›
     subst this;exact df ⟨rfl,l,rfl,h2,h4,h5⟩
    ·rw[if_neg sN];refine cq (cZ C hk hP hy (by lia) ?_)
     cases q:fI r left key arr base (l+(u-l) / 2) with
     |true =>simp only[if_true];exact df ⟨rfl,_,_,rfl,by lia,by lia,by lia,fun i hi=>mono (j:=l+(u-l) / 2) (by lia) (by lia) q,h5⟩
     |false =>simp only[iX,if_false];exact df ⟨rfl,_,_,rfl,by exact LC _ _,by lia,by lia,h4,fun i hi pe=>Qx (i:=l+(u-l) / 2) (by lia) pe q⟩
   case postA =>
    rintro c aw ⟨rfl,l,rfl,h2,h4,h5⟩;exact df (h l h2 h4 h5)
 |false =>
  simp only[iX,if_false];refine cq (tP (rh (I:=fun x c aw=>aw=st/\∃ lst fA,c=(none,lst,fA)/\lst<fA/\lst<hint+1/\x+1<=fA/\fI r left key arr base (hint-lst)=false) (Q:=fun c aw=>aw=st/\∃ lst fA,c=(none,lst,fA)/\lst<fA/\lst<hint+1/\fI r left key arr base (hint-lst)=false/\(hint+1<=fA\/fI r left key arr base (hint-fA)=true)) ?fj' ?fin2 ?fk') ?fm')
  case fk'=>exact⟨rfl,0,1,rfl,by exact wq _,by exact wq _,by exact wq _,q0⟩
  case fin2 =>
   rintro c aw ⟨rfl,lst,fA,rfl,h1,h2,h3,h4⟩;exact⟨rfl,lst,fA,rfl,h1,h2,h4,.inl (by walk_at "s2")⟩
  case fj' =>
   rintro x c aw _ hx ⟨rfl,lst,fA,rfl,h1,h2,h3,h4⟩;dsimp only;by_cases sN:fA >= hint+1
   ·rw[if_pos sN];exact df ⟨rfl,lst,fA,rfl,h1,h2,h4,.inl sN⟩
   ·rw[if_neg sN];refine cq (cZ C hk hP hy (by lia) ?_)
    cases q:fI r left key arr base (hint-fA) with
    |true =>simp only[if_true];exact df ⟨rfl,lst,fA,rfl,h1,h2,h4,.inr q⟩
    |false =>simp only[iX,if_false];exact df ⟨rfl,_,_,rfl,by lia,by exact LB ‹_›,by lia,q⟩
  case fm' =>
   rintro c aw ⟨rfl,lst,fA,rfl,h1,h2,h4,h5⟩;dsimp only;generalize aw=st at *
   have hl:∀ i,i<hint+1-min fA (hint+1)->fI r left key arr base i=true:=fun i hi=>by
    rcases h5 with h5|h5
    ·lia
    ·by_cases z:hint+1<=fA
     ·lia
     ·exact mono (j:=hint-fA) (by lia) (by lia) h5
   have B3:∀ i,hint-lst<=i->i<n->fI r left key arr base i=false:=fun i hi pe=>Qx (i:=hint-lst) (by lia) pe h4;have Ue:hint+1-min fA (hint+1)<=hint-lst:=by lia
   have Ug:hint-lst<=n:=by lia
   generalize hint+1-min fA (hint+1)=lo at *
   generalize hint-lst=hi at *
   refine cq (tP (rh (I:=fun x c aw=>aw=st/\∃ l u,c=(none,l,u)/\l<=u/\u<=n/\u-l<=n-x/\(∀ i,i<l->fI r left key arr base i=true)/\(∀ i,u<=i->i<n->fI r left key arr base i=false)) (Q:=fun c aw=>aw=st/\∃ l,c=(none,l,l)/\l<=n/\(∀ i,i<l->fI r left key arr base i=true)/\(∀ i,l<=i->i<n->fI r left key arr base i=false)) ?fn' ?fo' ?fp') ?fq')
   case fp'=>exact⟨rfl,lo,hi,rfl,Ue,Ug,by lia,hl,B3⟩
   case fo' =>
    rintro c aw ⟨rfl,l,u,rfl,h1,h2,h3,h4,h5⟩;have:l=u:=by lia
    subst this;exact⟨rfl,l,rfl,h2,h4,h5⟩
   case fn' =>
    rintro x c aw _ hx ⟨rfl,l,u,rfl,h1,h2,h3,h4,h5⟩;dsimp only;by_cases sN:l >= u
    ·rw[if_pos sN];have:l=u:=by exact M8 ‹_› ‹_›
     subst this;exact df ⟨rfl,l,rfl,h2,h4,h5⟩
    ·rw[if_neg sN];refine cq (cZ C hk hP hy (by lia) ?_)
     cases q:fI r left key arr base (l+(u-l) / 2) with
     |true =>simp only[if_true];exact df ⟨rfl,_,_,rfl,by lia,by lia,by lia,fun i hi=>mono (j:=l+(u-l) / 2) (by lia) (by lia) q,h5⟩
     |false =>simp only[iX,if_false];exact df ⟨rfl,_,_,rfl,by exact LC _ _,by lia,by lia,h4,fun i hi pe=>Qx (i:=l+(u-l) / 2) (by lia) pe q⟩
   case fq' =>
    rintro c aw ⟨rfl,l,rfl,h2,h4,h5⟩;exact df (h l h2 h4 h5)
end
abbrev Le(r:ae->Int)(x y:bP):Prop:=r x.1<=r y.1
theorem pf(e:xs[i]? = some p):R r xs i=r p.1:=by unfold R;rw[e]
theorem DP(h:i<xs.size):R r xs i=r xs[i].1:=pf (getElem?_pos xs i h)
structure MI(r:ae->Int)(a b out:Array bP)(ia ib:Nat):Prop where
 ha:ia<=a.size
 hb:ib<=b.size
 perm:out.toList.Perm (a.toList.take ia++b.toList.take ib)
 up:out.toList.Pairwise (Le r)
 la:∀ x∈out.toList,∀ i,ia<=i->i<a.size->r x.1<=R r a i
 lb:∀ x∈out.toList,∀ j,ib<=j->j<b.size->r x.1<=R r b j
section
variable {r:ae->Int}{a b out:Array bP}{ia ib:Nat}
theorem lL{α:Type}{l:List α}{i:Nat}{x:α}(h:l[i]? = some x):l.take (i+1)=l.take i++[x]:=by rw[ER,h];rfl
theorem MI.o_(M:MI r a b out ia ib)(hA:Up r a 0 a.size)(hB:Up r b 0 b.size)(e:b[ib]? = some y)(hl:ia<a.size->R r b ib<=R r a ia):MI r a b (out.push y) ia (ib+1):=by
 have Zh:ib<b.size:=(Dx.mp e).1;have ey:=pf (r:=r) e;refine⟨M.ha,Zh,?_,?_,?_,?_⟩
 ·rw[pS,lL (x:=y) (by simpa using e),<- tJ];exact M.perm.append_right _
 ·rw[pS,Pm];refine⟨M.up,by simp,fun x hx z hz=>?_⟩;have:z=y:=by simpa using hz
  subst this;show r x.1<=r z.1;rw[<- ey];exact M.lb x hx ib (da _) Zh
 ·intro x hx i hi Mj;rw[pS] at hx;rcases eS.mp hx with hx|hx
  ·exact M.la x hx i hi Mj
  ·have:x=y:=by simpa using hx
   subst this;rw[<- ey];exact yn (hl (by lia)) (hA ia i (eT _) hi Mj)
 ·intro x hx j hj N7;rw[pS] at hx;rcases eS.mp hx with hx|hx
  ·exact M.lb x hx j (by lia) N7
  ·have:x=y:=by simpa using hx
   subst this;rw[<- ey];exact hB ib j (eT _) (by lia) N7
theorem MI.n6(M:MI r a b out ia ib)(hA:Up r a 0 a.size)(hB:Up r b 0 b.size)(e:a[ia]? = some y)(hl:ib<b.size->R r a ia<=R r b ib):MI r a b (out.push y) (ia+1) ib:=by
 have Mj:ia<a.size:=(Dx.mp e).1;have ey:=pf (r:=r) e;refine⟨Mj,M.hb,?_,?_,?_,?_⟩
 ·rw[pS,lL (x:=y) (by simpa using e),tJ];refine(M.perm.append_right [y]).trans ?_;rw[tJ];exact List.Perm.append_left _ Pl
 ·rw[pS,Pm];refine⟨M.up,by simp,fun x hx z hz=>?_⟩;have:z=y:=by simpa using hz
  subst this;show r x.1<=r z.1;rw[<- ey];exact M.la x hx ia (da _) Mj
 ·intro x hx i hi qa;rw[pS] at hx;rcases eS.mp hx with hx|hx
  ·exact M.la x hx i (by lia) qa
  ·have:x=y:=by simpa using hx
   subst this;rw[<- ey];exact hA ia i (eT _) (by lia) qa
 ·intro x hx j hj N7;rw[pS] at hx;rcases eS.mp hx with hx|hx
  ·exact M.lb x hx j hj N7
  ·have:x=y:=by simpa using hx
   subst this;rw[<- ey];exact yn (hl (by lia)) (hB ib j (eT _) hj N7)
theorem d8{xs:Array bP}{i k:Nat}(h:i+k<xs.size):xs.extract i (i+(k+1))=(xs.extract i (i+k)).push xs[i+k]:=by apply Nf.mp;rw[pS];simp only[SF,R4];rw[show i+(k+1)-i=k+1 by exact Nat.add_sub_cancel_left ..,show i+k-i=k by exact Nat.add_sub_cancel_left ..,ER];congr 1;rw[List.getElem?_drop];simp[h]
theorem MI.D3(hA:Up r a 0 a.size)(hB:Up r b 0 b.size):∀ (k:Nat) {out:Array bP} {ia:Nat},MI r a b out ia ib->ia+k<=a.size->(ib<b.size->∀ i,i<k->R r a (ia+i)<=R r b ib)->MI r a b (out++a.extract ia (ia+k)) (ia+k) ib
 |0,out,ia,M,h1,h2=>by have:a.extract ia (ia+0) = #[]:=LN (by simp only[HC];lia);rw[this];simpa using M
 |k+1,out,ia,M,h1,h2=>by have q:=MI.D3 hA hB k M (by exact mS ‹_›) fun hb i hi=>h2 hb i (by exact zI ‹_›);have e:a[ia+k]? = some a[ia+k]:=getElem?_pos a (ia+k) (by assumption);have z:=q.n6 hA hB e fun hb=>h2 hb k (by exact da _);rw[d8 (by assumption),Array.append_push];exact z
theorem MI.D4(hA:Up r a 0 a.size)(hB:Up r b 0 b.size):∀ (k:Nat) {out:Array bP} {ib:Nat},MI r a b out ia ib->ib+k<=b.size->(ia<a.size->∀ i,i<k->R r b (ib+i)<=R r a ia)->MI r a b (out++b.extract ib (ib+k)) ia (ib+k)
 |0,out,ib,M,h1,h2=>by have:b.extract ib (ib+0) = #[]:=LN (by simp only[HC];lia);rw[this];simpa using M
 |k+1,out,ib,M,h1,h2=>by have q:=MI.D4 hA hB k M (by exact mS ‹_›) fun ha i hi=>h2 ha i (by exact zI ‹_›);have e:b[ib+k]? = some b[ib+k]:=getElem?_pos b (ib+k) (by assumption);have z:=q.o_ hA hB e fun ha=>h2 ha k (by exact da _);rw[d8 (by assumption),Array.append_push];exact z
def bM(r:ae->Int)(a b out:Array bP):Prop:=out.toList.Perm (a.toList++b.toList)/\out.toList.Pairwise (Le r)
theorem MI.whole(M:MI r a b out a.size b.size):bM r a b out:=by refine⟨?_,M.up⟩;have h:=M.perm;rw[Lq (by simp),Lq (by simp)] at h;exact h
theorem MI.Gm(M:MI r a b out ia b.size)(hA:Up r a 0 a.size)(hB:Up r b 0 b.size):bM r a b (out++a.extract ia a.size++b.extract b.size b.size):=by
 have e:b.extract b.size b.size = #[]:=by simp
 rw[e,SG];have ha:=M.ha;have q:=MI.D3 hA hB (a.size-ia) M (by lia) fun hb=>absurd hb (vt _);rw[show ia+(a.size-ia)=a.size by exact GW ‹_›] at q;exact q.whole
theorem MI.Hh(M:MI r a b out a.size ib)(hA:Up r a 0 a.size)(hB:Up r b 0 b.size):bM r a b (out++a.extract a.size a.size++b.extract ib b.size):=by
 have e:a.extract a.size a.size = #[]:=by simp
 rw[e,SG];have hb:=M.hb;have q:=MI.D4 hA hB (b.size-ib) M (by lia) fun ha=>absurd ha (vt _);rw[show ib+(b.size-ib)=b.size by exact GW ‹_›] at q;exact q.whole
theorem MI.Mk(M:MI r a b out ia ib)(hA:Up r a 0 a.size)(hB:Up r b 0 b.size)(e:ib=b.size):bM r a b (out++a.extract ia a.size++b.extract ib b.size):=by subst e;exact M.Gm hA hB
theorem MI.Ml(M:MI r a b out ia ib)(hA:Up r a 0 a.size)(hB:Up r b 0 b.size)(e:ia=a.size):bM r a b (out++a.extract ia a.size++b.extract ib b.size):=by subst e;exact M.Hh hA hB
theorem MI.Hl(M:MI r a b out ia ib)(hA:Up r a 0 a.size)(hB:Up r b 0 b.size)(Mj:ia+1=a.size)(hg:∀ j,j<b.size->R r b j<=R r a ia):bM r a b (out++b.extract ib b.size++a.extract ia a.size):=by have hb:=M.hb;have q:=MI.D4 hA hB (b.size-ib) M (by lia) fun ha i hi=>hg _ (by lia);rw[show ib+(b.size-ib)=b.size by exact GW ‹_›] at q;have z:=MI.D3 hA hB (a.size-ia) q (by lia) fun hb=>absurd hb (vt _);rw[show ia+(a.size-ia)=a.size by lia] at z;exact z.whole
theorem MI.start(hA:Up r a 0 a.size)(hB:Up r b 0 b.size):MI r a b #[] 0 0:=⟨eT _,eT _,by simp,by simp,fun x hx=>by simp at hx,fun x hx=>by simp at hx⟩
end
def bf:Nat->StateT dv Sem Unit:=sortPriv% PySem.Builtin.setMinGallop
def sI:Array bP->Array bP->StateT dv Sem (Array bP):=sortPriv% PySem.Builtin.mergeLo
def sE:Array bP->Array bP->StateT dv Sem (Array bP):=sortPriv% PySem.Builtin.mergeHi
theorem jc(g:Nat):bf g=modify fun s=>SortSt.mk' (eR s) (bp s) (kz s) g (pE s):=rfl
def Mg(st aw:dv):Prop:=∃ g,aw=SortSt.mk' (eR st) (bp st) (kz st) g (pE st)
theorem Mg.refl(st:dv):Mg st st:=⟨gallopOf st,rfl⟩
theorem Mg.kind{st aw:dv}(h:Mg st aw):eR aw=eR st:=by obtain⟨g,rfl⟩:=h;rfl
theorem Mg.set{st aw:dv}(h:Mg st aw)(g:Nat):Mg st (SortSt.mk' (eR aw) (bp aw) (kz aw) g (pE aw)):=by obtain⟨g',rfl⟩:=h;exact⟨g,rfl⟩
section
variable {prog:dr}{w:dA}{A:eB}{E:ae->ay->Prop}{s:ay}{r:ae->Int}
theorem gM{st:dv}{g:Nat}{Q:Unit->dv->Prop}(h:Q () (SortSt.mk' (eR st) (bp st) (kz st) g (pE st))):wpS (aS prog w) A E s (bf g) Q st:=by rw[jc];exact Dp h
theorem ym(h:fI r false key arr base i=true):R r arr (base+i)<=r key.1:=by unfold fI at h;simp only[iX,if_false,Sw,decide_eq_false_iff_not] at h;lia
theorem vY(h:fI r false key arr base i=false):r key.1<R r arr (base+i):=by unfold fI at h;simp only[iX,if_false,Bool.not_eq_false',decide_eq_true_eq] at h;exact h
theorem zU(h:fI r true key arr base i=true):R r arr (base+i)<r key.1:=by unfold fI at h;simp only[if_true,decide_eq_true_eq] at h;exact h
theorem rW(h:fI r true key arr base i=false):r key.1<=R r arr (base+i):=by unfold fI at h;simp only[if_true,decide_eq_false_iff_not] at h;lia
end
theorem Mg.trans{a b c:dv}(h:Mg a b)(g:Mg b c):Mg a c:=by obtain⟨x,rfl⟩:=h;obtain⟨y,rfl⟩:=g;exact⟨y,rfl⟩
theorem Ck{K G:Prop}(pk:K)(h:K->G):G:=h pk
abbrev SM:=StateT dv Sem
abbrev L1:=Option (Array bP) × Array bP × Nat × Nat × Nat
abbrev IL:=Option (Array bP) × Array bP × Nat × Nat × Nat × Nat
abbrev L3:=Option (Array bP) × Array bP × Nat × Nat × Nat × Nat × Nat
def Fn(a b out:Array bP)(ia ib:Nat):Array bP:=out++a.extract ia a.size++b.extract ib b.size
def N8(a b out:Array bP)(ia ib:Nat):Array bP:=out++b.extract ib b.size++a.extract ia a.size
def Uh(a b:Array bP)(mg ac bc ia ib:Nat)(out:Array bP):SM (ForInStep L3):=ng a ia >>= fun p =>
 if (ia+1+1 == a.size)=true then pure (.done (some (N8 a b (out.push p) (ia+1) ib),out.push p,ia+1,ib,mg,ac,bc))
 else if (decide (ac<7) && decide (bc<7))=true then pure (.done (none,out.push p,ia+1,ib,mg,ac,bc)) else pure (.yield (none,out.push p,ia+1,ib,mg,ac,bc))
def IQ(a b:Array bP)(mg ac bc ia ib:Nat)(out:Array bP):SM (ForInStep L3):=ng a ia >>= fun p=>jA true p b ib (b.size-ib) 0 >>= fun x=>match x with
 |some k=>if k>0 then
   if (ib+k == b.size)=true then pure (.done (some (Fn a b (out++b.extract ib (ib+k)) ia (ib+k)),out++b.extract ib (ib+k),ia,ib+k,mg,ac,k))
   else Uh a b mg ac k ia (ib+k) (out++b.extract ib (ib+k))
  else Uh a b mg ac k ia ib out
 |_=>pure (.done (some (Fn a b out ia ib),out,ia,ib,mg,ac,bc))
def lo1(a b:Array bP)(mg ac bc ia ib:Nat)(out:Array bP):SM (ForInStep L3):=ng b ib >>= fun p =>
 if (ib+1 == b.size)=true then pure (.done (some (Fn a b (out.push p) ia (ib+1)),out.push p,ia,ib+1,mg,ac,bc)) else IQ a b mg ac bc ia (ib+1) (out.push p)
def Ui(a b:Array bP)(mg ac bc ia ib:Nat)(out:Array bP):SM (ForInStep L3):=bf mg >>= fun _=>ng b ib >>= fun p=>jA false p a ia (a.size-ia) 0 >>= fun x=>match x with
 |some k=>if k>0 then
   if (ia+k+1 == a.size)=true then pure (.done (some (N8 a b (out++a.extract ia (ia+k)) (ia+k) ib),out++a.extract ia (ia+k),ia+k,ib,mg,k,bc))
   else if (ia+k == a.size)=true then pure (.done (some (Fn a b (out++a.extract ia (ia+k)) (ia+k) ib),out++a.extract ia (ia+k),ia+k,ib,mg,k,bc))
   else lo1 a b mg k bc (ia+k) ib (out++a.extract ia (ia+k))
  else lo1 a b mg k bc ia ib out
 |_=>pure (.done (some (Fn a b out ia ib),out,ia,ib,mg,ac,bc))
def Zi(a b:Array bP)(_:Nat)(s:L3):SM (ForInStep L3) :=
 if s.2.2.2.2.1>1 then Ui a b (s.2.2.2.2.1-1) s.2.2.2.2.2.1 s.2.2.2.2.2.2 s.2.2.1 s.2.2.2.1 s.2.1 else Ui a b s.2.2.2.2.1 s.2.2.2.2.2.1 s.2.2.2.2.2.2 s.2.2.1 s.2.2.2.1 s.2.1
def Zj(a b:Array bP)(mg bc ia ib:Nat)(out:Array bP):SM (ForInStep IL):=ng b ib >>= fun p =>
 if (ib+1 == b.size)=true then pure (.done (some (Fn a b (out.push p) ia (ib+1)),out.push p,ia,ib+1,0,bc+1))
 else if bc+1 >= mg then pure (.done (none,out.push p,ia,ib+1,0,bc+1)) else pure (.yield (none,out.push p,ia,ib+1,0,bc+1))
def Zk(a b:Array bP)(mg ac ia ib:Nat)(out:Array bP):SM (ForInStep IL):=ng a ia >>= fun p =>
 if (ia+1+1 == a.size)=true then pure (.done (some (N8 a b (out.push p) (ia+1) ib),out.push p,ia+1,ib,ac+1,0))
 else if ac+1 >= mg then pure (.done (none,out.push p,ia+1,ib,ac+1,0)) else pure (.yield (none,out.push p,ia+1,ib,ac+1,0))
def Zm(a b:Array bP)(mg:Nat)(_:Nat)(s:IL):SM (ForInStep IL):=ng b s.2.2.2.1 >>= fun pb=>ng a s.2.2.1 >>= fun pa=>lt' pb pa >>= fun x=>match x with
 |some w=>if w=true then Zj a b mg s.2.2.2.2.2 s.2.2.1 s.2.2.2.1 s.2.1 else Zk a b mg s.2.2.2.2.1 s.2.2.1 s.2.2.2.1 s.2.1
 |_=>pure (.done (some (Fn a b s.2.1 s.2.2.1 s.2.2.2.1),s.2.1,s.2.2.1,s.2.2.2.1,s.2.2.2.2.1,s.2.2.2.2.2))
def Zn (a b:Array bP) (mg:Nat) (t:IL):SM (ForInStep L1):=(liftM (rule "list.sort.gallop"):SM Unit) >>= fun _ =>
 forIn [:a.size+b.size] ((none,t.2.1,t.2.2.1,t.2.2.2.1,mg+1,t.2.2.2.2.1,t.2.2.2.2.2):L3) (Zi a b) >>= fun u=>match u.1 with
 |some r=>pure (.done (some r,u.2.1,u.2.2.1,u.2.2.2.1,u.2.2.2.2.1))
 |none=>bf (u.2.2.2.2.1+1) >>= fun _=>pure (.yield (none,u.2.1,u.2.2.1,u.2.2.2.1,u.2.2.2.2.1+1))
def Zo(a b:Array bP)(_:Nat)(s:L1):SM (ForInStep L1):=forIn [:a.size+b.size] ((none,s.2.1,s.2.2.1,s.2.2.2.1,0,0):IL) (Zm a b s.2.2.2.2) >>= fun t=>match t.1 with
 |some r=>pure (.done (some r,t.2.1,t.2.2.1,t.2.2.2.1,s.2.2.2.2))
 |none=>Zn a b s.2.2.2.2 t
def loM (a b:Array bP):SM (Array bP):=(liftM (rule "list.sort.merge-lo"):SM Unit) >>= fun _=>ng b 0 >>= fun y =>
 if (1 == b.size)=true then pure (Fn a b #[y] 0 1)
 else if (0+1 == a.size)=true then pure (N8 a b #[y] 0 1)
 else get >>= fun st=>forIn [:a.size+b.size] ((none,#[y],0,1,gallopOf st):L1) (Zo a b) >>= fun t=>match t.1 with
 |some r=>pure r
 |none=>(liftM (unsupported (α:=Array bP) "internal:list.sort.merge-bound"):SM (Array bP))
set_option smartUnfolding false in
theorem t6:sI=loM:=rfl
section
variable {prog:dr}{w:dA}{A:eB}{E:ae->ay->Prop}{s:ay}{κ:tN}{r:ae->Int}{P:ae->Prop}{a b out:Array bP}{mg ac bc ia ib N:Nat}{st:dv}
structure MC(prog:dr)(w:dA)(A:eB)(s:ay)(κ:tN)(r:ae->Int)(P:ae->Prop)(a b:Array bP):Prop where
 C:oS prog w A s κ r P
 pa:AllP P a
 pb:AllP P b
 hA:Up r a 0 a.size
 hB:Up r b 0 b.size
 hl:∀ i,i<a.size->R r b 0<=R r a i
 hg:∀ j,j<b.size->R r b j<=R r a (a.size-1)
def HS{β:Type}(r:ae->Int)(a b:Array bP)(c:Option (Array bP) × β):Prop:=∃ out rest,c=(some out,rest)/\bM r a b out
def LY(r:ae->Int)(a b:Array bP)(N:Nat)(c:L3):Prop:=∃ out ia ib mg ac bc,c=(none,out,ia,ib,mg,ac,bc)/\MI r a b out ia ib/\ia+1<a.size/\ib<b.size/\N<=ia+ib
def LI(r:ae->Int)(a b:Array bP)(N:Nat)(c:IL):Prop:=∃ out ia ib ac bc,c=(none,out,ia,ib,ac,bc)/\MI r a b out ia ib/\ia+1<a.size/\ib<b.size/\N<=ia+ib
theorem MC.last(c:MC prog w A s κ r P a b)(M:MI r a b out ia ib)(z:ia+1=a.size):bM r a b (N8 a b out ia ib):=M.Hl c.hA c.hB z fun j hj=>by have:=c.hg j hj;rwa[show a.size-1=ia by lia] at this
theorem zG(c:MC prog w A s κ r P a b)(M:MI r a b out ia ib)(h1:ia+1<a.size)(lt:R r a ia<=R r b ib)(h2:ib<b.size)(hN:N<=ia+ib)(D:∀ c,HS r a b c->Q (.done c) st)(Y:∀ c,LY r a b N c->Q (.done c) st/\Q (.yield c) st):wpS (aS prog w) A E s (Uh a b mg ac bc ia ib out) Q st:=by
 refine cq (aF (by lia) fun p e=>?_);have M2:=M.n6 c.hA c.hB e fun _=>lt;by_cases z:ia+1+1=a.size
 ·rw[if_pos (by simpa using z)];exact df (D _ ⟨_,_,rfl,c.last M2 z⟩)
 ·rw[if_neg (by simpa using z)];have y:=Y _ ⟨_,_,_,mg,ac,bc,rfl,M2,by lia,h2,by lia⟩;split
  ·exact df y.1
  ·exact df y.2
theorem Df(c:MC prog w A s κ r P a b)(hk:eR st=κ)(M:MI r a b out ia ib)(h1:ia+1<a.size)(h2:ib<b.size)(hN:N<=ia+ib)(D:∀ c,HS r a b c->Q (.done c) st)(Y:∀ c,LY r a b N c->Q (.done c) st/\Q (.yield c) st):wpS (aS prog w) A E s (IQ a b mg ac bc ia ib out) Q st:=by
 refine cq (aF (by lia) fun p e=>cq (cB c.C hk c.pb (c.pa.at e) (by lia) (by lia) (fun i j u v w=>c.hB i j (by lia) v (by lia)) fun l Mm y3 Mp=>?_));have ra:=pf (r:=r) e;dsimp only;have lt:ib+l<b.size->R r a ia<=R r b (ib+l):=fun z=>by have:=rW (Mp l (da _) (by lia));lia
 by_cases l0:l>0
 ·have M5:=MI.D4 c.hA c.hB l M (by lia) fun _ i hi=>by have:=zU (y3 i hi);lia
  rw[if_pos l0];by_cases z:ib+l=b.size
  ·rw[if_pos (by simpa using z)];exact df (D _ ⟨_,_,rfl,M5.Mk c.hA c.hB z⟩)
  ·rw[if_neg (by simpa using z)];exact zG c M5 h1 (lt (by lia)) (by lia) (by lia) D Y
 ·rw[if_neg l0];obtain rfl:l=0:=by lia
  exact zG c M h1 (lt h2) h2 hN D Y
theorem zy(c:MC prog w A s κ r P a b)(hk:eR st=κ)(M:MI r a b out ia ib)(h1:ia+1<a.size)(lt:R r b ib<=R r a ia)(h2:ib<b.size)(hN:N<=ia+ib)(D:∀ c,HS r a b c->Q (.done c) st)(Y:∀ c,LY r a b N c->Q (.done c) st/\Q (.yield c) st):wpS (aS prog w) A E s (lo1 a b mg ac bc ia ib out) Q st:=by
 refine cq (aF h2 fun p e=>?_);have M4:=M.o_ c.hA c.hB e fun _=>lt;by_cases z:ib+1=b.size
 ·rw[if_pos (by simpa using z)];exact df (D _ ⟨_,_,rfl,M4.Mk c.hA c.hB z⟩)
 ·rw[if_neg (by simpa using z)];exact Df c hk M4 h1 (by lia) (by lia) D Y
theorem EY(c:MC prog w A s κ r P a b)(hk:eR st=κ)(M:MI r a b out ia ib)(h1:ia+1<a.size)(h2:ib<b.size)(hN:N<=ia+ib)(D:∀ aw,Mg st aw->∀ c,HS r a b c->Q (.done c) aw)(Y:∀ aw,Mg st aw->∀ c,LY r a b N c->Q (.done c) aw/\Q (.yield c) aw):wpS (aS prog w) A E s (Ui a b mg ac bc ia ib out) Q st:=by
 have g:=(Mg.refl st).set mg;refine cq (gM ?_);refine cq (aF h2 fun p e=>cq (cB c.C (g.kind.trans hk) c.pa (c.pb.at e) (by lia) (by lia) (fun i j u v w=>c.hA i j (by lia) v (by lia)) fun k Zq Fs IU=>?_));have rb:=pf (r:=r) e;dsimp only;have lt:ia+k<a.size->R r b ib<=R r a (ia+k):=fun z=>by have:=vY (IU k (da _) (by lia));lia
 by_cases k0:k>0
 ·have M3:=MI.D3 c.hA c.hB k M (by lia) fun _ i hi=>by have:=ym (Fs i hi);lia
  rw[if_pos k0];by_cases z:ia+k+1=a.size
  ·rw[if_pos (by simpa using z)];exact df (D _ g _ ⟨_,_,rfl,c.last M3 z⟩)
  ·rw[if_neg (by simpa using z)];by_cases z2:ia+k=a.size
   ·rw[if_pos (by simpa using z2)];exact df (D _ g _ ⟨_,_,rfl,M3.Ml c.hA c.hB z2⟩)
   ·rw[if_neg (by simpa using z2)];exact zy c (g.kind.trans hk) M3 (by lia) (lt (by lia)) h2 (by lia) (D _ g) (Y _ g)
 ·rw[if_neg k0];obtain rfl:k=0:=by lia
  exact zy c (g.kind.trans hk) M h1 (lt (by lia)) h2 hN (D _ g) (Y _ g)
theorem Dv(c:MC prog w A s κ r P a b)(M:MI r a b out ia ib)(h1:ia+1<a.size)(lt:R r b ib<=R r a ia)(h2:ib<b.size)(hN:N<=ia+ib+1)(D:∀ c,HS r a b c->Q (.done c) st)(Y:∀ c,LI r a b N c->Q (.done c) st/\Q (.yield c) st):wpS (aS prog w) A E s (Zj a b mg bc ia ib out) Q st:=by
 refine cq (aF h2 fun p e=>?_);have M2:=M.o_ c.hA c.hB e fun _=>lt;by_cases z:ib+1=b.size
 ·rw[if_pos (by simpa using z)];exact df (D _ ⟨_,_,rfl,M2.Mk c.hA c.hB z⟩)
 ·rw[if_neg (by simpa using z)];have y:=Y _ ⟨_,_,_,0,bc+1,rfl,M2,h1,by lia,hN⟩;split
  ·exact df y.1
  ·exact df y.2
theorem Fx(c:MC prog w A s κ r P a b)(M:MI r a b out ia ib)(h1:ia+1<a.size)(lt:R r a ia<=R r b ib)(h2:ib<b.size)(hN:N<=ia+ib+1)(D:∀ c,HS r a b c->Q (.done c) st)(Y:∀ c,LI r a b N c->Q (.done c) st/\Q (.yield c) st):wpS (aS prog w) A E s (Zk a b mg ac ia ib out) Q st:=by
 refine cq (aF (by lia) fun p e=>?_);have M2:=M.n6 c.hA c.hB e fun _=>lt;by_cases z:ia+1+1=a.size
 ·rw[if_pos (by simpa using z)];exact df (D _ ⟨_,_,rfl,c.last M2 z⟩)
 ·rw[if_neg (by simpa using z)];have y:=Y _ ⟨_,_,_,ac+1,0,rfl,M2,by lia,h2,by lia⟩;split
  ·exact df y.1
  ·exact df y.2
theorem DG(c:MC prog w A s κ r P a b)(hk:eR st=κ)(M:MI r a b out ia ib)(h1:ia+1<a.size)(h2:ib<b.size)(hN:N<=ia+ib+1)(D:∀ c,HS r a b c->Q (.done c) st)(Y:∀ c,LI r a b N c->Q (.done c) st/\Q (.yield c) st):wpS (aS prog w) A E s (Zm a b mg x (none,out,ia,ib,ac,bc)) Q st:=by
 refine cq (aF h2 fun pb eb=>cq (aF (show ia<a.size by lia) fun pa ea=>cq (pO c.C hk (c.pb.at eb) (c.pa.at ea) ?_)));have rb:R r b ib=r pb.1:=pf eb;have ra:R r a ia=r pa.1:=pf ea;dsimp only;by_cases hw:r pb.1<r pa.1
 ·rw[if_pos (decide_eq_true hw)];exact Dv c M h1 (by lia) h2 hN D Y
 ·rw[if_neg (by simpa using hw)];exact Fx c M h1 (by lia) h2 hN D Y
theorem Ex(c:MC prog w A s κ r P a b)(hk:eR st=κ)(M:MI r a b out ia ib)(h1:ia+1<a.size)(h2:ib<b.size)(hN:N<=ia+ib)(D:∀ aw,Mg st aw->∀ c,HS r a b c->Q (.done c) aw)(Y:∀ aw,Mg st aw->∀ out ia ib mg,MI r a b out ia ib->ia+1<a.size->ib<b.size->N<=ia+ib->Q (.yield (none,out,ia,ib,mg)) aw):wpS (aS prog w) A E s (Zn a b mg (none,out,ia,ib,ac,bc)) Q st:=by
 refine cq (wpS_lift (wd ⟨rfl,?_⟩));refine cq (tP (rh (I:=fun _ c aw=>Mg st aw/\LY r a b N c) (Q:=fun c aw=>Mg st aw/\(HS r a b c\/LY r a b N c)) ?step ?fin ⟨.refl st,_,_,_,_,_,_,rfl,M,h1,h2,hN⟩) ?post);case fin =>
  rintro c aw ⟨hm,q⟩;exact⟨hm,.inr q⟩
 case step =>
  rintro y c1 xo _ _ ⟨hm,out,ia,ib,mg,ac,bc,rfl,M,h1,h2,hN⟩;unfold Zi;dsimp only;split<;>exact EY c (hm.kind.trans hk) M h1 h2 hN (fun aw g c q=>⟨hm.trans g,.inl q⟩) fun aw g c q=>⟨⟨hm.trans g,.inr q⟩,hm.trans g,q⟩
 case post =>
  rintro c aw ⟨hm,⟨o,rest,rfl,hM⟩|⟨out,ia,ib,mg,ac,bc,rfl,M,h1,h2,hN⟩⟩
  ·exact df (D _ hm _ ⟨_,_,rfl,hM⟩)
  ·exact cq (gM (df (Y _ (hm.set _) _ _ _ _ M h1 h2 hN)))
theorem El(c:MC prog w A s κ r P a b)(hk:eR st=κ)(M:MI r a b out ia ib)(h1:ia+1<a.size)(h2:ib<b.size)(hN:N<=ia+ib)(D:∀ aw,Mg st aw->∀ c,HS r a b c->Q (.done c) aw)(Y:∀ aw,Mg st aw->∀ out ia ib mg,MI r a b out ia ib->ia+1<a.size->ib<b.size->N+1<=ia+ib->Q (.yield (none,out,ia,ib,mg)) aw):wpS (aS prog w) A E s (Zo a b x (none,out,ia,ib,mg)) Q st:=by
 refine cq (tP (rh (I:=fun y c aw=>aw=st/\LI r a b (N+y) c) (Q:=fun c aw=>aw=st/\(HS r a b c\/LI r a b (N+1) c)) ?step ?fin ⟨rfl,_,_,_,_,_,rfl,M,h1,h2,hN⟩) ?post);case fin =>
  rintro c aw ⟨rfl,o,ia',ib',ac,bc,rfl,M',q1,q2,q3⟩;exact⟨rfl,.inr ⟨_,_,_,_,_,rfl,M',q1,q2,by lia⟩⟩
 case step =>
  rintro y c1 xo _ hy ⟨rfl,o,ia',ib',ac,bc,rfl,M',q1,q2,q3⟩;exact DG (N:=N+y+1) c hk M' q1 q2 (by lia) (fun c q=>⟨rfl,.inl q⟩) fun c q=>by obtain⟨o,ia,ib,ac,bc,rfl,M,h1,h2,h3⟩:=q;exact⟨⟨rfl,.inr ⟨_,_,_,_,_,rfl,M,h1,h2,by lia⟩⟩,rfl,_,_,_,_,_,rfl,M,h1,h2,by lia⟩
 case post =>
  rintro c1 aw ⟨rfl,⟨o,rest,rfl,hM⟩|⟨o,ia,ib,ac,bc,rfl,M',q1,q2,q3⟩⟩
  ·exact df (D _ (.refl _) _ ⟨_,_,rfl,hM⟩)
  ·exact Ex c hk M' q1 q2 q3 D Y
theorem qF{st:dv}{a b:Array bP}{Q:Array bP->dv->Prop}(C:oS prog w A s κ r P)(hk:eR st=κ)(Uj:AllP P a)(Uk:AllP P b)(hA:Up r a 0 a.size)(hB:Up r b 0 b.size)(na:1<=a.size)(nb:1<=b.size)(h0:R r b 0<=R r a 0) (hg:∀ j,j<b.size->R r b j<=R r a (a.size-1)) (h:∀ out aw,bM r a b out->Mg st aw->Q out aw):wpS (aS prog w) A E s (sI a b) Q st:=by
 have c:MC prog w A s κ r P a b:=⟨C,Uj,Uk,hA,hB,fun i hi=>yn h0 (hA 0 i (da _) (eT _) hi),hg⟩
 rw[t6];refine cq (wpS_lift (wd ⟨rfl,?_⟩));refine cq (aF nb fun y0 e0=>?_);have M1:MI r a b #[y0] 0 1:=(MI.start hA hB).o_ hA hB e0 fun _=>h0;by_cases c1:1=b.size
 ·rw[if_pos (by simpa using c1)];exact df (h _ _ (M1.Mk hA hB c1) (.refl st))
 ·rw[if_neg (by simpa using c1)];by_cases c2:0+1=a.size
  ·rw[if_pos (by simpa using c2)];exact df (h _ _ (c.last M1 c2) (.refl st))
  ·rw[if_neg (by simpa using c2)];refine cq (wpS_get ?_);refine cq (tP (rh (I:=fun x c aw=>Mg st aw/\∃ out ia ib mg,c=(none,out,ia,ib,mg)/\MI r a b out ia ib/\ia+1<a.size/\ib<b.size/\x+1<=ia+ib) (Q:=fun c aw=>Mg st aw/\HS r a b c) ?step ?fin ⟨.refl st,_,_,_,_,rfl,M1,by lia,by lia,by exact wq _⟩) ?post)
   case fin =>
    rintro c aw ⟨_,out,ia,ib,mg,rfl,M,h1,h2,h3⟩;lia
   case post =>
    rintro c aw ⟨hm,out,rest,rfl,hM⟩;exact df (h out aw hM hm)
   case step =>
    rintro x c1 xo _ hx ⟨AB,out,ia,ib,mg,rfl,M,h1,h2,h3⟩;exact El (N:=x+1) c (AB.kind.trans hk) M h1 h2 h3 (fun aw g c q=>⟨AB.trans g,q⟩) fun aw g out ia ib mg M h1 h2 h3=>⟨AB.trans g,_,_,_,_,rfl,M,h1,h2,h3⟩
end
abbrev Ge(r:ae->Int)(x y:bP):Prop:=r y.1<=r x.1
structure MH(r:ae->Int)(a b out:Array bP)(na nb:Nat):Prop where
 ha:na<=a.size
 hb:nb<=b.size
 perm:out.toList.Perm (a.toList.drop na++b.toList.drop nb)
 down:out.toList.Pairwise (Ge r)
 ga:∀ x∈out.toList,∀ i,i<na->R r a i<=r x.1
 gb:∀ x∈out.toList,∀ j,j<nb->R r b j<=r x.1
section
variable {r:ae->Int}{a b out:Array bP}{na nb:Nat}
theorem pR{α:Type}{l:List α}{i:Nat}{x:α}(h0:0<i)(h:l[i-1]? = some x):l.drop (i-1)=x :: l.drop i:=by obtain⟨hi,e⟩:=lP.mp h;rw[Lp hi,e,show i-1+1=i by exact Nat.sub_add_cancel ‹_›]
theorem MH.n6(M:MH r a b out na nb)(hA:Up r a 0 a.size)(hB:Up r b 0 b.size)(h0:0<na)(e:a[na-1]? = some y)(hl:0<nb->R r b (nb-1)<=R r a (na-1)):MH r a b (out.push y) (na-1) nb:=by
 have ey:=pf (r:=r) e;have ha:=M.ha;have hb:=M.hb;refine⟨by lia,M.hb,?_,?_,?_,?_⟩
 ·rw[pS,pR (x:=y) h0 (by simpa using e)];refine(M.perm.append_right [y]).trans ?_;exact Pl
 ·rw[pS,Pm];refine⟨M.down,by simp,fun x hx z hz=>?_⟩;have:z=y:=by simpa using hz
  subst this;show r z.1<=r x.1;rw[<- ey];exact M.ga x hx (na-1) (by lia)
 ·intro x hx i hi;rw[pS] at hx;rcases eS.mp hx with hx|hx
  ·exact M.ga x hx i (by lia)
  ·have:x=y:=by simpa using hx
   subst this;rw[<- ey];exact hA i (na-1) (eT _) (by lia) (by lia)
 ·intro x hx j hj;rw[pS] at hx;rcases eS.mp hx with hx|hx
  ·exact M.gb x hx j hj
  ·have:x=y:=by simpa using hx
   subst this;rw[<- ey];exact yn (hB j (nb-1) (eT _) (by lia) (by lia)) (hl (by lia))
theorem MH.o_(M:MH r a b out na nb)(hA:Up r a 0 a.size)(hB:Up r b 0 b.size)(h0:0<nb)(e:b[nb-1]? = some y)(hl:0<na->R r a (na-1)<=R r b (nb-1)):MH r a b (out.push y) na (nb-1):=by
 have ey:=pf (r:=r) e;have ha:=M.ha;have hb:=M.hb;refine⟨M.ha,by lia,?_,?_,?_,?_⟩
 ·rw[pS,pR (x:=y) h0 (by simpa using e)];refine(M.perm.append_right [y]).trans ?_;rw[tJ];exact List.Perm.append_left _ Pl
 ·rw[pS,Pm];refine⟨M.down,by simp,fun x hx z hz=>?_⟩;have:z=y:=by simpa using hz
  subst this;show r z.1<=r x.1;rw[<- ey];exact M.gb x hx (nb-1) (by lia)
 ·intro x hx i hi;rw[pS] at hx;rcases eS.mp hx with hx|hx
  ·exact M.ga x hx i hi
  ·have:x=y:=by simpa using hx
   subst this;rw[<- ey];exact yn (hA i (na-1) (eT _) (by lia) (by lia)) (hl (by lia))
 ·intro x hx j hj;rw[pS] at hx;rcases eS.mp hx with hx|hx
  ·exact M.gb x hx j (by lia)
  ·have:x=y:=by simpa using hx
   subst this;rw[<- ey];exact hB j (nb-1) (eT _) (by lia) (by lia)
theorem jx{xs:Array bP}{i n:Nat}(h:i<n)(hn:n<=xs.size):(xs.extract i n).reverse = #[xs[n-1]'(by lia)]++(xs.extract i (n-1)).reverse:=by
 obtain⟨k,rfl⟩:∃ k,n=i+(k+1):=⟨n-1-i,by lia⟩
 have e3:i+(k+1)-1=i+k:=by rfl
 simp only[e3];rw[d8 (by assumption),Array.reverse_push]
theorem MH.D3(hA:Up r a 0 a.size)(hB:Up r b 0 b.size):∀ (k:Nat) {out:Array bP} {na p:Nat},MH r a b out na nb->p+k=na->(0<nb->∀ i,p<=i->i<na->R r b (nb-1)<=R r a i)->MH r a b (out++(a.extract p na).reverse) p nb
 |0,out,na,p,M,h1,h2=>by
  have:a.extract p na = #[]:=LN (by simp only[HC];lia);have e:na=p:=by walk_at "s1"
  subst e;rw[this];simpa using M
 |k+1,out,na,p,M,h1,h2=>by have ha:=M.ha;have e:a[na-1]? = some (a[na-1]'(by lia)):=getElem?_pos a (na-1) (by lia);have q:=M.n6 hA hB (by lia) e fun hb=>h2 hb _ (by lia) (by lia);have z:=MH.D3 hA hB k (p:=p) q (by lia) fun hb i sQ qa=>h2 hb i sQ (by walk_at "s4");rw[jx (by lia) ha,<- LR];simpa using z
theorem MH.D4(hA:Up r a 0 a.size)(hB:Up r b 0 b.size):∀ (k:Nat) {out:Array bP} {nb p:Nat},MH r a b out na nb->p+k=nb->(0<na->∀ i,p<=i->i<nb->R r a (na-1)<=R r b i)->MH r a b (out++(b.extract p nb).reverse) na p
 |0,out,nb,p,M,h1,h2=>by
  have:b.extract p nb = #[]:=LN (by simp only[HC];lia);have e:nb=p:=by walk_at "s1"
  subst e;rw[this];simpa using M
 |k+1,out,nb,p,M,h1,h2=>by have hb:=M.hb;have e:b[nb-1]? = some (b[nb-1]'(by lia)):=getElem?_pos b (nb-1) (by lia);have q:=M.o_ hA hB (by lia) e fun ha=>h2 ha _ (by lia) (by lia);have z:=MH.D4 hA hB k (p:=p) q (by lia) fun ha i sQ qa=>h2 ha i sQ (by walk_at "s4");rw[jx (by lia) hb,<- LR];simpa using z
theorem MH.whole(M:MH r a b out 0 0):bM r a b out.reverse:=by
 refine⟨?_,?_⟩
 ·have h:=M.perm;rw[List.drop_zero,List.drop_zero] at h;rw[Array.toList_reverse];exact(List.reverse_perm _).trans h
 ·rw[Array.toList_reverse,List.pairwise_reverse];exact M.down
theorem nG(x y:Array bP):(x++y.reverse).reverse=y++x.reverse:=by apply Nf.mp;simp
theorem MH.Ml(M:MH r a b out na nb)(hA:Up r a 0 a.size)(hB:Up r b 0 b.size)(e:na=0):bM r a b (a.extract 0 na++b.extract 0 nb++out.reverse):=by
 subst e;have z:=MH.D4 hA hB nb (p:=0) M (by exact M_ ..) fun ha=>absurd ha (vt _);have q:=z.whole;rw[nG] at q;have e2:a.extract 0 0 = #[]:=by simp
 rw[e2,Array.empty_append];exact q
theorem MH.Mk(M:MH r a b out na nb)(hA:Up r a 0 a.size)(hB:Up r b 0 b.size)(e:nb=0):bM r a b (a.extract 0 na++b.extract 0 nb++out.reverse):=by
 subst e;have z:=MH.D3 hA hB na (p:=0) M (by exact M_ ..) fun hb=>absurd hb (vt _);have q:=z.whole;rw[nG] at q;have e2:b.extract 0 0 = #[]:=by simp
 rw[e2,SG];exact q
theorem MH.sW(M:MH r a b out na nb)(hA:Up r a 0 a.size)(hB:Up r b 0 b.size)(e:nb=1)(hl:∀ i,i<a.size->R r b 0<=R r a i):bM r a b (b.extract 0 nb++a.extract 0 na++out.reverse):=by subst e;have ha:=M.ha;have z:=MH.D3 hA hB na (p:=0) M (by exact M_ ..) fun _ i _ hi=>hl i (by walk_at "s1");have z2:=MH.D4 hA hB 1 (p:=0) z (by exact M_ ..) fun h=>absurd h (vt _);have q:=z2.whole;rw[nG,nG] at q;rw[LR];exact q
theorem MH.start:MH r a b #[] a.size b.size:=⟨da _,da _,by simp,by simp,fun x hx=>by simp at hx,fun x hx=>by simp at hx⟩
end
abbrev S1:=Option (Array bP) × Nat × Nat × Array bP × Nat
abbrev S2:=Option (Array bP) × Nat × Nat × Array bP × Nat × Nat
abbrev S3:=Option (Array bP) × Nat × Nat × Array bP × Nat × Nat × Nat
def Fu(a b out:Array bP)(na nb:Nat):Array bP:=a.extract 0 na++b.extract 0 nb++out.reverse
def Qy(a b out:Array bP)(na nb:Nat):Array bP:=b.extract 0 nb++a.extract 0 na++out.reverse
def Ul(a b:Array bP)(mg ac bc na nb:Nat)(out:Array bP):SM (ForInStep S3):=ng a (na-1) >>= fun p =>
 if (na-1 == 0)=true then pure (.done (some (Fu a b (out.push p) (na-1) nb),na-1,nb,out.push p,mg,ac,bc))
 else if (decide (ac<7) && decide (bc<7))=true then pure (.done (none,na-1,nb,out.push p,mg,ac,bc)) else pure (.yield (none,na-1,nb,out.push p,mg,ac,bc))
def qa(a b:Array bP)(mg ac bc na nb:Nat)(out:Array bP):SM (ForInStep S3):=ng a (na-1) >>= fun p=>jA true p b 0 nb (nb-1) >>= fun x=>match x with
 |some k=>if nb-k>0 then
   if (k == 1)=true then pure (.done (some (Qy a b (out++(b.extract k nb).reverse) na k),na,k,out++(b.extract k nb).reverse,mg,ac,nb-k))
   else if (k == 0)=true then pure (.done (some (Fu a b (out++(b.extract k nb).reverse) na k),na,k,out++(b.extract k nb).reverse,mg,ac,nb-k))
   else Ul a b mg ac (nb-k) na k (out++(b.extract k nb).reverse)
  else Ul a b mg ac (nb-k) na nb out
 |_=>pure (.done (some (Fu a b out na nb),na,nb,out,mg,ac,bc))
def sQ(a b:Array bP)(mg ac bc na nb:Nat)(out:Array bP):SM (ForInStep S3):=ng b (nb-1) >>= fun p =>
 if (nb-1 == 1)=true then pure (.done (some (Qy a b (out.push p) na (nb-1)),na,nb-1,out.push p,mg,ac,bc)) else qa a b mg ac bc na (nb-1) (out.push p)
def D1(a b:Array bP)(mg ac bc na nb:Nat)(out:Array bP):SM (ForInStep S3):=bf mg >>= fun _=>ng b (nb-1) >>= fun p=>jA false p a 0 na (na-1) >>= fun x=>match x with
 |some k=>if na-k>0 then
   if (k == 0)=true then pure (.done (some (Fu a b (out++(a.extract k na).reverse) k nb),k,nb,out++(a.extract k na).reverse,mg,na-k,bc))
   else sQ a b mg (na-k) bc k nb (out++(a.extract k na).reverse)
  else sQ a b mg (na-k) bc na nb out
 |_=>pure (.done (some (Fu a b out na nb),na,nb,out,mg,ac,bc))
def Zr(a b:Array bP)(_:Nat)(s:S3):SM (ForInStep S3) :=
 if s.2.2.2.2.1>1 then D1 a b (s.2.2.2.2.1-1) s.2.2.2.2.2.1 s.2.2.2.2.2.2 s.2.1 s.2.2.1 s.2.2.2.1 else D1 a b s.2.2.2.2.1 s.2.2.2.2.2.1 s.2.2.2.2.2.2 s.2.1 s.2.2.1 s.2.2.2.1
def Zt(a b:Array bP)(mg ac na nb:Nat)(out:Array bP):SM (ForInStep S2):=ng a (na-1) >>= fun p =>
 if (na-1 == 0)=true then pure (.done (some (Fu a b (out.push p) (na-1) nb),na-1,nb,out.push p,ac+1,0))
 else if ac+1 >= mg then pure (.done (none,na-1,nb,out.push p,ac+1,0)) else pure (.yield (none,na-1,nb,out.push p,ac+1,0))
def Zu(a b:Array bP)(mg bc na nb:Nat)(out:Array bP):SM (ForInStep S2):=ng b (nb-1) >>= fun p =>
 if (nb-1 == 1)=true then pure (.done (some (Qy a b (out.push p) na (nb-1)),na,nb-1,out.push p,0,bc+1))
 else if bc+1 >= mg then pure (.done (none,na,nb-1,out.push p,0,bc+1)) else pure (.yield (none,na,nb-1,out.push p,0,bc+1))
def Zv(a b:Array bP)(mg:Nat)(_:Nat)(s:S2):SM (ForInStep S2):=ng b (s.2.2.1-1) >>= fun pb=>ng a (s.2.1-1) >>= fun pa=>lt' pb pa >>= fun x=>match x with
 |some w=>if w=true then Zt a b mg s.2.2.2.2.1 s.2.1 s.2.2.1 s.2.2.2.1 else Zu a b mg s.2.2.2.2.2 s.2.1 s.2.2.1 s.2.2.2.1
 |_=>pure (.done (some (Fu a b s.2.2.2.1 s.2.1 s.2.2.1),s.2.1,s.2.2.1,s.2.2.2.1,s.2.2.2.2.1,s.2.2.2.2.2))
def Zw (a b:Array bP) (mg:Nat) (t:S2):SM (ForInStep S1):=(liftM (rule "list.sort.gallop"):SM Unit) >>= fun _ =>
 forIn [:a.size+b.size] ((none,t.2.1,t.2.2.1,t.2.2.2.1,mg+1,t.2.2.2.2.1,t.2.2.2.2.2):S3) (Zr a b) >>= fun u=>match u.1 with
 |some r=>pure (.done (some r,u.2.1,u.2.2.1,u.2.2.2.1,u.2.2.2.2.1))
 |none=>bf (u.2.2.2.2.1+1) >>= fun _=>pure (.yield (none,u.2.1,u.2.2.1,u.2.2.2.1,u.2.2.2.2.1+1))
def Zx(a b:Array bP)(_:Nat)(s:S1):SM (ForInStep S1):=forIn [:a.size+b.size] ((none,s.2.1,s.2.2.1,s.2.2.2.1,0,0):S2) (Zv a b s.2.2.2.2) >>= fun t=>match t.1 with
 |some r=>pure (.done (some r,t.2.1,t.2.2.1,t.2.2.2.1,s.2.2.2.2))
 |none=>Zw a b s.2.2.2.2 t
def hiM (a b:Array bP):SM (Array bP):=(liftM (rule "list.sort.merge-hi"):SM Unit) >>= fun _=>ng a (a.size-1) >>= fun y =>
 if (a.size-1 == 0)=true then pure (Fu a b #[y] (a.size-1) b.size)
 else if (b.size == 1)=true then pure (Qy a b #[y] (a.size-1) b.size)
 else get >>= fun st=>forIn [:a.size+b.size] ((none,a.size-1,b.size,#[y],gallopOf st):S1) (Zx a b) >>= fun t=>match t.1 with
 |some r=>pure r
 |none=>(liftM (unsupported (α:=Array bP) "internal:list.sort.merge-bound"):SM (Array bP))
set_option smartUnfolding false in
theorem t7:sE=hiM:=rfl
section
variable {prog:dr}{w:dA}{A:eB}{E:ae->ay->Prop}{s:ay}{κ:tN}{r:ae->Int}{P:ae->Prop}{a b out:Array bP}{mg ac bc na nb N:Nat}{st:dv}{Q:ForInStep S3->dv->Prop}
def HD(r:ae->Int)(a b:Array bP)(Q:ForInStep S3->dv->Prop)(st:dv):Prop:=∀ o rest,bM r a b o->Q (.done (some o,rest)) st
def HY(r:ae->Int)(a b:Array bP)(N:Nat)(Q:ForInStep S3->dv->Prop)(st:dv):Prop :=
 ∀ o na nb mg ac bc,MH r a b o na nb->1<=na->2<=nb->na+nb<=N->Q (.done (none,na,nb,o,mg,ac,bc)) st/\Q (.yield (none,na,nb,o,mg,ac,bc)) st
theorem zm(c:MC prog w A s κ r P a b)(M:MH r a b out na nb)(h1:0<na)(lt:R r b (nb-1)<=R r a (na-1))(h2:2<=nb)(hN:na+nb<=N)(D:HD r a b Q st)(Y:HY r a b N Q st):wpS (aS prog w) A E s (Ul a b mg ac bc na nb out) Q st:=by
 have ha:=M.ha;refine cq (aF (by lia) fun p e=>?_);have M2:=M.n6 c.hA c.hB h1 e fun _=>lt;by_cases z:na-1=0
 ·rw[if_pos (by simpa using z)];exact df (D _ _ (M2.Ml c.hA c.hB z))
 ·rw[if_neg (by simpa using z)];have y:=Y _ _ _ mg ac bc M2 (by lia) h2 (by lia);split
  ·exact df y.1
  ·exact df y.2
theorem DN(c:MC prog w A s κ r P a b)(hk:eR st=κ)(M:MH r a b out na nb)(h1:0<na)(h2:2<=nb)(hN:na+nb<=N)(D:HD r a b Q st)(Y:HY r a b N Q st):wpS (aS prog w) A E s (qa a b mg ac bc na nb out) Q st:=by
 have ha:=M.ha;have hb:=M.hb;refine cq (aF (by lia) fun p e=>cq (cB c.C hk c.pb (c.pa.at e) (by lia) (by lia) (fun i j u v w=>c.hB i j u v (by lia)) fun l Mm y3 Mp=>?_));have ra:=pf (r:=r) e;dsimp only;have lt:0<l->R r b (l-1)<=R r a (na-1):=fun z=>by have:=zU (y3 (l-1) (by exact LK ‹_› LJ));rw[LG] at this;lia
 by_cases l0:nb-l>0
 ·have M5:=MH.D4 c.hA c.hB (nb-l) (p:=l) M (by exact GW ‹_›) fun _ i sQ qa=>by have:=rW (Mp i sQ qa);rw[LG] at this;lia
  rw[if_pos l0];by_cases z4:l=1
  ·rw[if_pos (by simpa using z4)];exact df (D _ _ (M5.sW c.hA c.hB z4 c.hl))
  ·rw[if_neg (by simpa using z4)];by_cases z6:l=0
   ·rw[if_pos (by simpa using z6)];exact df (D _ _ (M5.Mk c.hA c.hB z6))
   ·rw[if_neg (by simpa using z6)];exact zm c M5 h1 (lt (by lia)) (by lia) (by lia) D Y
 ·rw[if_neg l0];obtain rfl:l=nb:=by lia
  exact zm c M h1 (lt (by exact Sr ‹_›)) h2 hN D Y
theorem zK(c:MC prog w A s κ r P a b)(hk:eR st=κ)(M:MH r a b out na nb)(h1:0<na)(h2:2<=nb)(lt:R r a (na-1)<=R r b (nb-1))(hN:na+nb<=N)(D:HD r a b Q st)(Y:HY r a b N Q st):wpS (aS prog w) A E s (sQ a b mg ac bc na nb out) Q st:=by
 have hb:=M.hb;refine cq (aF (by lia) fun p e=>?_);have M4:=M.o_ c.hA c.hB (by exact Sr ‹_›) e fun _=>lt;by_cases z:nb-1=1
 ·rw[if_pos (by simpa using z)];exact df (D _ _ (M4.sW c.hA c.hB z c.hl))
 ·rw[if_neg (by simpa using z)];exact DN c hk M4 h1 (by lia) (by lia) D Y
theorem Ej(c:MC prog w A s κ r P a b)(hk:eR st=κ)(M:MH r a b out na nb)(h1:0<na)(h2:2<=nb)(hN:na+nb<=N)(D:∀ aw,Mg st aw->HD r a b Q aw)(Y:∀ aw,Mg st aw->HY r a b N Q aw):wpS (aS prog w) A E s (D1 a b mg ac bc na nb out) Q st:=by
 have ha:=M.ha;have hb:=M.hb;have g:=(Mg.refl st).set mg;refine cq (gM ?_);refine cq (aF (by lia) fun p e=>cq (cB c.C (g.kind.trans hk) c.pa (c.pb.at e) (by lia) (by exact LK ‹_› LJ) (fun i j u v w=>c.hA i j u v (by lia)) fun k Zq Fs IU=>?_));have rb:=pf (r:=r) e;dsimp only;have lt:0<k->R r a (k-1)<=R r b (nb-1):=fun z=>by have:=ym (Fs (k-1) (by exact LK ‹_› LJ));rw[LG] at this;lia
 by_cases k0:na-k>0
 ·have M3:=MH.D3 c.hA c.hB (na-k) (p:=k) M (by exact GW ‹_›) fun _ i sQ qa=>by have:=vY (IU i sQ qa);rw[LG] at this;lia
  rw[if_pos k0];by_cases z:k=0
  ·rw[if_pos (by simpa using z)];exact df (D _ g _ _ (M3.Ml c.hA c.hB z))
  ·rw[if_neg (by simpa using z)];exact zK c (g.kind.trans hk) M3 (by lia) h2 (lt (by lia)) (by lia) (D _ g) (Y _ g)
 ·rw[if_neg k0];obtain rfl:k=na:=by lia
  exact zK c (g.kind.trans hk) M h1 h2 (lt h1) hN (D _ g) (Y _ g)
def HI(r:ae->Int)(a b:Array bP)(N:Nat)(c:S2):Prop:=∃ na nb out ac bc,c=(none,na,nb,out,ac,bc)/\MH r a b out na nb/\1<=na/\2<=nb/\na+nb<=N
theorem Dr{Q:ForInStep S2->dv->Prop}(c:MC prog w A s κ r P a b)(M:MH r a b out na nb)(h1:0<na)(lt:R r b (nb-1)<=R r a (na-1))(h2:2<=nb)(hN:na+nb<=N+1)(D:∀ c,HS r a b c->Q (.done c) st)(Y:∀ c,HI r a b N c->Q (.done c) st/\Q (.yield c) st):wpS (aS prog w) A E s (Zt a b mg ac na nb out) Q st:=by
 have ha:=M.ha;refine cq (aF (by lia) fun p e=>?_);have M2:=M.n6 c.hA c.hB h1 e fun _=>lt;by_cases z:na-1=0
 ·rw[if_pos (by simpa using z)];exact df (D _ ⟨_,_,rfl,M2.Ml c.hA c.hB z⟩)
 ·rw[if_neg (by simpa using z)];have y:=Y _ ⟨_,_,_,ac+1,0,rfl,M2,by lia,h2,by lia⟩;split
  ·exact df y.1
  ·exact df y.2
theorem Fq{Q:ForInStep S2->dv->Prop}(c:MC prog w A s κ r P a b)(M:MH r a b out na nb)(h1:0<na)(lt:R r a (na-1)<=R r b (nb-1))(h2:2<=nb)(hN:na+nb<=N+1)(D:∀ c,HS r a b c->Q (.done c) st)(Y:∀ c,HI r a b N c->Q (.done c) st/\Q (.yield c) st):wpS (aS prog w) A E s (Zu a b mg bc na nb out) Q st:=by
 have hb:=M.hb;refine cq (aF (by lia) fun p e=>?_);have M2:=M.o_ c.hA c.hB (by exact Sr ‹_›) e fun _=>lt;by_cases z:nb-1=1
 ·rw[if_pos (by simpa using z)];exact df (D _ ⟨_,_,rfl,M2.sW c.hA c.hB z c.hl⟩)
 ·rw[if_neg (by simpa using z)];have y:=Y _ ⟨_,_,_,0,bc+1,rfl,M2,h1,by lia,by lia⟩;split
  ·exact df y.1
  ·exact df y.2
theorem Fl{Q:ForInStep S2->dv->Prop}{x:Nat}(c:MC prog w A s κ r P a b)(hk:eR st=κ)(M:MH r a b out na nb)(h1:0<na)(h2:2<=nb)(hN:na+nb<=N+1)(D:∀ c,HS r a b c->Q (.done c) st)(Y:∀ c,HI r a b N c->Q (.done c) st/\Q (.yield c) st):wpS (aS prog w) A E s (Zv a b mg x (none,na,nb,out,ac,bc)) Q st:=by
 have ha:=M.ha;have hb:=M.hb;refine cq (aF (show nb-1<b.size by lia) fun pb eb=>cq (aF (show na-1<a.size by lia) fun pa ea=>cq (pO c.C hk (c.pb.at eb) (c.pa.at ea) ?_)));have rb:R r b (nb-1)=r pb.1:=pf eb;have ra:R r a (na-1)=r pa.1:=pf ea;dsimp only;by_cases hw:r pb.1<r pa.1
 ·rw[if_pos (decide_eq_true hw)];exact Dr c M h1 (by lia) h2 hN D Y
 ·rw[if_neg (by simpa using hw)];exact Fq c M h1 (by lia) h2 hN D Y
theorem Fg{Q:ForInStep S1->dv->Prop}(c:MC prog w A s κ r P a b)(hk:eR st=κ)(M:MH r a b out na nb)(h1:0<na)(h2:2<=nb)(hN:na+nb<=N)(D:∀ aw,Mg st aw->∀ c,HS r a b c->Q (.done c) aw)(Y:∀ aw,Mg st aw->∀ out na nb mg,MH r a b out na nb->1<=na->2<=nb->na+nb<=N->Q (.yield (none,na,nb,out,mg)) aw):wpS (aS prog w) A E s (Zw a b mg (none,na,nb,out,ac,bc)) Q st:=by
 refine cq (wpS_lift (wd ⟨rfl,?_⟩));refine cq (tP (rh (I:=fun _ c aw=>Mg st aw/\∃ na nb out mg ac bc,c=(none,na,nb,out,mg,ac,bc)/\MH r a b out na nb/\1<=na/\2<=nb/\na+nb<=N) (Q:=fun c aw=>Mg st aw/\(HS r a b c\/∃ na nb out mg ac bc,c=(none,na,nb,out,mg,ac,bc)/\MH r a b out na nb/\1<=na/\2<=nb/\na+nb<=N)) ?step ?fin ⟨.refl st,_,_,_,_,_,_,rfl,M,h1,h2,hN⟩) ?post)
 case fin =>
  rintro c aw ⟨hm,q⟩;exact⟨hm,.inr q⟩
 case step =>
  rintro y c1 xo _ _ ⟨hm,na,nb,out,mg,ac,bc,rfl,M,h1,h2,hN⟩;unfold Zr;dsimp only;split<;>exact Ej c (hm.kind.trans hk) M h1 h2 hN (fun aw g o rest hM=>⟨hm.trans g,.inl ⟨o,rest,rfl,hM⟩⟩) fun aw g o na nb mg ac bc M h1 h2 hN=>⟨⟨hm.trans g,.inr ⟨_,_,_,_,_,_,rfl,M,h1,h2,hN⟩⟩,hm.trans g,_,_,_,_,_,_,rfl,M,h1,h2,hN⟩
 case post =>
  rintro c aw ⟨hm,⟨o,rest,rfl,hM⟩|⟨na,nb,out,mg,ac,bc,rfl,M,h1,h2,hN⟩⟩
  ·exact df (D _ hm _ ⟨_,_,rfl,hM⟩)
  ·exact cq (gM (df (Y _ (hm.set _) _ _ _ _ M h1 h2 hN)))
theorem DY{Q:ForInStep S1->dv->Prop}{x:Nat}(c:MC prog w A s κ r P a b)(hk:eR st=κ)(M:MH r a b out na nb)(h1:0<na)(h2:2<=nb)(hN:na+nb<=N+1)(D:∀ aw,Mg st aw->∀ c,HS r a b c->Q (.done c) aw)(Y:∀ aw,Mg st aw->∀ out na nb mg,MH r a b out na nb->1<=na->2<=nb->na+nb<=N->Q (.yield (none,na,nb,out,mg)) aw):wpS (aS prog w) A E s (Zx a b x (none,na,nb,out,mg)) Q st:=by
 have ha:=M.ha;have hb:=M.hb;refine cq (tP (rh (I:=fun y c aw=>aw=st/\HI r a b (N+1-y) c) (Q:=fun c aw=>aw=st/\(HS r a b c\/HI r a b N c)) ?step ?fin ⟨rfl,_,_,_,_,_,rfl,M,h1,h2,hN⟩) ?post);case fin =>
  rintro c aw ⟨rfl,na',pj,o,ac,bc,rfl,M',q1,q2,q3⟩;exact⟨rfl,.inr ⟨_,_,_,_,_,rfl,M',q1,q2,by lia⟩⟩
 case step =>
  rintro y c1 xo _ hy ⟨rfl,na',pj,o,ac,bc,rfl,M',q1,q2,q3⟩;exact Fl (N:=N-y) c hk M' q1 q2 (by lia) (fun c q=>⟨rfl,.inl q⟩) fun c q=>by obtain⟨na,nb,o,ac,bc,rfl,M,h1,h2,h3⟩:=q;exact⟨⟨rfl,.inr ⟨_,_,_,_,_,rfl,M,h1,h2,by walk_at "s4"⟩⟩,rfl,_,_,_,_,_,rfl,M,h1,h2,by lia⟩
 case post =>
  rintro c1 aw ⟨rfl,⟨o,rest,rfl,hM⟩|⟨na,nb,o,ac,bc,rfl,M',q1,q2,q3⟩⟩
  ·exact df (D _ (.refl _) _ ⟨_,_,rfl,hM⟩)
  ·exact Fg c hk M' q1 q2 q3 D Y
theorem ql{st:dv}{a b:Array bP}{Q:Array bP->dv->Prop}(C:oS prog w A s κ r P)(hk:eR st=κ)(Uj:AllP P a)(Uk:AllP P b)(hA:Up r a 0 a.size)(hB:Up r b 0 b.size)(na:1<=a.size)(nb:1<=b.size)(h0:R r b 0<=R r a 0) (hg:∀ j,j<b.size->R r b j<=R r a (a.size-1)) (h:∀ out aw,bM r a b out->Mg st aw->Q out aw):wpS (aS prog w) A E s (sE a b) Q st:=by
 have c:MC prog w A s κ r P a b:=⟨C,Uj,Uk,hA,hB,fun i hi=>yn h0 (hA 0 i (da _) (eT _) hi),hg⟩
 rw[t7];refine cq (wpS_lift (wd ⟨rfl,?_⟩));refine cq (aF (by exact LK ‹_› LJ) fun y0 e0=>?_);have M1:MH r a b #[y0] (a.size-1) b.size:=MH.start.n6 hA hB na e0 fun _=>hg _ (by exact LK ‹_› LJ);by_cases c1:a.size-1=0
 ·rw[if_pos (by simpa using c1)];exact df (h _ _ (M1.Ml hA hB c1) (.refl st))
 ·rw[if_neg (by simpa using c1)];by_cases c2:b.size=1
  ·rw[if_pos (by simpa using c2)];exact df (h _ _ (M1.sW hA hB c2 c.hl) (.refl st))
  ·rw[if_neg (by simpa using c2)];refine cq (wpS_get ?_);refine cq (tP (rh (I:=fun x c aw=>Mg st aw/\∃ na nb out mg,c=(none,na,nb,out,mg)/\MH r a b out na nb/\1<=na/\2<=nb/\na+nb<=a.size+b.size-x) (Q:=fun c aw=>Mg st aw/\HS r a b c) ?step ?fin ⟨.refl st,_,_,_,_,rfl,M1,by lia,by lia,by lia⟩) ?post)
   case fin =>
    rintro c aw ⟨_,na,nb,out,mg,rfl,M,h1,h2,h3⟩;lia
   case post =>
    rintro c aw ⟨hm,out,rest,rfl,hM⟩;exact df (h out aw hM hm)
   case step =>
    rintro x c1 xo _ hx ⟨AB,na,nb,out,mg,rfl,M,h1,h2,h3⟩;exact DY (N:=a.size+b.size-(x+1)) c (AB.kind.trans hk) M h1 h2 (by lia) (fun aw g c q=>⟨AB.trans g,q⟩) fun aw g out na nb mg M h1 h2 h3=>⟨AB.trans g,_,_,_,_,rfl,M,h1,h2,h3⟩
end
def wr(p:Nat)(m:List bP)(n:Nat)(xs:Array bP):Array bP:=(m.zipIdx n).foldl (fun a (q:bP × Nat)=>a.setIfInBounds (p+q.2) q.1) xs
theorem vU(p:Nat):∀ (m:List bP) (n:Nat) (xs:Array bP),p+n+m.length<=xs.size->∀ k:Nat,(wr p m n xs)[k]? = if p+n<=k/\k<p+n+m.length then m[k-(p+n)]? else xs[k]?
 |[],n,xs,h,k=>by rw[if_neg (by simp only[List.length_nil];lia)];rfl
 |q :: m,n,xs,h,k=>by
  have ih:=vU p m (n+1) (xs.setIfInBounds (p+n) q) (by rw[Array.size_setIfInBounds];simp only[sA] at h;lia) k;have e:wr p (q :: m) n xs=wr p m (n+1) (xs.setIfInBounds (p+n) q):=by unfold wr;rw[List.zipIdx_cons,List.foldl_cons]
  simp only[sA] at h ⊢;rw[e,ih];by_cases h1:p+(n+1)<=k/\k<p+(n+1)+m.length
  ·rw[if_pos h1,if_pos (by lia),show k-(p+n)=(k-(p+(n+1)))+1 by lia,List.getElem?_cons_succ]
  ·rw[if_neg h1];by_cases h2:k=p+n
   ·subst h2;rw[if_pos (by walk_at "s4"),Nat.sub_self,List.getElem?_cons_zero,Array.getElem?_setIfInBounds_self_of_lt (by lia)]
   ·rw[if_neg (by lia),Sx (by walk_at "s1")]
theorem Ac(h:p+m.length<=xs.size):(wr p m 0 xs).toList=xs.toList.take p++m++xs.toList.drop (p+m.length):=by
 have hl:xs.toList.length=xs.size:=by simp
 apply Lv;intro k;have e:=vU p m 0 xs h k;rw[LH] at e;rw[oa,e];by_cases h1:k<p
 ·rw[if_neg (by lia),tJ,MQ (by rw[i7];lia),List.getElem?_take_of_lt h1,oa]
 ·by_cases h2:k<p+m.length
  ·rw[if_pos (by lia),tJ,CL (by rw[i7];lia),i7,show min p xs.toList.length=p by lia,MQ (by lia)]
  ·rw[if_neg (by lia),tJ,CL (by rw[i7];lia),i7,show min p xs.toList.length=p by lia,CL (by lia),List.getElem?_drop,
    show p+m.length+(k-p-m.length)=k by lia,oa]
theorem Ed{p q:Nat}{xs:Array bP}(h:p<=q)(h2:q<=xs.size):xs.toList=xs.toList.take p++(xs.extract p q).toList++xs.toList.drop q:=by
 rw[SF,R4];have e1:xs.toList.take p++(xs.toList.drop p).take (q-p)=xs.toList.take q:=by rw[<- Lr p (xs.toList.take q),List.take_take,List.drop_take,LD h]
 rw[e1,Lr]
theorem BV{p q:Nat}{m:List bP}{xs:Array bP}(h:p<=q)(h2:q<=xs.size)(hm:m.Perm (xs.extract p q).toList):(wr p m 0 xs).Perm xs:=by
 have hl:m.length=q-p:=by rw[hm.length_eq];simp;lia
 rw[Sy,Ac (by lia),show p+m.length=q by lia];have e:=Ed (xs:=xs) h h2;exact(List.Perm.append_right _ (List.Perm.append_left _ hm)).trans (by rw[<- e])
def Runs(r:ae->Int)(xs:Array bP):List (Nat × Nat × Nat)->Nat->Nat->Prop
 |[],a,b=>a=b
 | (s,n,_) :: rest,a,b=>s=a/\1<=n/\Up r xs s (s+n)/\Runs r xs rest (s+n) b
section
variable {r:ae->Int}{xs ys:Array bP}
theorem Runs.le:∀ {ps:List (Nat × Nat × Nat)} {a b:Nat},Runs r xs ps a b->a+ps.length<=b
 |[],a,b,h=>by simp only[Runs] at h;simp;lia
 | (s,n,p) :: rest,a,b,h=>by obtain⟨rfl,h1,_,h3⟩:=h;have:=Runs.le h3;simp only[sA];lia
theorem Runs.append:∀ {ps qs:List (Nat × Nat × Nat)} {a b:Nat},Runs r xs (ps++qs) a b↔∃ c,Runs r xs ps a c/\Runs r xs qs c b
 |[],qs,a,b=>by simp[Runs]
 | (s,n,p) :: rest,qs,a,b=>by
  simp only[Pq,Runs];constructor
  ·rintro⟨h1,h2,h3,h4⟩;obtain⟨c,h5,h6⟩:=Runs.append.mp h4;exact⟨c,⟨h1,h2,h3,h5⟩,h6⟩
  ·rintro⟨c,⟨h1,h2,h3,h5⟩,h6⟩;exact⟨h1,h2,h3,Runs.append.mpr ⟨c,h5,h6⟩⟩
theorem Up.congr(h:Up r xs a b)(e:∀ k,a<=k->k<b->ys[k]? = xs[k]?):Up r ys a b:=fun i j h1 h2 h3=>by rw[cH (e i h1 (by lia)),cH (e j (by lia) h3)];exact h i j h1 h2 h3
theorem Runs.congr:∀ {ps:List (Nat × Nat × Nat)} {a b:Nat},Runs r xs ps a b->(∀ k,a<=k->k<b->ys[k]? = xs[k]?)->Runs r ys ps a b
 |[],a,b,h,_=>h
 | (s,n,p) :: rest,a,b,h,e=>by obtain⟨rfl,h1,h2,h3⟩:=h;have l:=h3.le;exact⟨rfl,h1,h2.congr fun k u v=>e k u (by lia),Runs.congr h3 fun k u v=>e k (by walk_at "s4") v⟩
theorem Up.glue(h1:Up r xs a b)(h2:Up r xs b c)(h:∀ i j,a<=i->i<b->b<=j->j<c->R r xs i<=R r xs j):Up r xs a c:=fun i j u v w=>by
 by_cases hj:j<b
 ·exact h1 i j u v hj
 ·by_cases hi:i<b
  ·exact h i j u hi (by lia) w
  ·exact h2 i j (by lia) v w
end
section
variable {prog:dr}{w:dA}{A:eB}{E:ae->ay->Prop}{s:ay}{κ:tN}{r:ae->Int}{P:ae->Prop}
theorem AllP.extract(h:AllP P xs)(i j:Nat):AllP P (xs.extract i j):=fun p hp=>h p (by
 rw[SF,R4] at hp;exact Pn (Pp hp))
theorem cT(h:i+k<j)(hj:j<=xs.size):R r (xs.extract i j) k=R r xs (i+k):=by apply cH;rw[PH,if_pos (by lia)]
theorem Up.extract(h:Up r xs i j)(kS:i<=j)(hj:j<=xs.size):Up r (xs.extract i j) 0 (xs.extract i j).size:=fun a b _ h2 h3=>by
 have e:(xs.extract i j).size=j-i:=by simp only[HC];lia
 rw[e] at h3;rw[cT (by lia) hj,cT (by lia) hj];exact h _ _ (by lia) (by lia) (by lia)
theorem xj(hz:sa+na+nb<=xs.size)(hk:k<na)(hnb:pj<=nb)(hA:Up r xs sa (sa+na))(hB:Up r xs (sa+na) (sa+na+nb))(lo1:∀ i,i<k->R r xs (sa+i)<=R r xs (sa+na)) (IQ:R r xs (sa+na)<R r xs (sa+k)) (sQ:∀ i,i<pj->R r xs (sa+na+i)<R r xs (sa+na-1)) (qa:∀ i,pj<=i->i<nb->R r xs (sa+na-1)<=R r xs (sa+na+i))(hm:bM r (xs.extract (sa+k) (sa+na)) (xs.extract (sa+na) (sa+na+pj)) m) :
  Up r (wr (sa+k) m.toList 0 xs) sa (sa+na+nb)/\(wr (sa+k) m.toList 0 xs).Perm xs/\∀ j,j<sa\/sa+na+nb<=j->(wr (sa+k) m.toList 0 xs)[j]? = xs[j]? := by
 obtain⟨mp,mu⟩:=hm;have eab:(xs.extract (sa+k) (sa+na)).toList++(xs.extract (sa+na) (sa+na+pj)).toList=(xs.extract (sa+k) (sa+na+pj)).toList:=by rw[<- Array.toList_append,Array.extract_append_extract,show min (sa+k) (sa+na)=sa+k by lia,show max (sa+na) (sa+na+pj)=sa+na+pj by lia]
 rw[eab] at mp;have ml:m.toList.length=na+pj-k:=by rw[mp.length_eq];simp;lia
 have hw:sa+k+m.toList.length<=xs.size:=by lia
 have get:=vU (sa+k) m.toList 0 xs (by lia);rw[LH,ml] at get
 -- every merged item is one of the lu'
 have mem:∀ (j:Nat) (p:bP),m.toList[j]? = some p->∃ i,sa+k<=i/\i<sa+na+pj/\r p.1=R r xs i:=fun j p e=>by
  have hp:p∈(xs.extract (sa+k) (sa+na+pj)).toList:=mp.mem_iff.mp (tI e);obtain⟨i,hi⟩:=List.getElem?_of_mem hp;rw[oa,PH] at hi;split at hi
  ·exact⟨sa+k+i,by lia,by lia,(pf hi).symm⟩
  ·cases hi
 have low:∀ i,sa+k<=i->i<sa+na+pj->R r xs (sa+na)<=R r xs i:=fun i h1 h2=>by
  by_cases h3:i<sa+na
  ·exact yn (DB IQ) (hA (sa+k) i (by lia) h1 h3)
  ·exact hB (sa+na) i (da _) (by lia) (by lia)
 have high:∀ i,sa+k<=i->i<sa+na+pj->R r xs i<=R r xs (sa+na-1):=fun i h1 h2=>by
  by_cases h3:i<sa+na
  ·exact hA i (sa+na-1) (by lia) (by lia) (by lia)
  ·have:=sQ (i-(sa+na)) (by lia);rw[show sa+na+(i-(sa+na))=i by lia] at this;lia
 have Zy:∀ j,j<na+pj-k->∃ i,sa+k<=i/\i<sa+na+pj/\R r (wr (sa+k) m.toList 0 xs) (sa+k+j)=R r xs i:=fun j hj=>by
  have e:=get (sa+k+j);rw[if_pos (by lia),show sa+k+j-(sa+k)=j by lia] at e;have y8:j<m.toList.length:=by lia
  obtain⟨i,h1,h2,h3⟩:=mem j m.toList[j] (wm y8);rw[wm y8] at e;exact⟨i,h1,h2,(pf e).trans h3⟩
 have Mq:∀ j,j<sa+k\/sa+na+pj<=j->(wr (sa+k) m.toList 0 xs)[j]? = xs[j]? := fun j hj=>by have e:=get j;rw[if_neg (by lia)] at e;exact e
 refine⟨?_,BV (by lia) (by lia) mp,fun j hj=>Mq j (by lia)⟩;have U1:Up r (wr (sa+k) m.toList 0 xs) sa (sa+k):=Up.congr (xs:=xs) (fun i j h1 h2 h3=>hA i j h1 h2 (by lia)) fun j h1 h2=>Mq j (.inl h2);have U2:Up r (wr (sa+k) m.toList 0 xs) (sa+k) (sa+na+pj):=fun i j h1 h2 h3=>by
  have ei:=get i;have ej:=get j;rw[if_pos (by lia)] at ei ej;have li:i-(sa+k)<m.toList.length:=by lia
  have lj:j-(sa+k)<m.toList.length:=by lia
  rw[wm li] at ei;rw[wm lj] at ej;rw[pf ei,pf ej];by_cases kS:i=j
  ·subst kS;exact yv _
  ·exact(MR.mp mu) _ _ li lj (by lia)
 have U3:Up r (wr (sa+k) m.toList 0 xs) (sa+na+pj) (sa+na+nb):=Up.congr (xs:=xs) (fun i j h1 h2 h3=>hB i j (by lia) h2 h3) fun j h1 h2=>Mq j (.inr h1);refine(U1.glue U2 fun i j h1 h2 h3 h4=>?_).glue U3 fun i j h1 h2 h3 h4=>?_
 ·obtain⟨q,q1,q2,q3⟩:=Zy (j-(sa+k)) (by lia);rw[show sa+k+(j-(sa+k))=j by lia] at q3;rw[q3,cH (Mq i (.inl h2))];have:=lo1 (i-sa) (by lia);rw[show sa+(i-sa)=i by lia] at this;exact yn this (low q q1 q2)
 ·have e2:=qa (j-(sa+na)) (by lia) (by lia);rw[show sa+na+(j-(sa+na))=j by lia] at e2;rw[cH (Mq j (.inr h3))];by_cases hi:i<sa+k
  ·rw[cH (Mq i (.inl hi))];have:=lo1 (i-sa) (by lia);rw[show sa+(i-sa)=i by lia] at this;have:=low (sa+na-1) (by lia) (by lia);lia
  ·obtain⟨q,q1,q2,q3⟩:=Zy (i-(sa+k)) (by lia);rw[show sa+k+(i-(sa+k))=i by lia] at q3;rw[q3];exact yn (high q q1 q2) e2
structure St(r:ae->Int)(κ:tN)(fh:Array bP)(st:dv)(ps:List (Nat × Nat × Nat))(lo:Nat):Prop where
 kind:eR st=κ
 failed:pE st=none
 perm:(bp st).Perm fh
 pend:kz st=ps.toArray
 runs:Runs r (bp st) ps 0 lo
theorem St.size{fh:Array bP}{st:dv}{ps:List (Nat × Nat × Nat)}{lo:Nat}(h:St r κ fh st ps lo):(bp st).size=fh.size:=h.perm.size_eq
theorem xO{ps:List (Nat × Nat × Nat)}(h:i+1<ps.length):∃ pre x y post,ps=pre++x :: y :: post/\pre.length=i:=by refine⟨ps.take i,ps[i],ps[i+1],ps.drop (i+2),?_,by rw[i7];lia⟩;rw[<- Lp (by lia),<- Lp (by lia),Lr]
theorem jL{st:dv}{fh:Array bP}{ps:List (Nat × Nat × Nat)}{lo i:Nat}{Q:Bool->dv->Prop}(C:oS prog w A s κ r P)(hP:AllP P fh)(H:St r κ fh st ps lo)(Fh:lo<=fh.size)(hi:i+1<ps.length)(h:∀ aw js,St r κ fh aw js lo->js.length+1=ps.length->js≠[]->(∀ k,lo<=k->(bp aw)[k]? = (bp st)[k]?)->Q true aw):wpS (aS prog w) A E s (mergeAt' i) Q st:=by
 obtain⟨pre,⟨sa,na,pa⟩,⟨sb,nb,pb⟩,post,rfl,Fc⟩:=xO hi;have hz:=H.size;have sM:AllP P (bp st):=hP.perm H.perm;obtain⟨c,Zz,hr2⟩:=Runs.append.mp H.runs;obtain⟨rfl,n1,u1,rfl,n2,u2,ZC⟩:=hr2;have le3:=ZC.le;have le1:=Zz.le
 -- the new pending list
 have fy':((kz st).setIfInBounds i (sa,na+nb,pa)).eraseIdxIfInBounds (i+1)=(pre++(sa,na+nb,pa) :: post).toArray:=by rw[H.pend];apply Nf.mp;simp[<- Fc,VB]
 have new:∀ (xs:Array bP) (g:Nat),xs.Perm (bp st)->(∀ j,j<sa\/sa+na+nb<=j->xs[j]? = (bp st)[j]?)->Up r xs sa (sa+(na+nb)) ->
   St r κ fh (SortSt.mk' (eR st) xs (pre++(sa,na+nb,pa) :: post).toArray g (pE st)) (pre++(sa,na+nb,pa) :: post) lo:=fun xs g hp ho hu =>
  ⟨H.kind,H.failed,hp.trans H.perm,rfl,Runs.append.mpr ⟨sa,Zz.congr fun k _ hk=>ho k (.inl hk),rfl,by walk_at "s4",hu,by
   rw[show sa+(na+nb)=sa+na+nb by exact(G0 ..).symm];exact ZC.congr fun k hk _=>ho k (.inr hk)⟩⟩
 have len:(pre++(sa,na+nb,pa) :: post).length+1=(pre++(sa,na,pa) :: (sa+na,nb,pb) :: post).length:=by simp;exact G0 ..
 have e0:(kz st)[i]? = some (sa,na,pa):=by rw[H.pend,<- Fc];simp
 have e1:(kz st)[i+1]? = some (sa+na,nb,pb):=by rw[H.pend,<- Fc];simp
 refine cq (wpS_get ?_);rw[e0,e1];dsimp only;refine cq (Dp (f:=fun _=>SortSt.mk' (eR st) (bp st) (((kz st).setIfInBounds i (sa,na+nb,pa)).eraseIdxIfInBounds (i+1)) (gallopOf st) (pE st)) ?_);rw[fy'];refine cq (aF (xs:=bp st) (by lia) fun kb ZD=>cq (cB (arr:=bp st) C H.kind sM (sM.at ZD) (by lia) (by assumption) u1 fun k Zq Fs IU=>?_));have rkb:=pf (r:=r) ZD;dsimp only;by_cases z:na-k=0
 ·rw[if_pos (by simpa using z)];refine df (h _ _ (new (bp st) (gallopOf st) (Array.Perm.refl _) (fun _ _=>rfl) ?_) len (by simp) fun _ _=>rfl);rw[show sa+(na+nb)=sa+na+nb by exact(G0 ..).symm];refine u1.glue u2 fun i j h1 h2 h3 h4=>?_;have:=ym (Fs (i-sa) (by lia));rw[show sa+(i-sa)=i by exact GW ‹_›] at this;have:=u2 (sa+na) j (da _) h3 h4;lia
 ·rw[if_neg (by simpa using z)];refine cq (aF (xs:=bp st) (by lia) fun ka ZE=>cq (cB (arr:=bp st) C H.kind sM (sM.at ZE) (by lia) (by exact LK ‹_› LJ) u2 fun l Mm y3 Mp=>?_));have rka:=pf (r:=r) ZE;rw[show sa+k+(na-k)-1=sa+na-1 by lia] at rka;dsimp only;by_cases z2:l=0
  ·rw[if_pos (by simpa using z2)];refine df (h _ _ (new (bp st) (gallopOf st) (Array.Perm.refl _) (fun _ _=>rfl) ?_) len (by simp) fun _ _=>rfl);rw[show sa+(na+nb)=sa+na+nb by exact(G0 ..).symm];refine u1.glue u2 fun i j h1 h2 h3 h4=>?_;have:=rW (Mp (j-(sa+na)) (by lia) (by lia));rw[show sa+na+(j-(sa+na))=j by exact GW ‹_›] at this;have:=u1 i (sa+na-1) h1 (by lia) (by lia);lia
  ·rw[if_neg (by simpa using z2)];have lo1:∀ i,i<k->R r (bp st) (sa+i)<=R r (bp st) (sa+na):=fun i hi=>by have:=ym (Fs i hi);lia
   have IQ:R r (bp st) (sa+na)<R r (bp st) (sa+k):=by have:=vY (IU k (da _) (by lia));lia
   have sQ:∀ i,i<l->R r (bp st) (sa+na+i)<R r (bp st) (sa+na-1):=fun i hi=>by have:=zU (y3 i hi);lia
   have qa:∀ i,l<=i->i<nb->R r (bp st) (sa+na-1)<=R r (bp st) (sa+na+i):=fun i h1 h2=>by have:=rW (Mp i h1 h2);lia
   have sx:((bp st).extract (sa+k) (sa+na)).size=na-k:=by simp only[HC];lia
   have sy:((bp st).extract (sa+na) (sa+na+l)).size=l:=by simp only[HC];lia
   have ux:Up r ((bp st).extract (sa+k) (sa+na)) 0 ((bp st).extract (sa+k) (sa+na)).size:=Up.extract (fun i j h1 h2 h3=>u1 i j (by lia) h2 h3) (by lia) (by lia);have uy:Up r ((bp st).extract (sa+na) (sa+na+l)) 0 ((bp st).extract (sa+na) (sa+na+l)).size:=Up.extract (fun i j h1 h2 h3=>u2 i j h1 h2 (by walk_at "s4")) (by exact LC _ _) (by lia);have ZF:R r ((bp st).extract (sa+na) (sa+na+l)) 0<=R r ((bp st).extract (sa+k) (sa+na)) 0:=by rw[cT (by lia) (by lia),cT (by lia) (by lia)];exact DB IQ
   have ZG:∀ j,j<((bp st).extract (sa+na) (sa+na+l)).size->R r ((bp st).extract (sa+na) (sa+na+l)) j<=R r ((bp st).extract (sa+k) (sa+na)) (((bp st).extract (sa+k) (sa+na)).size-1):=fun j hj=>by rw[sx,cT (by lia) (by lia),cT (by lia) (by lia),show sa+k+(na-k-1)=sa+na-1 by lia];exact DB (sQ j (by lia))
   have fin:∀ out aw,bM r ((bp st).extract (sa+k) (sa+na)) ((bp st).extract (sa+na) (sa+na+l)) out->Mg (SortSt.mk' (eR st) (bp st) (pre++(sa,na+nb,pa) :: post).toArray (gallopOf st) (pE st)) aw ->
     Q true (SortSt.mk' (eR aw) (wr (sa+k) out.toList 0 (bp aw)) (kz aw) (gallopOf aw) (pE aw)):=fun out aw hm hg=>by
    obtain⟨g,rfl⟩:=hg;obtain⟨m1,m2,m3⟩:=xj (by lia) (by lia) Mm u1 u2 lo1 IQ sQ qa hm;exact h _ _ (new _ g m2 m3 (by rw[show sa+(na+nb)=sa+na+nb by exact(G0 ..).symm];exact m1)) len (by simp) fun k hk=>m3 k (.inr (by lia))
   have fin2:∀ out aw,bM r ((bp st).extract (sa+k) (sa+na)) ((bp st).extract (sa+na) (sa+na+l)) out->Mg (SortSt.mk' (eR st) (bp st) (pre++(sa,na+nb,pa) :: post).toArray (gallopOf st) (pE st)) aw ->
     pE aw=none:=fun out aw _ hg=>by
    obtain⟨g,rfl⟩:=hg;exact H.failed
   by_cases z3:na-k<=l
   ·rw[if_pos z3];refine cq (qF (a:=(bp st).extract (sa+k) (sa+na)) (b:=(bp st).extract (sa+na) (sa+na+l)) C H.kind (sM.extract _ _) (sM.extract _ _) ux uy (by lia) (by lia) ZF ZG fun out aw hm hg=>?_);refine cq (Dp (cq (wpS_get ?_)));have f:=fin out aw hm hg;have f2:=fin2 out aw hm hg;refine df ?_;show Q (pE aw).isNone _;rw[f2];exact f
   ·rw[if_neg z3];refine cq (ql (a:=(bp st).extract (sa+k) (sa+na)) (b:=(bp st).extract (sa+na) (sa+na+l)) C H.kind (sM.extract _ _) (sM.extract _ _) ux uy (by lia) (by lia) ZF ZG fun out aw hm hg=>?_);refine cq (Dp (cq (wpS_get ?_)));have f:=fin out aw hm hg;have f2:=fin2 out aw hm hg;refine df ?_;show Q (pE aw).isNone _;rw[f2];exact f
theorem Runs.modify(hf:∀ x,(f x).1=x.1/\(f x).2.1=x.2.1):∀ {ps:List (Nat × Nat × Nat)} {i a b:Nat},Runs r xs ps a b->Runs r xs (ps.modify i f) a b
 |[],_,_,_,h=>by simpa using h
 | (s,n,p) :: rest,0,a,b,h=>by obtain⟨h1,h2⟩:=hf (s,n,p);rw[List.modify_zero_cons];have e:f (s,n,p)=(s,n,(f (s,n,p)).2.2):=Prod.ext h1 (Prod.ext h2 rfl);rw[e];exact h
 | (s,n,p) :: rest,i+1,a,b,h=>by rw[List.modify_succ_cons];obtain⟨h1,h2,h3,h4⟩:=h;exact⟨h1,h2,h3,Runs.modify hf h4⟩
theorem St.win{fh:Array bP}{st aw:dv}{ps:List (Nat × Nat × Nat)}{lo hi:Nat}(H:St r κ fh st ps lo)(hw:mM lo hi st aw):St r κ fh aw ps lo :=
 ⟨hw.kind.trans H.kind,hw.failed.trans H.failed,hw.perm.trans H.perm,hw.pend.trans H.pend,H.runs.congr fun k _ hk=>hw.out k (.inl hk)⟩
theorem wpS_sortRuns{st:dv}{Q:Unit->dv->Prop}(C:oS prog w A s κ r P)(hk:eR st=κ)(hP:AllP P (bp st))(hp:kz st = #[])(hf:pE st=none)(h:∀ aw,(bp aw).Perm (bp st)->pE aw=none->Up r (bp aw) 0 (bp st).size->Q () aw):wpS (aS prog w) A E s sortRuns' Q st:=by
 rw[sortRuns'_eq];refine cq (wpS_get ?_);dsimp only;generalize ha:bp st=fh at *
 have H0:St r κ fh st [] 0:=⟨hk,hf,by rw[ha],by rw[hp],rfl⟩
 refine cq (tP (rh (I:=fun x c aw=>∃ ps lo,c=(none,lo)/\St r κ fh aw ps lo/\lo<=fh.size/\x<=lo) (Q:=fun c aw=>∃ ps,c=(none,fh.size)/\St r κ fh aw ps fh.size) ?step ?fin ⟨[],0,rfl,H0,eT _,da _⟩) ?post)
 case fin =>
  rintro c aw ⟨ps,lo,rfl,H,h1,h2⟩;have:lo=fh.size:=by lia
  subst this;exact⟨ps,rfl,H⟩
 case post =>
  rintro c aw ⟨ps,rfl,H⟩;dsimp only;have l0:=H.runs.le;refine cq (tP (rh (I:=fun y c aw=>c=(none,())/\∃ js,St r κ fh aw js fh.size/\js.length+y<=fh.size) (Q:=fun c aw=>c=(none,())/\∃ js,St r κ fh aw js fh.size/\js.length<=1) ?fA' ?Qz ⟨rfl,ps,H,by lia⟩) ?fB')
  case Qz =>
   rintro c aw ⟨rfl,js,H',hl⟩;exact⟨rfl,js,H',by lia⟩
  case fB' =>
   rintro c aw ⟨rfl,js,H',hl⟩;refine df (h aw H'.perm H'.failed ?_);have q:=H'.runs
   match js,hl,q with
   |[],_,q =>have q:0=fh.size:=q;intro i j _ _ hj;lia
   |[(s',n',p')],_,q =>obtain⟨rfl,_,hu,e⟩:=q;have e:0+n'=fh.size:=e;rw[<- e];exact hu
  case fA' =>
   rintro y c xo _ hy ⟨rfl,js,H',hl⟩;refine cq (wpS_get ?_);have ep:(kz xo).size=js.length:=by rw[H'.pend];simp
   by_cases z:(kz xo).size<=1
   ·rw[if_pos z];exact df ⟨rfl,js,H',by lia⟩
   ·rw[if_neg z];refine cq (jL C hP H' (da _) (by(repeat' split)<;>lia) fun yy ps2 H2 hlen _ _=>?_);rw[if_neg (by simp)];exact df ⟨rfl,ps2,H2,by lia⟩
 case step =>
  rintro x c xo _ hx ⟨ps,lo,rfl,H,h1,h2⟩;dsimp only;by_cases z:lo >= fh.size
  ·rw[if_pos z];have:lo=fh.size:=by lia
   subst this;exact df ⟨ps,rfl,H⟩
  ·rw[if_neg z];have hz:=H.size;refine cq (wpS_countRun C H.kind (hP.perm H.perm) (by lia) (by lia) fun m yy hw AB k8 hu=>?_);have H2:=H.win hw;dsimp only;refine Ck (K:=?K) ?pk fun key=>?main;case main =>
    by_cases z2:m<minRun' fh.size fh.size 0
    ·rw[if_pos z2];refine cq (wpS_lift (wd ⟨rfl,?_⟩));refine cq (wpS_binarySort C H2.kind (hP.perm H2.perm) (by clear key;have:=H2.size;lia) (by clear key;lia) hu fun yA ZH Um=>?_);have H3:=H2.win ZH;rw[if_neg (by simp)];have b1:1<=min (fh.size-lo) (minRun' fh.size fh.size 0):=by clear key;lia
     have b2:lo+min (fh.size-lo) (minRun' fh.size fh.size 0)<=fh.size:=by clear key;lia
     clear ZH;generalize min (fh.size-lo) (minRun' fh.size fh.size 0)=nn at *
     revert nn yA;exact key
    ·rw[if_neg z2];exact key _ H2 _ hu AB (by lia)
   intro yA H3 nn Um b1 b2;refine cq (wpS_get ?_);have push:∀ (aw:dv) (js:List (Nat × Nat × Nat)),St r κ fh aw js lo->Up r (bp aw) lo (lo+nn)->∃ ps II,((none:Option Unit),lo+nn)=(none,II)/\St r κ fh (setPending aw ((kz aw).push (lo,nn,0))) ps II/\II<=fh.size/\x+1<=II:=fun aw js G u =>
    ⟨js++[(lo,nn,0)],lo+nn,rfl,⟨G.kind,G.failed,G.perm,by show(kz aw).push _=_;rw[G.pend];simp,Runs.append.mpr ⟨lo,G.runs,rfl,b1,u,rfl⟩⟩,b2,by lia⟩
   cases hb:(kz yA).back? with
   |none =>dsimp only;exact cq (Dp (df (push yA ps H3 Um)))
   |some t =>
    obtain⟨s1,n1,p1⟩:=t;dsimp only;generalize power' fh.size (2*s1+n1) (2*s1+n1+n1+nn) fh.size=pw;refine cq (tP (rh (I:=fun y c aw=>c=(none,())/\∃ js,St r κ fh aw js lo/\Up r (bp aw) lo (lo+nn)) (Q:=fun c aw=>c=(none,())/\∃ js,St r κ fh aw js lo/\Up r (bp aw) lo (lo+nn)) ?_ (fun _ _ q=>q) ⟨rfl,ps,H3,Um⟩) ?_)
    ·rintro y c xi _ hy ⟨rfl,js,H4,N9⟩;refine cq (wpS_get ?_);have ep:(kz xi).size=js.length:=by rw[H4.pend];simp
     by_cases z3:(kz xi).size>1
     ·rw[if_pos z3];have e4:(kz xi)[(kz xi).size-2]? = some ((kz xi)[(kz xi).size-2]'(by lia)):=getElem?_pos _ _ (by lia);rw[e4];generalize (kz xi)[(kz xi).size-2]'(by lia)=tt;obtain⟨t1,t2,fC'⟩:=tt;dsimp only;by_cases z4:fC'<=pw
      ·rw[if_pos z4];exact df ⟨rfl,js,H4,N9⟩
      ·rw[if_neg z4];refine cq (jL C hP H4 h1 (by lia) fun HZ ps5 H5 hlen _ AF=>?_);rw[if_neg (by simp)];exact df ⟨rfl,ps5,H5,N9.congr fun k hk _=>AF k hk⟩
     ·rw[if_neg z3];exact df ⟨rfl,js,H4,N9⟩
    ·rintro c xi ⟨rfl,js,H4,N9⟩;dsimp only;refine cq (Dp (cq (Dp (df ?_))));refine push _ (js.modify (js.length-1) fun x=>(x.1,x.2.1,pw)) ⟨H4.kind,H4.failed,H4.perm,?_,Runs.modify (f:=fun x=>(x.1,x.2.1,pw)) (fun _=>⟨rfl,rfl⟩) H4.runs⟩ N9;show(kz xi).modify ((kz xi).size-1) (fun x=>(x.1,x.2.1,pw))=_;rw[H4.pend];simp
def dF (h:cE) (a:ag) (vs:List ae):cE:=((h.update a (Obj.mapSeq fun _=>#[])).push (seqObj "tuple" vs.toArray 0)).push (seqObj "list" #[] 0)
theorem qQ(hb:b≠a)(gp:b<h.objs.size):(dF h a vs).get? b=h.get? b:=by
 unfold dF;rw[Py _ _ _ (by rw[size_push',Pz];exact gI (zI gp)),
  Py _ _ _ (by rw[Pz];exact gI gp),Heap.get?_update_ne _ _ _ _ hb]
theorem qO(hp:xs.Perm (pairsOf vs))(hs:Up r xs 0 vs.length):(xs.map (·.2)).toList.Perm vs/\(xs.map (·.2)).toList.Pairwise fun x y=>r x<=r y:=by
 have hl:xs.toList.Perm (vs.zip vs):=by rw[<- pairsOf_toList];exact Sy.mp hp
 have FC:∀ p,p∈xs.toList->p.1=p.2:=fun p gu=>(mem_zip_self (hl.mem_iff.mp gu)).1;have e:(xs.map (·.2)).toList=xs.toList.map (·.1):=by rw[Array.toList_map];exact Ls fun p gu=>(FC p gu).symm
 have fz:xs.size=vs.length:=by rw[hp.size_eq,pairsOf_size]
 rw[e];refine⟨?_,?_⟩
 ·have h1:=hl.map (·.1);rwa[List.map_fst_zip (da _)] at h1
 ·rw[MR];intro i j hi hj kS;have nE:i<xs.size:=by simpa using hi
  have y8:j<xs.size:=by simpa using hj
  have h1:=hs i j (eT _) (mS kS) (by lia);rw[DP nE,DP y8] at h1;simpa using h1
theorem oh {F:PySem.Fin->ay->Prop} (ho:s.heap.get? a=some (seqObj "list" vs.toArray n)) (fz:vs.length<=bS) (hP:∀ v∈vs,P v)(hk:2<=vs.length->∀ (Q:tN->ay->Prop),Q κ { s with heap:=dF s.heap a vs }->aT (aS prog w) A (keyKind' vs.toArray) Q E { s with heap:=dF s.heap a vs }) (C:2<=vs.length->oS prog w A { s with heap:=dF s.heap a vs } κ r P) (h:∀ out:Array ae,out.toList.Perm vs->(out.toList.Pairwise fun x y=>r x<=r y)->F (.done (.ret .none)) { s with heap:=sortedHeap s.heap a vs out }) :
  aT (aS prog w) A (Builtin.«list.sort» ⟨[.ref a],[]⟩) F E s:=by
 rw[list_sort_plain];have ha:a<s.heap.objs.size:=eP ho;refine ah (listItems_at ho rfl ?_);refine ah (listUpdate_at ho rfl ?_ (by simpa using fz) (eT _));obtain⟨e1,kU⟩:∃ e1,(s.heap.update a (Obj.mapSeq fun _=>#[])).get? a=some (seqObj "list" #[] e1):=⟨_,get?_update_seq ho (fun _=>#[])⟩
 refine ah (seqEpoch_at kU rfl ?_);refine ah (wpAny_newTuple ?_ (by simpa using fz));refine ah (wpAny_newList ?_ (eT _));refine oy ?_;have QB:(dF s.heap a vs).get? a=some (seqObj "list" #[] e1):=by unfold dF;rw[Py _ _ _ (by rw[size_push',Pz];exact gI (zI ha)),Py _ _ _ (by rw[Pz];exact gI ha)];exact kU
 show aT (aS prog w) A _ F E { s with heap:=dF s.heap a vs };dsimp only;have hvz:vs.toArray.size=vs.length:=by simp
 have fin:∀ aw:dv,(bp aw).Perm (pairsOf vs)->Up r (bp aw) 0 vs.length->F (.done (.ret .none)) { s with heap:=sortedHeap s.heap a vs ((bp aw).map (·.2)) }:=by intro aw hp hs;obtain⟨h1,h2⟩:=qO hp hs;exact h _ h1 h2
 by_cases h2:vs.toArray.size<2
 ·rw[if_pos h2,if_pos h2];refine ah (aI ?_);rw[StateT.run_pure];refine ah (aI ?_);dsimp only;refine ah (seqEpoch_at QB rfl ?_);refine ah (listUpdate_at QB rfl ?_ (eT _) (by rw[Array.size_map];show(pairsOf vs).size<=_;rw[pairsOf_size];lia));simp only[bne_self_eq_false,iX,if_false];refine aI (fin (SortSt.mk' general' (vs.toArray.zip vs.toArray) #[] 7 none) (Array.Perm.refl _) ?_);intro i j _ kS hj;have:i=j:=by lia
  subst this;exact yv _
 ·rw[if_neg h2,if_neg h2];refine ah (hk (by lia) _ ?_);refine ah (sq (wpS_sortRuns (st:=SortSt.mk' κ (vs.toArray.zip vs.toArray) #[] 7 none) (Q:=fun _ aw=>(bp aw).Perm (pairsOf vs)/\pE aw=none/\Up r (bp aw) 0 vs.length) (C (by lia)) rfl (fun p hp=>?_) rfl rfl fun aw a1 a2 a3=>⟨a1,a2,?_⟩) ?_ fun _ _ e=>e)
  ·have gu:p∈(pairsOf vs).toList:=hp;rw[pairsOf_toList] at gu;exact hP _ (mem_zip_self gu).2
  ·have e:(bp (SortSt.mk' κ (vs.toArray.zip vs.toArray) #[] 7 none)).size=vs.length:=pairsOf_size vs;rw[e] at a3;exact a3
  ·rintro⟨⟨⟩,aw⟩ s' ⟨rfl,hp,hf,hs⟩;dsimp only;refine ah (seqEpoch_at QB rfl ?_);refine ah (listUpdate_at QB rfl ?_ (eT _) (by refine ky (Nat.le_of_eq ((Array.size_map ..).trans (hp.size_eq.trans (pairsOf_size _)))) ?_;lia));rw[hf];simp only[bne_self_eq_false,iX,if_false];exact aI (fin aw hp hs)
end
end B1
namespace L2
open PySem PySem.Spec PyProof.Rows
def r0:Key->Key->Bool
 |.inl i,.inl j=>decide (i<j)
 |.inr x,.inr y=>rX x y
 |_,_=>false
def iq:List Key->List Key->Bool
 |a :: as,b :: bs=>if a=b then iq as bs else r0 a b
 |_,_=>false
def qc:Key->Bool
 |.inl _=>true
 |.inr _=>false
def i3(k:List Key):List Bool:=k.map qc
theorem BL(x:Str):rX x x=false:=by unfold rX;simp[List.lt_irrefl]
theorem Dj(h:rX x y=true)(g:rX y z=true):rX x z=true:=by
 unfold rX at *
 simp only[decide_eq_true_eq] at *
 exact List.lt_trans h g
theorem u5{x y:Str}(h:x.cps.toList=y.cps.toList):x=y:=by cases x;cases y;simp only at h;rw[Nf.mp h]
theorem zV{x y:Str}(h:rX x y=false)(g:rX y x=false):x=y:=by
 unfold rX at *
 simp only[decide_eq_false_iff_not] at *
 apply u5;exact List.le_antisymm (List.not_lt.mp g) (List.not_lt.mp h)
theorem uL(a:Key):r0 a a=false:=by cases a with|inl i=>simp[r0]|inr x=>exact BL x
theorem Dg(h:r0 a b=true)(g:r0 b c=true):r0 a c=true:=by cases a<;>cases b<;>cases c<;>simp only[r0,decide_eq_true_eq] at *<;>first|lia|contradiction|exact Dj h g
theorem Bh(e:qc a=qc b)(h:r0 a b=false)(g:r0 b a=false):a=b:=by
 cases a<;>cases b<;>simp only[r0,qc,decide_eq_false_iff_not] at *
 ·congr 1;lia
 ·cases e
 ·cases e
 ·congr 1;exact zV h g
theorem xm:∀ a:List Key,iq a a=false
 |[]=>rfl
 |a :: as=>by unfold iq;rw[if_pos rfl];exact xm as
theorem vG:∀ {a b c:List Key},iq a b=true->iq b c=true->iq a c=true
 |[],_,_,h,_=>by simp[iq] at h
 |_ :: _,[],_,h,_=>by simp[iq] at h
 |_ :: _,_ :: _,[],_,g=>by simp[iq] at g
 |a :: as,b :: bs,c :: cs,h,g=>by
  unfold iq at h g ⊢;by_cases e1:a=b
  ·subst e1;rw[if_pos rfl] at h;by_cases e2:a=c
   ·subst e2;rw[if_pos rfl] at g ⊢;exact vG h g
   ·rw[if_neg e2] at g ⊢;exact g
  ·rw[if_neg e1] at h;by_cases e2:b=c
   ·subst e2;rw[if_neg e1];exact h
   ·rw[if_neg e2] at g;have t:=Dg h g;have ne:a≠c:=fun e=>by subst e;rw[uL] at t;cases t
    rw[if_neg ne];exact t
theorem qx:∀ {a b:List Key},i3 a=i3 b->iq a b=false->iq b a=false->a=b
 |[],[],_,_,_=>rfl
 |[],_ :: _,e,_,_=>by simp[i3] at e
 |_ :: _,[],e,_,_=>by simp[i3] at e
 |a :: as,b :: bs,e,h,g=>by
  simp only[i3,iF,List.cons.injEq] at e;unfold iq at h g;by_cases e1:a=b
  ·subst e1;rw[if_pos rfl] at h g;rw[qx (show i3 as=i3 bs from e.2) h g]
  ·rw[if_neg e1] at h;rw[if_neg (Ne.symm e1)] at g;exact absurd (Bh e.1 h g) e1
theorem count_le{α:Type}(p q:α->Bool):∀ (l:List α),(∀ x∈l,p x=true->q x=true)->l.countP p<=l.countP q
 |[],_=>da _
 |x :: l,h=>by have ih:=count_le p q l fun y hy=>h y (eI _ hy);have h1:=h x eL;rw[Pr,Pr];cases hp:p x<;>cases hq:q x<;>simp_all<;>exact Nat.le_succ_of_le ‹_›
theorem rZ{α:Type}(p q:α->Bool)(a:α)(ha:p a=false)(hb:q a=true):∀ (l:List α),a∈l->(∀ x∈l,p x=true->q x=true)->l.countP p<l.countP q
 |[],m,_=>by cases m
 |x :: l,m,h=>by
  rw[Pr,Pr];rcases eM.mp m with rfl|m
  ·have:=count_le p q l fun y hy=>h y (eI _ hy);rw[ha,hb];simp;exact EW ‹_›
  ·have ih:=rZ p q a ha hb l m fun y hy=>h y (eI _ hy);have h1:=h x eL;cases hp:p x<;>cases hq:q x<;>simp_all<;>exact zI ‹_›
def B4(L:List (List Key))(k:List Key):Int:=(L.countP fun j=>iq j k:Nat)
theorem oV(e:i3 a=i3 b)(ma:a∈L):decide (B4 L a<B4 L b)=iq a b:=by
 unfold B4
 cases h:iq a b with
 |true =>have:=rZ (fun j=>iq j a) (fun j=>iq j b) a (xm a) h L ma fun x _ hx=>vG hx h;exact decide_eq_true (by lia)
 |false =>
  apply decide_eq_false
  cases g:iq b a with
  |false=>rw[qx e h g];lia
  |true =>have:=count_le (fun j=>iq j b) (fun j=>iq j a) L fun x _ hx=>vG hx g;lia
def Uo:V->Option Key
 |.int i=>some (.inl i)
 |.str x=>some (.inr x)
 |_=>none
theorem Hj(k:Key):Uo (kV k)=some k:=by cases k<;>rfl
theorem zB:∀ k:List Key,(k.map kV).filterMap Uo=k
 |[]=>rfl
 |a :: as=>by rw[iF,AZ,Hj,zB as]
def jZ(H:Hp):ae->List Key
 |.ref b=>match H b with
  |some (.tup xs)=>xs.filterMap Uo
  |_=>[]
 |_=>[]
theorem bK(h:H b=some (.tup (k.map kV))):jZ H (.ref b)=k:=by simp only[jZ,h];exact zB k
section
variable {prog:dr}{w:dA}{A:eB}{E:ae->ay->Prop}{s:ay}{Q:Bool->ay->Prop}
theorem DX(ru:RelV (kV a) u)(rv:RelV (kV b) v)(e:qc a=qc b)(q:Q (r0 a b) s):aT (aS prog w) A (oneLt' false u v) Q E s:=by
 refine PySem.W.kat_one u v ?_
 cases a with
 |inl i =>
  cases b with
  |inr x=>cases e
  |inl j =>obtain⟨t,rfl⟩:=ru;obtain⟨t',rfl⟩:=rv;exact lt_int q
 |inr x =>
  cases b with
  |inl j=>cases e
  |inr y =>obtain⟨t,rfl⟩:=ru;obtain⟨t',rfl⟩:=rv;exact PySem.P.lt_str q
theorem Dq(ru:RelV (kV a) u)(rv:RelV (kV b) v)(e:qc a=qc b)(q:Q (decide (a=b)) s):aT (aS prog w) A (eqBool u v) Q E s:=by
 cases a with
 |inl i =>
  cases b with
  |inr x=>cases e
  |inl j =>obtain⟨t,rfl⟩:=ru;obtain⟨t',rfl⟩:=rv;refine wpAny_eqBool_int ?_;rw[<- VD];exact q
 |inr x =>
  cases b with
  |inl j=>cases e
  |inr y =>obtain⟨t,rfl⟩:=ru;obtain⟨t',rfl⟩:=rv;refine wpAny_eqBool_str ?_;rw[<- VF];exact q
theorem yl(k m:List Key)(us vs:List ae)(i:Nat)(ha:Vals (k.map kV) us)(hb:Vals (m.map kV) vs)(e:i3 k=i3 m)(hf:fin=false)(q:Q (iq k m) s) :
  PySem.W.KatLex prog w A true fin Q (us.zip vs) i s:=by
 induction k generalizing m us vs i with
 |nil =>
  cases m with
  |cons b m=>simp[i3] at e
  |nil =>rw[Paired.n0 ha,Paired.n0 hb];subst hf;exact PySem.W.kat_nil q
 |cons a k ih =>
  cases m with
  |nil=>simp[i3] at e
  |cons b m =>
   obtain⟨u,us,rfl,ra,rk⟩:=Paired.c ha;obtain⟨v,vs,rfl,rb,rm⟩:=Paired.c hb;simp only[i3,iF,List.cons.injEq] at e;rw[Sg];refine PySem.W.kat_cons (Dq ra rb e.1 (PySem.W.kat_go (fun h=>PySem.W.kat_yes ?_) (fun h=>PySem.W.kat_no ?_)))
   ·have h:=of_decide_eq_true h;subst h;unfold iq at q;rw[if_pos rfl] at q;exact ih m _ _ (i+1) rk rm e.2 q
   ·have h:=of_decide_eq_false h;unfold iq at q;rw[if_neg h] at q;by_cases h0:i=0
    ·subst h0
     cases a with
     |inr x =>
      cases b with
      |inl j=>cases e.1
      |inr y =>obtain⟨t,rfl⟩:=ra;obtain⟨t',rfl⟩:=rb;exact oneLt_str q
     |inl i =>
      cases b with
      |inr x=>cases e.1
      |inl j =>obtain⟨t,rfl⟩:=ra;obtain⟨t',rfl⟩:=rb;exact oneLt_int q
    ·rw[show(true && i == 0)=false by simp[h0]];exact DX ra rb e.1 q
end
section
variable {X:Cx}{pins:List (ag × Obj)}{σ:St}{H:Hp}{s:ay}
theorem Inv.tup(I:Inv X pins σ H s)(h:H b=some (.tup xs)):∃ its:List ae,Vals xs its/\IsTup s.heap b its.toArray:=(I.b9 b _ h).2
theorem tE(I:Inv X pins σ H s)(kp:∀ b o,s.heap.get? b=some o->s'.heap.get? b=some o) :
  B1.oS X.prog X.w A s' (tuples' true) (fun v=>B4 L (jZ H v)) (fun v=>∃ b k,v=.ref b/\H b=some (.tup (k.map kV))/\i3 k=b0 :: sh/\k∈L):=by
 rintro x y ⟨b,k,rfl,hb,hk,mk⟩ ⟨c,m,rfl,hc,hm,mm⟩ Q E q;obtain⟨us,ru,o,e1,c1,n1,d1⟩:=I.tup hb;obtain⟨vs,rv,o',e2,c2,n2,d2⟩:=I.tup hc;have Uq:i3 k=i3 m:=hk.trans hm.symm;simp only[bK hb,bK hc] at q;rw[oV Uq mk] at q;refine PySem.W.kat_lt (kp _ _ e1) d1 (kp _ _ e2) d2 (yl k m us vs 0 ru rv Uq ?_ q)
 ·have h1:=ru.length;have h2:=rv.length;have h3:k.length=m.length:=by have:=congrArg List.length Uq;simpa[i3] using this
  simp only[cK] at h1 h2;exact decide_eq_false (by simp only[hG];lia)
theorem kat_tups(I:Inv X pins σ H s){s':ay}(kp:∀ b o,s.heap.get? b=some o->s'.heap.get? b=some o){b0:Bool}{sh:List Bool}{ys:List V}{ks:List (List Key)}{vs:List ae}(ht:b8 H ys ks)(hv:Vals ys vs)(hs:∀ k∈ks,i3 k=b0 :: sh) :
  ∃ fs:List ae,PySem.W.KatTups s'.heap vs fs/\fs.length=vs.length/\∀ f∈fs,(b0=true->∃ i t,f=Value.int i t)/\(b0=false->∃ x t,f=Value.str x t):=by
 induction ys generalizing ks vs with
 |nil =>rw[Paired.n0 hv];exact⟨[],.nil,rfl,by simp⟩
 |cons y ys ih =>
  obtain⟨k,ks,rfl,⟨b,rfl,hb⟩,t⟩:=Paired.c ht;obtain⟨v,vs,rfl,rfl,rs⟩:=Paired.c hv;obtain⟨fs,f1,f2,f3⟩:=ih t rs fun j hj=>hs j (eI _ hj);have hk:=hs k eL;obtain⟨us,ru,o,e1,c1,n1,d1⟩:=I.tup hb
  cases k with
  |nil=>simp[i3] at hk
  |cons a k =>
   obtain⟨u,us,rfl,ra,rr⟩:=Paired.c ru;simp only[i3,iF,List.cons.injEq] at hk;refine⟨u :: fs,.cons (kp _ _ e1) c1 d1 rfl f1,by simp[f2],fun f hf=>?_⟩;rcases eM.mp hf with rfl|hf
   ·cases a with
    |inr x =>obtain⟨tk,rfl⟩:=ra;exact⟨(fun z=>by rw[<- hk.1] at z;cases z),fun _=>⟨_,_,rfl⟩⟩
    |inl i =>obtain⟨tk,rfl⟩:=ra;exact⟨fun _=>⟨_,_,rfl⟩,fun z=>by rw[<- hk.1] at z;cases z⟩
   ·exact f3 f hf
end
theorem b8.of{H:Hp}{ks:List (List Key)}(vs:List ae)(h:∀ v∈vs,∃ b k,v=Value.ref b/\H b=some (.tup (k.map kV))/\k∈ks):∃ zs,b8 H zs (vs.map (jZ H))/\Vals zs vs:=by
 induction vs with
 |nil=>exact⟨[],.nil,.nil⟩
 |cons v vs ih =>obtain⟨zs,a,c⟩:=ih fun u hu=>h u (eI _ hu);obtain⟨b,k,rfl,e,_⟩:=h v eL;exact⟨.ref b :: zs,.cons ⟨b,rfl,by rw[bK e];exact e⟩ a,.cons rfl c⟩
end L2
namespace B1
open PySem PyProof.Rows
end B1
namespace L2
open PySem PySem.Spec PyProof.Rows
def iQ:ae->List Key
 |.int i _=>[.inl i]
 |.str x _=>[.inr x]
 |_=>[]
theorem jP(h:RelV (kV k) v):iQ v=[k]:=by
 cases k with
 |inl i=>obtain⟨t,rfl⟩:=h;rfl
 |inr x=>obtain⟨t,rfl⟩:=h;rfl
theorem vq:iq [a] [b]=r0 a b:=by
 unfold iq;by_cases e:a=b
 ·subst e;rw[if_pos rfl,uL];rfl
 ·rw[if_neg e]
theorem yq{prog:dr}{w:dA}{A:eB}{s:ay}{b:Bool}{L:List Key} :
  B1.oS prog w A s oneType' (fun v=>B4 (L.map fun k=>[k]) (iQ v)) (fun v=>∃ k,RelV (kV k) v/\qc k=b/\k∈L):=by
 rintro x y ⟨k,rk,ik,mk⟩ ⟨m,rm,im,mm⟩ Q E q;simp only[jP rk,jP rm] at q;rw[oV (by simp[i3,ik,im]) (de.mpr ⟨k,mk,rfl⟩),vq] at q;rw[keyLt'_oneType]
 cases k with
 |inl i =>
  cases m with
  |inr y=>rw[<- im] at ik;cases ik
  |inl j =>obtain⟨t,rfl⟩:=rk;obtain⟨u,rfl⟩:=rm;exact oneLt_int q
 |inr x =>
  cases m with
  |inl y=>rw[<- im] at ik;cases ik
  |inr j =>obtain⟨t,rfl⟩:=rk;obtain⟨u,rfl⟩:=rm;exact oneLt_str q
theorem ints_of{ks:List Key}{vs:List ae}(r:Vals (ks.map kV) vs)(h:∀ k∈ks,qc k=true):∃ ns,IntsAre vs ns:=by
 induction ks generalizing vs with
 |nil=>rw[Paired.n0 r];exact⟨[],.nil⟩
 |cons k ks ih =>
  obtain⟨v,vs,rfl,r,rs⟩:=Paired.c r;obtain⟨ns,q⟩:=ih rs fun j hj=>h j (eI _ hj);have:=h k eL
  cases k with
  |inr x=>cases this
  |inl i=>obtain⟨t,rfl⟩:=r;exact⟨_,.cons i t q⟩
theorem Br{ks:List Key}{vs:List ae}(r:Vals (ks.map kV) vs)(h:∀ k∈ks,qc k=false):∃ ns,StrsAre vs ns:=by
 induction ks generalizing vs with
 |nil=>rw[Paired.n0 r];exact⟨[],.nil⟩
 |cons k ks ih =>
  obtain⟨v,vs,rfl,r,rs⟩:=Paired.c r;obtain⟨ns,q⟩:=ih rs fun j hj=>h j (eI _ hj);have:=h k eL
  cases k with
  |inl x=>cases this
  |inr i=>obtain⟨t,rfl⟩:=r;exact⟨_,.cons i t q⟩
theorem wJ{prog:dr}{w:dA}{A:eB}{E:ae->ay->Prop}{s:ay}{b:Bool}{ks:List Key}{vs:List ae}(r:Vals (ks.map kV) vs)(h:∀ k∈ks,qc k=b)(h2:2<=vs.length){Q:tN->ay->Prop}(q:Q oneType' s) :
  aT (aS prog w) A (keyKind' vs.toArray) Q E s:=by
 match vs,h2 with
 |v1 :: v2 :: vs,_ =>
  cases b with
  |true=>obtain⟨ns,hI⟩:=ints_of r h;rw[keyKind_ints hI];exact aI q
  |false=>obtain⟨ns,hI⟩:=Br r h;rw[keyKind_strs hI];exact aI q
theorem keys_map{ks:List Key}{vs:List ae}(r:Vals (ks.map kV) vs):vs.map iQ=ks.map fun k=>[k]:=by
 induction ks generalizing vs with
 |nil=>rw[Paired.n0 r];rfl
 |cons k ks ih =>obtain⟨u,vs,rfl,r,rs⟩:=Paired.c r;rw[iF,iF,jP r,ih rs]
theorem ph{ks:List Key}(vs:List ae)(h:∀ v∈vs,∃ k,RelV (kV k) v/\k∈ks):∃ ms:List Key,Vals (ms.map kV) vs:=by
 induction vs with
 |nil=>exact⟨[],.nil⟩
 |cons v vs ih =>obtain⟨ms,r⟩:=ih fun u hu=>h u (eI _ hu);obtain⟨k,rk,_⟩:=h v eL;exact⟨k :: ms,.cons rk r⟩
theorem wR:∀ {ms ks:List Key},(ms.map fun k=>[k]).Perm (ks.map fun k=>[k])->ms.Perm ks:=fun {ms ks} h=>by have:=h.map (fun l:List Key=>l.head?);simp only[gi] at this;have e:∀ l:List Key,l.map ((fun l:List Key=>l.head?) ∘ fun k=>[k])=l.map some:=fun l=>Ls fun _ _=>rfl;rw[e,e] at this;have:=this.filterMap id;simpa using this
end L2
namespace L2.Q
open PySem PySem.Spec PyProof.Rows
inductive D where
 |non|bl (b:Bool)|int (i:Int)|str (x:Str)
 |list (xs:List D)|tup (xs:List D)|dK (kvs:List (Key × D))|dT (kvs:List (List Key × D))
mutual
/-- nothing in it can be changed -/
def D.flat:D->Bool
 |.list _=>false
 |.dK _=>false
 |.dT _=>false
 |.tup xs=>dQ xs
 |_=>true
def dQ:List D->Bool
 |[]=>true
 |x :: xs=>x.flat && dQ xs
end
theorem jX:∀ {xs:List D},dQ xs=true↔∀ x∈xs,x.flat=true
 |[]=>by simp[dQ]
 |x :: xs=>by simp[dQ,jX (xs:=xs)]
theorem iU:dQ (xs++ys)=(dQ xs && dQ ys):=by
 induction xs with
 |nil=>simp[dQ]
 |cons x xs ih=>simp[dQ,ih,Bool.and_assoc]
def AG:Key->Bool
 |.inl _=>true
 |.inr x=>decide (x.length<=bS)
def QC(kvs:List (Key × D)):Prop:=kvs.length<=bS/\∀ p∈kvs,AG p.1=true
def QD(kvs:List (List Key × D)):Prop:=kvs.length<=bS/\∀ p∈kvs,p.1.length<=bS/\∀ k∈p.1,AG k=true
mutual
inductive Rep(K:aE)(H:Hp):D->V->Prop
 |non:Rep K H .non .non
 |bl (b:Bool):Rep K H (.bl b) (.bl b)
 |int (i:Int):Rep K H (.int i) (.int i)
 |str {x:Str}:x.length<=bS->Rep K H (.str x) (.str x)
 |list {a:ag} {vs:List V} {ds:List D}:vs.length<=bS->fq K H a vs->bT K H ds vs->Rep K H (.list ds) (.ref a)
 |tup {a:ag} {vs:List V} {ds:List D}:vs.length<=bS->H a=some (.tup vs)->bT K H ds vs->Rep K H (.tup ds) (.ref a)
 |dK {a:ag} {vs:List V} {kvs:List (Key × D)}:QC kvs->Rd H a (.dK ((kvs.map (·.1)).zip vs))->bT K H (kvs.map (·.2)) vs->Rep K H (.dK kvs) (.ref a)
 |dT {a:ag} {vs:List V} {kvs:List (List Key × D)}:QD kvs->Rd H a (.dT ((kvs.map (·.1)).zip vs))->bT K H (kvs.map (·.2)) vs->Rep K H (.dT kvs) (.ref a)
inductive bT(K:aE)(H:Hp):List D->List V->Prop
 |nil:bT K H [] []
 |cons {d:D} {v:V} {ds:List D} {vs:List V}:Rep K H d v->bT K H ds vs->bT K H (d :: ds) (v :: vs)
end
theorem Rep.ind{K:aE}{H:Hp}{m1:D->V->Prop}{m2:List D->List V->Prop}(h0:m1 .non .non)(hb:∀ b,m1 (.bl b) (.bl b))(hi:∀ i,m1 (.int i) (.int i))(hs:∀ x,x.length<=bS->m1 (.str x) (.str x))(hl:∀ a vs ds,vs.length<=bS->fq K H a vs->bT K H ds vs->m2 ds vs->m1 (.list ds) (.ref a)) (ht:∀ a vs ds,vs.length<=bS->H a=some (.tup vs)->bT K H ds vs->m2 ds vs->m1 (.tup ds) (.ref a))(hk:∀ a vs kvs,QC kvs->Rd H a (.dK ((kvs.map (·.1)).zip vs))->bT K H (kvs.map (·.2)) vs->m2 (kvs.map (·.2)) vs->m1 (.dK kvs) (.ref a)) (hT:∀ a vs kvs,QD kvs->Rd H a (.dT ((kvs.map (·.1)).zip vs))->bT K H (kvs.map (·.2)) vs->m2 (kvs.map (·.2)) vs->m1 (.dT kvs) (.ref a))(hn:m2 [] []) (hc:∀ d v ds vs,Rep K H d v->bT K H ds vs->m1 d v->m2 ds vs->m2 (d :: ds) (v :: vs)):(∀ {d v},Rep K H d v->m1 d v)/\∀ {ds vs},bT K H ds vs->m2 ds vs :=
 ⟨fun r=>Rep.rec (motive_1:=fun d v _=>m1 d v) (motive_2:=fun ds vs _=>m2 ds vs) h0 hb hi (fun h=>hs _ h) (fun z s r ih=>hl _ _ _ z s r ih) (fun z s r ih=>ht _ _ _ z s r ih) (fun z s r ih=>hk _ _ _ z s r ih) (fun z s r ih=>hT _ _ _ z s r ih) hn (fun r s a b=>hc _ _ _ _ r s a b) r,
  fun r=>bT.rec (motive_1:=fun d v _=>m1 d v) (motive_2:=fun ds vs _=>m2 ds vs) h0 hb hi (fun h=>hs _ h) (fun z s r ih=>hl _ _ _ z s r ih) (fun z s r ih=>ht _ _ _ z s r ih) (fun z s r ih=>hk _ _ _ z s r ih) (fun z s r ih=>hT _ _ _ z s r ih) hn (fun r s a b=>hc _ _ _ _ r s a b) r⟩
theorem mz.k'(e:Rd H a (.dK kvs)):mz H a (kV k) (g7 kvs k):=.inl ⟨kvs,k,e,rfl,rfl⟩
theorem mz.t'(e:Rd H a (.dT kvs))(eb:H b=some (.tup (k.map kV))):mz H a (.ref b) (g7 kvs k):=.inr ⟨kvs,k,b,e,rfl,eb,rfl⟩
theorem bG.rd(s:bG H H')(h:Rd H a u):Rd H' a u:=h.imp (s _ _) fun⟨o,e⟩=>⟨o,s _ _ e⟩
theorem Rep.Em{K:aE}(s:bG H H'):(∀ {d:D} {v:V},Rep K H d v->Rep K H' d v)/\∀ {ds:List D} {vs:List V},bT K H ds vs->bT K H' ds vs :=
 Rep.ind .non .bl .int (fun _ h=>.str h) (fun _ _ _ z h _ ih=>.list z (s.lst h) ih) (fun _ _ _ z h _ ih=>.tup z (s _ _ h) ih) (fun _ _ _ kk h _ ih=>.dK kk (bG.rd s h) ih) (fun _ _ _ kk h _ ih=>.dT kk (bG.rd s h) ih) .nil fun _ _ _ _ _ _ a b=>.cons a b
theorem Rep.same{K:aE}(s:bG H H')(r:Rep K H d v):Rep K H' d v:=(Rep.Em s).1 r
theorem bT.same{K:aE}(s:bG H H')(r:bT K H ds vs):bT K H' ds vs:=(Rep.Em s).2 r
theorem bT.ind{K:aE}{H:Hp}{m:List D->List V->Prop}(hn:m [] [])(hc:∀ d v ds vs,Rep K H d v->bT K H ds vs->m ds vs->m (d :: ds) (v :: vs)):∀ {ds vs},bT K H ds vs->m ds vs :=
 fun r=>(Rep.ind (m1:=fun _ _=>True) (m2:=m) trivial (fun _=>trivial) (fun _=>trivial) (fun _ _=>trivial) (fun _ _ _ _ _ _ _=>trivial) (fun _ _ _ _ _ _ _=>trivial) (fun _ _ _ _ _ _ _=>trivial) (fun _ _ _ _ _ _ _=>trivial) hn fun d v ds vs r s _ b=>hc d v ds vs r s b).2 r
theorem bT.length{K:aE}(r:bT K H ds vs):ds.length=vs.length :=
 bT.ind (m:=fun ds vs=>ds.length=vs.length) rfl (fun _ _ _ _ _ _ ih=>by rw[sA,sA,ih]) r
theorem bT.append{K:aE}(r:bT K H ds vs)(t:bT K H es ws):bT K H (ds++es) (vs++ws) :=
 bT.ind (m:=fun ds vs=>bT K H (ds++es) (vs++ws)) t (fun _ _ _ _ h _ ih=>.cons h ih) r
theorem bT.get{K:aE}{H:Hp}{ds:List D}{vs:List V}{i:Nat}{d:D}(r:bT K H ds vs)(e:ds[i]? = some d):∃ v,vs[i]? = some v/\Rep K H d v :=
 bT.ind (m:=fun ds vs=>∀ i d,ds[i]? = some d->∃ v,vs[i]? = some v/\Rep K H d v) (fun i d e=>by simp at e) (fun _ _ _ _ h _ ih i d e=>by
  cases i with
  |zero=>simp at e;subst e;exact⟨_,rfl,h⟩
  |succ i =>
   obtain⟨v,e1,r⟩:=ih i d (by simpa using e);exact⟨v,by simpa using e1,r⟩) r i d e
theorem bT.ZI{K:aE}{H:Hp}{ds:List D}{vs:List V}{i:Nat}{v:V}(r:bT K H ds vs)(e:vs[i]? = some v):∃ d,ds[i]? = some d/\Rep K H d v :=
 bT.ind (m:=fun ds vs=>∀ i v,vs[i]? = some v->∃ d,ds[i]? = some d/\Rep K H d v) (fun i d e=>by simp at e) (fun _ _ _ _ h _ ih i d e=>by
  cases i with
  |zero=>simp at e;subst e;exact⟨_,rfl,h⟩
  |succ i =>
   obtain⟨v,e1,r⟩:=ih i d (by simpa using e);exact⟨v,by simpa using e1,r⟩) r i v e
theorem bT.drop{K:aE}(n:Nat)(r:bT K H ds vs):bT K H (ds.drop n) (vs.drop n) :=
 bT.ind (m:=fun ds vs=>∀ n,bT K H (ds.drop n) (vs.drop n)) (fun n=>by rw[List.drop_nil,List.drop_nil];exact .nil) (fun _ _ _ _ h hs ih n=>by
  cases n with
  |zero=>exact .cons h hs
  |succ n=>exact ih n) r n
theorem bT.n0{K:aE}(h:bT K H [] vs):vs=[]:=by cases h;rfl
theorem bT.c{K:aE}(h:bT K H (d :: ds) vs):∃ u us,vs=u :: us/\Rep K H d u/\bT K H ds us:=by
 cases h with
 |cons r rs=>exact⟨_,_,rfl,r,rs⟩
theorem bT.take{K:aE}(n:Nat)(r:bT K H ds vs):bT K H (ds.take n) (vs.take n) :=
 bT.ind (m:=fun ds vs=>∀ n,bT K H (ds.take n) (vs.take n)) (fun n=>by rw[List.take_nil,List.take_nil];exact .nil) (fun _ _ _ _ h hs ih n=>by
  cases n with
  |zero=>exact .nil
  |succ n=>exact .cons h (ih n)) r n
mutual
/-- what is owned: a tree whose lists and lz' stand at As,lA' lB';its leaves shared (fl: and flat) -/
inductive cx(K:aE)(Hs H:Hp)(fl:Bool):D->V->List ag->Prop
 |sh {d:D} {v:V}:(fl=true->d.flat=true)->Rep K Hs d v->cx K Hs H fl d v []
 |list {a:ag} {vs:List V} {ds:List D} {As:List ag}:vs.length<=bS->H a=some (.lst vs)->az K Hs H fl ds vs As->cx K Hs H fl (.list ds) (.ref a) (a :: As)
 |tup {a:ag} {vs:List V} {ds:List D} {As:List ag}:vs.length<=bS->Hs a=some (.tup vs)->dQ ds=false->az K Hs H fl ds vs As->cx K Hs H fl (.tup ds) (.ref a) As
 |dK {a:ag} {vs:List V} {kvs:List (Key × D)} {As:List ag}:QC kvs->H a=some (.dK ((kvs.map (·.1)).zip vs))->az K Hs H fl (kvs.map (·.2)) vs As->cx K Hs H fl (.dK kvs) (.ref a) (a :: As)
 |dT {a:ag} {vs:List V} {kvs:List (List Key × D)} {As:List ag}:QD kvs->H a=some (.dT ((kvs.map (·.1)).zip vs))->az K Hs H fl (kvs.map (·.2)) vs As->cx K Hs H fl (.dT kvs) (.ref a) (a :: As)
inductive az(K:aE)(Hs H:Hp)(fl:Bool):List D->List V->List ag->Prop
 |nil:az K Hs H fl [] [] []
 |cons {d:D} {v:V} {ds:List D} {vs:List V} {As Bs:List ag}:cx K Hs H fl d v As->az K Hs H fl ds vs Bs->az K Hs H fl (d :: ds) (v :: vs) (As++Bs)
end
def Own(H:Hp)(a:ag):Prop:=∃ o,H a=some o/\∀ vs,o≠.tup vs
section
variable {K:aE}{Hs ax H H':Hp}{fl:Bool}
theorem Own.ne(h:Own H a):H a≠none:=by obtain⟨_,e,_⟩:=h;rw[e];exact fun z=>nomatch z
theorem Own.wz(h:Own H a):H a≠some (.tup vs):=by obtain⟨_,e,n⟩:=h;rw[e];exact fun z=>n vs (Option.some.inj z)
theorem cx.ind{m1:D->V->List ag->Prop}{m2:List D->List V->List ag->Prop}(hs:∀ d v,(fl=true->d.flat=true)->Rep K Hs d v->m1 d v [])(hl:∀ a vs ds As,vs.length<=bS->H a=some (.lst vs)->az K Hs H fl ds vs As->m2 ds vs As->m1 (.list ds) (.ref a) (a :: As)) (ht:∀ a vs ds As,vs.length<=bS->Hs a=some (.tup vs)->dQ ds=false->az K Hs H fl ds vs As->m2 ds vs As->m1 (.tup ds) (.ref a) As)(hk:∀ a vs kvs As,QC kvs->H a=some (.dK ((kvs.map (·.1)).zip vs))->az K Hs H fl (kvs.map (·.2)) vs As->m2 (kvs.map (·.2)) vs As->m1 (.dK kvs) (.ref a) (a :: As)) (hT:∀ a vs kvs As,QD kvs->H a=some (.dT ((kvs.map (·.1)).zip vs))->az K Hs H fl (kvs.map (·.2)) vs As->m2 (kvs.map (·.2)) vs As->m1 (.dT kvs) (.ref a) (a :: As))(hn:m2 [] [] []) (hc:∀ d v ds vs As Bs,cx K Hs H fl d v As->az K Hs H fl ds vs Bs->m1 d v As->m2 ds vs Bs->m2 (d :: ds) (v :: vs) (As++Bs)):(∀ {d v As},cx K Hs H fl d v As->m1 d v As)/\∀ {ds vs As},az K Hs H fl ds vs As->m2 ds vs As :=
 ⟨fun r=>cx.rec (motive_1:=fun d v As _=>m1 d v As) (motive_2:=fun ds vs As _=>m2 ds vs As) (fun f r=>hs _ _ f r) (fun z s r ih=>hl _ _ _ _ z s r ih) (fun z s n r ih=>ht _ _ _ _ z s n r ih) (fun z s r ih=>hk _ _ _ _ z s r ih) (fun z s r ih=>hT _ _ _ _ z s r ih) hn (fun r s a b=>hc _ _ _ _ _ _ r s a b) r,
  fun r=>az.rec (motive_1:=fun d v As _=>m1 d v As) (motive_2:=fun ds vs As _=>m2 ds vs As) (fun f r=>hs _ _ f r) (fun z s r ih=>hl _ _ _ _ z s r ih) (fun z s n r ih=>ht _ _ _ _ z s n r ih) (fun z s r ih=>hk _ _ _ _ z s r ih) (fun z s r ih=>hT _ _ _ _ z s r ih) hn (fun r s a b=>hc _ _ _ _ _ _ r s a b) r⟩
theorem AH{a:ag}{p:Prop}(h:a∈([]:List ag)):p:=absurd h GP
theorem cx.ZJ:(∀ {d:D} {v:V} {As:List ag},cx K Hs H fl d v As->∀ a∈As,Own H a)/\∀ {ds:List D} {vs:List V} {As:List ag},az K Hs H fl ds vs As->∀ a∈As,Own H a :=
 cx.ind (m1:=fun _ _ As=>∀ a∈As,Own H a) (m2:=fun _ _ As=>∀ a∈As,Own H a) (fun _ _ _ _ a h=>AH h) (fun _ _ _ _ _ e _ ih a h=>(eM.mp h).elim (fun z=>z ▸ ⟨_,e,fun _ z=>nomatch z⟩) (ih a)) (fun _ _ _ _ _ _ _ _ ih=>ih) (fun _ _ _ _ _ e _ ih a h=>(eM.mp h).elim (fun z=>z ▸ ⟨_,e,fun _ z=>nomatch z⟩) (ih a)) (fun _ _ _ _ _ e _ ih a h=>(eM.mp h).elim (fun z=>z ▸ ⟨_,e,fun _ z=>nomatch z⟩) (ih a)) (fun a h=>AH h) fun _ _ _ _ _ _ _ _ i1 i2 a h=>(eS.mp h).elim (i1 a) (i2 a)
theorem cx.own(r:cx K Hs H fl d v As):∀ a∈As,Own H a:=cx.ZJ.1 r
theorem az.own(r:az K Hs H fl ds vs As):∀ a∈As,Own H a:=cx.ZJ.2 r
theorem cx.Eb(s:bG Hs ax):(∀ {d:D} {v:V} {As:List ag},cx K Hs H fl d v As->(∀ a∈As,H' a=H a)->cx K ax H' fl d v As)/\∀ {ds:List D} {vs:List V} {As:List ag},az K Hs H fl ds vs As->(∀ a∈As,H' a=H a)->az K ax H' fl ds vs As :=
 cx.ind (m1:=fun d v As=>(∀ a∈As,H' a=H a)->cx K ax H' fl d v As) (m2:=fun ds vs As=>(∀ a∈As,H' a=H a)->az K ax H' fl ds vs As) (fun _ _ f r _=>.sh f (r.same s)) (fun _ _ _ _ z e _ ih k=>.list z ((k _ eL).trans e) (ih fun a h=>k a (eI _ h))) (fun _ _ _ _ z e n _ ih k=>.tup z (s _ _ e) n (ih k)) (fun _ _ _ _ z e _ ih k=>.dK z ((k _ eL).trans e) (ih fun a h=>k a (eI _ h))) (fun _ _ _ _ z e _ ih k=>.dT z ((k _ eL).trans e) (ih fun a h=>k a (eI _ h))) (fun _=>.nil) fun _ _ _ _ _ _ _ _ i1 i2 k=>.cons (i1 fun a h=>k a (jv _ h)) (i2 fun a h=>k a (fe _ h))
theorem cx.eW(s:bG Hs ax)(r:cx K Hs H fl d v As)(k:∀ a∈As,H' a=H a):cx K ax H' fl d v As:=(cx.Eb s).1 r k
theorem az.eW(s:bG Hs ax)(r:az K Hs H fl ds vs As)(k:∀ a∈As,H' a=H a):az K ax H' fl ds vs As:=(cx.Eb s).2 r k
theorem cx.grow(s:bG Hs ax)(t:bG H H')(r:cx K Hs H fl d v As):cx K ax H' fl d v As :=
 r.eW s fun a h=>by
  cases e:H a with
  |none=>exact absurd e (r.own a h).ne
  |some o=>exact t a o e
theorem az.grow(s:bG Hs ax)(t:bG H H')(r:az K Hs H fl ds vs As):az K ax H' fl ds vs As :=
 r.eW s fun a h=>by
  cases e:H a with
  |none=>exact absurd e (r.own a h).ne
  |some o=>exact t a o e
theorem cx.rep2{G:Hp}(s:bG Hs G):(∀ {d:D} {v:V} {As:List ag},cx K Hs H fl d v As->(∀ a∈As,G a=H a)->Rep K G d v)/\∀ {ds:List D} {vs:List V} {As:List ag},az K Hs H fl ds vs As->(∀ a∈As,G a=H a)->bT K G ds vs :=
 cx.ind (m1:=fun d v As=>(∀ a∈As,G a=H a)->Rep K G d v) (m2:=fun ds vs As=>(∀ a∈As,G a=H a)->bT K G ds vs) (fun _ _ _ r _=>r.same s) (fun _ _ _ _ z e _ ih k=>.list z (.inl (.inl ((k _ eL).trans e))) (ih fun a h=>k a (eI _ h))) (fun _ _ _ _ z e n _ ih k=>.tup z (s _ _ e) (ih k)) (fun _ _ _ _ z e _ ih k=>.dK z (.inl ((k _ eL).trans e)) (ih fun a h=>k a (eI _ h))) (fun _ _ _ _ z e _ ih k=>.dT z (.inl ((k _ eL).trans e)) (ih fun a h=>k a (eI _ h))) (fun _=>.nil) fun _ _ _ _ _ _ _ _ i1 i2 k=>.cons (i1 fun a h=>k a (jv _ h)) (i2 fun a h=>k a (fe _ h))
theorem cx.rep(s:bG Hs G)(r:cx K Hs H fl d v As)(k:∀ a∈As,G a=H a):Rep K G d v:=(cx.rep2 s).1 r k
theorem az.reps(s:bG Hs G)(r:az K Hs H fl ds vs As)(k:∀ a∈As,G a=H a):bT K G ds vs:=(cx.rep2 s).2 r k
theorem Rep.vd(t:∀ a vs,H a=some (.tup vs)->G a=some (.tup vs)):(∀ {d:D} {v:V},Rep K H d v->d.flat=true->Rep K G d v)/\∀ {ds:List D} {vs:List V},bT K H ds vs->dQ ds=true->bT K G ds vs :=
 Rep.ind (m1:=fun d v=>d.flat=true->Rep K G d v) (m2:=fun ds vs=>dQ ds=true->bT K G ds vs) (fun _=>.non) (fun b _=>.bl b) (fun i _=>.int i) (fun _ h _=>.str h) (fun _ _ _ _ _ _ _ f=>by simp[D.flat] at f) (fun _ _ _ z e _ ih f=>.tup z (t _ _ e) (ih (by simpa[D.flat] using f))) (fun _ _ _ _ _ _ _ f=>by simp[D.flat] at f) (fun _ _ _ _ _ _ _ f=>by simp[D.flat] at f) (fun _=>.nil) fun _ _ _ _ _ _ i1 i2 f=>by simp only[dQ,k7] at f;exact .cons (i1 f.1) (i2 f.2)
theorem Rep.gP(t:∀ a vs,H a=some (.tup vs)->G a=some (.tup vs))(r:Rep K H d v)(f:d.flat=true):Rep K G d v:=(Rep.vd t).1 r f
theorem bT.gP(t:∀ a vs,H a=some (.tup vs)->G a=some (.tup vs))(r:bT K H ds vs)(f:dQ ds=true):bT K G ds vs:=(Rep.vd t).2 r f
theorem bT.owned(r:bT K Hs ds vs)(f:dQ ds=true):az K Hs H fl ds vs [] :=
 bT.ind (m:=fun ds vs=>dQ ds=true->az K Hs H fl ds vs []) (fun _=>.nil) (fun _ _ _ _ h _ ih f=>by
  simp only[dQ,k7] at f;exact .cons (As:=[]) (.sh (fun _=>f.1) h) (ih f.2)) r f
theorem bT.CZ(r:bT K Hs ds vs):az K Hs H false ds vs [] :=
 bT.ind (m:=fun ds vs=>az K Hs H false ds vs []) .nil (fun _ _ _ _ h _ ih=>.cons (As:=[]) (.sh (fun z=>Bool.noConfusion z) h) ih) r
theorem cx.ZK:(∀ {d:D} {v:V} {As:List ag},cx K Hs H fl d v As->cx K Hs H false d v As)/\∀ {ds:List D} {vs:List V} {As:List ag},az K Hs H fl ds vs As->az K Hs H false ds vs As :=
 cx.ind (fun _ _ _ r=>.sh (fun z=>Bool.noConfusion z) r) (fun _ _ _ _ z e _ ih=>.list z e ih) (fun _ _ _ _ z e n _ ih=>.tup z e n ih) (fun _ _ _ _ z e _ ih=>.dK z e ih) (fun _ _ _ _ z e _ ih=>.dT z e ih) .nil fun _ _ _ _ _ _ _ _ a b=>.cons a b
theorem cx.QF(r:cx K Hs H fl d v As):cx K Hs H false d v As:=cx.ZK.1 r
theorem az.QF(r:az K Hs H fl ds vs As):az K Hs H false ds vs As:=cx.ZK.2 r
theorem cx.Ar(t:∀ a vs,Hs a=some (.tup vs)->G a=some (.tup vs)):(∀ {d:D} {v:V} {As:List ag},cx K Hs H true d v As->cx K G H true d v As)/\∀ {ds:List D} {vs:List V} {As:List ag},az K Hs H true ds vs As->az K G H true ds vs As :=
 cx.ind (fun _ _ f r=>.sh f (r.gP t (f rfl))) (fun _ _ _ _ z e _ ih=>.list z e ih) (fun _ _ _ _ z e n _ ih=>.tup z (t _ _ e) n ih) (fun _ _ _ _ z e _ ih=>.dK z e ih) (fun _ _ _ _ z e _ ih=>.dT z e ih) .nil fun _ _ _ _ _ _ _ _ a b=>.cons a b
theorem cx.leaves(t:∀ a vs,Hs a=some (.tup vs)->G a=some (.tup vs))(r:cx K Hs H true d v As):cx K G H true d v As:=(cx.Ar t).1 r
theorem az.ind{m:List D->List V->List ag->Prop}(hn:m [] [] [])(hc:∀ d v ds vs As Bs,cx K Hs H fl d v As->az K Hs H fl ds vs Bs->m ds vs Bs->m (d :: ds) (v :: vs) (As++Bs)):∀ {ds vs As},az K Hs H fl ds vs As->m ds vs As :=
 fun r=>(cx.ind (m1:=fun _ _ _=>True) (m2:=m) (fun _ _ _ _=>trivial) (fun _ _ _ _ _ _ _ _=>trivial) (fun _ _ _ _ _ _ _ _ _=>trivial) (fun _ _ _ _ _ _ _ _=>trivial) (fun _ _ _ _ _ _ _ _=>trivial) hn fun d v ds vs As Bs r s _ b=>hc d v ds vs As Bs r s b).2 r
theorem az.append(r:az K Hs H fl ds vs As)(t:az K Hs H fl es ws Bs):az K Hs H fl (ds++es) (vs++ws) (As++Bs) :=
 az.ind (m:=fun ds vs As=>az K Hs H fl (ds++es) (vs++ws) (As++Bs)) t (fun _ _ _ _ _ _ h _ ih=>by
  rw[tJ];exact .cons h ih) r
theorem az.n0(h:az K Hs H fl [] vs As):vs=[]/\As=[]:=by cases h;exact⟨rfl,rfl⟩
theorem az.c(h:az K Hs H fl (d :: ds) vs As):∃ u us A B,vs=u :: us/\As=A++B/\cx K Hs H fl d u A/\az K Hs H fl ds us B:=by
 cases h with
 |cons r rs=>exact⟨_,_,_,_,rfl,rfl,r,rs⟩
theorem az.length(r:az K Hs H fl ds vs As):ds.length=vs.length :=
 az.ind (m:=fun ds vs _=>ds.length=vs.length) rfl (fun _ _ _ _ _ _ _ _ ih=>by rw[sA,sA,ih]) r
end
def fE':HO->Prop
 |.dK _=>False
 |.dT _=>False
 |.nh _ _=>False
 |_=>True
def ZL(H H':Hp):Prop:=∀ a o,fE' o->H a=some o->H' a=some o
structure ZM where
 is:Hp->Hp->ag->List ag->Prop
 eW:∀ {Hs ax H H':Hp} {a:ag} {As:List ag},ZL Hs ax->(∀ b∈As,H' b=H b)->is Hs H a As->is ax H' a As
 own:∀ {Hs H:Hp} {a:ag} {As:List ag},is Hs H a As->∀ b∈As,Own H b
theorem pY(s:bG H H'):ZL H H':=fun a o _ e=>s a o e
inductive Sl where
 /-- shared;owned;owned and walked by a loop just now (at a) -/
 |sh (d:D)|ow (fl:Bool) (d:D)|lk (a:ag) (fl:Bool) (d:D)
 /-- an exception,at a -/
 |xc (a:ag)
 /-- an object,at a -/
 |ob (a:ag) (p:ZM)
abbrev Env:=List (Option Sl)
inductive SR(K:aE)(Hs H:Hp):Env->St->List ag->Prop
 |nil:SR K Hs H [] [] []
 |non {ρ:Env} {σ:St} {ai:List ag} {o:Option V}:SR K Hs H ρ σ ai->SR K Hs H (none :: ρ) (o :: σ) ai
 |sh {ρ:Env} {σ:St} {ai:List ag} {d:D} {v:V}:Rep K Hs d v->SR K Hs H ρ σ ai->SR K Hs H (some (.sh d) :: ρ) (some v :: σ) ai
 |xc {ρ:Env} {σ:St} {ai:List ag} {a:ag}:SR K Hs H ρ σ ai->SR K Hs H (some (.xc a) :: ρ) (some (.ref a) :: σ) ai
 |ow {ρ:Env} {σ:St} {ai As:List ag} {fl:Bool} {d:D} {v:V}:As≠[]->cx K Hs H fl d v As->SR K Hs H ρ σ ai->SR K Hs H (some (.ow fl d) :: ρ) (some v :: σ) (As++ai)
 |lk {ρ:Env} {σ:St} {ai As:List ag} {a:ag} {fl:Bool} {d:D}:As≠[]->cx K Hs H fl d (.ref a) As->SR K Hs H ρ σ ai->SR K Hs H (some (.lk a fl d) :: ρ) (some (.ref a) :: σ) (As++ai)
 |ob {ρ:Env} {σ:St} {ai As:List ag} {a:ag} {p:ZM}:p.is Hs H a As->SR K Hs H ρ σ ai->SR K Hs H (some (.ob a p) :: ρ) (some (.ref a) :: σ) (As++ai)
structure Wf(Hs H:Hp):Prop where
 sub:bG Hs H
 i9:∀ a vs,H a=some (.tup vs)->Hs a=some (.tup vs)
structure d5(K:aE)(Hs:Hp)(ρ:Env)(σ:St)(H:Hp)(ai:List ag):Prop where
 sr:SR K Hs H ρ σ ai
 wf:Wf Hs H
 sR:ai.Nodup
 own:∀ a∈ai,Hs a=none
structure e9(Hs H ax H':Hp):Prop where
 all:bG H H'
 sh:bG Hs ax
 wf:Wf ax H'
 new:∀ a,ax a≠none->Hs a≠none\/H a=none
section
variable {K:aE}{Hs H ax H' ZN ZO:Hp}
theorem e9.refl(w:Wf Hs H):e9 Hs H Hs H:=⟨bG.refl _,bG.refl _,w,fun _ h=>.inl h⟩
theorem e9.trans(a:e9 Hs H ax H')(b:e9 ax H' ZN ZO):e9 Hs H ZN ZO :=
 ⟨a.all.trans b.all,a.sh.trans b.sh,b.wf,fun c h=>by
  rcases b.new c h with h|h
  ·exact a.new c h
  ·exact .inr (a.all.free h)⟩
theorem e9.pd(g:e9 Hs H ax H')(h:Hs a=none)(h':H a≠none):ax a=none:=by
 cases e:ax a with
 |none=>rfl
 |some o =>
  rcases g.new a (by rw[e];exact fun z=>nomatch z) with z|z
  ·exact absurd h z
  ·exact absurd z h'
theorem SR.own{ρ:Env}{σ:St}{ai:List ag}(s:SR K Hs H ρ σ ai):∀ a∈ai,Own H a:=by
 induction s with
 |nil=>exact fun a h=>AH h
 |non _ ih=>exact ih
 |sh _ _ ih=>exact ih
 |xc _ ih=>exact ih
 |ow _ r _ ih=>exact fun a h=>(eS.mp h).elim (r.own a) (ih a)
 |lk _ r _ ih=>exact fun a h=>(eS.mp h).elim (r.own a) (ih a)
 |@ob _ _ _ _ _ p r _ ih=>exact fun a h=>(eS.mp h).elim (p.own r a) (ih a)
theorem SR.eW(s:bG Hs ax)(r:SR K Hs H ρ σ ai):(∀ a∈ai,H' a=H a)->SR K ax H' ρ σ ai:=by
 induction r with
 |nil=>exact fun _=>.nil
 |non _ ih=>exact fun k=>.non (ih k)
 |sh h _ ih=>exact fun k=>.sh (h.same s) (ih k)
 |xc _ ih=>exact fun k=>.xc (ih k)
 |ow ne h _ ih=>exact fun k=>.ow ne (h.eW s fun a m=>k a (jv _ m)) (ih fun a m=>k a (fe _ m))
 |lk ne h _ ih=>exact fun k=>.lk ne (h.eW s fun a m=>k a (jv _ m)) (ih fun a m=>k a (fe _ m))
 |@ob _ _ _ _ _ p h _ ih=>exact fun k=>.ob (p.eW (pY s) (fun a m=>k a (jv _ m)) h) (ih fun a m=>k a (fe _ m))
theorem d5.grow(r:d5 K Hs ρ σ H ai)(g:e9 Hs H ax H'):d5 K ax ρ σ H' ai :=
 ⟨r.sr.eW g.sh fun a h=>by
  cases e:H a with
  |none=>exact absurd e (r.sr.own a h).ne
  |some o=>exact g.all a o e,g.wf,r.sR,fun a h=>g.pd (r.own a h) (r.sr.own a h).ne⟩
theorem SR.length(s:SR K Hs H ρ σ ai):ρ.length=σ.length:=by
 induction s with
 |nil=>rfl
 |non _ ih=>exact congrArg (· + 1) ih
 |sh _ _ ih=>exact congrArg (· + 1) ih
 |xc _ ih=>exact congrArg (· + 1) ih
 |ow _ _ _ ih=>exact congrArg (· + 1) ih
 |lk _ _ _ ih=>exact congrArg (· + 1) ih
 |ob _ _ ih=>exact congrArg (· + 1) ih
def yI(K:aE)(Hs H:Hp)(ai:List ag)(sl:Sl)(v:V):Prop:=match sl with
 |.sh d=>Rep K Hs d v
 |.ow fl d=>∃ As,As≠[]/\cx K Hs H fl d v As/\∀ a∈As,a∈ai
 |.lk a fl d=>∃ As,As≠[]/\cx K Hs H fl d v As/\v=.ref a/\∀ a∈As,a∈ai
 |.xc a=>v=.ref a
 |.ob a p=>v=.ref a/\∃ As,p.is Hs H a As/\∀ a∈As,a∈ai
theorem yI.mono(h:yI K Hs H ai sl v)(m:∀ a∈ai,a∈cS):yI K Hs H cS sl v:=by
 cases sl with
 |sh d=>exact h
 |xc a=>exact h
 |ow fl d =>obtain⟨As,ne,r,q⟩:=h;exact⟨As,ne,r,fun a ha=>m a (q a ha)⟩
 |lk a fl d =>obtain⟨As,ne,r,e,q⟩:=h;exact⟨As,ne,r,e,fun a ha=>m a (q a ha)⟩
 |ob a p =>obtain⟨e,As,r,q⟩:=h;exact⟨e,As,r,fun a ha=>m a (q a ha)⟩
theorem SR.get{ρ:Env}{σ:St}{ai:List ag}{i:Nat}{sl:Sl}(s:SR K Hs H ρ σ ai)(e:ρ[i]? = some (some sl)):∃ v,σ[i]? = some (some v)/\yI K Hs H ai sl v:=by
 induction s generalizing i with
 |nil=>simp at e
 |non s ih =>
  cases i with
  |zero=>simp at e
  |succ i=>exact ih e
 |sh r s ih =>
  cases i with
  |zero=>simp at e;subst e;exact⟨_,rfl,r⟩
  |succ i=>exact ih e
 |xc s ih =>
  cases i with
  |zero=>simp at e;subst e;exact⟨_,rfl,rfl⟩
  |succ i=>exact ih e
 |ow ne r s ih =>
  cases i with
  |zero=>simp at e;subst e;exact⟨_,rfl,_,ne,r,fun a m=>jv _ m⟩
  |succ i =>obtain⟨v,e1,h⟩:=ih e;exact⟨v,e1,h.mono fun a m=>fe _ m⟩
 |lk ne r s ih =>
  cases i with
  |zero=>simp at e;subst e;exact⟨_,rfl,_,ne,r,rfl,fun a m=>jv _ m⟩
  |succ i =>obtain⟨v,e1,h⟩:=ih e;exact⟨v,e1,h.mono fun a m=>fe _ m⟩
 |ob r s ih =>
  cases i with
  |zero=>simp at e;subst e;exact⟨_,rfl,rfl,_,r,fun a m=>jv _ m⟩
  |succ i =>obtain⟨v,e1,h⟩:=ih e;exact⟨v,e1,h.mono fun a m=>fe _ m⟩
end
inductive Md where
 |sh|ow (fl:Bool)|bo|fr
def IX(Hs H:Hp)(As:List ag):Hp:=fun a=>if a∈As then H a else match Hs a with
 |some (.tup vs)=>some (.tup vs)
 |_=>none
theorem rJ(t:∀ a vs,Hs a=some (.tup vs)->G a=some (.tup vs))(g:∀ a∈As,∀ o,H a=some o->G a=some o):bG (IX Hs H As) G:=fun a o e=>by
 unfold IX at e;by_cases m:a∈As
 ·rw[if_pos m] at e;exact g a m o e
 ·rw[if_neg m] at e;split at e
  ·rename_i vs h;cases e;exact t a vs h
  ·cases e
theorem uP(o:∀ a∈As,Own H a)(w:bG Hs H)(h:Hs a=some (.tup vs)):IX Hs H As a=some (.tup vs):=by unfold IX;rw[if_neg fun m=>(o a m).wz (w _ _ h),h]
def RM(K:aE)(Hs H:Hp):Md->D->V->List ag->Prop
 |.sh,d,v,As=>As=[]/\Rep K Hs d v
 |.ow fl,d,v,As=>cx K Hs H fl d v As/\As≠[]
 |.bo,d,v,As=>As=[]/\Rep K H d v
 |.fr,d,v,As=>(∀ a∈As,Own H a)/\Rep K (IX Hs H As) d v
inductive AI(K:aE)(Hs H:Hp):List (Md × D)->List V->List ag->Prop
 |nil:AI K Hs H [] [] []
 |cons {m:Md} {d:D} {v:V} {ps:List (Md × D)} {vs:List V} {As Bs:List ag}:RM K Hs H m d v As->AI K Hs H ps vs Bs->AI K Hs H ((m,d) :: ps) (v :: vs) (As++Bs)
section
variable {K:aE}{Hs H ax H':Hp}
theorem RM.own{m:Md}{d:D}{v:V}{As:List ag}(r:RM K Hs H m d v As):∀ a∈As,Own H a:=by
 cases m with
 |sh=>obtain⟨rfl,_⟩:=r;exact fun a h=>AH h
 |ow fl=>exact cx.own r.1
 |bo=>obtain⟨rfl,_⟩:=r;exact fun a h=>AH h
 |fr=>exact r.1
theorem RM.grow(r:RM K Hs H m d v As)(g:e9 Hs H ax H'):RM K ax H' m d v As:=by
 have ow:(∀ a∈As,Own H a)->∀ a∈As,Own H' a:=fun z a h=>let ⟨o,e,n⟩:=z a h;⟨o,g.all _ _ e,n⟩
 cases m with
 |sh=>exact⟨r.1,r.2.same g.sh⟩
 |ow fl=>exact⟨cx.grow g.sh g.all r.1,r.2⟩
 |bo=>exact⟨r.1,r.2.same g.all⟩
 |fr=>exact⟨ow r.1,r.2.same (rJ (fun a vs e=>uP (ow r.1) g.wf.sub (g.sh _ _ e)) fun a m o e=>by unfold IX;rw[if_pos m];exact g.all _ _ e)⟩
theorem RM.rep(w:Wf Hs H)(r:RM K Hs H m d v As):Rep K H d v:=by
 cases m with
 |sh=>exact r.2.same w.sub
 |ow fl=>exact cx.rep w.sub r.1 fun _ _=>rfl
 |bo=>exact r.2
 |fr=>exact r.2.same (rJ (fun _ _ e=>w.sub _ _ e) fun _ _ _ e=>e)
theorem RM.flat(w:Wf Hs H)(r:RM K Hs H m d v As)(f:d.flat=true):Rep K Hs d v:=(r.rep w).gP w.i9 f
theorem AI.reps(w:Wf Hs H){ps:List (Md × D)}(r:AI K Hs H ps vs As):bT K H (ps.map (·.2)) vs:=by
 induction r with
 |nil=>exact .nil
 |cons r _ ih=>exact .cons (r.rep w) ih
end
abbrev WE:=Env->(Md->D->Prop)->Prop
abbrev WT:=Env->(Bool->Prop)->Prop
abbrev WA:=Env->(List (Md × D)->Prop)->Prop
structure j9 where
 nx:Env->Prop
 rt:Md->D->Prop
 bk:Env->Prop:=fun _=>False
 ct:Env->Prop:=fun _=>False
abbrev WS:=j9->Env->Prop
def bV(ax H:Hp)(As:List ag):Prop:=As.Nodup/\∀ a∈As,ax a=none/\H a=none
def nI(K:aE)(t:WE):TE:=fun σ H Qv=>∃ Hs ρ ai Q,d5 K Hs ρ σ H ai/\t ρ Q /\
 ∀ v H' ax m d As,e9 Hs H ax H'->RM K ax H' m d v As->bV ax H As->Q m d->Qv v H'
def FD(K:aE)(t:WT):TT:=fun σ H Qv=>∃ Hs ρ ai Q,d5 K Hs ρ σ H ai/\t ρ Q/\∀ b H' ax,e9 Hs H ax H'->Q b->Qv b H'
def QH(K:aE)(t:WA):TA:=fun σ H Qv=>∃ Hs ρ ai Q,d5 K Hs ρ σ H ai/\t ρ Q /\
 ∀ vs H' ax ps As,e9 Hs H ax H'->AI K ax H' ps vs As->bV ax H As->Q ps->Qv vs H'
def AJ(K:aE)(L:Str->Hp->Prop)(t:WS):TS:=fun D σ H=>∃ Hs ρ ai E,d5 K Hs ρ σ H ai/\t E ρ /\ (∀ cf H' ax c9 cS,bG Hs ax->d5 K ax c9 cf H' cS->E.nx c9->D.nx cf H') /\ (∀ cf H' ax c9 cS,bG Hs ax->d5 K ax c9 cf H' cS->E.bk c9->D.bk cf H') /\ (∀ cf H' ax c9 cS,bG Hs ax->d5 K ax c9 cf H' cS->E.ct c9->D.ct cf H') /\ (∀ v H' ax m d As,bG Hs ax->Wf ax H'->RM K ax H' m d v As->As.Nodup->(∀ a∈As,ax a=none)->E.rt m d->D.rt v H') /\
 ∀ n H',bG Hs H'->E.rt (.ow false) (.str n)->L n H'
theorem jW{K:aE}{L:Str->Hp->Prop}{t:WS}{D:Ends}{σ:St}{H:Hp}{G:Prop}(x:AJ K L t D σ H)(k:∀ Hs ρ ai E,d5 K Hs ρ σ H ai->t E ρ -> (∀ cf H' ax c9 cS,bG Hs ax->d5 K ax c9 cf H' cS->E.nx c9->D.nx cf H') -> (∀ cf H' ax c9 cS,bG Hs ax->d5 K ax c9 cf H' cS->E.bk c9->D.bk cf H') -> (∀ cf H' ax c9 cS,bG Hs ax->d5 K ax c9 cf H' cS->E.ct c9->D.ct cf H') -> (∀ v H' ax m d As,bG Hs ax->Wf ax H'->RM K ax H' m d v As->As.Nodup->(∀ a∈As,ax a=none)->E.rt m d->D.rt v H') -> (∀ n H',bG Hs H'->E.rt (.ow false) (.str n)->L n H')->G):G :=
 by
 obtain⟨Hs,ρ,ai,E,sr,h,k1,k2,k3,k4,kx⟩:=x;exact k Hs ρ ai E sr h k1 k2 k3 k4 kx
theorem cP{K:aE}{L:Str->Hp->Prop}{t:WS}{D:Ends}{σ:St}{H:Hp}{G:Prop}(x:AJ K L t D σ H)(k:∀ Hs ρ ai E,d5 K Hs ρ σ H ai->t E ρ -> (∀ cf H' ax c9 cS,bG Hs ax->d5 K ax c9 cf H' cS->E.nx c9->D.nx cf H') -> (∀ cf H' ax c9 cS,bG Hs ax->d5 K ax c9 cf H' cS->E.bk c9->D.bk cf H') -> (∀ cf H' ax c9 cS,bG Hs ax->d5 K ax c9 cf H' cS->E.ct c9->D.ct cf H') -> (∀ v H' ax m d As,bG Hs ax->Wf ax H'->RM K ax H' m d v As->As.Nodup->(∀ a∈As,ax a=none)->E.rt m d->D.rt v H')->G):G :=
 jW x fun Hs ρ ai E sr h k1 k2 k3 k4 _=>k Hs ρ ai E sr h k1 k2 k3 k4
theorem kD{α β γ δ:Type _}{A B C:α->β->γ->δ->Prop}{G:Prop}(x:∃ a b c d,A a b c d/\B a b c d/\C a b c d)(k:∀ a b c d,A a b c d->B a b c d->C a b c d->G):G :=
 by
 obtain⟨a,b,c,d,p,q,r⟩:=x;exact k a b c d p q r
abbrev QE(X:Cx)(K:aE)(e:Expr)(t:WE):Prop:=PE X e (nI K t)
abbrev QT(X:Cx)(K:aE)(e:Expr)(t:WT):Prop:=PT X e (FD K t)
abbrev QW(X:Cx)(K:aE)(e:Expr)(t:WT):Prop:=PW X e (FD K t)
abbrev QA(X:Cx)(K:aE)(es:List Expr)(t:WA):Prop:=PA X es (QH K t)
abbrev QS(X:Cx)(K:aE)(L:Str->Hp->Prop)(st:Stmt)(t:WS):Prop:=PS X st (AJ K L t)
abbrev y9(X:Cx)(K:aE)(L:Str->Hp->Prop)(st:List Stmt)(t:WS):Prop:=oi X st (AJ K L t)
abbrev L0:Str->Hp->Prop:=fun _ _=>True
end L2.Q
namespace L2.Q
open PySem PySem.Spec PyProof.Rows
structure Kt{α:Type}(f:α->Prop):Type where
def ck{α:Type}(a:α){f:α->Prop}(_:Kt f):Prop:=f a
mutual
def D.py:D->PyData
 |.non=>.none
 |.bl b=>.bool b
 |.int i=>.int i
 |.str x=>.str x
 |.list xs=>.list (vE xs)
 |.tup xs=>.tuple (vE xs)
 |.dK _=>.none
 |.dT _=>.none
def vE:List D->List PyData
 |[]=>[]
 |x :: xs=>x.py :: vE xs
end
def eh:Nat->D->Bool
 |_,.non=>true
 |_,.bl _=>true
 |_,.int _=>true
 |_,.str x=>PyData.strOk x
 |n+1,.list xs=>xs.all (eh n)
 |n+1,.tup xs=>xs.all (eh n)
 |_,_=>false
def kE(x y:D):Bool:=PyData.eqv x.py y.py
def D.ty:D->String
 |.non => "NoneType"
 |.bl _ => "bool"
 |.int _ => "int"
 |.str _ => "str"
 |.list _ => "list"
 |.tup _ => "tuple"
 |.dK _ => "dict"
 |.dT _ => "dict"
def D.key1:D->Option Key
 |.int i=>some (.inl i)
 |.str x=>some (.inr x)
 |_=>none
def dU:List D->Option (List Key)
 |[]=>some []
 |x :: xs=>match x.key1,dU xs with
  |some k,some ks=>some (k :: ks)
  |_,_=>none
section
variable {κ:Type}[DecidableEq κ]{β:Type}
def fw(kvs:List (κ × β))(k:κ):Option β:=(kvs.find? fun kv=>decide (kv.1=k)).map (·.2)
def ZP(kvs:List (κ × β))(k:κ)(v:β):List (κ × β) :=
 if (kvs.any fun kv=>decide (kv.1=k))=true then kvs.map (fun kv=>if kv.1=k then (kv.1,v) else kv) else kvs++[(k,v)]
end
theorem Rep.Ur{K:aE}:(∀ {d:D} {v:V},Rep K H d v->∀ n,eh n d=true->L2.Rep K H d.py v)/\∀ {ds:List D} {vs:List V},bT K H ds vs->∀ n,(∀ d∈ds,eh n d=true)->L2.bT K H (vE ds) vs :=
 Rep.ind (m1:=fun d v=>∀ n,eh n d=true->L2.Rep K H d.py v) (m2:=fun ds vs=>∀ n,(∀ d∈ds,eh n d=true)->L2.bT K H (vE ds) vs) (fun _ _=>.none) (fun b _ _=>.bool b) (fun i _ _=>.int i) (fun _ _ _ _=>.str _) (fun _ _ _ _ h _ ih n o=>by
   cases n with
   |zero=>simp[eh] at o
   |succ n=>exact .list h (ih n (by simpa[eh] using o)))
  (fun _ _ _ _ h _ ih n o=>by
   cases n with
   |zero=>simp[eh] at o
   |succ n=>exact .tuple (.inl (.inl h)) (ih n (by simpa[eh] using o)))
  (fun _ _ _ _ _ _ _ n o=>by cases n<;>simp[eh] at o) (fun _ _ _ _ _ _ _ n o=>by cases n<;>simp[eh] at o) (fun _ _=>.nil)
  fun _ _ _ _ _ _ i1 i2 n o=>.cons (i1 n (o _ eL)) (i2 n fun d m=>o d (eI _ m))
theorem Rep.l2{K:aE}(r:Rep K H d v)(o:eh n d=true):L2.Rep K H d.py v:=Rep.Ur.1 r n o
theorem v_(ih:∀ d,eh n d=true->d.py.canLay0=true/\d.py.depth<=n)(xs:List D)(h:∀ x∈xs,eh n x=true):PyData.canLayAll0 (vE xs)=true/\PyData.depthAll (vE xs)<=n:=by
 induction xs with
 |nil=>exact⟨rfl,eT _⟩
 |cons x xs Us =>have h1:=ih x (h x eL);have h2:=Us fun y hy=>h y (eI _ hy);simp only[vE,PyData.canLayAll0,PyData.depthAll,h1.1,h2.1,PF,true_and];lia
theorem rM(n:Nat):∀ (d:D),eh n d=true->d.py.canLay0=true/\d.py.depth<=n:=by
 have st:∀ (n:Nat) (x:Str),eh n (.str x)=true->(D.str x).py.canLay0=true/\(D.str x).py.depth<=n:=fun n x h=>by
  have h:PyData.strOk x=true:=by cases n<;>simpa[eh] using h
  exact⟨by simpa[D.py,PyData.canLay0] using h,eT _⟩
 induction n with
 |zero =>
  intro d h
  cases d with
  |str x=>exact st _ x h
  |non=>exact⟨rfl,eT _⟩
  |bl _=>exact⟨rfl,eT _⟩
  |int _=>exact⟨rfl,eT _⟩
  |_=>simp[eh] at h
 |succ n ih =>
  intro d h
  cases d with
  |str x=>exact st _ x h
  |non=>exact⟨rfl,eT _⟩
  |bl _=>exact⟨rfl,eT _⟩
  |int _=>exact⟨rfl,eT _⟩
  |list xs =>
   have h:∀ x∈xs,eh n x=true:=by simpa[eh] using h
   have:=v_ ih xs h;simp only[D.py,PyData.canLay0,PyData.depth];exact⟨this.1,by lia⟩
  |tup xs =>
   have h:∀ x∈xs,eh n x=true:=by simpa[eh] using h
   have:=v_ ih xs h;simp only[D.py,PyData.canLay0,PyData.depth];exact⟨this.1,by lia⟩
  |dK _=>simp[eh] at h
  |dT _=>simp[eh] at h
mutual
def D.nb:D->Bool
 |.bl _=>false
 |.list xs=>xt xs
 |.tup xs=>xt xs
 |.dK _=>false
 |.dT _=>false
 |_=>true
def xt:List D->Bool
 |[]=>true
 |x :: xs=>x.nb && xt xs
end
mutual
theorem mJ:∀ (x y:D),x.nb=true->y.nb=true->(kE x y=true↔x=y)
 |.non,y,_,hy=>by cases y<;>simp_all [kE,D.py,PyData.eqv,D.nb]
 |.bl _,y,hx,_=>by simp[D.nb] at hx
 |.int i,y,_,hy=>by cases y<;>simp_all [kE,D.py,PyData.eqv,D.nb]
 |.str i,y,_,hy=>by cases y<;>simp_all [kE,D.py,PyData.eqv,D.nb]
 |.dK _,y,hx,_=>by simp[D.nb] at hx
 |.dT _,y,hx,_=>by simp[D.nb] at hx
 |.list xs,y,hx,hy=>by
  cases y with
  |list ys =>have:=mH xs ys (by simpa[D.nb] using hx) (by simpa[D.nb] using hy);simp only[kE,D.py,PyData.eqv,D.list.injEq];exact this
  |_=>simp_all [kE,D.py,PyData.eqv,D.nb]
 |.tup xs,y,hx,hy=>by
  cases y with
  |tup ys =>have:=mH xs ys (by simpa[D.nb] using hx) (by simpa[D.nb] using hy);simp only[kE,D.py,PyData.eqv,D.tup.injEq];exact this
  |_=>simp_all [kE,D.py,PyData.eqv,D.nb]
theorem mH:∀ (xs ys:List D),xt xs=true->xt ys=true->(PyData.eqvAll (vE xs) (vE ys)=true↔xs=ys)
 |[],[],_,_=>by simp[vE,PyData.eqvAll]
 |[],_ :: _,_,_=>by simp[vE,PyData.eqvAll]
 |_ :: _,[],_,_=>by simp[vE,PyData.eqvAll]
 |x :: xs,y :: ys,hx,hy=>by simp only[xt,k7] at hx hy;have h1:=mJ x y hx.1 hy.1;have h2:=mH xs ys hx.2 hy.2;simp only[vE,PyData.eqvAll,k7,List.cons.injEq];exact and_congr h1 h2
end
section
variable {K:aE}{H:Hp}
theorem Rep.key(r:Rep K H d v)(h:d.key1=some k):v=kV k:=by cases r<;>simp[D.key1] at h<;>subst h<;>rfl
theorem bT.keys(r:bT K H ds vs)(h:dU ds=some ks):vs=ks.map kV:=by
 induction ds generalizing vs ks with
 |nil=>simp[dU] at h;subst h;exact r.n0
 |cons d ds ih =>
  obtain⟨u,us,rfl,r,rs⟩:=r.c;unfold dU at h
  cases e1:d.key1 with
  |none=>rw[e1] at h;simp at h
  |some k =>
   cases e2:dU ds with
   |none=>rw[e1,e2] at h;simp at h
   |some dc =>rw[e1,e2] at h;simp at h;subst h;rw[iF,r.key e1,ih rs e2]
theorem Rep.kM(r:Rep K H (.tup ds) v)(h:dU ds=some ks):∃ b,v=.ref b/\H b=some (.tup (ks.map kV)):=by
 cases r with
 |tup _ e rs=>exact⟨_,rfl,by rw[e,rs.keys h]⟩
end
section
variable {κ:Type}[DecidableEq κ]{K:aE}{H:Hp}
theorem zip_get{k:κ}{kvs:List (κ × D)}{vs:List V}(h:bT K H (kvs.map (·.2)) vs):match fw kvs k with
  |some d=>∃ v,g7 ((kvs.map (·.1)).zip vs) k=some v/\Rep K H d v
  |none=>g7 ((kvs.map (·.1)).zip vs) k=none:=by
 induction kvs generalizing vs with
 |nil=>rfl
 |cons p kvs ih =>
  obtain⟨u,us,rfl,r,rs⟩:=bT.c (d:=p.2) h;by_cases e:p.1=k
  ·have e1:fw (p :: kvs) k=some p.2:=by simp[fw,e]
   rw[e1];exact⟨_,by simp only[iF,Sg];exact xa e,r⟩
  ·have e1:fw (p :: kvs) k=fw kvs k:=by simp[fw,e]
   rw[e1];have:=ih rs;simp only[iF,Sg,xh (p:=(p.1,_)) e];exact this
end
section
variable {K:aE}{Hs H:Hp}
theorem QJ(w:Wf Hs H)(hp:H p=none)(ho:∀ vs,o≠.tup vs):e9 Hs H Hs (upd H p o) :=
 ⟨(bG.refl H).upd hp,bG.refl _,⟨w.sub.upd hp,fun a vs e=>by
  by_cases h:a=p
  ·subst h;rw[kQ] at e;exact absurd (Option.some.inj e) (ho vs)
  ·rw[iL h] at e;exact w.i9 a vs e⟩,fun _ h=>.inl h⟩
theorem QK(w:Wf Hs H)(hp:H p=none):e9 Hs H (upd Hs p (.tup vs)) (upd H p (.tup vs)) :=
 ⟨(bG.refl H).upd hp,(bG.refl Hs).upd (w.sub.free hp),⟨fun a o e=>by
  by_cases h:a=p
  ·subst h;rw[kQ] at e ⊢;exact e
  ·rw[iL h] at e ⊢;exact w.sub a o e,fun a vs e=>by
  by_cases h:a=p
  ·subst h;rw[kQ] at e ⊢;exact e
  ·rw[iL h] at e ⊢;exact w.i9 a vs e⟩,fun a h=>by
  by_cases e:a=p
  ·subst e;exact .inr hp
  ·rw[iL e] at h;exact .inl h⟩
theorem bV.nil:bV Hs H []:=⟨k9,fun a h=>nomatch h⟩
theorem bV.of(s:bG H H')(f:bV Hs H' As):bV Hs H As:=⟨f.1,fun a h=>⟨(f.2 a h).1,s.free (f.2 a h).2⟩⟩
abbrev Fin(K:aE)(Hs H:Hp)(Qd:Md->D->Prop)(Qv:VK):Prop:=∀ v H' ax m d As,e9 Hs H ax H'->RM K ax H' m d v As->bV ax H As->Qd m d->Qv v H'
theorem Fin.after(f:Fin K Hs H Qd Qv)(g:e9 Hs H ax H'):Fin K ax H' Qd Qv:=fun v H2 bq m d As g2 r fr q=>f v H2 bq m d As (g.trans g2) r (fr.of g.all) q
theorem Fin.sh(f:Fin K Hs H Qd Qv)(w:Wf Hs H)(r:Rep K Hs d v)(q:Qd .sh d):Qv v H:=f v H Hs .sh d [] (e9.refl w) ⟨rfl,r⟩ bV.nil q
theorem Fin.flat(f:Fin K Hs H Qd Qv)(w:Wf Hs H)(r:Rep K H d v)(hf:d.flat=true)(q:Qd .sh d):Qv v H:=f.sh w (r.gP w.i9 hf) q
theorem Fin.bo(f:Fin K Hs H Qd Qv)(w:Wf Hs H)(r:Rep K H d v)(q:Qd .bo d):Qv v H:=f v H Hs .bo d [] (e9.refl w) ⟨rfl,r⟩ bV.nil q
def qf(m:Md)(d:D):Md:=match m with
 |.sh=>.sh
 |_=>bif d.flat then .sh else .bo
theorem Fin.qf(f:Fin K Hs H Qd Qv)(w:Wf Hs H)(r:Rep K H d v)(rs:m=.sh->Rep K Hs d v)(q:Qd (qf m d) d):Qv v H:=by
 have o:Qd (bif d.flat then .sh else .bo) d->Qv v H:=fun q=>by
  cases hf:d.flat with
  |true=>exact f.flat w r hf (by simpa[hf] using q)
  |false=>exact f.bo w r (by simpa[hf] using q)
 cases m with
 |sh=>exact f.sh w (rs rfl) q
 |_=>exact o q
theorem Fin.lst(f:Fin K Hs H Qd Qv)(w:Wf Hs H)(hz:ds.length<=bS)(r:bT K H ds vs)(hf:dQ ds=true)(q:Qd (.ow true) (.list ds)):∀ p,H p=none->Qv (.ref p) (upd H p (.lst vs)):=fun p hp =>
 f _ _ Hs (.ow true) (.list ds) [p] (QJ w hp fun _ z=>nomatch z) ⟨.list (by rw[<- r.length];exact hz) kQ ((r.gP w.i9 hf).owned hf),by simp⟩ ⟨by simp,fun a h=>by
  obtain rfl:a=p:=by simpa using h
  exact⟨w.sub.free hp,hp⟩⟩ q
theorem Fin.QL(f:Fin K Hs H Qd Qv)(w:Wf Hs H)(hz:ds.length<=bS)(r:bT K Hs ds vs)(q:Qd (.ow false) (.list ds)):∀ p,H p=none->Qv (.ref p) (upd H p (.lst vs)):=fun p hp =>
 f _ _ Hs (.ow false) (.list ds) [p] (QJ w hp fun _ z=>nomatch z) ⟨.list (by rw[<- r.length];exact hz) kQ r.CZ,by simp⟩ ⟨by simp,fun a h=>by
  obtain rfl:a=p:=by simpa using h
  exact⟨w.sub.free hp,hp⟩⟩ q
theorem Fin.tup(f:Fin K Hs H Qd Qv)(w:Wf Hs H)(hz:ds.length<=bS)(r:bT K H ds vs)(hf:dQ ds=true)(q:Qd .sh (.tup ds)):∀ p,H p=none->Qv (.ref p) (upd H p (.tup vs)):=fun p hp =>
 f _ _ (upd Hs p (.tup vs)) .sh (.tup ds) [] (QK w hp) ⟨rfl,.tup (by rw[<- r.length];exact hz) kQ ((r.gP w.i9 hf).same ((bG.refl Hs).upd (w.sub.free hp)))⟩ bV.nil q
end
section
variable {X:Cx}{K:aE}
theorem PE.imp(h:PE X e te)(i:∀ σ H Q,xv σ H Q->te σ H Q):PE X e xv:=fun pins s σ H Q I q=>h pins s σ H Q I (i σ H Q q)
theorem PT.imp(h:PT X e te)(i:∀ σ H Q,xv σ H Q->te σ H Q):PT X e xv:=fun pins s σ H Q I q=>h pins s σ H Q I (i σ H Q q)
theorem PW.imp(h:PW X e te)(i:∀ σ H Q,xv σ H Q->te σ H Q):PW X e xv:=fun wh pins s σ H Q I q=>h wh pins s σ H Q I (i σ H Q q)
theorem PA.imp(h:PA X e te)(i:∀ σ H Q,xv σ H Q->te σ H Q):PA X e xv:=fun p pins s σ H Q I q=>h p pins s σ H Q I (i σ H Q q)
def N_:Option (Option Sl)->(Md->D->Prop)->Prop
 |some (some (.sh d)),Q=>Q .sh d
 |some (some (.ow _ d)),Q=>Q .bo d
 |some (some (.lk _ _ d)),Q=>Q .bo d
 |_,_=>False
def av(i:Nat):WE:=fun ρ Q=>N_ ρ[i]? Q
theorem G6(h:PE X e (DL i)):QE X K e (av i):=by
 refine PE.imp h fun σ H Qv hx=>kD hx fun Hs ρ ai Q sr h f=>?_;unfold av at h
 cases e:ρ[i]? with
 |none=>rw[e] at h;exact h.elim
 |some o =>
  cases o with
  |none=>rw[e] at h;exact h.elim
  |some sl =>
   obtain⟨v,e1,r⟩:=sr.sr.get e;rw[e] at h
   cases sl with
   |sh d=>exact⟨v,e1,Fin.sh f sr.wf r h⟩
   |xc a=>exact h.elim
   |ob a p=>exact h.elim
   |ow fl d =>obtain⟨As,_,r,_⟩:=r;exact⟨v,e1,Fin.bo f sr.wf (r.rep sr.wf.sub fun _ _=>rfl) h⟩
   |lk a fl d =>obtain⟨As,_,r,_⟩:=r;exact⟨v,e1,Fin.bo f sr.wf (r.rep sr.wf.sub fun _ _=>rfl) h⟩
theorem qv (i:Nat) (hN:X.N[i]? = some x:=by rfl) (hv:Nk X.env.scope x:=by first|exact Or.inl rfl|exact Or.inr (Or.inl rfl)|exact Or.inr (Or.inr rfl)) (hd:(x == ("__debug__" : Str))=false:=by decide) (rq:(x == ("__classdict__" : Str))=false:=by decide):QE X K (.Name x pos) (av i):=G6 (VR hN hv hd rq)
def wC(d:D):WE:=fun _ Q=>Q .sh d
theorem uv(h:PE X e (tC v))(r:∀ H,Rep K H d v):QE X K e (wC d) :=
 PE.imp h fun σ H Qv hx=>kD hx fun Hs ρ ai Q sr h f=>Fin.sh f sr.wf (r _) h
theorem ao{i j pos}:QE X K (.Constant (.int i) j pos) (wC (.int i)):=uv bB' fun _=>.int i
theorem dX{i j pos}(h:i.length<=bS:=by decide):QE X K (.Constant (.str i) j pos) (wC (.str i)):=uv bE' fun _=>.str h
theorem qh{i j pos}:QE X K (.Constant (.bool i) j pos) (wC (.bl i)):=uv bC' fun _=>.bl i
theorem xG{j pos}:QE X K (.Constant .none j pos) (wC .non):=uv bD' fun _=>.non
theorem fF' (h:T9 X.mg x z) (hg:Gl X x:=by rfl) (hd:(x == ("__debug__" : Str))=false:=by decide) (hz:z.length<=bS:=by decide):QE X K (.Name x pos) (wC (.str z)):=uv (Hd h hg hd) fun _=>.str hz
theorem QN (h:Mi X.mg x i) (hg:Gl X x:=by rfl) (hd:(x == ("__debug__" : Str))=false:=by decide):QE X K (.Name x pos) (wC (.int i)):=uv (Ho h hg hd) fun _=>.int i
abbrev W2:=Md->D->Md->D->(Md->D->Prop)->Prop
abbrev W1:=Md->D->(Md->D->Prop)->Prop
def nK(K:aE)(r:R2)(f:W2):Prop:=∀ Hs H m x v As n y u Bs Qd Qv,Wf Hs H->RM K Hs H m x v As->RM K Hs H n y u Bs->f m x n y Qd->Fin K Hs H Qd Qv->r v u H Qv
def QQ(K:aE)(r:V->Hp->VK->Prop)(f:W1):Prop:=∀ Hs H m x v As Qd Qv,Wf Hs H->RM K Hs H m x v As->f m x Qd->Fin K Hs H Qd Qv->r v H Qv
def aC(f:W2)(ta tb:WE):WE:=fun ρ Q=>ta ρ fun m x=>tb ρ fun n y=>f m x n y Q
def fP(f:W1)(ta:WE):WE:=fun ρ Q=>ta ρ fun m x=>f m x Q
variable {a b:Expr}{ta tb tc:WE}{pos:Pos}
theorem mU(br:nK K r f)(σ:St)(H:Hp)(Qv:VK)(h:nI K (aC f ta tb) σ H Qv):Nv r (nI K ta) (nI K tb) σ H Qv:=by obtain⟨Hs,ρ,ai,Q,sr,h,fin⟩:=h;refine⟨Hs,ρ,ai,_,sr,h,fun v H1 bE m x As g1 r1 f1 q1=>⟨bE,ρ,ai,_,sr.grow g1,q1,fun u H2 bq n y Bs g2 r2 f2 q2=>?_⟩⟩;exact br bq H2 m x v As n y u Bs Q Qv g2.wf (r1.grow g2) r2 q2 (Fin.after fin (g1.trans g2))
theorem Oa(ho:eJ X (px op) r)(br:nK K r f)(ha:QE X K a ta)(hb:QE X K b tb):QE X K (.BinOp a op b pos) (aC f ta tb):=PE.imp (cq' ho ha hb) (mU br)
theorem mQ(ho:eJ X (hV op) r)(br:nK K r f)(ha:QE X K a ta)(hb:QE X K b tb)(hm:Li op b=false:=by first|exact Wb _|rfl):QE X K (.Compare a [op] [b] pos) (aC f ta tb):=PE.imp (cI' ho ha hb hm) (mU br)
def wB(t:WE):WT:=fun ρ Q=>t ρ fun _ x=>match x with
 |.bl b=>Q b
 |_=>False
theorem yM(σ:St)(H:Hp)(Qv:Bool->Hp->Prop)(h:FD K (wB t) σ H Qv):Ti (nI K t) σ H Qv:=by
 obtain⟨Hs,ρ,ai,Q,sr,h,fin⟩:=h;refine⟨Hs,ρ,ai,_,sr,h,fun v H1 bE m x As g1 r1 f1 q1=>?_⟩;have r:=r1.rep g1.wf
 cases r with
 |bl b=>exact⟨b,rfl,fin b H1 bE g1 q1⟩
 |_=>exact q1.elim
theorem bD(ho:eJ X (hV op) r)(br:nK K r f)(ha:QE X K a ta)(hb:QE X K b tb)(hm:Li op b=false:=by first|exact Wb _|rfl):QT X K (.Compare a [op] [b] pos) (wB (aC f ta tb)):=by
 refine PT.imp (cJ' ho ha hb hm) fun σ H Qv h=>?_;obtain⟨Hs,ρ,ai,Q,sr,h,fin⟩:=h;refine mU br σ H _ ⟨Hs,ρ,ai,_,sr,h,fun v H1 bE m x As g1 r1 f1 q1=>?_⟩;have r:=r1.rep g1.wf
 cases r with
 |bl b=>exact⟨b,rfl,fin b H1 bE g1 q1⟩
 |_=>exact q1.elim
theorem cM(h:QE X K a t)(he:∀ whole,isTrue a X.env whole=(do let v <- whole;standAt a.pos;holding [v] (truthy v)):=by intro _;rfl):QT X K a (wB t):=PT.imp (bG' h he) yM
def ou(f g:W2)(ta tb tc:WE):WE:=fun ρ Q=>ta ρ fun m x=>tb ρ fun n y=>f m x n y fun _ z=>match z with
 |.bl k=>if k=true then tc ρ fun l w=>g n y l w Q else Q .sh (.bl false)
 |_=>False
end
end L2.Q
namespace L2.Q
open PySem PySem.Spec PyProof.Rows
section
variable {X:Cx}{K:aE}{a b c:Expr}{ta tb tc:WE}{pos:Pos}
theorem ug(br:nK K r f)(Ut:nK K r' g)(σ:St)(H:Hp)(Qv:VK)(h:nI K (ou f g ta tb tc) σ H Qv):Wc r r' (nI K ta) (nI K tb) (nI K tc) σ H Qv:=by
 obtain⟨Hs,ρ,ai,Q,sr,h,fin⟩:=h;refine⟨Hs,ρ,ai,_,sr,h,fun v H1 bE m x As g1 r1 f1 q1=>⟨bE,ρ,ai,_,sr.grow g1,q1,fun u H2 bq n y Bs g2 r2 f2 q2=>?_⟩⟩;refine br bq H2 m x v As n y u Bs _ _ g2.wf (r1.grow g2) r2 q2 fun z H3 fS m3 d3 Ob g3 r3 f3 q3=>?_;have rr:=r3.rep g3.wf
 cases rr with
 |bl k =>
  refine⟨k,rfl,?_⟩;have Qz:Fin K fS H3 Q Qv:=Fin.after fin ((g1.trans g2).trans g3)
  cases k with
  |false=>exact Qz.sh g3.wf (.bl false) q3
  |true =>refine⟨fS,ρ,ai,_,((sr.grow g1).grow g2).grow g3,q3,fun w H4 Mr l z Ms g4 r4 f4 q4=>?_⟩;exact Ut Mr H4 n y u Bs l z w Ms Q Qv g4.wf ((r2.grow g3).grow g4) r4 q4 (Fin.after Qz g4)
 |_=>exact q3.elim
theorem yh(ho:eJ X (hV op) r)(og:eJ X (hV op') r')(br:nK K r f)(Ut:nK K r' g)(ha:QE X K a ta)(hb:QE X K b tb)(hc:QE X K c tc)(hm:lastMarks [op,op'] [b,c]=false:=by with_unfolding_all rfl):QT X K (.Compare a [op,op'] [b,c] pos) (wB (ou f g ta tb tc)):=by
 refine PT.imp (cK' ho og ha hb hc hm) fun σ H Qv h=>?_;obtain⟨Hs,ρ,ai,Q,sr,h,fin⟩:=h;refine ug br Ut σ H _ ⟨Hs,ρ,ai,_,sr,h,fun v H1 bE m x As g1 r1 f1 q1=>?_⟩;have r:=r1.rep g1.wf
 cases r with
 |bl b=>exact⟨b,rfl,fin b H1 bE g1 q1⟩
 |_=>exact q1.elim
def AK(t u:WT):WT:=fun ρ Q=>t ρ fun c=>if c=true then Q true else u ρ Q
def sd(t:WT):WT:=fun ρ Q=>t ρ fun c=>Q (!c)
variable {tA tB:WT}{rest:List Expr}
theorem rD{t u:WT}{f:Bool->TT}{σ:St}{H:Hp}{Qv:Bool->Hp->Prop}{G:Bool->(Bool->Prop)->Env->Prop}(h:FD K (fun ρ Q=>t ρ fun c=>G c Q ρ) σ H Qv)(i:∀ c H1 bE ρ ai Q,d5 K bE ρ σ H1 ai->G c Q ρ->(∀ b H' ax,e9 bE H1 ax H'->Q b->Qv b H')->f c σ H1 Qv):FD K t σ H fun c H1=>f c σ H1 Qv:=by
 obtain⟨Hs,ρ,ai,Q,sr,h,fin⟩:=h;exact⟨Hs,ρ,ai,_,sr,h,fun c H1 bE g1 q1=>i c H1 bE ρ ai Q (sr.grow g1) q1 fun b H' ax g2=>fin b H' ax (g1.trans g2)⟩
theorem kW(ha:QT X K a tA):QW X K (.BoolOp .Or [a] pos) tA:=pw_or1 ha
theorem nO(ha:QT X K a tA)(hb:QW X K (.BoolOp .Or (b :: rest) pos) tB):QW X K (.BoolOp .Or (a :: b :: rest) pos) (AK tA tB):=by
 refine PW.imp (pw_or ha hb) fun σ H Qv h=>?_;refine rD (u:=tB) (f:=fun c σ H1 Q=>if c=true then Q true H1 else FD K tB σ H1 Q) h fun c H1 bE ρ ai Q sr q fin=>?_
 cases c with
 |true=>exact fin true H1 bE (e9.refl sr.wf) q
 |false=>exact⟨bE,ρ,ai,Q,sr,q,fin⟩
theorem Mt(h:QW X K a tA):QT X K a tA:=h _
theorem cI(ha:QT X K a tA):QT X K (.UnaryOp .Not a pos) (sd tA):=by refine PT.imp (bJ' ha) fun σ H Qv h=>?_;exact rD (u:=tA) (f:=fun c σ H1 Q=>Q (!c) H1) h fun c H1 bE ρ ai Q sr q fin=>fin _ H1 bE (e9.refl sr.wf) q
def qb(ta tb:WE):WE:=fun ρ Q=>ta ρ fun _ x=>match x with
 |.bl c=>if c=true then tb ρ Q else Q .sh (.bl false)
 |_=>False
def QR(ta tb:WE):WE:=fun ρ Q=>ta ρ fun _ x=>match x with
 |.bl c=>if c=true then Q .sh (.bl true) else tb ρ Q
 |_=>False
def xW(ta:WE):WE:=fun ρ Q=>ta ρ fun _ x=>match x with
 |.bl c=>Q .sh (.bl (!c))
 |_=>False
theorem yQ{op}(h:QE X K a ta):QE X K (.BoolOp op [a] pos) ta:=bN' h
theorem xu(ha:QE X K a ta)(hb:QE X K (.BoolOp .And (b :: rest) pos) tb):QE X K (.BoolOp .And (a :: b :: rest) pos) (qb ta tb):=by
 refine PE.imp (bO' ha hb) fun σ H Qv hx=>kD hx fun Hs ρ ai Q sr h fin=>?_;refine⟨Hs,ρ,ai,_,sr,h,fun v H1 bE m x As g1 r1 f1 q1=>?_⟩;have r:=r1.rep g1.wf
 cases r with
 |bl c =>
  refine⟨c,rfl,?_⟩
  cases c with
  |true=>exact⟨bE,ρ,ai,Q,sr.grow g1,q1,Fin.after fin g1⟩
  |false=>exact Fin.sh (Fin.after fin g1) g1.wf (.bl false) q1
 |_=>exact q1.elim
theorem fG'(ha:QE X K a ta)(hb:QE X K (.BoolOp .Or (b :: rest) pos) tb):QE X K (.BoolOp .Or (a :: b :: rest) pos) (QR ta tb):=by
 refine PE.imp (bP' ha hb) fun σ H Qv hx=>kD hx fun Hs ρ ai Q sr h fin=>?_;refine⟨Hs,ρ,ai,_,sr,h,fun v H1 bE m x As g1 r1 f1 q1=>?_⟩;have r:=r1.rep g1.wf
 cases r with
 |bl c =>
  refine⟨c,rfl,?_⟩
  cases c with
  |true=>exact Fin.sh (Fin.after fin g1) g1.wf (.bl true) q1
  |false=>exact⟨bE,ρ,ai,Q,sr.grow g1,q1,Fin.after fin g1⟩
 |_=>exact q1.elim
theorem G9(ha:QE X K a ta):QE X K (.UnaryOp .Not a pos) (xW ta):=by
 refine PE.imp (bQ' ha) fun σ H Qv hx=>kD hx fun Hs ρ ai Q sr h fin=>?_;refine⟨Hs,ρ,ai,_,sr,h,fun v H1 bE m x As g1 r1 f1 q1=>?_⟩;have r:=r1.rep g1.wf
 cases r with
 |bl c=>exact⟨c,rfl,Fin.sh (Fin.after fin g1) g1.wf (.bl _) q1⟩
 |_=>exact q1.elim
def QV:D->Option Bool
 |.non=>some false
 |.bl b=>some b
 |.int i=>some (i != 0)
 |.str x=>some ((x.length:Int) != 0)
 |.list xs=>some !xs.isEmpty
 |.tup xs=>some !xs.isEmpty
 |.dK kvs=>none
 |.dT kvs=>none
def QX(t:WE):WT:=fun ρ Q=>t ρ fun _ x=>∃ b,QV x=some b/\Q b
end
def gv:W2:=fun m x n y Q=>match x,y with
 |.int i,.int j=>Q .sh (.int (i+j))
 |.str i,.str j=>i.length+j.length<=bS/\Q .sh (.str (i++j))
 |.list xs,.list ys=>xs.length+ys.length<=bS/\((dQ xs=true/\dQ ys=true/\Q (.ow true) (.list (xs++ys)))\/(m=.sh/\n=.sh/\Q (.ow false) (.list (xs++ys))))
 |.tup xs,.tup ys=>xs≠[]/\xs.length+ys.length<=bS/\dQ xs=true/\dQ ys=true/\Q .sh (.tup (xs++ys))
 |_,_=>False
def Oc(P:Int->Int->(Md->D->Prop)->Prop):W2:=fun _ x _ y Q=>match x,y with
 |.int i,.int j=>P i j Q
 |_,_=>False
def Od(P:Int->Int->(Md->D->Prop)->Prop)(S:Str->Str->(Md->D->Prop)->Prop):W2:=fun _ x _ y Q=>match x,y with
 |.int i,.int j=>P i j Q
 |.str i,.str j=>S i j Q
 |_,_=>False
def oo:W2:=Oc fun i j Q=>L5 i j/\Q .sh (.int (i*j))
def nL:W2:=Oc fun i j Q=>(0<j/\j<1073741824)/\Q .sh (.int (i / j))
def ke:W2:=Oc fun i j Q=>0<j/\Q .sh (.int (i % j))
def QY:W2:=Od (fun i j Q=>Q .sh (.bl (decide (i<j)))) fun i j Q=>Q .sh (.bl (rX i j))
def Oe:W2:=Od (fun i j Q=>Q .sh (.bl (decide (i<=j)))) fun i j Q=>Q .sh (.bl (!rX j i))
def FE:W2:=Oc fun i j Q=>Q .sh (.bl (decide (j<i)))
def qk:W2:=fun _ x _ y Q=>match x,y with
 |.int i,.int j=>Q .sh (.bl (decide (i=j)))
 |.str i,.str j=>Q .sh (.bl (decide (i=j)))
 |.bl i,.bl j=>Q .sh (.bl (decide (i=j)))
 |_,_=>eh 12 x=true/\eh 12 y=true/\Q .sh (.bl (kE x y))
def zh:W2:=fun _ x _ y Q=>match x,y with
 |.int i,.int j=>Q .sh (.bl (!decide (i=j)))
 |.str i,.str j=>Q .sh (.bl (!decide (i=j)))
 |.bl i,.bl j=>Q .sh (.bl (!decide (i=j)))
 |_,_=>eh 12 x=true/\eh 12 y=true/\Q .sh (.bl (!kE x y))
def D.QZ:D->Bool
 |.non=>true
 |_=>false
def Cg:W2:=fun _ x _ y Q=>match y with
 |.non=>Q .sh (.bl (!x.QZ))
 |_=>False
def eX:D->Bool
 |.non=>true
 |.bl _=>true
 |.int _=>true
 |.str _=>true
 |_=>false
def inD(x:D)(ys:List D):Bool:=ys.any fun y=>kE y x
def AO(neg:Bool):W2:=fun _ x _ y Q=>match y with
 |.str j=>match x with
  |.str i=>Q .sh (.bl (if neg then !BU i j else BU i j))
  |_=>False
 |.list ys=>eX x=true/\ys.all eX=true/\Q .sh (.bl (if neg then !inD x ys else inD x ys))
 |.tup ys=>eX x=true/\ys.all eX=true/\Q .sh (.bl (if neg then !inD x ys else inD x ys))
 |.dK kvs=>∃ k,x.key1=some k/\Q .sh (.bl (if neg then !(fw kvs k).isSome else (fw kvs k).isSome))
 |.dT kvs=>match x with
  |.tup xs=>∃ ks,dU xs=some ks/\Q .sh (.bl (if neg then !(fw kvs ks).isSome else (fw kvs ks).isSome))
  |_=>False
 |_=>False
section
variable {K:aE}
theorem v7(f:Fin K Hs H Qd Qv)(w:Wf Hs H)(h:x.length<=bS)(q:Qd .sh (.str x)):Qv (.str x) H:=f.sh w (.str h) q
theorem aW(i j:Str):(i++j).length=i.length+j.length:=by show((i++j).cps.size)=_;show(i.cps++j.cps).size=_;simp[Str.length]
theorem DR:nK K (fun x y H Q=>yG K x y H Q\/Tw K x y H Q) gv:=by
 intro Hs H m x v As n y u Bs Qd Qv w rx ry h f;have r1:=rx.rep w;have r2:=ry.rep w;unfold gv at h
 cases r1 with
 |int i=>cases r2 with
  |int j=>exact .inl (f.sh w (.int _) h)
  |_=>exact h.elim
 |str hi=>cases r2 with
  |str hj=>exact .inl ⟨h.1,v7 f w (by rw[aW];exact h.1) h.2⟩
  |_=>exact h.elim
 |list z1 s1 q1=>cases r2 with
  |list z2 s2 q2 =>
   have l1:=q1.length;have l2:=q2.length;have hz:=h.1;rcases h.2 with⟨f1,f2,q⟩|⟨rfl,rfl,q⟩
   ·refine .inl ⟨_,_,s1,s2,by lia,?_⟩;exact f.lst w (by rw[kH];exact hz) (q1.append q2) (by rw[iU,f1,f2];rfl) q
   ·obtain⟨_,rx⟩:=rx;obtain⟨_,ry⟩:=ry
    cases rx with
    |list z1' s1' ZQ=>cases ry with
     |list z2' s2' ZR =>have l1:=ZQ.length;have l2:=ZR.length;refine .inl ⟨_,_,bG.seq w.sub s1',bG.seq w.sub s2',by lia,?_⟩;exact f.QL w (by rw[kH];exact hz) (ZQ.append ZR) q
  |_=>exact h.elim
 |tup t1 s1 q1=>cases r2 with
  |tup t2 s2 q2 =>
   have l1:=q1.length;have l2:=q2.length;obtain⟨gX,hz,f1,f2,q⟩:=h;refine .inr ⟨_,_,_,_,rfl,rfl,.inl (.inl s1),.inl (.inl s2),?_,by lia,?_⟩
   ·intro e;subst e;exact gX (Pk.mp l1)
   ·refine⟨fun e=>?_,fun _=>f.tup w (by rw[kH];exact hz) (q1.append q2) (by rw[iU,f1,f2];rfl) q⟩;subst e;cases q2;rw[kr] at q;exact f.flat w (.tup t1 s1 q1) (by simpa[D.flat] using f1) q
  |_=>exact h.elim
 |_=>exact h.elim
theorem zq{H:Hp}{x y:D}{v u:V}{m n:Md}{P:Int->Int->(Md->D->Prop)->Prop}{S:Str->Str->(Md->D->Prop)->Prop}{Q:Md->D->Prop}{G:Prop}(r1:Rep K H x v)(r2:Rep K H y u)(h:Od P S m x n y Q)(k:∀ i j,v=.int i->u=.int j->P i j Q->G)(ks:∀ i j,v=.str i->u=.str j->S i j Q->G):G:=by
 cases r1 with
 |int i=>cases r2 with
  |int j=>exact k i j rfl rfl h
  |_=>exact h.elim
 |str hi=>cases r2 with
  |str hj=>exact ks _ _ rfl rfl h
  |_=>exact h.elim
 |_=>exact h.elim
theorem mY{H:Hp}{x y:D}{v u:V}{m n:Md}{P:Int->Int->(Md->D->Prop)->Prop}{Q:Md->D->Prop}{G:Prop}(r1:Rep K H x v)(r2:Rep K H y u)(h:Oc P m x n y Q)(k:∀ i j,v=.int i->u=.int j->P i j Q->G):G:=by
 cases r1 with
 |int i=>cases r2 with
  |int j=>exact k i j rfl rfl h
  |_=>exact h.elim
 |_=>exact h.elim
theorem Eo:nK K Ah oo:=by
 intro Hs H m x v As n y u Bs Qd Qv w rx ry h f;exact mY (rx.rep w) (ry.rep w) h fun i j e1 e2 q=>by subst e1 e2;exact⟨q.1,f.sh w (.int _) q.2⟩
theorem Dh:nK K Cw nL:=by
 intro Hs H m x v As n y u Bs Qd Qv w rx ry h f;exact mY (rx.rep w) (ry.rep w) h fun i j e1 e2 q=>by subst e1 e2;exact⟨q.1,f.sh w (.int _) q.2⟩
theorem Eg:nK K Af ke:=by
 intro Hs H m x v As n y u Bs Qd Qv w rx ry h f;exact mY (rx.rep w) (ry.rep w) h fun i j e1 e2 q=>by subst e1 e2;exact⟨q.1,f.sh w (.int _) q.2⟩
theorem uc:nK K T4 FE:=by
 intro Hs H m x v As n y u Bs Qd Qv w rx ry h f;exact mY (rx.rep w) (ry.rep w) h fun i j e1 e2 q=>by subst e1 e2;exact f.sh w (.bl _) q
theorem Gw:nK K TY QY:=by
 intro Hs H m x v As n y u Bs Qd Qv w rx ry h f;exact zq (rx.rep w) (ry.rep w) h (fun i j e1 e2 q=>by
  subst e1 e2;exact f.sh w (.bl _) q) fun i j e1 e2 q=>by
  subst e1 e2;exact f.sh w (.bl _) q
theorem Er:nK K T1 Oe:=by
 intro Hs H m x v As n y u Bs Qd Qv w rx ry h f;exact zq (rx.rep w) (ry.rep w) h (fun i j e1 e2 q=>by
  subst e1 e2;exact f.sh w (.bl _) q) fun i j e1 e2 q=>by
  subst e1 e2;exact f.sh w (.bl _) q
theorem eq_data(w:Wf Hs H)(rx:Rep K H x v)(ry:Rep K H y u)(f:Fin K Hs H Qd Qv)(h:eh 12 x=true/\eh 12 y=true/\Qd .sh (.bl (kE x y))):T7 K v u H Qv:=by obtain⟨h1,h2,q⟩:=h;have l1:=rM 12 x h1;have l2:=rM 12 y h2;exact⟨x.py,y.py,rx.l2 h1,ry.l2 h2,l1.1,l2.1,by lia,f.sh w (.bl _) q⟩
theorem ne_data(w:Wf Hs H)(rx:Rep K H x v)(ry:Rep K H y u)(f:Fin K Hs H Qd Qv)(h:eh 12 x=true/\eh 12 y=true/\Qd .sh (.bl (!kE x y))):T8 K v u H Qv:=by obtain⟨h1,h2,q⟩:=h;have l1:=rM 12 x h1;have l2:=rM 12 y h2;exact⟨x.py,y.py,rx.l2 h1,ry.l2 h2,l1.1,l2.1,by lia,f.sh w (.bl _) q⟩
theorem jD:nK K (Qq K) qk:=by
 intro Hs H m x v As n y u Bs Qd Qv w rx ry h f;have r1:=rx.rep w;have r2:=ry.rep w;have d:=fun h=>eq_data (Qd:=Qd) (Qv:=Qv) w r1 r2 f h
 cases r1 with
 |int i=>cases r2 with
  |int j=>exact f.sh w (.bl _) h
  |_=>exact d h
 |str i=>cases r2 with
  |str j=>exact f.sh w (.bl _) h
  |_=>exact d h
 |bl i=>cases r2 with
  |bl j=>exact f.sh w (.bl _) h
  |_=>exact d h
 |_=>exact d h
theorem xn:nK K (Qr K) zh:=by
 intro Hs H m x v As n y u Bs Qd Qv w rx ry h f;have r1:=rx.rep w;have r2:=ry.rep w;have d:=fun h=>ne_data (Qd:=Qd) (Qv:=Qv) w r1 r2 f h
 cases r1 with
 |int i=>cases r2 with
  |int j=>exact f.sh w (.bl _) h
  |_=>exact d h
 |str i=>cases r2 with
  |str j=>exact f.sh w (.bl _) h
  |_=>exact d h
 |bl i=>cases r2 with
  |bl j=>exact f.sh w (.bl _) h
  |_=>exact d h
 |_=>exact d h
theorem Ad(r:Rep K H x v):decide (v=V.non)=x.QZ:=by cases r<;>first|rfl|exact decide_eq_false (fun z=>nomatch z)
theorem Az:nK K (fun x y H Q=>y=.non/\Q (.bl (!decide (x=.non))) H) Cg:=by
 intro Hs H m x v As n y u Bs Qd Qv w rx ry h f;have r1:=rx.rep w;have r2:=ry.rep w;have e:=Ad r1
 cases r2 with
 |non=>exact⟨rfl,by rw[e];exact f.sh w (.bl _) h⟩
 |_=>exact h.elim
theorem jC(r:Rep K H x v)(h:eX x=true):BO v=true:=by cases r<;>first|rfl|(simp[eX] at h)
theorem Ci(r:Rep K H x v)(s:Rep K H y u)(h:eX x=true)(g:eX y=true):DZ v u=kE x y:=by cases r<;>simp[eX] at h<;>cases s<;>simp[eX] at g<;>rfl
theorem CN(r:Rep K H x v)(h:eX x=true)(rs:bT K H ys us)(g:ys.all eX=true):us.all BO=true/\Qe v us=inD x ys:=by
 induction ys generalizing us with
 |nil=>rw[rs.n0];exact⟨rfl,rfl⟩
 |cons y ys ih =>
  obtain⟨u,us,rfl,s,ss⟩:=rs.c;simp only[EV,k7] at g;obtain⟨e1,e2⟩:=ih ss g.2;refine⟨by simp only[EV,jC s g.1,e1,PF],?_⟩;unfold Qe inD at *
  rw[GV,GV,e2,Ci s r g.1 h]
theorem oF{κ:Type}[DecidableEq κ]{H:Hp}{k:κ}{kvs:List (κ × D)}{vs:List V}(r:bT K H (kvs.map (·.2)) vs):(g7 ((kvs.map (·.1)).zip vs) k).isSome=(fw kvs k).isSome:=by
 have:=zip_get (k:=k) r;split at this
 ·rename_i e;obtain⟨v,e1,_⟩:=this;rw[e1,e];rfl
 ·rename_i e;rw[this,e];rfl
theorem wN:nK K (IH K neg) (AO neg):=by
 intro Hs H m x v As n y u Bs Qd Qv w rx ry h f;have r1:=rx.rep w;have r2:=ry.rep w
 cases r2 with
 |str j=>cases r1 with
  |str i=>exact f.sh w (.bl _) h
  |_=>exact h.elim
 |list z s q =>
  obtain⟨h1,h2,h3⟩:=h;obtain⟨e1,e2⟩:=CN r1 h1 q h2;have h4:=jC r1 h1;have g:NF K neg v (.ref _) H Qv:=⟨_,_,rfl,.inl s,h4,e1,by rw[e2];exact f.sh w (.bl _) h3⟩
  cases r1<;>exact .inr g
 |tup _ s q =>
  obtain⟨h1,h2,h3⟩:=h;obtain⟨e1,e2⟩:=CN r1 h1 q h2;have h4:=jC r1 h1;have g:NF K neg v (.ref _) H Qv:=⟨_,_,rfl,.inr (.inl (.inl s)),h4,e1,by rw[e2];exact f.sh w (.bl _) h3⟩
  cases r1<;>exact .inr g
 |dK kk e q =>obtain⟨k,hk,h3⟩:=h;have ev:=r1.key hk;subst ev;have eg:=oF (k:=k) q;cases k<;>exact .inl ⟨_,mz.k' e,by rw[eg];exact f.sh w (.bl _) h3⟩
 |dT kk e q =>
  cases r1 with
  |tup t1 e1 q1 =>obtain⟨ks,hk,h3⟩:=h;obtain⟨b,eb,e2⟩:=Rep.kM (.tup t1 e1 q1) hk;cases eb;have eg:=oF (k:=ks) q;exact .inl ⟨_,mz.t' e e2,by rw[eg];exact f.sh w (.bl _) h3⟩
  |_=>exact h.elim
 |_=>exact h.elim
end
section
variable {X:Cx}{K:aE}{a b:Expr}{ta tb:WE}{pos:Pos}
theorem GF(hK:X.K=K:=by rfl):eJ X (px .Add) (fun x y H Q=>yG K x y H Q\/Tw K x y H Q):=by subst hK;exact Bt.or ds'
theorem bx(ha:QE X K a ta)(hb:QE X K b tb)(hK:X.K=K:=by rfl):QE X K (.BinOp a .Add b pos) (aC gv ta tb):=Oa (GF hK) DR ha hb
theorem eQ(ha:QE X K a ta)(hb:QE X K b tb):QE X K (.BinOp a .Mult b pos) (aC oo ta tb):=Oa Bb Eo ha hb
theorem dW(ha:QE X K a ta)(hb:QE X K b tb):QE X K (.BinOp a .FloorDiv b pos) (aC nL ta tb):=Oa Cd Dh ha hb
theorem cg(ha:QE X K a ta)(hb:QE X K b tb):QE X K (.BinOp a .Mod b pos) (aC ke ta tb):=Oa zP Eg ha hb
end
def cy:WA:=fun _ Q=>Q []
def ak(te:WE)(t:WA):WA:=fun ρ Q=>te ρ fun m x=>t ρ fun ps=>Q ((m,x) :: ps)
def AQ:Md × D->Bool
 | (.sh,_)=>true
 | (_,d)=>d.flat
def IY:Md × D->Bool
 | (.bo,d)=>d.flat
 | (.fr,d)=>d.flat
 |_=>true
def FG:Md × D->Bool
 | (.ow true,_)=>true
 | (_,d)=>d.flat
def uA(ps:List (Md × D)):Md:=bif ps.all AQ then .sh else bif ps.all IY then .ow (ps.all FG) else .bo
def Cv(ps:List (Md × D)):Md:=bif ps.all IY then .ow (ps.all FG) else .bo
def iA(t:WA):WE:=fun ρ Q=>t ρ fun ps=>ps.length<=bS/\Q (uA ps) (.tup (ps.map (·.2)))
def nS(t:WA):WE:=fun ρ Q=>t ρ fun ps=>ps.length<=bS/\Q (Cv ps) (.list (ps.map (·.2)))
section
variable {X:Cx}{K:aE}{e:Expr}{es:List Expr}{te:WE}{t:WA}{pos:Pos}{Hs H:Hp}
theorem aq:QA X K [] cy:=PA.imp rL fun σ H Qv hx=>kD hx fun Hs ρ ai Q sr h f=>f [] H Hs [] [] (e9.refl sr.wf) .nil bV.nil h
theorem bV.app(f1:bV bE H As)(o:∀ a∈As,H1 a≠none)(f2:bV bq H1 Bs)(s:bG H H1)(k:∀ a,bE a=none->H1 a≠none->bq a=none):bV bq H (As++Bs) :=
 ⟨iS.mpr ⟨f1.1,f2.1,fun a ha b hb e=>by subst e;exact o a ha (f2.2 a hb).2⟩,fun a h=>by
  rcases eS.mp h with h|h
  ·exact⟨k a (f1.2 a h).1 (o a h),(f1.2 a h).2⟩
  ·exact⟨(f2.2 a h).1,s.free (f2.2 a h).2⟩⟩
theorem aa(ha:QE X K e te)(hr:QA X K es t)(hs:bI (e :: es) X.env=(false,cv e X.env) :: bI es X.env:=by rfl):QA X K (e :: es) (ak te t):=by refine PA.imp (mr ha hr hs) fun σ H Qv hx=>kD hx fun Hs ρ ai Q sr h f=>?_;refine⟨Hs,ρ,ai,_,sr,h,fun v H1 bE m x As g1 r1 f1 q1=>⟨bE,ρ,ai,_,sr.grow g1,q1,fun vs H2 bq ps Bs g2 r2 f2 q2=>?_⟩⟩;exact f (v :: vs) H2 bq _ _ (g1.trans g2) (.cons (r1.grow g2) r2) (f1.app (fun a h=>(r1.own a h).ne) f2 g1.all fun a h1 h2=>g2.pd h1 h2) q2
theorem AI.sh(w:Wf Hs H){ps:List (Md × D)}(r:AI K Hs H ps vs As):ps.all AQ=true->bT K Hs (ps.map (·.2)) vs:=by
 induction r with
 |nil=>exact fun _=>.nil
 |@cons m d v ps vs As Bs r rs ih =>
  intro h;simp only[EV,k7] at h;refine .cons ?_ (ih h.2)
  cases m with
  |sh=>exact r.2
  |_=>exact r.flat w h.1
theorem AI.ow(w:Wf Hs H){ps:List (Md × D)}(r:AI K Hs H ps vs As):ps.all IY=true->(fl=true->ps.all FG=true)->∃ Bs,Bs.Sublist As/\(ps.all AQ=false->Bs≠[])/\az K Hs H fl (ps.map (·.2)) vs Bs:=by
 induction r with
 |nil=>exact fun _ _=>⟨[],CM _,(fun z=>Bool.noConfusion z),.nil⟩
 |@cons m d v ps vs A1 Cs r rs ih =>
  intro h hf;simp only[EV,k7] at h hf;obtain⟨Bs,sb,ne,q⟩:=ih h.2 fun z=>(hf z).2;have sk:([]++Bs).Sublist (A1++Cs):=by simpa using sb.trans (lS _ _)
  have Bn:d.flat=true->AQ (m,d)=true->∃ Bs,Bs.Sublist (A1++Cs)/\(((m,d) :: ps).all AQ=false->Bs≠[])/\az K Hs H fl (((m,d) :: ps).map (·.2)) (v :: vs) Bs:=fun hd ho =>
   ⟨[]++Bs,sk,fun z=>ne (by rw[EV,ho] at z;simpa using z),.cons (.sh (fun _=>hd) (r.flat w hd)) q⟩
  cases m with
  |sh=>exact⟨[]++Bs,sk,fun z=>ne (by simpa[AQ] using z),.cons (.sh (fun z=>(hf z).1) r.2) q⟩
  |bo=>exact Bn h.1 h.1
  |fr=>exact Bn h.1 h.1
  |ow b =>
   cases hd:d.flat with
   |true=>exact Bn hd hd
   |false =>
    refine⟨A1++Bs,sb.append_left _,fun _ z=>r.2 (MT.mp z).1,.cons ?_ q⟩
    cases fl with
    |false=>exact cx.QF r.1
    |true =>
     have:=(hf rfl).1
     cases b with
     |true=>exact r.1
     |false=>simp[FG,hd] at this
theorem nQ:∀ {ps:List (Md × D)},dQ (ps.map (·.2))=true->ps.all AQ=true
 |[],_=>rfl
 | (m,d) :: ps,h=>by simp only[iF,dQ,k7] at h;simp only[EV,k7];exact⟨by cases m<;>simp[AQ,h.1],nQ h.2⟩
theorem bu{x1}(h:QA X K es t):QE X K (.Tuple es x1 pos) (iA t):=by
 refine PE.imp (Ts h) fun σ H Qv hx=>kD hx fun Hs ρ ai Q sr h f=>?_;refine⟨Hs,ρ,ai,_,sr,h,fun vs H1 bE ps As g1 r1 f1 q1=>?_⟩;obtain⟨hz,q⟩:=q1;have rl:=(r1.reps g1.wf)
 have hl:=rl.length;rw[cK] at hl;refine⟨by lia,fun p hp=>?_⟩;have g2:=QK (vs:=vs) g1.wf hp;have fin:=Fin.after f g1;unfold uA at q
 cases h1:ps.all AQ with
 |true =>rw[h1] at q;exact fin _ _ _ .sh _ [] g2 ⟨rfl,.tup (by lia) kQ ((r1.sh g1.wf h1).same g2.sh)⟩ bV.nil q
 |false =>
  rw[h1] at q
  cases h2:ps.all IY with
  |false =>rw[h2] at q;exact fin _ _ _ .bo _ [] g2 ⟨rfl,.tup (by lia) kQ (rl.same g2.all)⟩ bV.nil q
  |true =>
   rw[h2] at q;obtain⟨Bs,sb,nz,ro⟩:=r1.ow (fl:=ps.all FG) g1.wf h2 fun z=>z;have gX:dQ (ps.map (·.2))=false:=by
    cases hf:dQ (ps.map (·.2)) with
    |false=>rfl
    |true=>rw[nQ hf] at h1;cases h1
   have own:=ro.own;refine f _ _ _ (.ow _) _ Bs (g1.trans g2) ⟨.tup (by lia) kQ gX (ro.grow g2.sh g2.all),nz h1⟩ ⟨sb.nodup f1.1,fun a ha=>⟨?_,(f1.2 a (sb.subset ha)).2⟩⟩ q;exact g2.pd (f1.2 a (sb.subset ha)).1 (own a ha).ne
theorem c7(h:QA X K es t):QE X K (.List es pos) (nS t):=by
 refine PE.imp (cT' h) fun σ H Qv hx=>kD hx fun Hs ρ ai Q sr h f=>?_;refine⟨Hs,ρ,ai,_,sr,h,fun vs H1 bE ps As g1 r1 f1 q1=>?_⟩;obtain⟨hz,q⟩:=q1;have rl:=(r1.reps g1.wf)
 have hl:=rl.length;rw[cK] at hl;refine⟨by lia,fun p hp=>?_⟩;have g2:=QJ (o:=.lst vs) g1.wf hp fun _ z=>nomatch z;have fin:=Fin.after f g1;unfold Cv at q
 cases h2:ps.all IY with
 |false =>rw[h2] at q;exact fin _ _ _ .bo _ [] g2 ⟨rfl,.list (by lia) (.inl (.inl kQ)) (rl.same g2.all)⟩ bV.nil q
 |true =>
  rw[h2] at q;obtain⟨Bs,sb,nz,ro⟩:=r1.ow (fl:=ps.all FG) g1.wf h2 fun z=>z;have own:=ro.own;refine f _ _ _ (.ow _) _ (p :: Bs) (g1.trans g2) ⟨.list (by lia) kQ (ro.grow g2.sh g2.all),by simp⟩ ⟨lT.mpr ⟨fun m=>(own p m).ne hp,sb.nodup f1.1⟩,fun a ha=>?_⟩ q;rcases eM.mp ha with rfl|ha
  ·exact⟨g1.wf.sub.free hp,g1.all.free hp⟩
  ·exact⟨g2.pd (f1.2 a (sb.subset ha)).1 (own a ha).ne,(f1.2 a (sb.subset ha)).2⟩
end
theorem bT.gV{K:aE}(r:bT K H ds vs)(h:gV ds i=some d):∃ v,L2.gV vs i=some v/\Rep K H d v:=by
 unfold L2.gV at *
 rw[<- r.length]
 cases e:t9 ds.length i with
 |none=>rw[e] at h;cases h
 |some j =>rw[e] at h;exact r.get h
def dk:W2:=fun m x _ y Q=>match x with
 |.list xs=>match y with
  |.int i=>∃ d,gV xs i=some d/\ck d (f:=fun d=>Q (qf m d) d) ⟨⟩
  |_=>False
 |.tup xs=>match y with
  |.int i=>∃ d,gV xs i=some d/\ck d (f:=fun d=>Q (qf m d) d) ⟨⟩
  |_=>False
 |.str z=>match y with
  |.int i=>∃ c,gV z.cps.toList i=some c/\Q .sh (.str ⟨#[c]⟩)
  |_=>False
 |.dK kvs=>∃ k d,y.key1=some k/\fw kvs k=some d/\ck d (f:=fun d=>Q (qf m d) d) ⟨⟩
 |.dT kvs=>match y with
  |.tup ys=>∃ ks d,dU ys=some ks/\fw kvs ks=some d/\ck d (f:=fun d=>Q (qf m d) d) ⟨⟩
  |_=>False
 |_=>False
def Uu(K:aE):R2:=fun x y H Q=>T5 K x y H Q\/∃ a v,x=.ref a/\mz H a y (some v)/\Q v H
theorem wO(c:Nat):(⟨#[c]⟩:Str).length<=bS:=by show 1<=bS;decide
theorem RM.here{K:aE}(w:Wf Hs H)(r:RM K Hs H m d v As):(m=.sh/\Rep K Hs d v)\/(m≠.sh/\Rep K H d v):=by
 cases m with
 |sh=>exact .inl ⟨rfl,r.2⟩
 |_=>exact .inr ⟨(fun z=>nomatch z),r.rep w⟩
section
variable {X:Cx}{K:aE}
theorem Hf:nK K (Uu K) dk:=by
 intro Hs H m x v As n y u Bs Qd Qv w rx ry h f;have r2:=ry.rep w;have core:∀ G:Hp,bG G H->(∀ d v,Rep K G d v->Rep K H d v/\(m=.sh->Rep K Hs d v))->Rep K G x v->Uu K v u H Qv:=by
  intro G sg up r1
  cases r1 with
  |list z s q =>
   cases r2 with
   |int i =>obtain⟨d,e,h⟩:=h;obtain⟨v',e',r'⟩:=q.gV e;obtain⟨u1,u2⟩:=up _ _ r';exact .inl (.inl ⟨_,v',bG.seq sg s,e',f.qf w u1 u2 h⟩)
   |_=>exact h.elim
  |tup _ s q =>
   cases r2 with
   |int i =>obtain⟨d,e,h⟩:=h;obtain⟨v',e',r'⟩:=q.gV e;obtain⟨u1,u2⟩:=up _ _ r';exact .inl (.inr ⟨_,v',.inl (.inl (sg _ _ s)),e',f.qf w u1 u2 h⟩)
   |_=>exact h.elim
  |str hz =>
   cases r2 with
   |int i =>obtain⟨c,e,h⟩:=h;exact .inl ⟨hz,c,e,f.sh w (.str (wO c)) h⟩
   |_=>exact h.elim
  |dK kk s q =>obtain⟨k,d,hk,hg,h⟩:=h;have ev:=r2.key hk;subst ev;have z:=zip_get (k:=k) q;rw[hg] at z;obtain⟨v',e',r'⟩:=z;obtain⟨u1,u2⟩:=up _ _ r';exact .inr ⟨_,v',rfl,by rw[<- e'];exact mz.k' (bG.rd sg s),f.qf w u1 u2 h⟩
  |dT kk s q =>
   cases r2 with
   |tup t2 e2 q2 =>obtain⟨ks,d,hk,hg,h⟩:=h;obtain⟨b,eb,e3⟩:=Rep.kM (.tup t2 e2 q2) hk;cases eb;have z:=zip_get (k:=ks) q;rw[hg] at z;obtain⟨v',e',r'⟩:=z;obtain⟨u1,u2⟩:=up _ _ r';exact .inr ⟨_,v',rfl,by rw[<- e'];exact mz.t' (bG.rd sg s) e3,f.qf w u1 u2 h⟩
   |_=>exact h.elim
  |_=>exact h.elim
 rcases rx.here w with⟨hm,r⟩|⟨hm,r⟩
 ·exact core Hs w.sub (fun d v q=>And.intro (q.same w.sub) fun _=>q) r
 ·exact core H (bG.refl H) (fun d v q=>And.intro q fun z=>absurd z hm) r
theorem ZS(hu:X.A.units+64<gE)(hK:X.K=K:=by rfl):y1 X (Uu K):=by subst hK;refine y1.or Dc ?_;intro value slice pins s σ H x y v u Q I rx ry h hs;obtain⟨a,w,rfl,g,q⟩:=h;cases rx;exact tail_any (dZ' I g) F.slot_dict_getitem.lookup (dU' (by lia) I g ry fun w' s3 I3 rS=>⟨w,H,I3,rS,q⟩) hs
variable {a b:Expr}{ta tb:WE}{pos:Pos}
theorem dy(ha:QE X K a ta)(hb:QE X K b tb)(hs:TB b:=by exact fun _ _=>rfl)(hK:X.K=K:=by rfl)(hu:X.A.units+64<gE:=by assumption):QE X K (.Subscript a b pos) (aC dk ta tb):=PE.imp (Wv (ZS hu hK) ha hb hs) (mU Hf)
end
def iE{α:Type}(xs:List α)(lo hi:Option Int):List α:=(xs.drop (HT.cp xs.length 0 lo)).take (HT.cp xs.length xs.length hi-HT.cp xs.length 0 lo)
abbrev WO:=Env->(Option Int->Prop)->Prop
def d9:WO:=fun _ Q=>Q none
def ju(t:WE):WO:=fun ρ Q=>t ρ fun _ x=>match x with
 |.int i=>Q (some i)
 |_=>False
def Og(m:Md)(x:D)(lo hi:Option Int)(Q:Md->D->Prop):Prop:=match x with
 |.str z=>Q .sh (.str (kR z lo hi))
 |.list xs=>(dQ xs=true/\Q (.ow true) (.list (iE xs lo hi)))\/(m=.sh/\Q (.ow false) (.list (iE xs lo hi)))
 |.tup xs=>dQ xs=true/\¬ (HT.cp xs.length 0 lo=0/\HT.cp xs.length xs.length hi=xs.length)/\Q .sh (.tup (iE xs lo hi))
 |_=>False
def D5(te:WE)(tl th:WO):WE:=fun ρ Q=>te ρ fun m x=>tl ρ fun lo=>th ρ fun hi=>Og m x lo hi Q
def tpO(K:aE)(t:WO):TO:=fun σ H Qv=>∃ Hs ρ ai Q,d5 K Hs ρ σ H ai/\t ρ Q/\∀ o H' ax,e9 Hs H ax H'->Q o->Qv o H'
abbrev QO(X:Cx)(K:aE)(e:Option Expr)(t:WO):Prop:=PO X e (tpO K t)
theorem yd(z:Str)(lo hi:Option Int):(kR z lo hi).length<=z.length:=by unfold kR Str.length;simp only[hG,i7,A6,yk];lia
theorem jo{α:Type}(xs:List α)(lo hi:Option Int):(iE xs lo hi).length<=xs.length:=by unfold iE;rw[i7,A6];lia
theorem pI{lo hi:Option Int}(h:dQ xs=true):dQ (iE xs lo hi)=true:=by
 rw[jX] at *
 intro x hx;exact h x (Pn (Pp hx))
section
variable {X:Cx}{K:aE}{e:Expr}{lo hi:Option Expr}{te:WE}{tl th:WO}{pos p2:Pos}
theorem il:QO X K none d9:=fun pins s σ H Q I h=>dm' pins s σ H Q I (by
 obtain⟨Hs,ρ,ai,Qd,sr,h,f⟩:=h;exact f none H Hs (e9.refl sr.wf) h)
theorem dY(h:QE X K e te):QO X K (some e) (ju te):=fun pins s σ H Q I hh=>dn' h pins s σ H Q I (by
 obtain⟨Hs,ρ,ai,Qd,sr,h,f⟩:=hh;refine⟨Hs,ρ,ai,_,sr,h,fun v H1 bE m x As g1 r1 f1 q1=>?_⟩;have r:=r1.rep g1.wf
 cases r with
 |int i=>exact⟨i,rfl,f _ H1 bE g1 q1⟩
 |_=>exact q1.elim)
theorem jO{lo hi:Option Int}(r:bT K H ds vs):bT K H (iE ds lo hi) (DT vs lo hi):=by unfold iE DT;rw[r.length];exact(r.drop _).take _
theorem fK'(hK:X.K=K:=by rfl):L6 X (fun x lo hi H Q=>T6 K x lo hi H Q\/Wu K x lo hi H Q):=by
 subst hK;intro pins s σ H x v vl vu lo hi sl Q I rx hs pl pu h;rcases h with h|h
 ·exact Dl pins s σ H x v vl vu lo hi sl Q I rx hs pl pu h
 ·exact dr' pins s σ H x v vl vu lo hi sl Q I rx hs pl pu h
theorem gj(he:QE X K e te)(hl:QO X K lo tl)(hh:QO X K hi th)(hK:X.K=K:=by rfl):QE X K (.Subscript e (.Slice lo hi none p2) pos) (D5 te tl th):=by
 refine PE.imp (dq' (fK' hK) he hl hh) fun σ H Qv hx=>kD hx fun Hs ρ ai Q sr h f=>?_;refine⟨Hs,ρ,ai,_,sr,h,fun v H1 bE m x As g1 r1 f1 q1=>⟨bE,ρ,ai,_,sr.grow g1,q1,fun l H2 bq g2 q2=>⟨bq,ρ,ai,_,(sr.grow g1).grow g2,q2,fun u H3 fS g3 q3=>?_⟩⟩⟩;have r3:=(r1.grow g2).grow g3;have fin:Fin K fS H3 Q Qv:=Fin.after f ((g1.trans g2).trans g3);have rr:=r3.rep g3.wf
 cases rr with
 |str hz=>exact .inl ⟨hz,fin.sh g3.wf (.str (ky (yd _ _ _) hz)) q3⟩
 |list z s q =>
  have hz:=q.length;rcases q3 with⟨hf,q3⟩|⟨rfl,q3⟩
  ·exact .inl ⟨_,s,fin.lst g3.wf (ky (jo _ _ _) (by lia)) (jO q) (pI hf) q3⟩
  ·obtain⟨_,r3⟩:=r3
   cases r3 with
   |list z' s' q' =>have hz:=q'.length;exact .inl ⟨_,bG.seq g3.wf.sub s',fin.QL g3.wf (ky (jo _ _ _) (by lia)) (jO q') q3⟩
 |tup z s q =>have hz:=q.length;obtain⟨hf,hn,q3⟩:=q3;exact .inr ⟨_,_,rfl,.inl (.inl s),by rw[<- hz];exact hn,fin.tup g3.wf (ky (jo _ _ _) (by lia)) (jO q) (pI hf) q3⟩
 |_=>exact q3.elim
end
def qo:W1:=fun _ x Q=>match x with
 |.str z=>Q .sh (.int z.length)
 |.list xs=>Q .sh (.int xs.length)
 |.tup xs=>Q .sh (.int xs.length)
 |.dK kvs=>Q .sh (.int kvs.length)
 |.dT kvs=>Q .sh (.int kvs.length)
 |_=>False
def D6(T:String):W1:=fun _ x Q=>Q .sh (.bl (Mh x.ty T))
def Mu(K:aE)(r:List V->Hp->VK->Prop)(f:W1):Prop:=∀ Hs H m x v As Qd Qv,Wf Hs H->RM K Hs H m x v As->f m x Qd->Fin K Hs H Qd Qv->r [v] H Qv
section
variable {X:Cx}{K:aE}{e:Expr}{te:WE}{pos p:Pos}{x:Str}{id T:String}
theorem k_(br:Mu K r f)(σ:St)(H:Hp)(Qv:VK)(h:nI K (fP f te) σ H Qv):Tv r (Tr (nI K te) Tq) σ H Qv:=by obtain⟨Hs,ρ,ai,Q,sr,h,fin⟩:=h;exact⟨Hs,ρ,ai,_,sr,h,fun v H1 bE m x As g1 r1 f1 q1=>br bE H1 m x v As Q Qv g1.wf r1 q1 (Fin.after fin g1)⟩
theorem bQ(hc:oI X (.builtin id) r)(br:Mu K r f)(hm:X.mg x=none)(hv:j3 x=some (.builtin id))(he:QE X K e te)(hs:bI [e] X.env=(false,cv e X.env) :: bI [] X.env:=by rfl) (hn:x ≠ "__name__" := by decide) (kL:(x == ("__debug__" : Str))=false:=by decide) (hg:Gl X x:=by rfl):QE X K (.Call (.Name x p) [e] [] pos) (fP f te) :=
 PE.imp (P7 hc hg hm hv (mr he rL hs) hn kL hs) (k_ br)
theorem jn(hc:oI X (.type T) r)(br:Mu K r f)(hm:X.mg x=none)(hv:j3 x=some (.type T))(he:QE X K e te)(hs:bI [e] X.env=(false,cv e X.env) :: bI [] X.env:=by rfl) (hn:x ≠ "__name__" := by decide) (kL:(x == ("__debug__" : Str))=false:=by decide) (hg:Gl X x:=by rfl):QE X K (.Call (.Name x p) [e] [] pos) (fP f te) :=
 PE.imp (cY' hc hg hm hv (mr he rL hs) hn kL hs) (k_ br)
theorem zQ(hd:(d == u0)=false)(x:vx s.heap d es ep)(Mv:(es.size:Int)<2 ^ 63)(h:∀ t t',Q (.int es.size t) { s with toks:=t' }):aT (aS prog w) A (call (.builtin "len") [.ref d]) Q E s:=by
 refine Calls.call_function_entry kind_len plain_len entry_len (args_len1 _) ?_;have mt:MeetsIn prog w (Builtin.«dict.__len__» ⟨[.ref d],[]⟩) (fun _ R s=>vx s.heap d es ep/\R (.ok (.ret (.int es.size s.toks))) { s with toks:=s.toks+1 }):=.of_wp fun A R s d4=>by obtain⟨hm,h⟩:=d4;obtain⟨o,ho,hc,Qu⟩:=hm;show aT _ _ (dictSize d >>= _) _ _ s;unfold dictSize;refine ah (ah (MN ho Qu (aI ?_)));show aT _ _ (Builtin.Dict.pendingCount d >>= _) _ _ s;refine ah (wpAny_pendingCount_other hd ?_);refine wpAny_ret_mkInt ?_;rw[LH];exact h
 unfold Builtin.«len»;refine ah (m:=oneArg "len" _) (aI ?_);refine ah (m:=callSpecial? (.ref d) (Str.ofString "__len__")) (MK (name:=Str.ofString "__len__") x.typ F.slot_dict_len (call_meetsIn F.slot_dict_len x.typ F.entry_dict_len (F.args_dict_len_1 _) mt ⟨x,?_⟩))
 show aT _ _ _ _ _ { s with toks:=s.toks+1 };refine ah (oy (aI ?_));refine ah (wpAny_letGo ?_);show aT _ _ (if ((es.size:Nat):Int)<0 then _ else _) _ _ _;rw[if_neg (by lia)];show aT _ _ (if ((es.size:Nat):Int) >= 2 ^ 63 then _ else _) _ _ _;rw[if_neg (by lia)];exact ah (wpAny_mkInt (aI ⟨_,rfl,h _ _⟩))
theorem aM (hK:X.K=K:=by rfl):oI X (.builtin "len") (fun xs H Q=>Qo K xs H Q\/∃ a kvs,xs=[.ref a]/\Rd H a (.dT kvs)/\Q (.int kvs.length) H):=by
 subst hK;intro pins s σ H xs us Q I r h;rcases h with h|⟨a,kvs,rfl,ha,q⟩
 ·exact u_ pins s σ H xs us Q I r h
 ·obtain⟨u,rfl,ru⟩:=Vals.one r;cases ru;obtain⟨z,hd,ys,rel,o,es,ep,h1,h2,h3,h4,h5⟩:=(show gS X.prog X.w H s.heap a (.dT kvs) from I.rd ha)
  have hl:es.size=kvs.length:=by have:=congrArg List.length h4;rw[yk,cK] at this;rw[this];exact rel.length.symm
  exact zQ hd ⟨o,h1,h2,h3⟩ (by rw[hJ] at z;lia) fun t t'=>⟨.int kvs.length,H,I.tok _,⟨t,by rw[hl]⟩,q⟩
theorem dN:Mu K (fun xs H Q=>Qo K xs H Q\/∃ a kvs,xs=[.ref a]/\Rd H a (.dT kvs)/\Q (.int kvs.length) H) qo:=by
 intro Hs H m x v As Qd Qv w rx h f;have r1:=rx.rep w
 cases r1 with
 |str hz=>exact .inl ⟨hz,f.sh w (.int _) h⟩
 |list z s q=>exact .inl (.inl ⟨_,s,by rw[<- q.length];exact f.sh w (.int _) h⟩)
 |tup _ s q=>exact .inl (.inr (.inl ⟨_,.inl (.inl s),by rw[<- q.length];exact f.sh w (.int _) h⟩))
 |dK kk s q=>exact .inl (.inr (.inr ⟨_,s,by
   have:=q.length;rw[cK] at this;rw[List.length_zip,cK,<- this,Nat.min_self];exact f.sh w (.int _) h⟩))
 |dT kk s q=>exact .inr ⟨_,_,rfl,s,by
   have:=q.length;rw[cK] at this;rw[List.length_zip,cK,<- this,Nat.min_self];exact f.sh w (.int _) h⟩
 |_=>exact h.elim
end
section
variable {X:Cx}{K:aE}{e e2:Expr}{te:WE}{pos p:Pos}{T:String}
theorem uU (hK:X.K=K:=by rfl):oI X (.builtin "isinstance") (fun xs H Q=>∃ x d T,xs=[x,.ty T]/\Rep K H d x/\TX T=true/\Q (.bl (Mh d.ty T)) H):=by
 subst hK;intro pins s σ H xs us Q I r h;obtain⟨x,d,T,rfl,rd,hT,q⟩:=h;obtain⟨u,v,rfl,ru,rv⟩:=Vals.two r;obtain rfl:v=Value.type T:=rv;have hb:T∈["str", "int", "bool", "list", "tuple", "dict"]:=by simpa[TX] using hT
 have fin:∀ tk,EP X pins σ Q (.bool (Mh d.ty T)) { s with toks:=tk }:=fun tk=>⟨.bl (Mh d.ty T),H,I.tok tk,rfl,q⟩
 cases rd with
 |non=>exact Nx I ru .non (iT X.K _ T (by simp) hb) fin
 |bl b=>exact Nx I ru (.bl b) (iT X.K _ T (by simp) hb) fin
 |int i=>exact Nx I ru (.int i) (iT X.K _ T (by simp) hb) fin
 |str y=>exact Nx I ru (.str _) (iT X.K _ T (by simp) hb) fin
 |list z s' q' =>cases ru;obtain⟨its,_,pl,_⟩:=I.list s';obtain⟨o,h1,h2,_⟩:=pl.isList;exact ve RX I.kB ⟨o,h1,h2⟩ (iT X.K "list" T (by simp) hb) (fun z=>nomatch z) fin
 |tup _ s' q'=>exact Nx I ru (.tup s') (iT X.K _ T (by simp) hb) fin
 |dK _ s' q' =>cases ru;obtain⟨_,_,vs,_,p⟩:=I.rd s';obtain⟨o,es,ep,h1,h2,_⟩:=p;exact ve Ph I.kB ⟨o,h1,h2.1⟩ (iT X.K "dict" T (by simp) hb) (fun z=>nomatch z) fin
 |dT _ s' q' =>cases ru;obtain⟨_,_,xs,_,o,es,ep,h1,h2,_⟩:=I.rd s';exact ve Ph I.kB ⟨o,h1,h2.1⟩ (iT X.K "dict" T (by simp) hb) (fun z=>nomatch z) fin
theorem qt (hm:X.mg "isinstance" = none) (he:QE X K e te) (ht:PE X e2 (tC (.ty T))) (hT:TX T=true:=by rfl) (hg:Gl X "isinstance" := by rfl) (hK:X.K=K:=by rfl) (hs:bI (e :: [e2]) X.env=(false,cv e X.env) :: bI [e2] X.env:=by rfl) (jI:bI (e2 :: []) X.env=(false,cv e2 X.env) :: bI [] X.env:=by rfl) (jS:(iP pos (bI [e2] X.env)).any (·.1)=false:=by rfl) :
  QE X K (.Call (.Name "isinstance" p) [e,e2] [] pos) (fP (D6 T) te):=by
 refine PE.imp (P7 (uU hK) hg hm dq (mr he (mr ht rL jI) hs) (by decide) (by decide) hs jS) fun σ H Qv hx=>kD hx fun Hs ρ ai Q sr h f=>?_;refine⟨Hs,ρ,ai,_,sr,h,fun v H1 bE m x As g1 r1 f1 q1=>⟨v,x,T,rfl,r1.rep g1.wf,hT,Fin.sh (Fin.after f g1) g1.wf (.bl _) q1⟩⟩
theorem Aa(r:Rep K H d v)(h:QV d=some b):Tj K v H b:=by
 cases r with
 |non=>cases h;rfl
 |bl b=>cases h;rfl
 |int i=>cases h;rfl
 |str hz =>cases h;exact⟨hz,rfl⟩
 |list z s q =>cases h;refine .inl ⟨_,s,?_⟩;cases q<;>rfl
 |tup _ s q =>cases h;refine .inr (.inl ⟨_,.inl (.inl s),?_⟩);cases q<;>rfl
 |dK _ s q=>cases h
 |dT _ s q=>cases h
theorem uM(ha:QE X K e te)(he:∀ whole,isTrue e X.env whole=(do let v <- whole;standAt e.pos;holding [v] (truthy v)):=by intro _;rfl)(hK:X.K=K:=by rfl):QT X K e (QX te):=by subst hK;refine PT.imp (cN' ha he) fun σ H Qv hx=>kD hx fun Hs ρ ai Q sr h f=>?_;refine⟨Hs,ρ,ai,_,sr,h,fun v H1 bE m x As g1 r1 f1 q1=>?_⟩;obtain⟨b,hb,q⟩:=q1;exact⟨b,Aa (r1.rep g1.wf) hb,f b H1 bE g1 q⟩
end
def oq:Key->D
 |.inl i=>.int i
 |.inr x=>.str x
def pN:W1:=fun m x Q=>match x with
 |.list xs=>(dQ xs=true/\Q (.ow true) (.list xs))\/(m=.sh/\Q (.ow false) (.list xs))
 |.tup xs=>(dQ xs=true/\Q (.ow true) (.list xs))\/(m=.sh/\Q (.ow false) (.list xs))
 |.dT kvs=>Q (.ow true) (.list (kvs.map fun kv=>.tup (kv.1.map oq)))
 |_=>False
section
variable {X:Cx}{K:aE}
theorem mO:∀ {ks:List Key},(∀ k∈ks,AG k=true)->bT K H (ks.map oq) (ks.map kV)
 |[],_=>.nil
 |k :: ks,h=>by
  refine .cons ?_ (mO fun j m=>h j (eI _ m));have:=h k eL
  cases k with
  |inl i=>exact .int i
  |inr x=>exact .str (by simpa[AG] using this)
theorem jF:∀ (ks:List Key),dQ (ks.map oq)=true
 |[]=>rfl
 |k :: ks=>by simp only[iF,dQ,jF ks,Bool.and_true];cases k<;>rfl
theorem nu(t:b8 H ys ks)(h:∀ l∈ks,l.length<=bS/\∀ k∈l,AG k=true):bT K H (ks.map fun l=>.tup (l.map oq)) ys:=by
 induction ys generalizing ks with
 |nil=>rw[show ks=[] from Paired.n0 t];exact .nil
 |cons y ys ih =>obtain⟨k,ks,rfl,⟨b,rfl,e⟩,t2⟩:=Paired.c t;exact .cons (.tup (by rw[cK];exact(h _ eL).1) e (mO (h _ eL).2)) (ih t2 fun l m=>h l (eI _ m))
theorem gR:∀ (ks:List (List Key)),dQ (ks.map fun l=>.tup (l.map oq))=true
 |[]=>rfl
 |l :: ks=>by simp only[iF,dQ,gR ks,Bool.and_true,D.flat,jF]
theorem fL (hc:X.calm=true:=by rfl) (hK:X.K=K:=by rfl):oI X (.type "list") (fun xs H Q=>(∃ p ys,xs=[.ref p]/\(fq K H p ys\/oC K H p ys)/\∀ l,H l=none->Q (.ref l) (upd H l (.lst ys)))\/rC xs H Q):=by subst hK;exact dG'.or (t8 hc)
theorem m_:Mu K (fun xs H Q=>(∃ p ys,xs=[.ref p]/\(fq K H p ys\/oC K H p ys)/\∀ l,H l=none->Q (.ref l) (upd H l (.lst ys)))\/rC xs H Q) pN:=by
 intro Hs H m x v As Qd Qv w rx h f;have r1:=rx.rep w
 cases r1 with
 |list z s q =>
  have hl:=q.length;rcases h with⟨hf,h⟩|⟨rfl,h⟩
  ·exact .inl ⟨_,_,rfl,.inl s,f.lst w (by lia) q hf h⟩
  ·obtain⟨_,rx⟩:=rx
   cases rx with
   |list z' s' q' =>have hl:=q'.length;exact .inl ⟨_,_,rfl,.inl (bG.seq w.sub s'),f.QL w (by lia) q' h⟩
 |tup z s q =>
  have hl:=q.length;rcases h with⟨hf,h⟩|⟨rfl,h⟩
  ·exact .inl ⟨_,_,rfl,.inr (.inl (.inl s)),f.lst w (by lia) q hf h⟩
  ·obtain⟨_,rx⟩:=rx
   cases rx with
   |tup z' s' q' =>have hl:=q'.length;exact .inl ⟨_,_,rfl,.inr (.inl (.inl (w.sub _ _ s'))),f.QL w (by lia) q' h⟩
 |@dT _ vs kvs kk s q =>
  refine .inr ⟨_,s,fun ys l ht hl=>?_⟩;have hlen:=q.length;rw[cK] at hlen;have e:((kvs.map (·.1)).zip vs).map (·.1)=kvs.map (·.1):=List.map_fst_zip (by rw[cK];exact Nat.le_of_eq hlen);rw[e] at ht;have rr:=nu (K:=K) ht (fun l m=>by
   obtain⟨p,hp,rfl⟩:=de.mp m;exact kk.2 p hp)
  have ff:=gR (kvs.map (·.1));rw[gi] at rr ff;exact f.lst w (by rw[cK];exact kk.1) rr ff h l hl
 |_=>exact h.elim
end
section
variable {K:aE}{Hs H:Hp}
theorem SR.zH(r:Rep K Hs d v)(i:Nat)(s:SR K Hs H ρ σ ai):∃ cS,cS.Sublist ai/\SR K Hs H (ρ.set i (some (.sh d))) (σ.set i (some v)) cS:=by
 induction s generalizing i with
 |nil=>exact⟨[],CM _,.nil⟩
 |non s ih =>
  cases i with
  |zero=>exact⟨_,List.Sublist.refl _,.sh r s⟩
  |succ i=>obtain⟨t,a,b⟩:=ih i;exact⟨t,a,.non b⟩
 |sh q s ih =>
  cases i with
  |zero=>exact⟨_,List.Sublist.refl _,.sh r s⟩
  |succ i=>obtain⟨t,a,b⟩:=ih i;exact⟨t,a,.sh q b⟩
 |xc s ih =>
  cases i with
  |zero=>exact⟨_,List.Sublist.refl _,.sh r s⟩
  |succ i=>obtain⟨t,a,b⟩:=ih i;exact⟨t,a,.xc b⟩
 |ow ne q s ih =>
  cases i with
  |zero=>exact⟨_,lS _ _,.sh r s⟩
  |succ i=>obtain⟨t,a,b⟩:=ih i;exact⟨_,a.append_left _,.ow ne q b⟩
 |lk ne q s ih =>
  cases i with
  |zero=>exact⟨_,lS _ _,.sh r s⟩
  |succ i=>obtain⟨t,a,b⟩:=ih i;exact⟨_,a.append_left _,.lk ne q b⟩
 |ob q s ih =>
  cases i with
  |zero=>exact⟨_,lS _ _,.sh r s⟩
  |succ i=>obtain⟨t,a,b⟩:=ih i;exact⟨_,a.append_left _,.ob q b⟩
theorem lu{As ai:List ag}(nd:As.Nodup)(n:ai.Nodup)(dj:∀ a∈As,a∉ai):(As++ai).Nodup:=iS.mpr ⟨nd,n,fun a ha b hb e=>dj a ha (e ▸ hb)⟩
theorem cC{As ai B t:List ag}(n:(B++ai).Nodup)(dj:∀ a∈As,a∉B++ai)(a:t.Nodup)(b:∀ x∈t,x∈ai\/x∈As):(B++t).Nodup/\∀ x∈B++t,x∈B++ai\/x∈As:=by
 obtain⟨n1,n2,n3⟩:=iS.mp n;refine⟨iS.mpr ⟨n1,a,fun x hx y hy e=>?_⟩,fun x hx=>?_⟩
 ·subst e;rcases b x hy with z|z
  ·exact n3 x hx x z rfl
  ·exact dj x z (jv _ hx)
 ·rcases eS.mp hx with z|z
  ·exact .inl (jv _ z)
  ·exact(b x z).imp (fun z=>fe _ z) fun z=>z
theorem SR.uE{d:D}{v:V}{fl:Bool}{As:List ag}(ne:As≠[])(r:cx K Hs H fl d v As)(nd:As.Nodup){ρ:Env}{σ:St}{ai:List ag}(i:Nat)(s:SR K Hs H ρ σ ai):ai.Nodup->(∀ a∈As,a∉ai) ->
  ∃ cS,cS.Nodup/\(∀ a∈cS,a∈ai\/a∈As)/\SR K Hs H (ρ.set i (some (.ow fl d))) (σ.set i (some v)) cS:=by
 induction s generalizing i with
 |nil=>exact fun n _=>⟨[],k9,(fun a h=>AH h),.nil⟩
 |non s ih =>
  intro n dj
  cases i with
  |zero=>exact⟨_,lu nd n dj,fun a h=>(eS.mp h).symm,.ow ne r s⟩
  |succ i=>obtain⟨t,a,b,c⟩:=ih i n dj;exact⟨t,a,b,.non c⟩
 |sh q s ih =>
  intro n dj
  cases i with
  |zero=>exact⟨_,lu nd n dj,fun a h=>(eS.mp h).symm,.ow ne r s⟩
  |succ i=>obtain⟨t,a,b,c⟩:=ih i n dj;exact⟨t,a,b,.sh q c⟩
 |xc s ih =>
  intro n dj
  cases i with
  |zero=>exact⟨_,lu nd n dj,fun a h=>(eS.mp h).symm,.ow ne r s⟩
  |succ i=>obtain⟨t,a,b,c⟩:=ih i n dj;exact⟨t,a,b,.xc c⟩
 |ow ne' q s ih =>
  intro n dj;obtain⟨n1,n2,n3⟩:=iS.mp n;have FH:=fun a ha m=>dj a ha (fe _ m)
  cases i with
  |zero=>exact⟨_,lu nd n2 FH,fun a h=>(eS.mp h).symm.imp (fun z=>fe _ z) fun z=>z,.ow ne r s⟩
  |succ i=>obtain⟨t,a,b,c⟩:=ih i n2 FH;exact⟨_,(cC n dj a b).1,(cC n dj a b).2,.ow ne' q c⟩
 |lk ne' q s ih =>
  intro n dj;obtain⟨n1,n2,n3⟩:=iS.mp n;have FH:=fun a ha m=>dj a ha (fe _ m)
  cases i with
  |zero=>exact⟨_,lu nd n2 FH,fun a h=>(eS.mp h).symm.imp (fun z=>fe _ z) fun z=>z,.ow ne r s⟩
  |succ i=>obtain⟨t,a,b,c⟩:=ih i n2 FH;exact⟨_,(cC n dj a b).1,(cC n dj a b).2,.lk ne' q c⟩
 |ob q s ih =>
  intro n dj;obtain⟨n1,n2,n3⟩:=iS.mp n;have FH:=fun a ha m=>dj a ha (fe _ m)
  cases i with
  |zero=>exact⟨_,lu nd n2 FH,fun a h=>(eS.mp h).symm.imp (fun z=>fe _ z) fun z=>z,.ow ne r s⟩
  |succ i=>obtain⟨t,a,b,c⟩:=ih i n2 FH;exact⟨_,(cC n dj a b).1,(cC n dj a b).2,.ob q c⟩
theorem SR.Bq:∀ (i:Nat),SR K Hs H ρ σ ai->∃ cS,cS.Sublist ai/\SR K Hs H (ρ.set i none) σ cS:=by
 intro i s
 induction s generalizing i with
 |nil=>exact⟨[],CM _,.nil⟩
 |non s ih =>
  cases i with
  |zero=>exact⟨_,List.Sublist.refl _,.non s⟩
  |succ i=>obtain⟨t,a,b⟩:=ih i;exact⟨t,a,.non b⟩
 |sh q s ih =>
  cases i with
  |zero=>exact⟨_,List.Sublist.refl _,.non s⟩
  |succ i=>obtain⟨t,a,b⟩:=ih i;exact⟨t,a,.sh q b⟩
 |xc s ih =>
  cases i with
  |zero=>exact⟨_,List.Sublist.refl _,.non s⟩
  |succ i=>obtain⟨t,a,b⟩:=ih i;exact⟨t,a,.xc b⟩
 |ow ne q s ih =>
  cases i with
  |zero=>exact⟨_,lS _ _,.non s⟩
  |succ i=>obtain⟨t,a,b⟩:=ih i;exact⟨_,a.append_left _,.ow ne q b⟩
 |lk ne q s ih =>
  cases i with
  |zero=>exact⟨_,lS _ _,.non s⟩
  |succ i=>obtain⟨t,a,b⟩:=ih i;exact⟨_,a.append_left _,.lk ne q b⟩
 |ob q s ih =>
  cases i with
  |zero=>exact⟨_,lS _ _,.non s⟩
  |succ i=>obtain⟨t,a,b⟩:=ih i;exact⟨_,a.append_left _,.ob q b⟩
def asg:Md->D->Option Sl
 |.sh,d=>some (.sh d)
 |.ow fl,d=>some (.ow fl d)
 |_,d=>bif d.flat then some (.sh d) else none
theorem d5.set(i:Nat)(s:d5 K Hs ρ σ H ai)(r:RM K Hs H m d v As)(nd:As.Nodup)(dj:∀ a∈As,Hs a=none/\a∉ai)(e:asg m d=some sl) :
  ∃ cS,d5 K Hs (ρ.set i (some sl)) (σ.set i (some v)) H cS:=by
 have ZT:Rep K Hs d v->∃ cS,d5 K Hs (ρ.set i (some (.sh d))) (σ.set i (some v)) H cS:=fun r=>by obtain⟨t,a,b⟩:=s.sr.zH r i;exact⟨t,b,s.wf,a.nodup s.sR,fun x hx=>s.own x (a.subset hx)⟩
 cases m with
 |sh=>cases e;exact ZT r.2
 |ow fl =>cases e;obtain⟨t,a,b,c⟩:=SR.uE r.2 r.1 nd i s.sr s.sR fun a ha=>(dj a ha).2;exact⟨t,c,s.wf,a,fun x hx=>(b x hx).elim (s.own x) fun z=>(dj x z).1⟩
 |_ =>
  cases hf:d.flat with
  |true =>simp only[asg,hf,cond_true,Option.some.injEq] at e;subst e;exact ZT (r.flat s.wf hf)
  |false=>simp[asg,hf] at e
end
section
variable {X:Cx}{K:aE}{e c:Expr}{te:WE}{tc:WT}{pos:Pos}{st:Stmt}{a b rest:List Stmt}{t u:WS}
theorem PS.imp{te xv:TS}(h:PS X st te)(i:∀ D σ H,xv D σ H->te D σ H):PS X st xv:=fun pins s σ H D I q=>h pins s σ H D I (i D σ H q)
theorem oi.imp{te xv:TS}(h:oi X a te)(i:∀ D σ H,xv D σ H->te D σ H):oi X a xv:=fun pins s σ H D I q=>h pins s σ H D I (i D σ H q)
def bL:WS:=fun E ρ=>E.nx ρ
def cw(t u:WS):WS:=fun E ρ=>t { E with nx:=u E } ρ
def kN(te:WE):WS:=fun E ρ=>te ρ E.rt
def eK(i:Nat)(te:WE):WS:=fun E ρ=>te ρ fun m d=>match asg m d with
 |some sl=>E.nx (ρ.set i (some sl))
 |none=>False
def kF(c:WT)(t u:WS):WS:=fun E ρ=>c ρ fun b=>if b=true then t E ρ else u E ρ
theorem aG:y9 X K L [] bL:=oi.imp VY fun D σ H hx=>cP hx fun Hs ρ ai E sr h k1 _ _ _=>k1 σ H Hs ρ ai (bG.refl _) sr h
theorem xH{D:Ends}(h:AJ K L (cw t u) D σ H):VX (AJ K L t) (AJ K L u) D σ H:=by
 obtain⟨Hs,ρ,ai,E,sr,h,k1,k2,k3,k4,kx⟩:=h;refine⟨Hs,ρ,ai,{ E with nx:=u E },sr,h,fun cf H' ax c9 cS s Uv q=>?_,k2,k3,k4,kx⟩;exact⟨ax,c9,cS,E,Uv,q,fun lh H2 bq kf fo s2=>k1 lh H2 bq kf fo (s.trans s2),fun lh H2 bq kf fo s2=>k2 lh H2 bq kf fo (s.trans s2),fun lh H2 bq kf fo s2=>k3 lh H2 bq kf fo (s.trans s2),
  fun v H2 bq m d As s2=>k4 v H2 bq m d As (s.trans s2),fun n H2 s2=>kx n H2 (s.trans s2)⟩
theorem aj(h1:QS X K L st t)(h2:y9 X K L rest u):y9 X K L (st :: rest) (cw t u):=oi.imp (bU' h1 h2) fun D σ H h=>xH h
theorem au(h1:QS X K L st t):y9 X K L [st] t:=VZ h1
theorem aU(he:QE X K e te):QS X K L (.Return (some e) pos) (kN te):=PS.imp (S7 he) fun D σ H hx=>cP hx fun Hs ρ ai E sr h k1 k2 k3 k4 =>
 ⟨Hs,ρ,ai,_,sr,h,fun v H1 bE m d As g1 r1 f1 q1=>k4 v H1 bE m d As g1.sh g1.wf r1 f1.1 (fun a ha=>(f1.2 a ha).1) q1⟩
def iV(i:Nat):WS:=fun E ρ=>match ρ[i]? with
 |some (some (.sh d))=>E.rt .sh d
 |some (some (.ow fl d))=>E.rt (.ow fl) d
 |_=>False
theorem SR.at{ρ:Env}{σ:St}{ai:List ag}{i:Nat}{fl:Bool}{d:D}{Hs H:Hp}(s:SR K Hs H ρ σ ai)(e:ρ[i]? = some (some (.ow fl d))):∃ v As,σ[i]? = some (some v)/\As≠[]/\cx K Hs H fl d v As/\As.Sublist ai:=by
 induction s generalizing i with
 |nil=>simp at e
 |non s ih =>
  cases i with
  |zero=>simp at e
  |succ i=>exact ih e
 |sh r s ih =>
  cases i with
  |zero=>simp at e
  |succ i=>exact ih e
 |xc s ih =>
  cases i with
  |zero=>simp at e
  |succ i=>exact ih e
 |ow ne r s ih =>
  cases i with
  |zero=>simp at e;obtain⟨rfl,rfl⟩:=e;exact⟨_,_,rfl,ne,r,MS _ _⟩
  |succ i =>obtain⟨v,As,a,b,c,d⟩:=ih e;exact⟨v,As,a,b,c,d.trans (lS _ _)⟩
 |lk ne r s ih =>
  cases i with
  |zero=>simp at e
  |succ i =>obtain⟨v,As,a,b,c,d⟩:=ih e;exact⟨v,As,a,b,c,d.trans (lS _ _)⟩
 |ob r s ih =>
  cases i with
  |zero=>simp at e
  |succ i =>obtain⟨v,As,a,b,c,d⟩:=ih e;exact⟨v,As,a,b,c,d.trans (lS _ _)⟩
theorem dh{i:Nat}(he:PE X e (DL i)):QS X K L (.Return (some e) pos) (iV i):=PS.imp (S7 he) fun D σ H hx=>cP hx fun Hs ρ ai E sr h k1 k2 k3 k4=>by
 unfold iV at h;split at h
 ·rename_i d e1;obtain⟨v,e2,r⟩:=sr.sr.get e1;exact⟨v,e2,k4 v H Hs .sh d [] (bG.refl _) sr.wf ⟨rfl,r⟩ k9 (fun a ha=>nomatch ha) h⟩
 ·rename_i fl d e1;obtain⟨v,As,e2,ne,r,sb⟩:=sr.sr.at e1;exact⟨v,e2,k4 v H Hs (.ow fl) d As (bG.refl _) sr.wf ⟨r,ne⟩ (sb.nodup sr.sR) (fun a ha=>sr.own a (sb.subset ha)) h⟩
 ·exact h.elim
theorem aA(i:Nat){x:Str}{pos':Pos}(he:QE X K e te)(hs:u3 e (some (.Name x pos')) pos.line X.env=pure false:=by rfl) (hf:X.fn x=true\/X.env.scope.names.lookup x=some .local:=by first|exact .inl rfl|exact .inr rfl|assumption) (hN:X.N.Nodup:=by assumption) (hi:X.N[i]? = some x:=by rfl) (hx:Loc X.env.scope x:=by first|exact .inl rfl|exact .inr rfl):QS X K L (.Assign [.Name x pos'] e pos) (eK i te):=PS.imp (Tb hN hi hx he hs hf) fun D σ H hx=>cP hx fun Hs ρ ai E sr h k1 k2 k3 k4=>by
 refine⟨Hs,ρ,ai,_,sr,h,fun v H1 bE m d As g1 r1 f1 q1=>?_⟩
 have q1:match asg m d with
  |some sl=>E.nx (ρ.set i (some sl))
  |none=>False:=q1
 cases e:asg m d with
 |none=>rw[e] at q1;exact q1.elim
 |some sl =>rw[e] at q1;obtain⟨cS,s'⟩:=(sr.grow g1).set i r1 f1.1 (fun a ha=>⟨(f1.2 a ha).1,fun m=>(sr.sr.own a m).ne (f1.2 a ha).2⟩) e;exact k1 _ H1 bE _ cS g1.sh s' q1
theorem bZ(hc:QT X K c tc)(ha:y9 X K L a t)(hb:y9 X K L b u):QS X K L (.If c a b pos) (kF tc t u):=PS.imp (bY' hc ha hb) fun D σ H hx=>jW hx fun Hs ρ ai E sr h k1 k2 k3 k4 kx=>by
 refine⟨Hs,ρ,ai,_,sr,h,fun k H1 bE g1 q1=>?_⟩;have ZU:∀ cf H' ax c9 cS,bG bE ax->d5 K ax c9 cf H' cS->E.nx c9->D.nx cf H':=fun lh H2 bq kf fo s2=>k1 lh H2 bq kf fo (g1.sh.trans s2);have ZV:∀ cf H' ax c9 cS,bG bE ax->d5 K ax c9 cf H' cS->E.bk c9->D.bk cf H':=fun lh H2 bq kf fo s2=>k2 lh H2 bq kf fo (g1.sh.trans s2);have ZW:∀ cf H' ax c9 cS,bG bE ax->d5 K ax c9 cf H' cS->E.ct c9->D.ct cf H':=fun lh H2 bq kf fo s2=>k3 lh H2 bq kf fo (g1.sh.trans s2)
 cases k with
 |true=>exact⟨bE,ρ,ai,E,sr.grow g1,q1,ZU,ZV,ZW,(fun v H2 bq m d As s2=>k4 v H2 bq m d As (g1.sh.trans s2)),fun n H2 s2=>kx n H2 (g1.sh.trans s2)⟩
 |false=>exact⟨bE,ρ,ai,E,sr.grow g1,q1,ZU,ZV,ZW,(fun v H2 bq m d As s2=>k4 v H2 bq m d As (g1.sh.trans s2)),fun n H2 s2=>kx n H2 (g1.sh.trans s2)⟩
def xA(Hs H:Hp)(As:List ag):Hp:=fun a=>if a∈As then H a else Hs a
theorem gJ(n:∀ a∈As,Hs a=none):bG Hs (xA Hs H As):=fun a o e=>by unfold xA;rw[if_neg fun m=>by rw[n a m] at e;cases e];exact e
theorem zL(w:Wf Hs H)(o:∀ a∈As,Own H a):Wf (xA Hs H As) H:=⟨fun a u e=>by
  unfold xA at e;by_cases m:a∈As
  ·rw[if_pos m] at e;exact e
  ·rw[if_neg m] at e;exact w.sub a u e,fun a vs e=>by
  unfold xA;rw[if_neg fun m=>(o a m).wz e];exact w.i9 a vs e⟩
def Oh:Sl->Sl
 |.sh d=>.sh d
 |.ow _ d=>.sh d
 |.lk a fl d=>.lk a fl d
 |.xc a=>.xc a
 |.ob a p=>.ob a p
def Uw:Sl->Sl
 |.sh d=>.sh d
 |.ow _ d=>.sh d
 |.lk _ _ d=>.sh d
 |.xc a=>.xc a
 |.ob a _=>.xc a
def Oi(i:Nat)(ρ:Env):Env:=match ρ[i]? with
 |some (some sl)=>ρ.set i (some (Oh sl))
 |_=>ρ
theorem qw{As ai B t:List ag}(n:(B++ai).Nodup)(a:As.Sublist ai)(c:∀ x∈As,x∉t):∀ x∈As,x∉B++t:=fun x hx m=>by
 obtain⟨n1,n2,n3⟩:=iS.mp n;rcases eS.mp m with z|z
 ·exact n3 x z x (a.subset hx) rfl
 ·exact c x hx z
theorem SR.nh(i:Nat)(s:SR K Hs H ρ σ ai):ρ[i]? = some (some (.ow fl d))->ai.Nodup ->
  ∃ (As cS:List ag),As.Sublist ai/\cS.Sublist ai/\(∀ a∈As,a∉cS)/\∀ ax,bG Hs ax->(∀ a∈As,ax a=H a)->SR K ax H (ρ.set i (some (.sh d))) σ cS:=by
 induction s generalizing i with
 |nil=>intro e;simp at e
 |non q ih =>
  intro e n
  cases i with
  |zero=>simp at e
  |succ i =>obtain⟨As,t,a,b,c,d⟩:=ih i e n;exact⟨As,t,a,b,c,fun ax s k=>.non (d ax s k)⟩
 |sh r q ih =>
  intro e n
  cases i with
  |zero=>simp at e
  |succ i =>obtain⟨As,t,a,b,c,d⟩:=ih i e n;exact⟨As,t,a,b,c,fun ax s k=>.sh (r.same s) (d ax s k)⟩
 |xc q ih =>
  intro e n
  cases i with
  |zero=>simp at e
  |succ i =>obtain⟨As,t,a,b,c,d⟩:=ih i e n;exact⟨As,t,a,b,c,fun ax s k=>.xc (d ax s k)⟩
 |ow ne r q ih =>
  intro e n;obtain⟨n1,n2,n3⟩:=iS.mp n
  cases i with
  |zero =>simp at e;obtain⟨rfl,rfl⟩:=e;exact⟨_,_,MS _ _,lS _ _,fun a h m=>n3 a h a m rfl,fun ax s k=>.sh (r.rep s k) (q.eW s fun _ _=>rfl)⟩
  |succ i =>obtain⟨As,t,a,b,c,d⟩:=ih i e n2;exact⟨As,_,a.trans (lS _ _),b.append_left _,qw n a c,fun ax s k=>.ow ne (r.eW s fun _ _=>rfl) (d ax s k)⟩
 |lk ne r q ih =>
  intro e n;obtain⟨n1,n2,n3⟩:=iS.mp n
  cases i with
  |zero=>simp at e
  |succ i =>obtain⟨As,t,a,b,c,d⟩:=ih i e n2;exact⟨As,_,a.trans (lS _ _),b.append_left _,qw n a c,fun ax s k=>.lk ne (r.eW s fun _ _=>rfl) (d ax s k)⟩
 |@ob _ _ _ _ _ p r q ih =>
  intro e n;obtain⟨n1,n2,n3⟩:=iS.mp n
  cases i with
  |zero=>simp at e
  |succ i =>obtain⟨As,t,a,b,c,d⟩:=ih i e n2;exact⟨As,_,a.trans (lS _ _),b.append_left _,qw n a c,fun ax s k=>.ob (p.eW (pY s) (fun _ _=>rfl) r) (d ax s k)⟩
theorem d5.nh(i:Nat)(s:d5 K Hs ρ σ H ai):∃ ax cS,bG Hs ax/\d5 K ax (Oi i ρ) σ H cS:=by
 unfold Oi;split
 ·rename_i sl e;have keep:Oh sl=sl->∃ ax cS,bG Hs ax/\d5 K ax (ρ.set i (some (Oh sl))) σ H cS:=fun hs=>by
   have e2:ρ.set i (some (Oh sl))=ρ:=by
    apply Lv;intro j;rw[Sj];by_cases h:i=j
    ·subst h;rw[if_pos rfl,e];have:i<ρ.length:=(lP.mp e).1;simp[this,hs]
    ·rw[if_neg h]
   rw[e2];exact⟨Hs,ai,bG.refl _,s⟩
  cases sl with
  |sh d=>exact keep rfl
  |xc a=>exact keep rfl
  |lk a fl d=>exact keep rfl
  |ob a p=>exact keep rfl
  |ow fl d =>obtain⟨As,t,a,b,c,g⟩:=SR.nh i s.sr e s.sR;have hn:∀ a∈As,Hs a=none:=fun x hx=>s.own x (a.subset hx);have ho:∀ a∈As,Own H a:=fun x hx=>s.sr.own x (a.subset hx);refine⟨xA Hs H As,t,gJ hn,g _ (gJ hn) fun x hx=>by unfold xA;rw[if_pos hx],zL s.wf ho,b.nodup s.sR,fun x hx=>?_⟩;unfold xA;rw[if_neg fun m=>c x m hx];exact s.own x (b.subset hx)
 ·exact⟨Hs,ai,bG.refl _,s⟩
def i5(i:Nat)(t:WS):WS:=fun E ρ=>t E (Oi i ρ)
theorem yg{D:Ends}(h:AJ K L (i5 i t) D σ H):AJ K L t D σ H:=by
 obtain⟨Hs,ρ,ai,E,sr,h,k1,k2,k3,k4,kx⟩:=h;obtain⟨ax,cS,s,Uv⟩:=sr.nh i;exact⟨ax,_,cS,E,Uv,h,fun lh H2 bq kf fo s2=>k1 lh H2 bq kf fo (s.trans s2),fun lh H2 bq kf fo s2=>k2 lh H2 bq kf fo (s.trans s2),fun lh H2 bq kf fo s2=>k3 lh H2 bq kf fo (s.trans s2),
  fun v H2 bq m d As s2=>k4 v H2 bq m d As (s.trans s2),fun n H2 s2=>kx n H2 (s.trans s2)⟩
theorem aL(i:Nat)(h:QS X K L st t):QS X K L st (i5 i t):=PS.imp h fun D σ H h=>yg h
def jH(bE H1 ax H':Hp):Hp:=fun a=>match H' a with
 |some (.tup vs)=>some (.tup vs)
 |_=>match H1 a with
  |none=>ax a
  |some _=>bE a
theorem cY(w:Wf bE H1)(s:bG H1 ax)(w':Wf ax H'):e9 bE H1 (jH bE H1 ax H') H':=by
 have sa:bG H1 H':=s.trans w'.sub;have tp:∀ a vs,H' a=some (.tup vs)->jH bE H1 ax H' a=some (.tup vs):=fun a vs e=>by unfold jH;rw[e]
 have nt:∀ a,(∀ vs,H' a≠some (.tup vs))->jH bE H1 ax H' a=match H1 a with
  |none=>ax a
  |some _=>bE a:=fun a h=>by
  unfold jH;split
  ·rename_i vs e;exact absurd e (h vs)
  ·rfl
 refine⟨sa,fun a o e=>?_,⟨fun a o e=>?_,tp⟩,fun a h=>?_⟩
 ·have e1:=w.sub a o e;have e2:=sa a o e1;by_cases ht:∃ vs,o=.tup vs
  ·obtain⟨vs,rfl⟩:=ht;exact tp a vs e2
  ·rw[nt a fun vs z=>ht ⟨vs,by rw[e2] at z;exact Option.some.inj z⟩,e1];exact e
 ·by_cases ht:∃ vs,H' a=some (.tup vs)
  ·obtain⟨vs,z⟩:=ht;rw[tp a vs z] at e;rw[z];exact e
  ·rw[nt a fun vs z=>ht ⟨vs,z⟩] at e
   cases q:H1 a with
   |none=>rw[q] at e;exact w'.sub a o e
   |some u =>rw[q] at e;have:=w.sub a o e;exact sa a o this
 ·cases q:H1 a with
  |none=>exact .inr rfl
  |some u =>
   refine .inl ?_;by_cases ht:∃ vs,H' a=some (.tup vs)
   ·obtain⟨vs,z⟩:=ht;have:=sa a u q;rw[z] at this;cases this;rw[w.i9 a vs q];exact fun z=>nomatch z
   ·rw[nt a fun vs z=>ht ⟨vs,z⟩,q] at h;exact h
theorem pQ{bE H1 ax H':Hp}{a:ag}(s:bG H1 ax)(h:ax a=none)(o:Own H' a):jH bE H1 ax H' a=none/\H1 a=none:=by
 have h1:=s.free h;refine⟨?_,h1⟩;unfold jH;split
 ·rename_i vs e;exact absurd e o.wz
 ·rw[h1];exact h
def B5:Md->D->Md
 |.ow true,_=>.ow true
 |.fr,_=>.fr
 |_,d=>bif d.flat then .sh else .bo
theorem lU(w:Wf bE H1)(s:bG H1 ax)(w':Wf ax H')(r:RM K ax H' m d v As)(nd:As.Nodup)(own:∀ a∈As,ax a=none) :
  ∃ g9,RM K (jH bE H1 ax H') H' (B5 m d) d v g9/\bV (jH bE H1 ax H') H1 g9:=by
 have g:=cY w s w';have other:∃ g9,RM K (jH bE H1 ax H') H' (bif d.flat then .sh else .bo) d v g9/\bV (jH bE H1 ax H') H1 g9:=by
  cases hf:d.flat with
  |true=>exact⟨[],⟨rfl,(r.rep w').gP g.wf.i9 hf⟩,bV.nil⟩
  |false=>exact⟨[],⟨rfl,r.rep w'⟩,bV.nil⟩
 cases m with
 |sh=>exact other
 |bo=>exact other
 |fr=>exact⟨As,⟨r.1,r.2.same (rJ (fun a vs e=>uP r.1 g.wf.sub (g.wf.i9 a vs (w'.sub _ _ e))) fun a m o e=>by unfold IX;rw[if_pos m];exact e)⟩,nd,fun a h=>pQ s (own a h) (r.own a h)⟩
 |ow fl =>
  cases fl with
  |false=>exact other
  |true=>exact⟨As,⟨cx.leaves (fun a vs e=>g.wf.i9 a vs (w'.sub _ _ e)) r.1,r.2⟩,nd,fun a h=>pQ s (own a h) (r.own a h)⟩
abbrev gy:=List D->(Md->D->Prop)->Prop
def fX(K:aE)(sp:gy):Sp:=fun vs H Qv _=>∃ ds Qd,bT K H ds vs/\sp ds Qd /\
 ∀ v H' ax m d As,bG H ax->Wf ax H'->RM K ax H' m d v As->As.Nodup->(∀ a∈As,ax a=none)->Qd m d->Qv v H'
def aH(n:Nat)(ds:List D):Env:=ds.map (fun d=>some (.sh d))++List.replicate (n-ds.length) none
theorem SR.start(r:bT K H ds vs):SR K H H (ds.map (fun d=>some (.sh d))++List.replicate n none) (vs.map some++List.replicate n none) []:=by
 induction ds generalizing vs with
 |nil =>
  rw[r.n0]
  induction n with
  |zero=>exact .nil
  |succ n ih=>exact .non ih
 |cons d ds ih =>obtain⟨u,us,rfl,r,rs⟩:=r.c;exact .sh r (ih rs)
theorem wy(h:fX K sp vs H Qv E)(hp:∀ ds Q,sp ds Q->t { nx:=fun _=>Q .sh .non,rt:=Q } (aH N.length ds)) :
  AJ K L0 t { nx:=fun _ H'=>Qv .non H',rt:=Qv } (start N vs) H:=by
 obtain⟨ds,Qd,rs,hs,fin⟩:=h;have hl:=rs.length;refine⟨H,aH N.length ds,[],{ nx:=fun _=>Qd .sh .non,rt:=Qd },⟨?_,⟨bG.refl _,fun _ _ e=>e⟩,k9,fun a h=>nomatch h⟩,hp ds Qd hs,?_,?_,?_,?_,fun _ _ _ _=>trivial⟩
 ·unfold aH start;rw[hl];exact SR.start rs
 ·exact fun cf H' ax c9 cS s sr q=>fin .non H' ax .sh .non [] s sr.wf ⟨rfl,.non⟩ k9 (fun a h=>nomatch h) q
 ·exact fun cf H' ax c9 cS s sr q=>q.elim
 ·exact fun cf H' ax c9 cS s sr q=>q.elim
 ·exact fun v H' ax m d As s w r nd own q=>fin v H' ax m d As s w r nd own q
theorem Ux.ok{P:dr}{st:Stmt}{N ps:List Str}(F:ui K x qual st f fd)(S:Iy N ps (hZ st))(len:∀ ds Q,sp ds Q->ds.length=ps.length)(DS:∀ (dP:ae) (A:eB) (outer:List PySem.Env) (s:ay) (H:Hp) (E:XK),kC k (A.deeper (mh qual (hZ st) s.heap.objs.size f dP))->y9 (p9 vw P w K mg base N qual (hZ st) f dP A outer s H E).E6 K L0 (rV st) t)(hp:∀ ds Q,sp ds Q->t { nx:=fun _=>Q .sh .non,rt:=Q } (aH N.length ds)):t5 P w K mg base vw (k+1) f fd ps (fX K sp) :=
 F.ok S (fun vs H Q E ⟨ds,Qd,rs,hs,_⟩=>by rw[<- rs.length];exact len ds Qd hs) fun dP A outer s H vs Q E hr hs=>⟨_,DS dP A outer s H E hr,wy hs hp⟩
def aR(sp:gy)(t:WA):WE:=fun ρ Q=>t ρ fun ps=>sp (ps.map (·.2)) fun m d=>ck (m,d) (f:=fun p=>Q (B5 p.1 p.2) p.2) ⟨⟩
theorem uZ{sp:gy}{t:WA}{σ:St}{H:Hp}{Qv:VK}{E:XK}(h:nI K (aR sp t) σ H Qv):Iq (fX K sp) [] E (QH K t) σ H Qv:=by obtain⟨Hs,ρ,ai,Q,sr,h,f⟩:=h;refine⟨Hs,ρ,ai,_,sr,h,fun vs H1 bE ps As g1 r1 f1 q1=>?_⟩;refine⟨_,_,by rw[kr];exact r1.reps g1.wf,q1,fun v H' ax m d As s w r nd own q=>?_⟩;obtain⟨g9,r',fr⟩:=lU g1.wf s w r nd own;exact Fin.after f g1 v H' _ (B5 m d) d g9 (cY g1.wf s w) r' fr q
theorem aV {k:Nat} {x:Str} {ps:List Str} {sp:gy} {p:Pos} {es:List Expr} {t:WA} (C:Qt X.prog X.w X.K X.mg X.base k x ps (fX K sp)) (ha:QA X K (e :: es) t) (hg:Gl X x:=by rfl) (kL:(x == ("__debug__" : Str))=false:=by decide) (he:bI (e :: es) X.env=(false,cv e X.env) :: bI es X.env:=by rfl) (jS:(iP pos (bI es X.env)).any (·.1)=false:=by rfl) (hr:kC k X.A:=by exact kC.mono (by assumption) (by decide)):QE X K (.Call (.Name x p) (e :: es) [] pos) (aR sp t):=PE.imp (Ei C hr ha hg kL he jS) fun σ H Qv h=>uZ h
end
abbrev WG:=D->Env->(Env->Prop)->Prop
def ZX(K:aE)(g:WG):TG:=fun v σ H Qv=>∃ Hs ρ ai d Q,d5 K Hs ρ σ H ai/\Rep K Hs d v/\g d ρ Q/\∀ cf c9 cS,d5 K Hs c9 cf H cS->(∀ a∈cS,a∈ai)->Q c9->Qv cf H
abbrev QG(X:Cx)(K:aE)(e:Expr)(g:WG):Prop:=PG X e (ZX K g)
def gN(i:Nat):WG:=fun d ρ Q=>Q (ρ.set i (some (.sh d)))
abbrev IZ:=List D->Env->(Env->Prop)->Prop
def fL'(K:aE)(g:IZ):LZ:=fun vs σ H Qv=>∃ Hs ρ ai ds Q,d5 K Hs ρ σ H ai/\bT K Hs ds vs/\g ds ρ Q/\∀ cf c9 cS,d5 K Hs c9 cf H cS->(∀ a∈cS,a∈ai)->Q c9->Qv cf H
abbrev Q0(X:Cx)(K:aE)(es:List Expr)(g:IZ):Prop:=BG X es (fL' K g)
def qD:IZ:=fun ds ρ Q=>ds=[]/\Q ρ
def cO(g:WG)(gs:IZ):IZ:=fun ds ρ Q=>match ds with
 |d :: ds=>g d ρ fun c9=>gs ds c9 Q
 |[]=>False
def gT(n:Nat)(gs:IZ):WG:=fun d ρ Q=>match d with
 |.tup ds=>ds.length=n/\gs ds ρ Q
 |_=>False
section
variable {X:Cx}{K:aE}{e:Expr}{es:List Expr}{g:WG}{gs:IZ}{pos:Pos}
theorem PG.imp(h:PG X e t)(i:∀ v σ H Q,t' v σ H Q->t v σ H Q):PG X e t':=fun pins s σ H v u Q I r q=>h pins s σ H v u Q I r (i v σ H Q q)
theorem BG.imp(h:BG X es t)(i:∀ v σ H Q,t' v σ H Q->t v σ H Q):BG X es t':=fun pins s σ H v u Q I r q=>h pins s σ H v u Q I r (i v σ H Q q)
theorem d5.B_(i:Nat)(s:d5 K Hs ρ σ H ai)(r:Rep K Hs d v):∃ cS,(∀ a∈cS,a∈ai)/\d5 K Hs (ρ.set i (some (.sh d))) (σ.set i (some v)) H cS:=by obtain⟨t,a,b⟩:=s.sr.zH r i;exact⟨t,fun x hx=>a.subset hx,b,s.wf,a.nodup s.sR,fun x hx=>s.own x (a.subset hx)⟩
theorem aB(i:Nat)(hf:X.fn x=true\/X.env.scope.names.lookup x=some .local:=by first|exact .inl rfl|exact .inr rfl|assumption)(hN:X.N.Nodup:=by assumption)(hi:X.N[i]? = some x:=by rfl)(hx:Loc X.env.scope x:=by first|exact .inl rfl|exact .inr rfl):QG X K (.Name x pos) (gN i) :=
 PG.imp (S9 hN hi hx hf) fun v σ H Qv d4=>by obtain⟨Hs,ρ,ai,d,Q,sr,r,h,k⟩:=d4;obtain⟨t,m,s⟩:=sr.B_ i r;exact k _ _ t s m h
theorem lW:Q0 X K [] qD:=BG.imp V0 fun v σ H Qv d4=>by obtain⟨Hs,ρ,ai,ds,Q,sr,r,h,k⟩:=d4;obtain⟨rfl,h⟩:=h;cases r;exact⟨rfl,k σ ρ ai sr (fun _ z=>z) h⟩
theorem bA(h1:QG X K e g)(h2:Q0 X K es gs)(hs:(qS (e :: es) X.env).map (·.2)=assign e X.env :: (qS es X.env).map (·.2):=by rfl):Q0 X K (e :: es) (cO g gs) :=
 BG.imp (S_ h1 h2 hs) fun v σ H Qv d4=>by
  obtain⟨Hs,ρ,ai,ds,Q,sr,r,h,k⟩:=d4
  cases r with
  |nil=>exact h.elim
  |cons r rs=>exact⟨_,_,rfl,Hs,ρ,ai,_,_,sr,r,h,fun lh kf fo nV m2 q2=>⟨Hs,kf,fo,_,Q,nV,rs,q2,fun BH Mw fM' sr3 m3=>k BH Mw fM' sr3 fun a h=>m2 a (m3 a h)⟩⟩
theorem rN(h:Q0 X K es gs)(hn:(qS es X.env).length=n:=by rfl)(mI:(qS es X.env).findIdx? (·.1)=none:=by rfl)(hc:X.calm=true:=by rfl):QG X K (.Tuple es k pos) (gT n gs) :=
 PG.imp (V1 hc h hn mI) fun v σ H Qv d4=>by
  obtain⟨Hs,ρ,ai,d,Q,sr,r,h,k⟩:=d4
  cases r with
  |tup z e rs=>exact⟨_,_,rfl,.inl (.inl (sr.wf.sub _ _ e)),by rw[<- rs.length];exact h.1,Hs,ρ,ai,_,Q,sr,rs,h.2,k⟩
  |_=>exact h.elim
end
abbrev WI:=Env->(List D->Prop)->Prop
structure qG(K:aE)(J:It)(ds:List D)(C:Hp->Hp->Prop):Prop where
 go:∀ i Hs H,C Hs H->Wf Hs H->i<ds.length->J.go i H
 oD:∀ i Hs H x H' d,C Hs H->Wf Hs H->ds[i]? = some d->J.oD i H x H'->∃ ax,e9 Hs H ax H'/\Rep K ax d x
 stop:∀ Hs H,C Hs H->Wf Hs H->J.stop ds.length H
abbrev uD(K:aE)(Hs:Hp)(J:It)(ds:List D):Prop:=qG K J ds fun G _=>bG Hs G
section
variable {K:aE}{Hs:Hp}{J:It}{ds:List D}{C C':Hp->Hp->Prop}{a:ag}
theorem qG.imp(S:qG K J ds C)(h:∀ Hs H,C' Hs H->C Hs H):qG K J ds C':=⟨fun i Hs H c=>S.go i Hs H (h _ _ c),fun i Hs H x H' d c=>S.oD i Hs H x H' d (h _ _ c),fun Hs H c=>S.stop Hs H (h _ _ c)⟩
theorem qG.seq(rs:bT K Hs ds vs)(S:jw J vs fun H=>bG Hs H):uD K Hs J ds where
 go:=fun i G H s w h=>S.go i H (s.trans w.sub) (by rw[<- rs.length];exact h)
 oD:=fun i G H x H' d s w h y=>by
  have hi:i<ds.length:=by
   rcases Nat.lt_or_ge i ds.length with q|q
   ·exact q
   ·rw[EL q] at h;cases h
  obtain⟨e,z⟩:=S.oD i H x H' (s.trans w.sub) (by rw[<- rs.length];exact hi) y;subst e;obtain⟨d',ed,rd⟩:=rs.ZI z;rw[h] at ed;cases ed;exact⟨G,e9.refl w,rd.same s⟩
 stop:=fun G H s w=>by rw[rs.length];exact S.stop H (s.trans w.sub)
abbrev y_(K:aE)(a:ag)(ds:List D)(C:Hp->Hp->Prop):Prop:=∀ Hs H,C Hs H->Wf Hs H->∃ vs,fq K H a vs/\bT K Hs ds vs
theorem qG.list(h:y_ K a ds C):qG K (PZ K a) ds C where
 go:=fun i G H c w hi=>by obtain⟨vs,q,rs⟩:=h G H c w;exact⟨vs,vs[i]'(by rw[<- rs.length];exact hi),q,by simp⟩
 oD:=fun i G H x H' d c w hd y=>by obtain⟨vs,q,rs⟩:=h G H c w;obtain⟨rfl,y⟩:=y;obtain⟨d',ed,rd⟩:=rs.ZI (y vs q);rw[hd] at ed;cases ed;exact⟨G,e9.refl w,rd⟩
 stop:=fun G H c w=>by obtain⟨vs,q,rs⟩:=h G H c w;exact⟨vs,q,by rw[rs.length];exact da _⟩
theorem uN(s:fq K Hs a vs)(rs:bT K Hs ds vs):y_ K a ds fun G _=>bG Hs G:=fun G H c w=>⟨vs,bG.seq (c.trans w.sub) s,rs.same c⟩
end
def tpI(K:aE)(wi:WI):TI:=fun σ H R=>∃ Hs ρ ai Q,d5 K Hs ρ σ H ai/\wi ρ Q/\∀ J H' ax ds,e9 Hs H ax H'->uD K ax J ds->ds.length<=bS->Q ds->R J H'
abbrev QI(X:Cx)(K:aE)(tg iter:Expr)(wi:WI):Prop:=PI X tg iter (tpI K wi)
def pU:Md->Prop
 |.bo=>False
 |_=>True
def cX(te:WE):WI:=fun ρ Q=>te ρ fun m d=>pU m/\match d with
 |.list xs=>Q xs
 |_=>False
def Uy(z:Str):List D:=z.cps.toList.map fun c=>.str ⟨#[c]⟩
def yH(te:WE):WI:=fun ρ Q=>te ρ fun _ d=>match d with
 |.str z=>Q (Uy z)
 |_=>False
def gk(lo:Int)(n:Nat):List D:=(List.range n).map fun i=>.int (lo+(i:Nat))
def eF(te:WE):WI:=fun ρ Q=>te ρ fun _ d=>match d with
 |.int j=>j<=16777216/\-(2 ^ 62)<=j/\Q (gk 0 j.toNat)
 |_=>False
def sV(ta tb:WE):WI:=fun ρ Q=>ta ρ fun _ x=>tb ρ fun _ y=>match x,y with
 |.int i,.int j=>j-i<=16777216/\(-(2 ^ 62)<=i/\i<2 ^ 62/\-(2 ^ 62)<=j/\j<2 ^ 62)/\Q (gk i (j-i).toNat)
 |_,_=>False
section
variable {X:Cx}{K:aE}{e e2 tg:Expr}{te I0:WE}{pos p:Pos}
theorem PI.imp(h:PI X tg iter t)(i:∀ σ H R,t' σ H R->t σ H R):PI X tg iter t':=fun pins s σ H R I q=>h pins s σ H R I (i σ H R q)
theorem jw.imp{J:It}(s:jw J vs c)(h:∀ H,c' H->c H):jw J vs c':=⟨fun i H q=>s.go i H (h H q),fun i H x H' q=>s.oD i H x H' (h H q),fun H q=>s.stop H (h H q)⟩
theorem RM.v8(g:e9 Hs H bE H1)(r:RM K bE H1 m d v As)(f:bV bE H As)(h:pU m):∃ bq,e9 Hs H bq H1/\Rep K bq d v:=by
 have n:∀ a∈As,bE a=none:=fun a ha=>(f.2 a ha).1;have ZY:Rep K (xA bE H1 As) d v->∃ bq,e9 Hs H bq H1/\Rep K bq d v:=fun z=>by
  refine⟨xA bE H1 As,⟨g.all,g.sh.trans (gJ n),zL g.wf r.own,fun a h=>?_⟩,z⟩;unfold xA at h;by_cases m:a∈As
  ·exact .inr (f.2 a m).2
  ·rw[if_neg m] at h;exact g.new a h
 cases m with
 |sh=>exact⟨bE,g,r.2⟩
 |bo=>exact h.elim
 |ow fl=>exact ZY (cx.rep (gJ n) r.1 fun a ha=>by unfold xA;rw[if_pos ha])
 |fr=>exact ZY (r.2.same (rJ (fun a vs e=>gJ n _ _ e) fun a m o e=>by unfold xA;rw[if_pos m];exact e))
theorem cR(he:QE X K e te)(hK:X.K=K:=by rfl):QI X K tg e (cX te):=by
 subst hK;refine PI.imp (V3 he) fun σ H R hx=>kD hx fun Hs ρ ai Q sr h k=>⟨Hs,ρ,ai,_,sr,h,fun v H1 bE m d As g1 r1 f1 q1=>?_⟩
 obtain⟨nb,q1⟩:=q1;obtain⟨bq,g2,r2⟩:=r1.v8 g1 f1 nb
 cases r2 with
 |list z s rs=>exact⟨_,rfl,⟨_,bG.seq g2.wf.sub s⟩,k _ H1 bq _ g2 (.seq rs (jw.imp (yx X.K _ _) fun H' s'=>bG.seq s' s)) (by rw[rs.length];exact z) q1⟩
 |_=>exact q1.elim
theorem sH:∀ (l:List Nat),bT K H (l.map fun c=>.str ⟨#[c]⟩) (l.map fun c=>V.str ⟨#[c]⟩)
 |[]=>.nil
 |c :: l=>.cons (.str (wO c)) (sH l)
theorem CV(he:QE X K e te):QI X K tg e (yH te):=by
 refine PI.imp (DQ he) fun σ H R hx=>kD hx fun Hs ρ ai Q sr h k=>⟨Hs,ρ,ai,_,sr,h,fun v H1 bE m d As g1 r1 f1 q1=>?_⟩
 have r:=r1.rep g1.wf
 cases r with
 |str hz=>exact⟨_,rfl,k _ H1 bE _ g1 (.seq (sH _) (jw.imp (BW _) fun _ _=>trivial)) (by rw[cK,yk];exact hz) q1⟩
 |_=>exact q1.elim
theorem jB(lo:Int):∀ (l:List Nat),bT K H (l.map fun i=>.int (lo+(i:Nat))) (l.map fun i=>V.int (lo+(i:Nat)))
 |[]=>.nil
 |c :: l=>.cons (.int _) (jB lo l)
theorem e_ (hm:X.mg "range" = none) (he:QE X K e te) (hg:Gl X "range" := by rfl) (hs:bI [e] X.env=(false,cv e X.env) :: bI [] X.env:=by rfl) (fF:bI [e] X.env=[(false,cv e X.env)]:=by rfl):QI X K tg (.Call (.Name "range" p) [e] [] pos) (eF te):=by
 refine PI.imp (cj' hg hm (mr he rL hs) fF) fun σ H R hx=>kD hx fun Hs ρ ai Q sr h k=>⟨Hs,ρ,ai,_,sr,h,fun v H1 bE m d As g1 r1 f1 q1=>?_⟩
 have r:=r1.rep g1.wf
 cases r with
 |int j =>obtain⟨h1,h2,q1⟩:=q1;exact⟨j,rfl,h2,by lia,k _ H1 bE _ g1 (.seq (jB 0 _) (jw.imp (vD _ _) fun _ _=>trivial)) (by rw[cK,A5,hJ];lia) q1⟩
 |_=>exact q1.elim
theorem BK (hm:X.mg "range" = none) (he:QE X K e te) (Jn:QE X K e2 I0) (hg:Gl X "range" := by rfl) (hs:bI (e :: [e2]) X.env=(false,cv e X.env) :: bI [e2] X.env:=by rfl) (jI:bI (e2 :: []) X.env=(false,cv e2 X.env) :: bI [] X.env:=by rfl) (fF:bI [e,e2] X.env=[(false,cv e X.env),(false,cv e2 X.env)]:=by rfl) (fP':bI [e2] X.env=[(false,cv e2 X.env)]:=by rfl):QI X K tg (.Call (.Name "range" p) [e,e2] [] pos) (sV te I0):=by
 refine PI.imp (ck' hg hm (mr he (mr Jn rL jI) hs) fF fP') fun σ H R hx=>kD hx fun Hs ρ ai Q sr h k=>⟨Hs,ρ,ai,_,sr,h,fun v H1 bE m d As g1 r1 f1 q1=>⟨bE,ρ,ai,_,sr.grow g1,q1,fun u H2 bq n y Bs g2 r2 f2 q2=>?_⟩⟩
 have r:=(r1.grow g2).rep g2.wf;have r':=r2.rep g2.wf
 cases r with
 |int i=>cases r' with
  |int j =>obtain⟨h1,h2,q2⟩:=q2;exact⟨i,j,rfl,h2,k _ H2 bq _ (g1.trans g2) (.seq (jB i _) (jw.imp (vD _ _) fun _ _=>trivial)) (by rw[cK,A5,hJ];lia) q2⟩
  |_=>exact q2.elim
 |_=>cases r'<;>exact q2.elim
section
variable {X:Cx}{K:aE}{e tg:Expr}{te:WE}
def ZZ(K:aE)(wi:WI):TI:=fun σ H R=>∃ Hs ρ ai Q,d5 K Hs ρ σ H ai/\wi ρ Q/\∀ J H' ax ds,e9 Hs H ax H'->uD K H' J ds->ds.length<=bS->Q ds->R J H'
abbrev Q5(X:Cx)(K:aE)(tg iter:Expr)(wi:WI):Prop:=PI X tg iter (ZZ K wi)
theorem tG(h:QI X K tg iter wi):Q5 X K tg iter wi:=PI.imp h fun σ H R hx=>kD hx fun Hs ρ ai Q sr h k=>⟨Hs,ρ,ai,Q,sr,h,fun J H' ax ds g w z q=>k J H' ax ds g (w.imp fun G H s=>g.wf.sub.trans s) z q⟩
def dR(te:WE):WI:=fun ρ Q=>te ρ fun _ d=>match d with
 |.list xs=>Q xs
 |_=>False
theorem dD(he:QE X K e te)(hK:X.K=K:=by rfl):Q5 X K tg e (dR te):=by
 subst hK;refine PI.imp (V3 he) fun σ H R hx=>kD hx fun Hs ρ ai Q sr h k=>⟨Hs,ρ,ai,_,sr,h,fun v H1 bE m d As g1 r1 f1 q1=>?_⟩
 have r:=r1.rep g1.wf
 cases r with
 |list z s rs=>exact⟨_,rfl,⟨_,s⟩,k _ H1 bE _ g1 (.list (uN s rs)) (by rw[rs.length];exact z) q1⟩
 |_=>exact q1.elim
end
def pC(g:WG)(b:WS)(E:j9):List D->Env->Prop
 |[],ρ=>E.nx ρ
 |x :: xs,ρ=>g x ρ fun xB=>b { E with nx:=pC g b E xs,ct:=pC g b E xs,bk:=E.nx } xB
def qq(wi:WI)(g:WG)(b:WS):WS:=fun E ρ=>wi ρ fun ds=>pC g b E ds ρ
variable {wi:WI}{g:WG}{b:WS}{body:List Stmt}
theorem cj(hi:QI X K tg iter wi)(hg:QG X K tg g)(hb:y9 X K L body b)(hs:∀ x,FV iter X.env x=pure x:=by intro _;rfl)(hp:PassesOwn (aS X.prog X.w) X.A X.env X.xe:=by first|exact PassesOwn.never|exact PassesOwn.leaving)(hc:X.calm=true:=by rfl) :
  QS X K L (.For tg iter body [] pos) (qq wi g b):=by
 refine PS.imp (cm' hp hc hi hg hb hs) fun D σ H hx=>jW hx fun Hs ρ ai E sr h k1 k2 k3 k4 kx=>?_;rw[Ax];refine⟨Hs,ρ,ai,_,sr,h,fun J H1 bE ds g1 S hz q1=>?_⟩;refine⟨fun i m σ H=>m=ds.length-i/\i<=ds.length/\∃ ax c9 cS,bG bE ax/\d5 K ax c9 σ H cS/\pC g b E (ds.drop i) c9,⟨ds.length,by simp,eT _,bE,ρ,ai,bG.refl _,sr.grow g1,by simpa using q1⟩,?_⟩;rintro i m lh H2 ⟨rfl,hi,bq,kf,fo,s2,nV,q2⟩;by_cases gp:i<ds.length
 ·refine .inr ⟨S.go i bq H2 s2 nV.wf gp,fun BH H3=>∃ ax c9 cS,bG bE ax/\d5 K ax c9 BH H3 cS/\pC g b E (ds.drop (i+1)) c9,fun BH H3 h3=>⟨ds.length-(i+1),by lia,rfl,gp,h3⟩,fun x H3 y=>?_⟩;obtain⟨fS,g3,rd⟩:=S.oD i bq H2 x H3 ds[i] s2 nV.wf (by simp[gp]) y;rw[Lp gp] at q2;have s3:=s2.trans g3.sh;refine⟨fS,kf,fo,ds[i],_,nV.grow g3,rd,q2,fun σ4 xC Uz Q6 _ q4=>?_⟩;refine⟨fS,xC,Uz,_,Q6,q4,?_,?_,?_,?_,fun n H5 s5=>kx n H5 ((g1.sh.trans s3).trans s5)⟩
  ·exact fun UA H5 B6 Oj Ol s5 Om q5=>⟨B6,Oj,Ol,s3.trans s5,Om,q5⟩
  ·exact fun UA H5 B6 Oj Ol s5 Om q5=>k1 UA H5 B6 Oj Ol ((g1.sh.trans s3).trans s5) Om q5
  ·exact fun UA H5 B6 Oj Ol s5 Om q5=>⟨B6,Oj,Ol,s3.trans s5,Om,q5⟩
  ·exact fun v H5 B6 m d As s5=>k4 v H5 B6 m d As ((g1.sh.trans s3).trans s5)
 ·have e:i=ds.length:=by lia
  subst e;refine .inl ⟨S.stop bq H2 s2 nV.wf,?_⟩;rw[Sq] at q2;exact k1 lh H2 bq kf fo (g1.sh.trans s2) nV q2
theorem bj(xs:List D)(Pv:Nat->Env->Prop)(h0:Pv 0 ρ)(hs:∀ i x ρ,xs[i]? = some x->Pv i ρ->∀ N:Env->Prop,(∀ c9,Pv (i+1) c9->N c9)->g x ρ fun xB=>b { E with nx:=N,ct:=N,bk:=E.nx } xB) (hd:∀ ρ,Pv xs.length ρ->E.nx ρ):pC g b E xs ρ:=by
 have go:∀ (k i:Nat) (ρ:Env),i+k=xs.length->Pv i ρ->pC g b E (xs.drop i) ρ:=by
  intro k
  induction k with
  |zero =>
   intro i ρ e p;have:i=xs.length:=by lia
   subst this;rw[Sq];exact hd ρ p
  |succ k ih =>
   intro i ρ e p;have hi:i<xs.length:=by lia
   rw[Lp hi];exact hs i xs[i] ρ (by simp[hi]) p _ fun kf h2=>ih (i+1) kf (by lia) h2
 have:=go xs.length 0 ρ (by lia) h0;simpa using this
end
def xD:WT:=fun _ Q=>Q true
def UB(m:Md)(d:D):Prop:=d.flat=true\/m=.ow true
def iD(g:WG)(tc:WT)(te:WE):List D->Env->(List D->Prop)->Prop
 |[],_,k=>k []
 |x :: xs,ρ,k=>g x ρ fun xB=>tc xB fun b=>if b=true then te xB fun m d=>UB m d/\iD g tc te xs xB (fun out=>k (d :: out)) else iD g tc te xs xB k
def Ak(tn:Nat)(ix:List Nat)(ρ:Env):Env:=List.replicate tn none++ix.map fun j=>(ρ[j]?).join.map Uw
def eG(wi:WI)(g:WG)(tc:WT)(te:WE)(tn:Nat)(ix:List Nat):WE:=fun ρ Q=>wi ρ fun ds=>iD g tc te ds (Ak tn ix ρ) fun out=>Q (.ow true) (.list out)
section
variable {X:Cx}{K:aE}
theorem kY{Hs H G:Hp}(sr:d5 K Hs ρ σ H ai)(G':Hp):∀ (ix:List Nat),SR K H G' (ix.map fun j=>(ρ[j]?).join.map Uw) (ix.map fun j=>(σ[j]?).join) []
 |[]=>.nil
 |j :: ix=>by
  have ih:=kY sr G' ix (G:=G);simp only[iF]
  cases e:ρ[j]? with
  |none=>exact .non ih
  |some o =>
   cases o with
   |none=>exact .non ih
   |some sl =>
    obtain⟨v,e1,r⟩:=sr.sr.get e;rw[e1]
    cases sl with
    |sh d=>exact .sh (Rep.same sr.wf.sub r) ih
    |xc a=>subst r;exact .xc ih
    |ob a p=>obtain⟨r,_⟩:=r;subst r;exact .xc ih
    |ow fl d =>obtain⟨As,_,r,_⟩:=r;exact .sh (r.rep sr.wf.sub fun _ _=>rfl) ih
    |lk a fl d =>obtain⟨As,_,r,_⟩:=r;exact .sh (r.rep sr.wf.sub fun _ _=>rfl) ih
theorem nW(s:SR K H G ρ σ []):∀ (n:Nat),SR K H G (List.replicate n none++ρ) (List.replicate n none++σ) []
 |0=>s
 |n+1=>.non (nW s n)
theorem SR.heap(s:SR K Hs H ρ σ []):SR K Hs H' ρ σ []:=s.eW (bG.refl _) fun a h=>nomatch h
theorem wX(w:Wf Hs H)(n:Hs p=none)(ho:∀ vs,o≠.tup vs):Wf Hs (upd H p o):=⟨fun b u q=>by
  rw[iL (fun z=>by subst z;rw[n] at q;cases q)];exact w.sub b u q,fun b us q=>by
  by_cases hb:b=p
  ·subst hb;rw[kQ] at q;exact absurd (Option.some.inj q) (ho us)
  ·rw[iL hb] at q;exact w.i9 b us q⟩
structure CompI(K:aE)(H1:Hp)(b:ag)(acc:List D)(ys:List V)(As:List ag)(Hs:Hp)(ρ:Env)(τ:St)(H:Hp):Prop where
 sm:bG H1 Hs
 sr:d5 K Hs ρ τ H []
 eD:H b=some (.lst ys)
 nD:Hs b=none
 ra:az K Hs H true acc ys As
 nd:(b :: As).Nodup
 own:∀ a∈As,Hs a=none
theorem CompI.grow(c:CompI K H1 b acc ys As Hs ρ τ H)(g:e9 Hs H ax H'):CompI K H1 b acc ys As ax ρ τ H' :=
 ⟨c.sm.trans g.sh,c.sr.grow g,g.all _ _ c.eD,g.pd c.nD (by rw[c.eD];exact fun z=>nomatch z),c.ra.grow g.sh g.all,c.nd,fun a ha=>g.pd (c.own a ha) (c.ra.own a ha).ne⟩
theorem CompI.push(c:CompI K H1 b acc ys As Hs ρ τ H)(r:RM K Hs H m d v Bs)(ok:UB m d)(nb:Bs.Nodup)(fb:∀ a∈Bs,Hs a=none/\a∉b :: As):∃ g9,CompI K H1 b (acc++[d]) (ys++[v]) g9 Hs ρ τ (upd H b (.lst (ys++[v]))):=by
 obtain⟨B,sb,rb⟩:∃ B,B.Sublist Bs/\cx K Hs H true d v B:=by
  rcases ok with hf|rfl
  ·exact⟨[],CM _,.sh (fun _=>hf) (r.flat c.sr.wf hf)⟩
  ·exact⟨Bs,List.Sublist.refl _,r.1⟩
 obtain⟨na,nA⟩:=lT.mp c.nd;have Q7:=fun a ha=>fb a (sb.subset ha);refine⟨As++(B++[]),c.sm,⟨c.sr.sr.heap,wX c.sr.wf c.nD (fun _ z=>nomatch z),k9,fun a h=>nomatch h⟩,kQ,c.nD,(c.ra.eW (H':=upd H b (.lst (ys++[v]))) (bG.refl _) fun a ha=>iL fun z=>na (by subst z;exact ha)).append (.cons (rb.eW (bG.refl _) fun a ha=>iL fun z=>(Q7 a ha).2 (by subst z;exact eL)) .nil),?_,?_⟩
 ·rw[kr];refine lT.mpr ⟨fun m=>(eS.mp m).elim na fun m=>(Q7 b m).2 eL,iS.mpr ⟨nA,sb.nodup nb,fun x hx y hy e=>(Q7 y hy).2 (e ▸ eI _ hx)⟩⟩
 ·rw[kr];exact fun a ha=>(eS.mp ha).elim (c.own a) fun m=>(Q7 a m).1
theorem pL(h:nI K (eG wi g tc te tn ix) σ H Qv):wU (ZZ K wi) (ZX K g) (FD K tc) (nI K te) tn ix σ H Qv:=by
 obtain⟨Hs,ρ,ai,Q,sr,h,f⟩:=h;rw[xZ];refine⟨Hs,ρ,ai,_,sr,h,fun J H1 bE ds g1 S hz q1 b hb=>?_⟩;have st:CompI K H1 b [] [] [] H1 (Ak tn ix ρ) (mF tn ix σ) (upd H1 b (.lst [])):=by
  refine⟨bG.refl _,⟨nW (kY (G:=H1) (sr.grow g1) _ ix) tn,⟨(bG.refl H1).upd hb,fun a xs e=>?_⟩,k9,fun a h=>nomatch h⟩,kQ,hb,.nil,by simp,fun a h=>nomatch h⟩;by_cases ha:a=b
  ·subst ha;rw[kQ] at e;cases e
  ·rw[iL ha] at e;exact e
 refine⟨fun i m τ H2=>m=ds.length-i/\i<=ds.length/\∃ bq kf acc ys As,CompI K H1 b acc ys As bq kf τ H2/\acc.length<=i/\iD g tc te (ds.drop i) kf (fun out=>Q (.ow true) (.list (acc++out))), ⟨ds.length,by simp,eT _,H1,_,[],[],[],st,da _,by simpa using q1⟩,?_⟩
 rintro i m τ H2 ⟨rfl,hi,bq,kf,acc,ys,As,c,la,q2⟩;by_cases gp:i<ds.length
 ·refine .inr ⟨S.go i bq H2 c.sm c.sr.wf gp,
   fun Mx v H4=>∃ Mr xC d,CompI K H1 b acc ys As Mr xC Mx H4/\(∃ g9,CompI K H1 b (acc++[d]) (ys++[v]) g9 Mr xC Mx (upd H4 b (.lst (ys++[v]))))/\iD g tc te (ds.drop (i+1)) xC (fun out=>Q (.ow true) (.list (acc++d :: out))),
   fun Mx H3=>∃ fS Mw,CompI K H1 b acc ys As fS Mw Mx H3/\iD g tc te (ds.drop (i+1)) Mw (fun out=>Q (.ow true) (.list (acc++out))),?_,?_,?_⟩
  ·rintro Mx v H4 ⟨Mr,xC,d,c4,⟨g9,c5⟩,q4⟩;have lya:=c4.ra.length;exact⟨ys,ds.length-(i+1),c4.eD,by lia,by lia,rfl,gp,Mr,xC,acc++[d],ys++[v],g9,c5,by rw[kH];simpa using la,by simpa using q4⟩
  ·rintro Mx H3 ⟨fS,Mw,c3,q3⟩;exact⟨ds.length-(i+1),by lia,rfl,gp,fS,Mw,acc,ys,As,c3,by lia,q3⟩
  ·intro x H3 y;obtain⟨fS,g3,rd⟩:=S.oD i bq H2 x H3 ds[i] c.sm c.sr.wf (by simp[gp]) y;rw[Lp gp] at q2;have c3:=c.grow g3;refine⟨fS,kf,[],ds[i],_,c3.sr,rd,q2,fun τ4 xC Uz Q6 m4 q4=>?_⟩;have t4:Uz=[]:=List.eq_nil_iff_forall_not_mem.mpr fun a ha=>nomatch m4 a ha;subst t4;have c4:CompI K H1 b acc ys As fS xC τ4 H3:=⟨c3.sm,Q6,c3.eD,c3.nD,c3.ra,c3.nd,c3.own⟩
   refine⟨fS,xC,[],_,Q6,q4,fun k H5 B6 g5 q5=>?_⟩;have c5:=c4.grow g5
   cases k with
   |false=>exact⟨B6,xC,c5,q5⟩
   |true =>
    refine⟨B6,xC,[],_,c5.sr,q5,fun v H6 Hs6 m6 d6 As6 g6 r6 f6 q6=>?_⟩;have c6:=c5.grow g6;refine⟨Hs6,xC,d6,c6,c6.push r6 q6.1 f6.1 fun a ha=>⟨(f6.2 a ha).1,fun m=>?_⟩,q6.2⟩;rcases eM.mp m with rfl|m
    ·have:=(f6.2 _ ha).2;rw[c5.eD] at this;cases this
    ·exact(c5.ra.own a m).ne (f6.2 a ha).2
 ·have e:i=ds.length:=by lia
  subst e;refine .inl ⟨S.stop bq H2 c.sm c.sr.wf,?_⟩;rw[Sq] at q2;have q2:Q (.ow true) (.list (acc++[])):=q2;rw[kr] at q2;have lya:=c.ra.length;have rm:RM K bq H2 (.ow true) (.list acc) (.ref b) (b :: As):=⟨.list (by lia) c.eD c.ra,by simp⟩
  obtain⟨g9,r',fr⟩:=lU g1.wf c.sm c.sr.wf rm c.nd fun a ha=>(eM.mp ha).elim (fun z=>z ▸ c.nD) (c.own a);exact Fin.after f g1 (.ref b) H2 _ (.ow true) (.list acc) g9 (cY g1.wf c.sm c.sr.wf) r' fr q2
theorem BQ.imp(h:BQ X ifs t)(i:∀ σ H Q,t' σ H Q->t σ H Q):BQ X ifs t':=fun pins s σ H Q I q=>h pins s σ H Q I (i σ H Q q)
abbrev Q8(X:Cx)(K:aE)(ifs:List Expr)(t:WT):Prop:=BQ X ifs (FD K t)
theorem cD:Q8 X K [] xD:=BQ.imp BZ fun σ H Qv hx=>kD hx fun Hs ρ ai Q sr h k=>k true H Hs (e9.refl sr.wf) h
theorem vo(h:QT X K c t):Q8 X K [c] t:=Cu h
theorem dI(hi:Q5 X K tg iter wi)(hg:∀ {C fp ic ja} {q:(tn++cn).Nodup},QG (aQ X scope C (tn++cn) fp ic ja) K tg g) (yT:∀ {C fp ic ja},Q8 (aQ X scope C (tn++cn) fp ic ja) K ifs tc) (he:∀ {C fp ic ja},QE (aQ X scope C (tn++cn) fp ic ja) K elt te)(hs:∀ x,FV iter X.env x=pure x:=by intro _;rfl) (nd:(tn++cn).Nodup:=by decide +kernel) (O:dM X scope tn cn ix:=by exact dM.by (by assumption) (by decide +kernel)) (hc:X.calm=true:=by rfl):QE X K (.ListComp elt [⟨tg,iter,ifs,0⟩] scope pos) (eG wi g tc te tn.length ix) :=
 PE.imp (Be hc hi O (fun _ _ _ _=>hg (q:=nd)) (fun _ _ _ _=>yT) (fun _ _ _ _=>he) hs) fun σ H Qv h=>pL h
end
theorem aO(p:D->Bool)(f:D->D)(Iv:Env->Prop):∀ (xs:List D) (ρ:Env) (k:List D->Prop),Iv ρ -> (∀ x∈xs,∀ ρ,Iv ρ->∀ N1:Env->Prop,∀ N2:Env->D->Prop,(∀ c9,Iv c9->p x=false->N1 c9)->(∀ c9,Iv c9->p x=true->N2 c9 (f x))->g x ρ fun xB=>tc xB fun b=>if b=true then te xB fun m d=>UB m d/\N2 xB d else N1 xB) ->
  k ((xs.filter p).map f)->iD g tc te xs ρ k
 |[],_,k,_,_,h=>h
 |x :: xs,ρ,k,iv,hs,h=>by
  refine hs x eL ρ iv _ _ (fun c9 UC hp=>?_) (fun c9 UC hp=>?_)
  ·exact aO p f Iv xs c9 k UC (fun y hy=>hs y (eI _ hy)) (by simpa[hp] using h)
  ·exact aO p f Iv xs c9 _ UC (fun y hy=>hs y (eI _ hy)) (by simpa[hp] using h)
def Upd(K:aE)(Hs H:Hp)(σ:St)(fl:Bool)(v:V)(up:Bool->D->Env)(g9:List ag):Prop:=∀ bq H2 fl2 d2 fR,bG Hs bq->Wf bq H2->(∀ a,Hs a=none->H a≠none->bq a=none)->(fl2=true->fl=true) ->
  cx K bq H2 fl2 d2 v fR->fR≠[]->fR.Nodup->(∀ a∈fR,bq a=none/\(a∈g9\/H a=none))->(∀ a,H a≠none->a∉g9->H2 a=H a)->∃ fo,d5 K bq (up fl2 d2) σ H2 fo
structure Place(K:aE)(Hs H:Hp)(σ:St)(fl:Bool)(d:D)(v:V)(up:Bool->D->Env):Prop where
 ex:∃ g9,cx K Hs H fl d v g9/\g9≠[]/\g9.Nodup/\(∀ a∈g9,Hs a=none)/\Upd K Hs H σ fl v up g9
theorem Upd.node{K:aE}(k:Upd K Hs H σ fl (.ref a) up (a :: A))(g:e9 Hs H bq H2)(own:∀ x∈a :: A,Hs x=none/\H x≠none)(ho:∀ vs,o≠.tup vs)(hf:fl2=true->fl=true)(r:cx K bq (upd H2 a o) fl2 d2 (.ref a) (a :: C)) (nC:C.Nodup) (Q9:a∉C) (hC:∀ x∈C,x∈A\/(bq x=none/\H x=none)):∃ fo,d5 K bq (up fl2 d2) σ (upd H2 a o) fo:=by
 have hn:∀ x∈a :: A,bq x=none:=fun x hx=>g.pd (own x hx).1 (own x hx).2;refine k bq _ fl2 d2 (a :: C) g.sh (wX g.wf (hn a eL) ho) (fun b h1 h2=>g.pd h1 h2) hf r (Pt _ _) (lT.mpr ⟨Q9,nC⟩) (fun b hb=>?_) fun b h1 h2=>?_
 ·rcases eM.mp hb with rfl|hb
  ·exact⟨hn _ eL,.inl eL⟩
  ·exact(hC b hb).elim (fun q=>⟨hn b (eI _ q),.inl (eI _ q)⟩) fun q=>⟨q.1,.inr q.2⟩
 ·rw[iL fun z=>h2 (by subst z;exact eL)]
  cases q:H b with
  |none=>exact absurd q h1
  |some o=>exact g.all b o q
abbrev WP:=Env->(Bool->D->(Bool->D->Env)->Prop)->Prop
def tpP(K:aE)(t:WP):TE:=fun σ H Qv=>∃ Hs ρ ai Q,d5 K Hs ρ σ H ai/\t ρ Q/\∀ v H' ax fl d up,e9 Hs H ax H'->Place K ax H' σ fl d v up->Q fl d up->Qv v H'
abbrev QP(X:Cx)(K:aE)(e:Expr)(t:WP):Prop:=PE X e (tpP K t)
section
variable {K:aE}{Hs H ax H':Hp}{σ:St}{fl:Bool}{d:D}{v:V}{up:Bool->D->Env}
theorem Place.grow(p:Place K Hs H σ fl d v up)(g:e9 Hs H ax H'):Place K ax H' σ fl d v up:=by
 obtain⟨g9,r,ne,nd,own,k⟩:=p.ex;refine⟨g9,r.grow g.sh g.all,ne,nd,fun a h=>g.pd (own a h) (r.own a h).ne,fun bq H2 fl2 d2 fR s2 w2 n2 hf r2 ne2 i6 o2 st=>?_⟩;refine k bq H2 fl2 d2 fR (g.sh.trans s2) w2 (fun a h1 h2=>n2 a (g.pd h1 h2) ?_) hf r2 ne2 i6 (fun a h=>⟨(o2 a h).1,(o2 a h).2.imp id g.all.free⟩) fun a h1 h2=>?_
 ·cases e:H a with
  |none=>exact absurd e h2
  |some o=>rw[g.all a o e];exact fun z=>nomatch z
 ·cases e:H a with
  |none=>exact absurd e h1
  |some o =>have:=g.all a o e;rw[<- this];exact st a (by rw[this];exact fun z=>nomatch z) h2
theorem cx.ne2:(∀ {d:D} {v:V} {As:List ag},cx K Hs H true d v As->d.flat=false->As≠[])/\∀ {ds:List D} {vs:List V} {As:List ag},az K Hs H true ds vs As->dQ ds=false->As≠[] :=
 cx.ind (m1:=fun d _ As=>d.flat=false->As≠[]) (m2:=fun ds _ As=>dQ ds=false->As≠[]) (fun _ _ f _ h=>by rw[f rfl] at h;cases h) (fun _ _ _ _ _ _ _ _ _=>Pt _ _) (fun _ _ _ _ _ _ n _ ih _=>ih n) (fun _ _ _ _ _ _ _ _ _=>Pt _ _) (fun _ _ _ _ _ _ _ _ _=>Pt _ _) (fun h=>by simp[dQ] at h) fun d _ _ _ _ _ _ _ i1 i2 h=>by
   cases e:d.flat with
   |false=>exact fun z=>i1 e (MT.mp z).1
   |true =>simp only[dQ,e,Bool.true_and] at h;exact fun z=>i2 h (MT.mp z).2
theorem cx.ne(r:cx K Hs H true d v As)(h:d.flat=false):As≠[]:=cx.ne2.1 r h
theorem cx.nil_of(r:cx K Hs H fl d v As)(h:d.flat=true):As=[]:=by
 cases r with
 |sh _ _=>rfl
 |tup _ _ n _=>simp[D.flat,n] at h
 |_=>simp[D.flat] at h
def sT(i:Nat):WP:=fun ρ Q=>match ρ[i]? with
 |some (some (.ow fl d))=>Q fl d fun fl2 d2=>ρ.set i (some (.ow fl2 d2))
 |_=>False
theorem SR.put(i:Nat)(s:SR K Hs H ρ σ ai):ρ[i]? = some (some (.ow fl d))->ai.Nodup ->
  ∃ (v:V) (As cS:List ag),σ[i]? = some (some v)/\As≠[]/\cx K Hs H fl d v As/\As.Sublist ai/\∀ bq H2 fl2 d2 fR,bG Hs bq->cx K bq H2 fl2 d2 v fR->fR≠[]->fR.Nodup->(∀ a∈fR,a∈ai->a∈As)->(∀ a∈ai,a∉As->H2 a=H a) ->
   ∃ fo,fo.Nodup/\(∀ a∈fo,a∈ai\/a∈fR)/\SR K bq H2 (ρ.set i (some (.ow fl2 d2))) σ fo:=by
 induction s generalizing i with
 |nil=>intro e;simp at e
 |@non ρ σ ai o q ih =>
  intro e n
  cases i with
  |zero=>simp at e
  |succ i =>obtain⟨v,As,t,a,b,c,d,g⟩:=ih i (by simpa using e) n;refine⟨v,As,t,by simpa using a,b,c,d,fun bq H2 fl2 d2 fR s2 r2 ne2 i6 dj st=>?_⟩;obtain⟨t2,x,y,z⟩:=g bq H2 fl2 d2 fR s2 r2 ne2 i6 dj st;exact⟨t2,x,y,.non z⟩
 |sh r q ih =>
  intro e n
  cases i with
  |zero=>simp at e
  |succ i =>obtain⟨v,As,t,a,b,c,d,g⟩:=ih i (by simpa using e) n;refine⟨v,As,t,by simpa using a,b,c,d,fun bq H2 fl2 d2 fR s2 r2 ne2 i6 dj st=>?_⟩;obtain⟨t2,x,y,z⟩:=g bq H2 fl2 d2 fR s2 r2 ne2 i6 dj st;exact⟨t2,x,y,.sh (r.same s2) z⟩
 |xc q ih =>
  intro e n
  cases i with
  |zero=>simp at e
  |succ i =>obtain⟨v,As,t,a,b,c,d,g⟩:=ih i (by simpa using e) n;refine⟨v,As,t,by simpa using a,b,c,d,fun bq H2 fl2 d2 fR s2 r2 ne2 i6 dj st=>?_⟩;obtain⟨t2,x,y,z⟩:=g bq H2 fl2 d2 fR s2 r2 ne2 i6 dj st;exact⟨t2,x,y,.xc z⟩
 |@ow ρ σ t2 B fl0 d0 v ne r q ih =>
  intro e n;obtain⟨n1,n2,n3⟩:=iS.mp n
  cases i with
  |zero =>
   simp at e;obtain⟨rfl,rfl⟩:=e;refine⟨v,B,t2,rfl,ne,r,MS _ _,fun bq H2 fl2 d2 fR s2 r2 ne2 i6 dj st=>⟨fR++t2,iS.mpr ⟨i6,n2,fun a ha b hb e=>?_⟩,fun a h=>?_,.ow ne2 r2 (q.eW s2 fun a h=>st a (fe _ h) fun z=>n3 a z a h rfl)⟩⟩
   ·subst e;exact n3 a (dj a ha (fe _ hb)) a hb rfl
   ·exact(eS.mp h).symm.imp (fun z=>fe _ z) id
  |succ i =>
   obtain⟨v,As,t,a,b,c,d,g⟩:=ih i (by simpa using e) n2;have hB:∀ x∈B,x∉As:=fun x hx m=>n3 x hx x (d.subset m) rfl;refine⟨v,As,B++t,by simpa using a,b,c,d.trans (lS _ _),fun bq H2 fl2 d2 fR s2 r2 ne2 i6 dj st=>?_⟩;obtain⟨t2,x,y,z⟩:=g bq H2 fl2 d2 fR s2 r2 ne2 i6 (fun a ha m=>dj a ha (fe _ m)) fun a ha m=>st a (fe _ ha) m;refine⟨B++t2,iS.mpr ⟨n1,x,fun a ha b hb e=>?_⟩,fun a h=>?_,.ow ne (r.eW s2 fun a h=>st a (jv _ h) (hB a h)) z⟩
   ·subst e;rcases y a hb with w|w
    ·exact n3 a ha a w rfl
    ·exact hB a ha (dj a w (jv _ ha))
   ·rcases eS.mp h with w|w
    ·exact .inl (jv _ w)
    ·exact(y a w).imp (fun w=>fe _ w) id
 |@lk ρ σ t2 B a0 fl0 d0 ne r q ih =>
  intro e n;obtain⟨n1,n2,n3⟩:=iS.mp n
  cases i with
  |zero=>simp at e
  |succ i =>
   obtain⟨v,As,t,a,b,c,d,g⟩:=ih i (by simpa using e) n2;have hB:∀ x∈B,x∉As:=fun x hx m=>n3 x hx x (d.subset m) rfl;refine⟨v,As,B++t,by simpa using a,b,c,d.trans (lS _ _),fun bq H2 fl2 d2 fR s2 r2 ne2 i6 dj st=>?_⟩;obtain⟨t2,x,y,z⟩:=g bq H2 fl2 d2 fR s2 r2 ne2 i6 (fun a ha m=>dj a ha (fe _ m)) fun a ha m=>st a (fe _ ha) m;refine⟨B++t2,iS.mpr ⟨n1,x,fun a ha b hb e=>?_⟩,fun a h=>?_,.lk ne (r.eW s2 fun a h=>st a (jv _ h) (hB a h)) z⟩
   ·subst e;rcases y a hb with w|w
    ·exact n3 a ha a w rfl
    ·exact hB a ha (dj a w (jv _ ha))
   ·rcases eS.mp h with w|w
    ·exact .inl (jv _ w)
    ·exact(y a w).imp (fun w=>fe _ w) id
 |@ob ρ σ t2 B a0 p0 r q ih =>
  intro e n;obtain⟨n1,n2,n3⟩:=iS.mp n
  cases i with
  |zero=>simp at e
  |succ i =>
   obtain⟨v,As,t,a,b,c,d,g⟩:=ih i (by simpa using e) n2;have hB:∀ x∈B,x∉As:=fun x hx m=>n3 x hx x (d.subset m) rfl;refine⟨v,As,B++t,by simpa using a,b,c,d.trans (lS _ _),fun bq H2 fl2 d2 fR s2 r2 ne2 i6 dj st=>?_⟩;obtain⟨t2,x,y,z⟩:=g bq H2 fl2 d2 fR s2 r2 ne2 i6 (fun a ha m=>dj a ha (fe _ m)) fun a ha m=>st a (fe _ ha) m;refine⟨B++t2,iS.mpr ⟨n1,x,fun a ha b hb e=>?_⟩,fun a h=>?_,.ob (p0.eW (pY s2) (fun a h=>st a (jv _ h) (hB a h)) r) z⟩
   ·subst e;rcases y a hb with w|w
    ·exact n3 a ha a w rfl
    ·exact hB a ha (dj a w (jv _ ha))
   ·rcases eS.mp h with w|w
    ·exact .inl (jv _ w)
    ·exact(y a w).imp (fun w=>fe _ w) id
theorem bR{X:Cx}(h:PE X e (DL i)):QP X K e (sT i):=PE.imp h fun σ H Qv hx=>kD hx fun Hs ρ ai Q sr h f=>by
 unfold sT at h;split at h
 ·rename_i fl d e1;obtain⟨v,As,t,e2,ne,r,sb,g⟩:=SR.put i sr.sr e1 sr.sR;refine⟨v,e2,f v H Hs fl d _ (e9.refl sr.wf) ⟨As,r,ne,sb.nodup sr.sR,fun a h=>sr.own a (sb.subset h),fun bq H2 fl2 d2 fR s2 w2 n2 _ r2 ne2 i6 o2 st=>?_⟩ h⟩;obtain⟨t2,x,y,z⟩:=g bq H2 fl2 d2 fR s2 r2 ne2 i6 (fun a ha m=>(o2 a ha).2.elim id fun q=>absurd q (sr.sr.own a m).ne) fun a ha m=>st a (sr.sr.own a ha).ne m;exact⟨t2,z,w2,x,fun a h=>(y a h).elim (fun q=>n2 a (sr.own a q) (sr.sr.own a q).ne) fun q=>(o2 a q).1⟩
 ·exact h.elim
theorem cx.wk(h:fl2=true->fl=true)(r:cx K Hs H fl d v As):cx K Hs H fl2 d v As:=by
 cases fl2 with
 |false=>exact r.QF
 |true=>rw[h rfl] at r;exact r
theorem az.wk{fl fl2:Bool}{d:List D}{v:List V}{As:List ag}(h:fl2=true->fl=true)(r:az K Hs H fl d v As):az K Hs H fl2 d v As:=by
 cases fl2 with
 |false=>exact r.QF
 |true=>rw[h rfl] at r;exact r
theorem az.at(r:az K Hs H fl ds vs As)(e:ds[j]? = some d)(n:As.Nodup) :
  ∃ (v:V) (B:List ag),vs[j]? = some v/\cx K Hs H fl d v B/\B.Sublist As/\∀ bq H2 fl2 d2 B2,bG Hs bq->(fl2=true->fl=true)->cx K bq H2 fl2 d2 v B2->B2.Nodup->(∀ a∈B2,a∈As->a∈B)->(∀ a∈As,a∉B->H2 a=H a) ->
   ∃ fR,fR.Nodup/\(∀ a∈fR,(a∈As/\a∉B)\/a∈B2)/\(B2≠[]->fR≠[])/\az K bq H2 fl2 (ds.set j d2) vs fR:=by
 induction ds generalizing vs As j with
 |nil=>simp at e
 |cons x ds ih =>
  obtain⟨v,us,A,B,rfl,rfl,r,rs⟩:=r.c;obtain⟨n1,n2,n3⟩:=iS.mp n
  cases j with
  |zero =>
   simp at e;subst e;refine⟨v,A,rfl,r,MS _ _,fun bq H2 fl2 d2 B2 s2 hf r2 i6 dj st=>⟨B2++B,iS.mpr ⟨i6,n2,fun a ha b hb e=>?_⟩,fun a h=>?_,fun ne z=>ne (MT.mp z).1,.cons r2 ((rs.wk hf).eW s2 fun a h=>st a (fe _ h) fun z=>n3 a z a h rfl)⟩⟩
   ·subst e;exact n3 a (dj a ha (fe _ hb)) a hb rfl
   ·rcases eS.mp h with w|w
    ·exact .inr w
    ·exact .inl ⟨fe _ w,fun z=>n3 a z a w rfl⟩
  |succ j =>
   obtain⟨v,C,a,b,c,g⟩:=ih (j:=j) rs (by simpa using e) n2;have hA:∀ x∈A,x∉C:=fun x hx m=>n3 x hx x (c.subset m) rfl;refine⟨v,C,by simpa using a,b,c.trans (lS _ _),fun bq H2 fl2 d2 B2 s2 hf r2 i6 dj st=>?_⟩;obtain⟨fR,x,y,w,z⟩:=g bq H2 fl2 d2 B2 s2 hf r2 i6 (fun a ha m=>dj a ha (fe _ m)) fun a ha m=>st a (fe _ ha) m;refine⟨A++fR,iS.mpr ⟨n1,x,fun a ha b hb e=>?_⟩,fun a h=>?_,fun ne q=>w ne (MT.mp q).2,.cons ((r.wk hf).eW s2 fun a h=>st a (jv _ h) (hA a h)) z⟩
   ·subst e;rcases y a hb with q|q
    ·exact n3 a ha a q.1 rfl
    ·exact hA a ha (dj a q (jv _ ha))
   ·rcases eS.mp h with q|q
    ·exact .inl ⟨jv _ q,hA a q⟩
    ·exact(y a q).imp (fun q=>⟨fe _ q.1,q.2⟩) id
def Oo(p:WP)(t:WE):WP:=fun ρ Q=>p ρ fun fl d up=>t ρ fun _ y=>fl=true/\match y with
 |.int i=>match d with
  |.list ds=>∃ j d',t9 ds.length i=some j/\ds[j]? = some d'/\d'.flat=false/\Q true d' fun fl2 d2=>up fl2 (.list (ds.set j d2))
  |.tup ds=>∃ j d',t9 ds.length i=some j/\ds[j]? = some d'/\d'.flat=false/\Q true d' fun fl2 d2=>up fl2 (.tup (ds.set j d2))
  |_=>False
 |_=>False
theorem Fd{α:Type}{xs:List α}{i:Int}{j:Nat}{x:α}(h:t9 xs.length i=some j)(e:xs[j]? = some x):gV xs i=some x:=by unfold L2.gV;rw[h];exact e
theorem yN{ds:List D}{j:Nat}{d:D}(e:ds[j]? = some d)(h:d.flat=false):dQ ds=false:=by
 cases q:dQ ds with
 |false=>rfl
 |true=>rw[jX.mp q d (tI e)] at h;cases h
theorem uY{ds:List D}{j:Nat}{d d2:D}(e:ds[j]? = some d)(h:d2.flat=false):dQ (ds.set j d2)=false:=by have hj:j<ds.length:=(lP.mp e).1;exact yN (j:=j) (d:=d2) (by simp[hj]) h
theorem Fp{X:Cx}{a b:Expr}{p:WP}{t:WE}{pos:Pos}(ha:QP X K a p)(hb:QE X K b t)(hs:TB b:=by exact fun _ _=>rfl)(hK:X.K=K:=by rfl)(hu:X.A.units+64<gE:=by assumption):QP X K (.Subscript a b pos) (Oo p t):=by
 refine PE.imp (Wv (ZS hu hK) ha hb hs) fun σ H Qv hx=>kD hx fun Hs ρ ai Q sr h f=>?_;refine⟨Hs,ρ,ai,_,sr,h,fun v H1 bE fl d up g1 p1 q1=>⟨bE,ρ,ai,_,sr.grow g1,q1,fun u H2 bq m y As g2 r2 f2 q2=>?_⟩⟩;have p2:=p1.grow g2;have gg:=g1.trans g2;obtain⟨rfl,q2⟩:=q2;have ry:=r2.rep g2.wf
 cases ry with
 |int i =>
  obtain⟨g9,r,ne,nd,own,k⟩:=p2.ex
  cases r with
  |sh hf _=>exact absurd rfl ne
  |@list a0 vs0 ds0 A0 hz e rs =>
   obtain⟨j,d',e1,e2,hd,q⟩:=q2;obtain⟨na,nb⟩:=lT.mp nd;obtain⟨w,B,e3,r3,sb,g⟩:=rs.at e2 nb;refine .inl (.inl ⟨_,w,.inl (.inl e),Fd (by rw[<- rs.length];exact e1) e3,f w H2 bq true d' _ gg ⟨B,r3,r3.ne hd,sb.nodup nb,fun a h=>own a (eI _ (sb.subset h)),fun fS H3 Oq d3 Ob s3 w3 n3 hf r4 ne3 Q_ o3 st=>?_⟩ q⟩);have aw:∀ x∈A0,x∉B->H3 x=H2 x:=fun x hx m=>st x (rs.own x hx).ne m;obtain⟨Ms,x4,y4,z4,r5⟩:=g fS H3 Oq d3 Ob s3 hf r4 Q_ (fun a ha m=>(o3 a ha).2.elim id fun q=>absurd q (rs.own a m).ne) aw;have eA:H3 a0=H2 a0:=st a0 (by rw[e];exact fun z=>nomatch z) fun m=>na (sb.subset m);have cl:∀ a∈Ms,fS a=none/\(a∈a0 :: A0\/H2 a=none):=fun a h=>by
    rcases y4 a h with⟨m,_⟩|m
    ·exact⟨n3 a (own a (eI _ m)) (rs.own a m).ne,.inl (eI _ m)⟩
    ·exact⟨(o3 a m).1,(o3 a m).2.imp (fun q=>eI _ (sb.subset q)) id⟩
   refine k fS H3 Oq (.list _) (_ :: Ms) s3 w3 n3 hf (.list hz (eA.trans e) r5) (by simp) (lT.mpr ⟨fun m=>?_,x4⟩) (fun a h=>?_) fun a h1 h2=>st a h1 fun m=>h2 (eI _ (sb.subset m))
   ·rcases y4 _ m with⟨q,_⟩|q
    ·exact na q
    ·rcases (o3 _ q).2 with q|q
     ·exact na (sb.subset q)
     ·rw[e] at q;cases q
   ·rcases eM.mp h with rfl|h
    ·exact⟨n3 _ (own _ eL) (by rw[e];exact fun z=>nomatch z),.inl eL⟩
    ·exact cl a h
  |tup hz e hn rs =>
   obtain⟨j,d',e1,e2,hd,q⟩:=q2;obtain⟨w,B,e3,r3,sb,g⟩:=rs.at e2 nd;refine .inl (.inr ⟨_,w,.inl (.inl (g2.wf.sub _ _ e)),Fd (by rw[<- rs.length];exact e1) e3,f w H2 bq true d' _ gg ⟨B,r3,r3.ne hd,sb.nodup nd,fun a h=>own a (sb.subset h),fun fS H3 Oq d3 Ob s3 w3 n3 hf r4 ne3 Q_ o3 st=>?_⟩ q⟩);obtain⟨Ms,x4,y4,z4,r5⟩:=g fS H3 Oq d3 Ob s3 hf r4 Q_ (fun a ha m=>(o3 a ha).2.elim id fun q=>absurd q (rs.own a m).ne) (fun x hx m=>st x (rs.own x hx).ne m);have Ma:dQ (List.set _ j d3)=false:=uY e2 (by
    cases hh:d3.flat with
    |false=>rfl
    |true=>exact absurd (r4.nil_of hh) ne3)
   refine k fS H3 Oq (.tup _) Ms s3 w3 n3 hf (.tup hz (s3 _ _ e) Ma r5) (z4 ne3) x4 (fun a h=>?_) fun a h1 h2=>st a h1 fun m=>h2 (sb.subset m);rcases y4 a h with⟨m,_⟩|m
   ·exact⟨n3 a (own a m) (rs.own a m).ne,.inl m⟩
   ·exact⟨(o3 a m).1,(o3 a m).2.imp (fun q=>sb.subset q) id⟩
  |_=>exact q2.elim
 |_=>exact q2.elim
end
section
variable {X:Cx}{K:aE}{e:Expr}{p:WP}{te:WE}{apos dE pos:Pos}
def lH(fl:Bool)(m:Md)(d:D):Option Bool:=match m with
 |.sh=>some (fl && d.flat)
 |.ow b=>some (fl && b)
 |_=>bif d.flat then some fl else none
def B7(p:WP)(te:WE):WS:=fun E ρ=>p ρ fun fl d up=>match d with
 |.list xs=>te ρ fun m x=>xs.length<bS/\match lH fl m x with
  |some fl2=>E.nx (up fl2 (.list (xs++[x])))
  |none=>False
 |_=>False
theorem yo(w:Wf Hs H)(r:RM K Hs H m d v As)(h:lH fl m d=some fl2):(fl2=true->fl=true)/\∃ B,B.Sublist As/\cx K Hs H fl2 d v B:=by
 cases m with
 |sh =>cases h;exact⟨fun z=>by cases fl<;>simp_all,[],CM _,.sh (fun z=>by cases fl<;>simp_all) r.2⟩
 |ow b =>cases h;refine⟨fun z=>by cases fl<;>simp_all,As,List.Sublist.refl _,r.1.wk fun z=>by cases fl<;>simp_all⟩
 |_ =>
  cases hf:d.flat with
  |true =>simp only[lH,hf,cond_true,Option.some.injEq] at h;subst h;exact⟨id,[],CM _,.sh (fun _=>hf) (r.flat w hf)⟩
  |false=>simp[lH,hf] at h
theorem Place.put(pl:Place K bE H1 σ fl (.list xs) v up)(g:e9 bE H1 bq H2) :
  ∃ a vs A,v=.ref a/\H2 a=some (.lst vs)/\H1 a=some (.lst vs)/\az K bq H2 fl xs vs A/\(a :: A).Nodup/\(∀ x∈a :: A,bq x=none/\H1 x≠none) /\
   ∀ fl2 ys ws C,(fl2=true->fl=true)->az K bq H2 fl2 ys ws C->ws.length<=bS->C.Nodup->a∉C->(∀ x∈C,x∈A\/(bq x=none/\H1 x=none))->∃ fo,d5 K bq (up fl2 (.list ys)) σ (upd H2 a (.lst ws)) fo:=by
 obtain⟨g9,r,ne,nd,own,k⟩:=pl.ex
 cases r with
 |sh hf _=>exact absurd rfl ne
 |@list a vs _ A hz e rs =>
  have e2:=g.all _ _ e;have Ra:=rs.grow g.sh g.all;have hw:∀ x∈a :: A,bE x=none/\H1 x≠none:=fun x hx=>⟨own x hx,by
   rcases eM.mp hx with rfl|hx
   ·rw[e];exact fun z=>nomatch z
   ·exact(rs.own x hx).ne⟩
  exact⟨a,vs,A,rfl,e2,e,Ra,nd,fun x hx=>⟨g.pd (hw x hx).1 (hw x hx).2,(hw x hx).2⟩,fun fl2 ys ws C hf rS hz ndC Q9 hC=>k.node g hw (fun _ z=>by cases z) hf (.list hz kQ (rS.eW (bG.refl _) fun b hb=>iL fun z=>Q9 (by subst z;exact hb))) ndC Q9 hC⟩
theorem Place.Rb(w:Wf bE H1)(pl:Place K bE H1 σ fl (.list xs) v up):∃ a vs,v=.ref a/\fq K H1 a vs:=by
 obtain⟨g9,r,ne,nd,own,k⟩:=pl.ex
 cases r with
 |sh hf _=>exact absurd rfl ne
 |list hz e rs=>exact⟨_,_,rfl,.inl (.inl e)⟩
theorem jJ (ho:QP X K e p) (he:QE X K e2 te) (hK:X.K=K:=by rfl) (hs:u3 (.Call (.Attribute e "append" apos) [e2] [] dE) none pos.line X.env=pure false:=by rfl) (oP:ya e "append" X.env (cv e X.env)=cv e X.env:=by rfl) (rU:((iP dE (bI [e2] X.env)).all (fun x=>!x.1) && (backToKw dE (CF [] X.env)).all (fun x=>x.1.isSome)
   && decide ([e2].length+([]:List pz).length+(if ([]:List pz).isEmpty then 0 else 1)<30))=true:=by rfl)
  (hline:(apos.endLine == dE.line)=true:=by rfl) (se:bI (e2 :: []) X.env=(false,cv e2 X.env) :: bI [] X.env:=by rfl) (w_:(iP dE (bI [] X.env)).any (·.1)=false:=by rfl) :
  QS X K L (.Expr (.Call (.Attribute e "append" apos) [e2] [] dE) pos) (B7 p te):=by
 subst hK;refine PS.imp (HP (L7 PySem.F.plainAttrs_list PySem.F.slot_list_append PySem.F.type_list_append TC ho (mr he rL se) oP rU hline se w_) hs) fun D σ H hx=>cP hx fun Hs ρ ai E sr h k1 k2 k3 k4=>?_;refine⟨Hs,ρ,ai,_,sr,h,fun v H1 bE fl d up g1 p1 q1=>?_⟩
 cases d with
 |list xs =>
  obtain⟨a1,UD,e1,s1⟩:=p1.Rb g1.wf;subst e1;refine⟨.inl ⟨rfl,_,s1⟩,bE,ρ,ai,_,sr.grow g1,q1,fun y H2 bq m x As g2 r2 f2 q2=>?_⟩;obtain⟨hz,q2⟩:=q2;obtain⟨a,vs,A,ea,e2,_,rs,nd,hn,k⟩:=p1.put g2;cases ea;have hl:=rs.length;refine⟨a1,vs,y,rfl,rfl,e2,by lia,?_⟩
  cases hp:lH fl m x with
  |none=>rw[hp] at q2;exact q2.elim
  |some fl2 =>
   rw[hp] at q2;obtain⟨hf,B,sb,rb⟩:=yo g2.wf r2 hp;obtain⟨na,nA⟩:=lT.mp nd;have fB:∀ x∈B,bq x=none/\H1 x=none:=fun x hx=>f2.2 x (sb.subset hx);have c1:(A++(B++[])).Nodup:=by rw[kr];exact iS.mpr ⟨nA,sb.nodup f2.1,fun x hx z hz e=>by subst e;exact(hn x (eI _ hx)).2 (fB x hz).2⟩
   have c2:a1∉A++(B++[]):=by
    rw[kr];intro m;rcases eS.mp m with m|m
    ·exact na m
    ·exact(hn _ eL).2 (fB _ m).2
   have c3:∀ x∈A++(B++[]),x∈A\/(bq x=none/\H1 x=none):=by rw[kr];intro x hx;exact(eS.mp hx).imp id fun z=>fB x z
   obtain⟨fo,nV⟩:=k fl2 (xs++[x]) (vs++[y]) (A++(B++[])) hf ((rs.wk hf).append (.cons rb .nil)) (by rw[kH];simp;lia) c1 c2 c3;exact k1 σ _ bq _ fo (g1.sh.trans g2.sh) nV q2
 |_=>exact q1.elim
def rR(p:WP):WS:=fun E ρ=>p ρ fun fl d up=>match d with
 |.list xs=>E.nx (up fl (.list []))
 |_=>False
theorem yz (ho:QP X K e p) (hK:X.K=K:=by rfl) (hs:u3 (.Call (.Attribute e "clear" apos) [] [] dE) none pos.line X.env=pure false:=by rfl) (oP:ya e "clear" X.env (cv e X.env)=cv e X.env:=by rfl) (hline:(apos.endLine == dE.line)=true:=by rfl):QS X K L (.Expr (.Call (.Attribute e "clear" apos) [] [] dE) pos) (rR p):=by
 subst hK;refine PS.imp (HP (WD PySem.F.plainAttrs_list PySem.F.slot_list_clear PySem.F.type_list_clear dQ' ho oP hline) hs) fun D σ H hx=>cP hx fun Hs ρ ai E sr h k1 k2 k3 k4=>?_;refine⟨Hs,ρ,ai,_,sr,h,fun v H1 bE fl d up g1 p1 q1=>?_⟩
 cases d with
 |list xs =>obtain⟨a,vs,A,ea,e2,_,rs,nd,hn,k⟩:=p1.put (e9.refl g1.wf);subst ea;refine⟨.inl ⟨rfl,_,.inl (.inl e2)⟩,a,vs,rfl,rfl,e2,?_⟩;obtain⟨fo,nV⟩:=k fl [] [] [] id .nil (eT _) k9 (by simp) (fun x hx=>nomatch hx);exact k1 σ _ bE _ fo g1.sh nV q1
 |_=>exact q1.elim
def uO:WE:=fun _ Q=>Q (.ow true) (.dT [])
theorem Bo:QE X K (.Dict [] [] pos) uO:=PE.imp ec' fun σ H Qv hx=>kD hx fun Hs ρ ai Q sr h f=>fun a ha =>
 f _ _ Hs (.ow true) (.dT []) [a] (QJ sr.wf ha fun _ z=>nomatch z) ⟨.dT (vs:=[]) ⟨eT _,fun p hp=>nomatch hp⟩ kQ .nil,by simp⟩ ⟨by simp,fun b hb=>by
  obtain rfl:b=a:=by simpa using hb
  exact⟨sr.wf.sub.free ha,ha⟩⟩ h
section
variable {κ:Type}[DecidableEq κ]
theorem FQ{β:Type}{kvs:List (κ × β)}{k:κ}{v:β}{p:κ × β}(h:p∈ZP kvs k v):p.1=k\/p.1∈kvs.map (·.1):=by
 unfold ZP at h;split at h
 ·obtain⟨q,hq,e⟩:=de.mp h;by_cases hk:q.1=k
  ·rw[if_pos hk] at e;subst e;exact .inl hk
  ·rw[if_neg hk] at e;subst e;exact .inr (de.mpr ⟨q,hq,rfl⟩)
 ·rcases eS.mp h with h|h
  ·exact .inr (de.mpr ⟨p,h,rfl⟩)
  ·have:p=(k,v):=by simpa using h
   subst this;exact .inl rfl
end
theorem Ay(r:Rep K H d v)(h:d.key1=some k):AG k=true:=by
 cases r<;>simp[D.key1] at h<;>subst h
 ·rfl
 ·rename_i hz;simp[AG,hz]
theorem yO(r:bT K H ds vs)(h:dU ds=some ks):ks.length=ds.length/\∀ k∈ks,AG k=true:=by
 induction ds generalizing vs ks with
 |nil=>simp[dU] at h;subst h;exact⟨rfl,fun k hk=>nomatch hk⟩
 |cons d ds ih =>
  obtain⟨u,us,rfl,r,rs⟩:=r.c;unfold dU at h
  cases e1:d.key1 with
  |none=>rw[e1] at h;simp at h
  |some k =>
   cases e2:dU ds with
   |none=>rw[e1,e2] at h;simp at h
   |some dc =>
    rw[e1,e2] at h;simp at h;subst h;obtain⟨a,b⟩:=ih rs e2;refine⟨by simp[a],fun j hj=>?_⟩;rcases eM.mp hj with rfl|hj
    ·exact Ay r e1
    ·exact b j hj
end
abbrev WJ:=Env->Str->(Str->Prop)->Prop
section
variable {X:Cx}{K:aE}{e:Expr}{te:WE}{j:WJ}
def jQ:List D->Option (List Str)
 |[]=>some []
 |.str x :: xs=>(jQ xs).map (x :: ·)
 |_ :: _=>none
def rH(to te:WE):WE:=fun ρ Q=>to ρ fun _ x=>match x with
 |.str z=>te ρ fun _ y=>match y with
  |.list ys=>∃ zs,jQ ys=some zs/\(zs.map (·.length)).sum+zs.length*z.length<=16777216/\Q .sh (.str (Str.join z zs))
  |_=>False
 |_=>False
theorem xK(r:bT K H ds vs)(q:Vals vs us)(h:jQ ds=some zs):StrsAre us zs:=by
 induction ds generalizing vs us zs with
 |nil =>simp[jQ] at h;subst h;have:=r.n0;subst this;rw[Paired.n0 q];exact .nil
 |cons d ds ih =>
  obtain⟨v,vs,rfl,r1,rs⟩:=r.c;obtain⟨u,us,rfl,q1,qs⟩:=Paired.c q
  cases r1 with
  |str hz =>
   simp only[jQ] at h
   cases e:jQ ds with
   |none=>rw[e] at h;cases h
   |some ys =>rw[e] at h;cases h;obtain⟨t,rfl⟩:=q1;exact .cons _ t (ih rs qs e)
  |_=>simp[jQ] at h
theorem Av (hK:X.K=K:=by rfl):Qc X "str.join" (fun x xs H Q=>∃ z a ds vs zs,x=.str z/\xs=[.ref a]/\fq K H a vs/\bT K H ds vs/\jQ ds=some zs/\(zs.map (·.length)).sum+zs.length*z.length<=16777216/\Q (.str (Str.join z zs)) H):=by subst hK;intro pins s σ H x xs v us Q I rx rs h;obtain⟨z,a,ds,vs,zs,rfl,rfl,hs,rr,e,hz,q⟩:=h;obtain⟨t,rfl⟩:=rx;obtain⟨u,rfl,ru⟩:=Vals.one rs;cases ru;obtain⟨its,rv,pl,_⟩:=I.list hs;exact join_list pl.isList (by simpa using xK rr rv e) hz fun t' k=>⟨.str _,H,I.tok _,⟨t',rfl⟩,by rw[show Txt.join z zs=Str.join z zs from StrLaws.glued_eq_join z zs];exact q⟩
theorem sU:∀ {zs:List Str},(Str.join z zs).length<=(zs.map (·.length)).sum+zs.length*z.length
 |[]=>by show Str.empty.length<=_;exact ky (show Str.empty.length<=0 by decide) (eT _)
 |[x]=>by simp[Str.join]
 |x :: y :: r=>by have ih:=sU (z:=z) (zs:=y :: r);show(x++z++Str.join z (y :: r)).length<=_;rw[aW,aW];simp only[iF,List.sum_cons,sA,Nb,Nat.one_mul] at ih ⊢;lia
theorem CQ(ho:QE X K o to)(he:QE X K e te)(hK:X.K=K:=by rfl) (oP:ya o "join" X.env (cv o X.env)=cv o X.env:=by rfl) (rU:((iP dE (bI [e] X.env)).all (fun x=>!x.1) && (backToKw dE (CF [] X.env)).all (fun x=>x.1.isSome)
   && decide ([e].length+([]:List pz).length+(if ([]:List pz).isEmpty then 0 else 1)<30))=true:=by rfl)
  (hline:(apos.endLine == dE.line)=true:=by rfl) (se:bI (e :: []) X.env=(false,cv e X.env) :: bI [] X.env:=by rfl) (w_:(iP dE (bI [] X.env)).any (·.1)=false:=by rfl) :
  QE X K (.Call (.Attribute o "join" apos) [e] [] dE) (rH to te):=by
 subst hK;refine PE.imp (L7 PySem.F.plainAttrs_str PySem.F.slot_str_join PySem.F.type_str_join Av ho (mr he rL se) oP rU hline se w_) fun σ H Qv hx=>kD hx fun Hs ρ ai Q sr h f=>?_;refine⟨Hs,ρ,ai,_,sr,h,fun v H1 bE m x As g1 r1 f1 q1=>?_⟩;have r:=r1.rep g1.wf
 cases r with
 |str hz =>
  refine⟨rfl,bE,ρ,ai,_,sr.grow g1,q1,fun y H2 bq m2 x2 fR g2 r2 f2 q2=>?_⟩;have rr:=r2.rep g2.wf
  cases rr with
  |list z s rs =>obtain⟨zs,e,hz,q⟩:=q2;exact⟨_,_,_,_,zs,rfl,rfl,s,rs,e,hz,Fin.sh (Fin.after f (g1.trans g2)) g2.wf (.str (ky sU (by rw[hJ];exact hz))) q⟩
  |_=>exact q2.elim
 |_=>exact q1.elim
def kM(k:List Key):D:=.tup (k.map oq)
def JM:W1:=fun _ x Q=>match x with
 |.list xs=>∃ ks sh,xs=ks.map kM/\(∀ k∈ks,i3 k=true :: sh)/\∀ ms:List (List Key),ms.Perm ks->(ms.Pairwise fun a b=>iq b a=false)->Q (.ow true) (.list (ms.map kM))
 |_=>False
theorem qM{H:Hp}{ks:List Key}{vs:List V}(r:bT K H (ks.map oq) vs):vs=ks.map kV/\∀ k∈ks,AG k=true:=by
 induction ks generalizing vs with
 |nil=>exact⟨r.n0,fun k h=>nomatch h⟩
 |cons k ks ih =>
  obtain⟨u,us,rfl,r1,rs⟩:=bT.c (d:=oq k) r;obtain⟨e,o⟩:=ih rs;subst e
  cases k with
  |inl i=>cases r1;exact⟨rfl,fun j hj=>by rcases eM.mp hj with rfl|hj;rfl;exact o j hj⟩
  |inr x =>
   cases r1 with
   |str hz=>exact⟨rfl,fun j hj=>by rcases eM.mp hj with rfl|hj;simp[AG,hz];exact o j hj⟩
theorem v9{H:Hp}{ks:List (List Key)}{vs:List V}(r:bT K H (ks.map kM) vs):b8 H vs ks/\∀ k∈ks,k.length<=bS/\∀ j∈k,AG j=true:=by
 induction ks generalizing vs with
 |nil=>rw[r.n0];exact⟨.nil,fun k h=>nomatch h⟩
 |cons k ks ih =>
  obtain⟨u,us,rfl,r1,rs⟩:=bT.c (d:=kM k) r;obtain⟨t,o⟩:=ih rs
  cases r1 with
  |tup hz e q =>
   obtain⟨e2,o2⟩:=qM q;subst e2;exact⟨.cons ⟨_,rfl,e⟩ t,fun j hj=>by
    rcases eM.mp hj with rfl|hj
    ·exact⟨by simpa using hz,o2⟩
    ·exact o j hj⟩
theorem jR:j3 "sorted" = some (.builtin "sorted"):=by decide +kernel
end
def Z0(A:List ag)(F:Nat->List ag):Nat->List ag
 |0=>A
 |i+1=>F i
def JA(K:aE)(Hs H:Hp)(ρ:Env)(σ:St)(ai:List ag)(F:Nat->List ag):Prop:=(∀ i fl d,ρ[i]? = some (some (.ow fl d))->∃ v,σ[i]? = some (some v)/\F i≠[]/\cx K Hs H fl d v (F i)) /\ (∀ i,(F i).Sublist ai)/\∀ i j,i≠j->∀ a∈F i,a∉F j
theorem JA.skip{K:aE}{F:Nat->List ag}(h:JA K Hs H ρ σ ai F)(no:∀ fl d,o≠some (.ow fl d)):JA K Hs H (o :: ρ) (u :: σ) ai (Z0 [] F):=by
 obtain⟨a,b,c⟩:=h;refine⟨fun i fl d e=>?_,fun i=>?_,fun i j ne x hx=>?_⟩
 ·cases i with
  |zero=>simp at e;exact absurd e (no fl d)
  |succ i=>exact a i fl d (by simpa using e)
 ·cases i with
  |zero=>exact CM _
  |succ i=>exact b i
 ·cases i with
  |zero=>exact AH hx
  |succ i =>
   cases j with
   |zero=>exact fun z=>AH z
   |succ j=>exact c i j (fun z=>ne (by rw[z])) x hx
theorem JA.own{K:aE}{ai B:List ag}{F:Nat->List ag}(h:JA K Hs H ρ σ ai F)(n:(B++ai).Nodup)(hs:∀ fl d,sl=.ow fl d->B≠[]/\cx K Hs H fl d v B):JA K Hs H (some sl :: ρ) (some v :: σ) (B++ai) (Z0 B F):=by
 obtain⟨a,b,c⟩:=h;obtain⟨n1,n2,n3⟩:=iS.mp n;refine⟨fun i fl d e=>?_,fun i=>?_,fun i j ne x hx=>?_⟩
 ·cases i with
  |zero=>simp at e;exact⟨v,rfl,hs fl d e⟩
  |succ i=>exact a i fl d (by simpa using e)
 ·cases i with
  |zero=>exact MS _ _
  |succ i=>exact(b i).trans (lS _ _)
 ·cases i with
  |zero =>
   cases j with
   |zero=>exact absurd rfl ne
   |succ j=>exact fun z=>n3 x hx x ((b j).subset z) rfl
  |succ i =>
   cases j with
   |zero=>exact fun z=>n3 x z x ((b i).subset hx) rfl
   |succ j=>exact c i j (fun z=>ne (by rw[z])) x hx
theorem SR.addrs{K:aE}(s:SR K Hs H ρ σ ai):ai.Nodup->∃ F:Nat->List ag,JA K Hs H ρ σ ai F:=by
 induction s with
 |nil=>exact fun _=>⟨fun _=>[],fun i fl d e=>by simp at e,fun i=>CM _,fun i j _ a h=>AH h⟩
 |non s ih =>intro n;obtain⟨F,h⟩:=ih n;exact⟨_,h.skip fun fl d z=>by cases z⟩
 |sh r s ih =>intro n;obtain⟨F,h⟩:=ih n;exact⟨_,h.skip fun fl d z=>by cases z⟩
 |xc s ih =>intro n;obtain⟨F,h⟩:=ih n;exact⟨_,h.skip fun fl d z=>by cases z⟩
 |ow ne r s ih =>intro n;obtain⟨F,h⟩:=ih (iS.mp n).2.1;exact⟨_,h.own n fun fl d e=>by cases e;exact⟨ne,r⟩⟩
 |lk ne r s ih =>intro n;obtain⟨F,h⟩:=ih (iS.mp n).2.1;exact⟨_,h.own n fun fl d e=>by cases e⟩
 |ob r s ih =>intro n;obtain⟨F,h⟩:=ih (iS.mp n).2.1;exact⟨_,h.own n fun fl d e=>by cases e⟩
abbrev Plan:=List (WE ⊕ Nat)
def Rc:Plan->List Nat
 |[]=>[]
 |.inl _ :: r=>Rc r
 |.inr i :: r=>i :: Rc r
def Rf:Option (Option Sl)->Option (Md × D)
 |some (some (.sh d))=>some (.sh,d)
 |some (some (.ow fl d))=>some (.ow fl,d)
 |_=>none
def jV:Plan->Env->(List (Md × D)->Prop)->Prop
 |[],_,Q=>Q []
 |.inl t :: r,ρ,Q=>t ρ fun m x=>jV r ρ fun ps=>Q ((m,x) :: ps)
 |.inr i :: r,ρ,Q=>match Rf ρ[i]? with
  |some p=>jV r ρ fun ps=>Q (p :: ps)
  |none=>False
def tpM(K:aE)(pl:Plan):TA:=fun σ H Qv=>∃ (Hs:Hp) (ρ:Env) (ai:List ag) (F:Nat->List ag) (Q:List (Md × D)->Prop),d5 K Hs ρ σ H ai/\(∀ i fl d,ρ[i]? = some (some (.ow fl d))->∃ v,σ[i]? = some (some v)/\F i≠[]/\cx K Hs H fl d v (F i))/\(∀ i,(F i).Sublist ai)/\(∀ i j,i≠j->∀ a∈F i,a∉F j) /\
 jV pl ρ Q/\∀ vs H' ax ps As,e9 Hs H ax H'->AI K ax H' ps vs As->As.Nodup->(∀ a∈As,ax a=none/\(H a=none\/∃ i∈Rc pl,a∈F i))->Q ps->Qv vs H'
abbrev QM(X:Cx)(K:aE)(es:List Expr)(pl:Plan):Prop:=PA X es (tpM K pl)
section
variable {X:Cx}{K:aE}{e:Expr}{es:List Expr}{te:WE}{pl:Plan}{pos:Pos}
theorem zc:QM X K [] []:=PA.imp rL fun σ H Qv hx=>by obtain⟨Hs,ρ,ai,F,Q,sr,h1,h2,h3,h,f⟩:=hx;exact f [] H Hs [] [] (e9.refl sr.wf) .nil k9 (fun a h=>AH h) h
theorem fX'(ha:QE X K e te)(hr:QM X K es pl)(hs:bI (e :: es) X.env=(false,cv e X.env) :: bI es X.env:=by rfl):QM X K (e :: es) (.inl te :: pl):=by
 refine PA.imp (mr ha hr hs) fun σ H Qv d4=>?_;obtain⟨Hs,ρ,ai,F,Q,sr,h1,h2,h3,h,f⟩:=d4;refine⟨Hs,ρ,ai,_,sr,h,fun v H1 bE m x As g1 r1 f1 q1=>⟨bE,ρ,ai,F,_,sr.grow g1,(fun i fl d e=>?_),h2,h3,q1,fun vs H2 bq ps Bs g2 r2 i6 o2 q2=>?_⟩⟩
 ·obtain⟨v,a,b,c⟩:=h1 i fl d e;exact⟨v,a,b,c.grow g1.sh g1.all⟩
 ·refine f (v :: vs) H2 bq _ _ (g1.trans g2) (.cons (r1.grow g2) r2) (iS.mpr ⟨f1.1,i6,fun a ha b hb e=>?_⟩) (fun a ha=>?_) q2
  ·subst e;rcases (o2 a hb).2 with z|⟨i,_,z⟩
   ·exact(r1.own a ha).ne z
   ·exact(sr.sr.own a ((h2 i).subset z)).ne (f1.2 a ha).2
  ·rcases eS.mp ha with z|z
   ·exact⟨g2.pd (f1.2 a z).1 (r1.own a z).ne,.inl (f1.2 a z).2⟩
   ·exact⟨(o2 a z).1,(o2 a z).2.imp g1.all.free id⟩
theorem UE(ha:PE X e (DL i))(hr:QM X K es pl)(hi:i∉Rc pl:=by decide)(hs:bI (e :: es) X.env=(false,cv e X.env) :: bI es X.env:=by rfl):QM X K (e :: es) (.inr i :: pl):=by
 refine PA.imp (mr ha hr hs) fun σ H Qv d4=>?_;obtain⟨Hs,ρ,ai,F,Q,sr,h1,h2,h3,h,f⟩:=d4;unfold jV at h
 cases hm:Rf ρ[i]? with
 |none=>rw[hm] at h;exact h.elim
 |some p =>
  rw[hm] at h;have key:∃ v A,σ[i]? = some (some v)/\RM K Hs H p.1 p.2 v A/\A.Nodup/\∀ a∈A,a∈F i:=by
   cases e1:ρ[i]? with
   |none=>rw[e1] at hm;cases hm
   |some o =>
    cases o with
    |none=>rw[e1] at hm;cases hm
    |some sl =>
     cases sl with
     |sh d =>rw[e1] at hm;cases hm;obtain⟨v,a,b⟩:=sr.sr.get e1;exact⟨v,[],a,⟨rfl,b⟩,k9,fun a h=>nomatch h⟩
     |lk a fl d=>rw[e1] at hm;cases hm
     |xc a=>rw[e1] at hm;cases hm
     |ob a p=>rw[e1] at hm;cases hm
     |ow fl d =>rw[e1] at hm;cases hm;obtain⟨v,a,b,c⟩:=h1 i fl d e1;exact⟨v,F i,a,⟨c,b⟩,(h2 i).nodup sr.sR,fun a h=>h⟩
  obtain⟨v,A,ev,rm,JJ,hA⟩:=key;refine⟨v,ev,Hs,ρ,ai,F,_,sr,h1,h2,h3,h,fun vs H2 bq ps Bs g2 r2 i6 o2 q2=>?_⟩;refine f (v :: vs) H2 bq _ _ g2 (.cons (rm.grow g2) r2) (iS.mpr ⟨JJ,i6,fun a ha b hb e=>?_⟩) (fun a ha=>?_) q2
  ·subst e;rcases (o2 a hb).2 with z|⟨j,hj,z⟩
   ·exact(rm.own a ha).ne z
   ·exact h3 i j (fun z=>hi (by rw[z];exact hj)) a (hA a ha) z
  ·rcases eS.mp ha with z|z
   ·have:a∈ai:=(h2 i).subset (hA a z);exact⟨g2.pd (sr.own a this) (sr.sr.own a this).ne,.inr ⟨i,eL,hA a z⟩⟩
   ·exact⟨(o2 a z).1,(o2 a z).2.imp id fun⟨j,hj,q⟩=>⟨j,eI _ hj,q⟩⟩
def yU(pl:Plan):WS:=fun E ρ=>jV pl ρ fun ps=>ps.length<=bS/\E.rt (uA ps) (.tup (ps.map (·.2)))
theorem vZ{x1}(h:QM X K es pl):QS X K L (.Return (some (.Tuple es x1 lI')) pos) (yU pl):=by
 refine PS.imp (S7 (Ts h)) fun D σ H hx=>cP hx fun Hs ρ ai E sr h k1 k2 k3 k4=>?_;obtain⟨F,h1,h2,h3⟩:=sr.sr.addrs sr.sR;refine⟨Hs,ρ,ai,F,_,sr,h1,h2,h3,h,fun vs H1 bE ps As g1 r1 nd1 o1 q1=>?_⟩;obtain⟨hz,q⟩:=q1;have rl:=r1.reps g1.wf;have hl:=rl.length;rw[cK] at hl;refine⟨by lia,fun p hp=>?_⟩;have g2:=QK (vs:=vs) g1.wf hp;have sm:bG Hs (upd bE p (.tup vs)):=g1.sh.trans g2.sh;unfold uA at q
 cases e1:ps.all AQ with
 |true =>rw[e1] at q;exact k4 _ _ _ .sh _ [] sm g2.wf ⟨rfl,.tup (by lia) kQ ((r1.sh g1.wf e1).same g2.sh)⟩ k9 (fun a h=>nomatch h) q
 |false =>
  rw[e1] at q
  cases e2:ps.all IY with
  |false =>rw[e2] at q;exact k4 _ _ _ .bo _ [] sm g2.wf ⟨rfl,.tup (by lia) kQ (rl.same g2.all)⟩ k9 (fun a h=>nomatch h) q
  |true =>
   rw[e2] at q;obtain⟨Bs,sb,nz,ro⟩:=r1.ow (fl:=ps.all FG) g1.wf e2 fun z=>z;have gX:dQ (ps.map (·.2))=false:=by
    cases hf:dQ (ps.map (·.2)) with
    |false=>rfl
    |true=>rw[nQ hf] at e1;cases e1
   exact k4 _ _ _ (.ow _) _ Bs sm g2.wf ⟨.tup (by lia) kQ gX (ro.grow g2.sh g2.all),nz e1⟩ (sb.nodup nd1) (fun a ha=>g2.pd (o1 a (sb.subset ha)).1 (ro.own a ha).ne) q
end
def Z1:gy:=fun ds Q=>∃ ns:List Int,ds=[.list (ns.map .int)]/\ns.length<=63/\∀ m,Q m (.bl true)
theorem ints_rep{K:aE}:∀ (ns:List Int),bT K H (ns.map .int) (ns.map V.int)
 |[]=>.nil
 |n :: ns=>.cons (.int n) (ints_rep ns)
theorem xM{K:aE}{H:Hp}{a:ag}{ns:List Int}{E:XK}(hl:ns.length<=63)(hS:fq K H a (ns.map V.int)):fX K Z1 [.ref a] H (fun v _=>v=.bl true) E:=by refine⟨[.list (ns.map .int)],fun _ d=>d=.bl true,.cons (.list (by rw[cK];exact ky hl (by decide)) hS (ints_rep ns)) .nil,⟨ns,rfl,hl,fun _=>rfl⟩,?_⟩;intro v H' ax m d As s w r nd own q;subst q;have:=r.rep w;cases this;rfl
abbrev sg(x:Str):List Nat:=x.cps.toList
theorem gY(x y:Str):sg (x++y)=sg x++sg y:=by show(x.cps++y.cps).toList=_;simp[sg]
theorem empty_app(x:Str):Str.empty++x=x:=u5 (by rw[<- sg,gY];rfl)
def Rg(x:Str):Prop:=∀ c∈sg x,c<0x110000
theorem zZ(x:Str):PyData.strOk x=true↔Rg x:=by unfold PyData.strOk Rg sg;rw[Array.all_eq_true'];simp
theorem fZ'{α:Type}(x:α)(l:List α):gV (x :: l) 0=some x:=by simp[L2.gV,t9]
theorem ga'{α:Type}(x y:α)(l:List α):gV (x :: y :: l) 1=some y:=by have:=DV (xs:=x :: y :: l) (j:=1) (v:=y) rfl;exact this
theorem gb'{α:Type}(x y z:α)(l:List α):gV (x :: y :: z :: l) 2=some z:=by have:=DV (xs:=x :: y :: z :: l) (j:=2) (v:=z) rfl;exact this
theorem Dz:Str.empty.length=0:=by decide
end L2.Q
namespace L2.Q.R
open PySem PySem.Spec PyProof.Rows L2.Q
section
variable {f:D->Prop}{k:Kt f}
theorem HR:ck .non k=f .non:=rfl
theorem KD:ck (.bl b) k=f (.bl b):=rfl
theorem Jq:ck (.int i) k=f (.int i):=rfl
theorem Jj:ck (.str x) k=f (.str x):=rfl
theorem HB:ck (.list xs) k=f (.list xs):=rfl
theorem Jb:ck (.tup xs) k=f (.tup xs):=rfl
theorem Kd:ck (.dK xs) k=f (.dK xs):=rfl
theorem J7:ck (.dT xs) k=f (.dT xs):=rfl
end
theorem Gk{f:Bool->Prop}{k:Kt f}:ck true k=f true:=rfl
theorem FN{f:Bool->Prop}{k:Kt f}:ck false k=f false:=rfl
theorem H_{d:D}{f:Md × D->Prop}{k:Kt f}:ck (Md.sh,d) k=f (.sh,d):=rfl
theorem JP{b:Bool}{d:D}{f:Md × D->Prop}{k:Kt f}:ck (Md.ow b,d) k=f (.ow b,d):=rfl
theorem Jp{d:D}{f:Md × D->Prop}{k:Kt f}:ck (Md.bo,d) k=f (.bo,d):=rfl
theorem Ih{d:D}{f:Option Sl->Prop}{k:Kt f}:ck (some (.sh d)) k=f (some (.sh d)):=rfl
theorem JF{b:Bool}{d:D}{f:Option Sl->Prop}{k:Kt f}:ck (some (.ow b d)) k=f (some (.ow b d)):=rfl
theorem Jh{p:Md × D}{f:Option (Md × D)->Prop}{k:Kt f}:ck (some p) k=f (some p):=rfl
theorem KY{p:Bool}{f:Option Bool->Prop}{k:Kt f}:ck (some p) k=f (some p):=rfl
theorem Ir{d:D}{f:Option (Option Sl)->Prop}{k:Kt f}:ck (some (some (.sh d))) k=f (some (some (.sh d))):=rfl
theorem Ik{b:Bool}{d:D}{f:Option (Option Sl)->Prop}{k:Kt f}:ck (some (some (.ow b d))) k=f (some (some (.ow b d))):=rfl
section
variable {E:j9}{ρ:Env}{Q:Md->D->Prop}{B:Bool->Prop}{t u:WS}{te ta tb tc Z2:WE}{tt tu:WT}{tar:WA}{i j n:Nat}{m m':Md}{d d':D}{sp:gy}{p:WP}{R:List (Md × D)->Prop}
theorem JN:bL E ρ=E.nx ρ:=rfl
theorem K6:cw t u E ρ=t { E with nx:=u E } ρ:=rfl
theorem JQ:kN te E ρ=te ρ E.rt:=rfl
def put(sl:Option Sl)(k:Sl->Prop):Prop:=match sl with
 |some s=>k s
 |none=>False
theorem HH:put (some (.sh d)) k=k (.sh d):=rfl
theorem Im:put (some (.ow b d)) k=k (.ow b d):=rfl
theorem La:eK i te E ρ=te ρ fun m d=>ck (asg m d) (f:=fun o=>put o fun sl=>E.nx (ρ.set i (some sl))) ⟨⟩:=rfl
theorem J4:kF tt t u E ρ=tt ρ fun b=>ck b (f:=fun b=>if b=true then t E ρ else u E ρ) ⟨⟩:=rfl
theorem Iu:iV i E ρ=ck ρ[i]? (f:=fun o=>match o with
 |some (some (.sh d))=>E.rt .sh d
 |some (some (.ow fl d))=>E.rt (.ow fl) d
 |_=>False) ⟨⟩:=rfl
theorem Ig:yU pl E ρ=jV pl ρ fun ps=>ps.length<=bS/\E.rt (uA ps) (.tup (ps.map (·.2))):=rfl
theorem DW:jV [] ρ R=R []:=rfl
theorem Hn:jV (.inl te :: r) ρ R=te ρ fun m x=>jV r ρ fun ps=>R ((m,x) :: ps):=rfl
def Z3(o:Option (Md × D))(k:Md × D->Prop):Prop:=match o with
 |some p=>k p
 |none=>False
theorem FJ{p:Md × D}{k:Md × D->Prop}:Z3 (some p) k=k p:=rfl
theorem Gi:jV (.inr i :: r) ρ R=ck (Rf ρ[i]?) (f:=fun o=>Z3 o fun p=>jV r ρ fun ps=>R (p :: ps)) ⟨⟩:=rfl
theorem Lb:i5 i t E ρ=t E (Oi i ρ):=rfl
-- tests
def bol(d:D)(B:Bool->Prop):Prop:=match d with
 |.bl b=>B b
 |_=>False
theorem HN:bol (.bl b) B=B b:=rfl
theorem wB_:wB te ρ B=te ρ fun _ x=>ck x (f:=fun x=>bol x B) ⟨⟩:=rfl
theorem KH:QX te ρ B=te ρ fun _ x=>ck x (f:=fun x=>∃ b,QV x=some b/\B b) ⟨⟩:=rfl
theorem Kg:sd tt ρ B=tt ρ fun c=>B (!c):=rfl
theorem gd':AK tt tu ρ B=tt ρ fun c=>ck c (f:=fun c=>if c=true then B true else tu ρ B) ⟨⟩:=rfl
theorem JR:xD ρ B=B true:=rfl
-- expressions
theorem K3:av i ρ Q=ck ρ[i]? (f:=fun o=>N_ o Q) ⟨⟩:=rfl
theorem Gs:N_ (some (some (.sh d))) Q=Q .sh d:=rfl
theorem Gf:N_ (some (some (.ow b d))) Q=Q .bo d:=rfl
theorem wC_:wC d ρ Q=Q .sh d:=rfl
theorem gf':aC f ta tb ρ Q=ta ρ fun m x=>tb ρ fun n y=>f m x n y Q:=rfl
theorem gg':fP f ta ρ Q=ta ρ fun m x=>f m x Q:=rfl
theorem Hu:ou f g ta tb tc ρ Q=ta ρ fun m x=>tb ρ fun n y=>f m x n y fun _ z=>ck z (f:=fun z=>bol z fun k=>ck k (f:=fun k=>if k=true then tc ρ fun l w=>g n y l w Q else Q .sh (.bl false)) ⟨⟩) ⟨⟩:=by unfold ou ck bol;rfl
theorem Jf:qb ta tb ρ Q=ta ρ fun _ x=>ck x (f:=fun x=>bol x fun c=>ck c (f:=fun c=>if c=true then tb ρ Q else Q .sh (.bl false)) ⟨⟩) ⟨⟩:=by unfold qb ck bol;rfl
theorem J_:QR ta tb ρ Q=ta ρ fun _ x=>ck x (f:=fun x=>bol x fun c=>ck c (f:=fun c=>if c=true then Q .sh (.bl true) else tb ρ Q) ⟨⟩) ⟨⟩:=by unfold QR ck bol;rfl
theorem HJ:xW ta ρ Q=ta ρ fun _ x=>ck x (f:=fun x=>bol x fun c=>Q .sh (.bl (!c))) ⟨⟩:=by unfold xW ck bol;rfl
theorem Jk:ak te tar ρ R=te ρ fun m x=>tar ρ fun ps=>R ((m,x) :: ps):=rfl
theorem Ke:cy ρ R=R []:=rfl
theorem KC:iA tar ρ Q=tar ρ fun ps=>ps.length<=bS/\Q (uA ps) (.tup (ps.map (·.2))):=rfl
theorem Kr:nS tar ρ Q=tar ρ fun ps=>ps.length<=bS/\Q (Cv ps) (.list (ps.map (·.2))):=rfl
theorem Jd:aR sp tar ρ Q=tar ρ fun ps=>sp (ps.map (·.2)) fun m d=>ck (m,d) (f:=fun p=>Q (B5 p.1 p.2) p.2) ⟨⟩:=rfl
-- operators
section
variable {x y:Str}{a b:Int}{xs ys:List D}{kvs:List (Key × D)}{D7:List (List Key × D)}
theorem GK:gv m (.int a) m' (.int b) Q=Q .sh (.int (a+b)):=rfl
theorem GC:gv m (.str x) m' (.str y) Q=(x.length+y.length<=bS/\Q .sh (.str (x++y))):=rfl
theorem GZ:gv m (.list xs) m' (.list ys) Q=(xs.length+ys.length<=bS/\((dQ xs=true/\dQ ys=true/\Q (.ow true) (.list (xs++ys)))\/(m=.sh/\m'=.sh/\Q (.ow false) (.list (xs++ys))))):=rfl
theorem Gz:gv m (.tup xs) m' (.tup ys) Q=(xs≠[]/\xs.length+ys.length<=bS/\dQ xs=true/\dQ ys=true/\Q .sh (.tup (xs++ys))):=rfl
theorem Gu:oo m (.int a) m' (.int b) Q=(L5 a b/\Q .sh (.int (a*b))):=rfl
theorem GD:nL m (.int a) m' (.int b) Q=((0<b/\b<1073741824)/\Q .sh (.int (a / b))):=rfl
theorem GR:ke m (.int a) m' (.int b) Q=(0<b/\Q .sh (.int (a % b))):=rfl
theorem HW:QY m (.int a) m' (.int b) Q=Q .sh (.bl (decide (a<b))):=rfl
theorem Jv:QY m (.str x) m' (.str y) Q=Q .sh (.bl (rX x y)):=rfl
theorem HX:Oe m (.int a) m' (.int b) Q=Q .sh (.bl (decide (a<=b))):=rfl
theorem Jz:Oe m (.str x) m' (.str y) Q=Q .sh (.bl (!rX y x)):=rfl
theorem HF:FE m (.int a) m' (.int b) Q=Q .sh (.bl (decide (b<a))):=rfl
theorem IW:qk m (.int a) m' (.int b) Q=Q .sh (.bl (decide (a=b))):=rfl
theorem JG:qk m (.str x) m' (.str y) Q=Q .sh (.bl (decide (x=y))):=rfl
theorem Ji:qk m (.bl k) m' (.bl l) Q=Q .sh (.bl (decide (k=l))):=rfl
theorem J2:qk m (.list xs) m' d Q=(eh 12 (.list xs)=true/\eh 12 d=true/\Q .sh (.bl (kE (.list xs) d))):=by cases d<;>rfl
theorem Ka:qk m (.tup xs) m' d Q=(eh 12 (.tup xs)=true/\eh 12 d=true/\Q .sh (.bl (kE (.tup xs) d))):=by cases d<;>rfl
theorem JX:qk m .non m' d Q=(eh 12 .non=true/\eh 12 d=true/\Q .sh (.bl (kE .non d))):=by cases d<;>rfl
theorem Iw:zh m (.int a) m' (.int b) Q=Q .sh (.bl (!decide (a=b))):=rfl
theorem Ij:zh m (.str x) m' (.str y) Q=Q .sh (.bl (!decide (x=y))):=rfl
theorem Km:zh m (.list xs) m' d Q=(eh 12 (.list xs)=true/\eh 12 d=true/\Q .sh (.bl (!kE (.list xs) d))):=by cases d<;>rfl
theorem Ld:zh m (.tup xs) m' d Q=(eh 12 (.tup xs)=true/\eh 12 d=true/\Q .sh (.bl (!kE (.tup xs) d))):=by cases d<;>rfl
theorem KZ:zh m .non m' d Q=(eh 12 .non=true/\eh 12 d=true/\Q .sh (.bl (!kE .non d))):=by cases d<;>rfl
theorem Ib:Cg m d m' .non Q=Q .sh (.bl (!d.QZ)):=rfl
theorem KQ:AO neg m (.str x) m' (.str y) Q=Q .sh (.bl (if neg then !BU x y else BU x y)):=rfl
theorem Ky:AO neg m d m' (.list ys) Q=(eX d=true/\ys.all eX=true/\Q .sh (.bl (if neg then !inD d ys else inD d ys))):=rfl
theorem Kc:AO neg m d m' (.tup ys) Q=(eX d=true/\ys.all eX=true/\Q .sh (.bl (if neg then !inD d ys else inD d ys))):=rfl
theorem KJ:AO neg m d m' (.dK kvs) Q = ∃ k,d.key1=some k/\Q .sh (.bl (if neg then !(fw kvs k).isSome else (fw kvs k).isSome)):=rfl
theorem J8:AO neg m (.tup xs) m' (.dT D7) Q = ∃ ks,dU xs=some ks/\Q .sh (.bl (if neg then !(fw D7 ks).isSome else (fw D7 ks).isSome)):=rfl
theorem Kz:dk m (.list xs) m' (.int a) Q = ∃ d,gV xs a=some d/\ck d (f:=fun d=>Q (qf m d) d) ⟨⟩:=rfl
theorem Ks:dk m (.tup xs) m' (.int a) Q = ∃ d,gV xs a=some d/\ck d (f:=fun d=>Q (qf m d) d) ⟨⟩:=rfl
theorem K1:dk m (.str x) m' (.int a) Q = ∃ c,gV x.cps.toList a=some c/\Q .sh (.str ⟨#[c]⟩):=rfl
theorem JW:dk m (.dK kvs) m' d Q = ∃ k d',d.key1=some k/\fw kvs k=some d'/\ck d' (f:=fun d'=>Q (qf m d') d') ⟨⟩:=rfl
theorem K8:dk m (.dT D7) m' (.tup ys) Q = ∃ ks d',dU ys=some ks/\fw D7 ks=some d'/\ck d' (f:=fun d'=>Q (qf m d') d') ⟨⟩:=rfl
theorem Il:qo m (.str x) Q=Q .sh (.int x.length):=rfl
theorem Io:qo m (.list xs) Q=Q .sh (.int xs.length):=rfl
theorem Jx:qo m (.tup xs) Q=Q .sh (.int xs.length):=rfl
theorem JC:qo m (.dK kvs) Q=Q .sh (.int kvs.length):=rfl
theorem Jl:qo m (.dT D7) Q=Q .sh (.int D7.length):=rfl
theorem Kv{T:String}:D6 T m d Q=Q .sh (.bl (Mh d.ty T)):=rfl
theorem Gh:pN m (.list xs) Q=((dQ xs=true/\Q (.ow true) (.list xs))\/(m=.sh/\Q (.ow false) (.list xs))):=rfl
theorem Hg:pN m (.tup xs) Q=((dQ xs=true/\Q (.ow true) (.list xs))\/(m=.sh/\Q (.ow false) (.list xs))):=rfl
theorem Hr:pN m (.dT D7) Q=Q (.ow true) (.list (D7.map fun kv=>.tup (kv.1.map oq))):=rfl
theorem gh':D5 te tl th ρ Q=te ρ fun m x=>tl ρ fun lo=>th ρ fun hi=>Og m x lo hi Q:=rfl
theorem Ga:d9 ρ O=O none:=rfl
def int'(d:D)(k:Int->Prop):Prop:=match d with
 |.int i=>k i
 |_=>False
theorem Js:int' (.int a) k=k a:=rfl
theorem I_:ju te ρ O=te ρ fun _ x=>ck x (f:=fun x=>int' x fun i=>O (some i)) ⟨⟩:=by unfold ju ck int';rfl
theorem J3{lo hi:Option Int}:Og m (.str x) lo hi Q=Q .sh (.str (kR x lo hi)):=rfl
theorem Ku{lo hi:Option Int}:Og m (.list xs) lo hi Q=((dQ xs=true/\Q (.ow true) (.list (iE xs lo hi)))\/(m=.sh/\Q (.ow false) (.list (iE xs lo hi)))):=rfl
theorem J5{lo hi:Option Int}:Og m (.tup xs) lo hi Q=(dQ xs=true/\¬ (HT.cp xs.length 0 lo=0/\HT.cp xs.length xs.length hi=xs.length)/\Q .sh (.tup (iE xs lo hi))):=rfl
end
-- texts
def Ot(d:D)(k:Str->Prop):Prop:=match d with
 |.str x=>k x
 |_=>False
theorem Jg:Ot (.str x) k=k x:=rfl
def AR(d:D)(k:List D->Prop):Prop:=match d with
 |.list x=>k x
 |_=>False
theorem Hq:AR (.list x) k=k x:=rfl
theorem Hk:rH Z2 te ρ Q=Z2 ρ fun _ x=>ck x (f:=fun x=>Ot x fun z=>te ρ fun _ y=>ck y (f:=fun y=>AR y fun ys=>∃ zs,jQ ys=some zs/\(zs.map (·.length)).sum+zs.length*z.length<=16777216/\Q .sh (.str (Str.join z zs))) ⟨⟩) ⟨⟩:=by unfold rH ck Ot AR;rfl
-- places
theorem gi'{P:Bool->D->(Bool->D->Env)->Prop}:sT i ρ P=ck ρ[i]? (f:=fun o=>match o with
 |some (some (.ow fl d))=>P fl d fun fl2 d2=>ρ.set i (some (.ow fl2 d2))
 |_=>False) ⟨⟩:=rfl
def UG(o:Option Bool)(k:Bool->Prop):Prop:=match o with
 |some b=>k b
 |none=>False
theorem Fy:UG (some b) k=k b:=rfl
theorem Kf:B7 p te E ρ=p ρ fun fl d up=>ck d (f:=fun d=>AR d fun xs=>te ρ fun m x=>xs.length<bS/\ck (lH fl m x) (f:=fun o=>UG o fun fl2=>E.nx (up fl2 (.list (xs++[x])))) ⟨⟩) ⟨⟩:=by unfold B7 ck AR UG;rfl
theorem Gg:rR p E ρ=p ρ fun fl d up=>ck d (f:=fun d=>AR d fun xs=>E.nx (up fl (.list []))) ⟨⟩:=by unfold rR ck AR;rfl
theorem Ht:uO ρ Q=Q (.ow true) (.dT []):=rfl
def dct(d y:D)(k1:List (Key × D)->Prop)(k2:List (List Key × D)->List D->Prop):Prop:=match d with
 |.dK kvs=>k1 kvs
 |.dT kvs=>match y with
  |.tup ys=>k2 kvs ys
  |_=>False
 |_=>False
theorem Kl:dct (.dK kvs) y k1 k2=k1 kvs:=rfl
theorem K7:dct (.dT kvs) (.tup ys) k1 k2=k2 kvs ys:=rfl
-- loops
variable {LQ:List D->Prop}
theorem KN:qq wi g b E ρ=wi ρ fun ds=>pC g b E ds ρ:=rfl
theorem Hz:cX te ρ LQ=te ρ fun m d=>pU m/\ck d (f:=fun d=>AR d LQ) ⟨⟩:=by unfold cX ck AR;rfl
def UH(d:D)(k:List D->Prop):Prop:=match d with
 |.tup x=>k x
 |_=>False
theorem JB:UH (.tup x) k=k x:=rfl
theorem JH:yH te ρ LQ=te ρ fun _ d=>ck d (f:=fun d=>Ot d fun z=>LQ (Uy z)) ⟨⟩:=by unfold yH ck Ot;rfl
theorem GJ:eF te ρ LQ=te ρ fun _ d=>ck d (f:=fun d=>int' d fun j=>j<=16777216/\-(2 ^ 62)<=j/\LQ (gk 0 j.toNat)) ⟨⟩:=by unfold eF ck int';rfl
theorem Gv:sV ta tb ρ LQ=ta ρ fun _ x=>tb ρ fun _ y=>ck x (f:=fun x=>int' x fun i=>ck y (f:=fun y=>int' y fun j=>j-i<=16777216/\(-(2 ^ 62)<=i/\i<2 ^ 62/\-(2 ^ 62)<=j/\j<2 ^ 62)/\LQ (gk i (j-i).toNat)) ⟨⟩) ⟨⟩:=by unfold sV ck int';congr 1;funext _ x;congr 1;funext _ y;cases x<;>cases y<;>rfl
theorem F_:pU .sh=True:=rfl
theorem Fz:pU (.ow b)=True:=rfl
theorem FW:pU .bo=False:=rfl
theorem gN_:gN i d ρ N=N (ρ.set i (some (.sh d))):=rfl
theorem gT_:gT n gs d ρ N=ck d (f:=fun d=>UH d fun ds=>ds.length=n/\gs ds ρ N) ⟨⟩:=by unfold gT ck UH;rfl
theorem JL:cO g gs (d :: ds) ρ N=g d ρ fun c9=>gs ds c9 N:=rfl
theorem JZ:qD [] ρ N=N ρ:=by simp[qD]
theorem Jy:eG wi g tt te tn ix ρ Q=wi ρ fun ds=>iD g tt te ds (Ak tn ix ρ) fun out=>Q (.ow true) (.list out):=rfl
end
theorem B{c:Bool}{f:Bool->Prop}{k:Kt f}(h1:c=true->f true)(h2:c=false->f false):ck c k:=by
 cases c with
 |true=>exact h1 rfl
 |false=>exact h2 rfl
theorem D{p:Prop}[Decidable p]{f:Bool->Prop}{k:Kt f}(h1:p->f true)(h2:¬ p->f false):ck (decide p) k :=
 B (fun h=>h1 (of_decide_eq_true h)) fun h=>h2 (of_decide_eq_false h)
theorem T{c:Bool}{f:Bool->Prop}{k:Kt f}(h:c=true)(h1:f true):ck c k:=by subst h;exact h1
theorem F{c:Bool}{f:Bool->Prop}{k:Kt f}(h:c=false)(h1:f false):ck c k:=by subst h;exact h1
end L2.Q.R
namespace L2
open PySem PySem.Spec PyProof.Rows
end L2
namespace L2.Q
open PySem PySem.Spec PyProof.Rows
section
variable {K:aE}{e:Expr}{p:Pos}
def Ie:W1:=fun _ x Q=>match x with
 |.list xs=>∃ ks b,xs=ks.map oq/\(∀ k∈ks,qc k=b)/\∀ ms:List Key,ms.Perm ks->(ms.Pairwise fun a b=>r0 b a=false)->Q (.ow true) (.list (ms.map oq))
 |.dK kvs=>∃ b,(∀ p∈kvs,qc p.1=b)/\∀ ms:List Key,ms.Perm (kvs.map (·.1))->(ms.Pairwise fun a b=>r0 b a=false)->Q (.ow true) (.list (ms.map oq))
 |_=>False
section
variable {Hs H:Hp}{fl:Bool}
theorem az.erase(k:Nat)(r:az K Hs H fl ds vs As):∃ Bs,Bs.Sublist As/\az K Hs H fl (ds.eraseIdx k) (vs.eraseIdx k) Bs:=by
 induction ds generalizing vs As k with
 |nil =>obtain⟨rfl,rfl⟩:=r.n0;exact⟨[],List.Sublist.refl _,.nil⟩
 |cons d ds ih =>
  obtain⟨u,us,A,B,rfl,rfl,r,rs⟩:=r.c
  cases k with
  |zero=>exact⟨B,lS _ _,rs⟩
  |succ k =>obtain⟨C,sb,q⟩:=ih k rs;exact⟨A++C,sb.append_left _,.cons r q⟩
theorem az.gl'{ds:List D}{vs:List V}{As:List ag}{k:Nat}{d:D}(r:az K Hs H fl ds vs As)(e:ds[k]? = some d)(hf:d.flat=true)(w:Wf Hs H):∃ v,vs[k]? = some v/\Rep K Hs d v:=by
 induction ds generalizing vs As k with
 |nil=>simp at e
 |cons x ds ih =>
  obtain⟨u,us,A,B,rfl,rfl,r,rs⟩:=r.c
  cases k with
  |zero =>simp at e;subst e;exact⟨_,rfl,(r.rep w.sub fun _ _=>rfl).gP w.i9 hf⟩
  |succ k=>exact ih (k:=k) rs (by simpa using e)
end
end
abbrev WIL:=Env->(List D->Prop)->Prop
section
variable {X:Cx}{K:aE}
theorem uz(i:Nat)(hi:Q5 X K tg iter wi)(hg:∀ {C fp ic ja} {q:(tn++cn).Nodup},QG (aQ X scope C (tn++cn) fp ic ja) K tg g) (yT:∀ {C fp ic ja},Q8 (aQ X scope C (tn++cn) fp ic ja) K ifs tc) (he:∀ {C fp ic ja},QE (aQ X scope C (tn++cn) fp ic ja) K elt te)(TR:u3 (.ListComp elt [⟨tg,iter,ifs,0⟩] scope pos) (some (.Name x pos')) TV.line X.env=pure true:=by rfl) (hs:∀ x,FV iter X.env x=pure x:=by intro _;rfl) (hf:X.fn x=true\/X.env.scope.names.lookup x=some .local:=by first|exact .inl rfl|exact .inr rfl|assumption) (hN:X.N.Nodup:=by assumption) (D1:X.N[i]? = some x:=by rfl) (hx:Loc X.env.scope x:=by first|exact .inl rfl|exact .inr rfl) (nd:(tn++cn).Nodup:=by decide +kernel) (O:dM X scope tn cn ix:=by exact dM.by (by assumption) (by decide +kernel)) (hc:X.calm=true:=by rfl) :
  QS X K L (.Assign [.Name x pos'] (.ListComp elt [⟨tg,iter,ifs,0⟩] scope pos) TV) (eK i (eG wi g tc te tn.length ix)) :=
 PS.imp (um hN D1 hx hc hi O (fun _ _ _ _=>hg (q:=nd)) (fun _ _ _ _=>yT) (fun _ _ _ _=>he) TR hs hf) fun D σ H hx=>cP hx fun Hs ρ ai E sr h k1 k2 k3 k4=>by
  refine pL ⟨Hs,ρ,ai,_,sr,h,fun v H1 bE m d As g1 r1 f1 q1=>?_⟩
  have q1:match asg m d with
   |some sl=>E.nx (ρ.set i (some sl))
   |none=>False:=q1
  cases e:asg m d with
  |none=>rw[e] at q1;exact q1.elim
  |some sl =>rw[e] at q1;obtain⟨cS,s'⟩:=(sr.grow g1).set i r1 f1.1 (fun a ha=>⟨(f1.2 a ha).1,fun m=>(sr.sr.own a m).ne (f1.2 a ha).2⟩) e;exact k1 _ H1 bE _ cS g1.sh s' q1
end
end L2.Q
namespace L2.Q.R
open PySem PySem.Spec PyProof.Rows L2.Q
section
variable {ρ:Env}{Q:Md->L2.Q.D->Prop}{te:WE}{i:Nat}{d:L2.Q.D}{p:WP}{a:ag}{b:Bool}{LQ:List L2.Q.D->Prop}
theorem Je{f:Option Sl->Prop}{k:Kt f}:ck (some (.lk a b d)) k=f (some (.lk a b d)):=rfl
theorem JD{f:Option (Option Sl)->Prop}{k:Kt f}:ck (some (some (.lk a b d))) k=f (some (some (.lk a b d))):=rfl
theorem Gn:N_ (some (some (.lk a b d))) Q=Q .bo d:=rfl
def gm'(o:Option (Option Sl))(k:Bool->L2.Q.D->Prop):Prop:=match o with
 |some (some (.ow fl d))=>k fl d
 |_=>False
theorem Gb:gm' (some (some (.ow b d))) k=k b d:=rfl
theorem GX:dR te ρ LQ=te ρ fun _ d=>ck d (f:=fun d=>AR d LQ) ⟨⟩:=by unfold dR ck AR;rfl
def wpAt(d:L2.Q.D)(i:Int)(P:Bool->L2.Q.D->(Bool->L2.Q.D->Env)->Prop)(up:Bool->L2.Q.D->Env):Prop:=match d with
 |.list ds=>∃ j d',t9 ds.length i=some j/\ds[j]? = some d'/\d'.flat=false/\ck d' (f:=fun d'=>P true d' fun fl2 d2=>up fl2 (.list (ds.set j d2))) ⟨⟩
 |.tup ds=>∃ j d',t9 ds.length i=some j/\ds[j]? = some d'/\d'.flat=false/\ck d' (f:=fun d'=>P true d' fun fl2 d2=>up fl2 (.tup (ds.set j d2))) ⟨⟩
 |_=>False
section
variable {P:Bool->L2.Q.D->(Bool->L2.Q.D->Env)->Prop}{up:Bool->L2.Q.D->Env}{ds:List L2.Q.D}{j:Int}
theorem IV:wpAt (.list ds) j P up = ∃ k d',t9 ds.length j=some k/\ds[k]? = some d'/\d'.flat=false/\ck d' (f:=fun d'=>P true d' fun fl2 d2=>up fl2 (.list (ds.set k d2))) ⟨⟩:=rfl
theorem Jm:wpAt (.tup ds) j P up = ∃ k d',t9 ds.length j=some k/\ds[k]? = some d'/\d'.flat=false/\ck d' (f:=fun d'=>P true d' fun fl2 d2=>up fl2 (.tup (ds.set k d2))) ⟨⟩:=rfl
theorem K5:Oo p te ρ P=p ρ fun fl d up=>te ρ fun _ y=>fl=true/\ck y (f:=fun y=>int' y fun i=>ck d (f:=fun d=>wpAt d i P up) ⟨⟩) ⟨⟩:=by unfold Oo ck int' wpAt;rfl
end
end
end L2.Q.R
namespace L2
open PySem PySem.Spec PyProof.Rows Builtin Builtin.Str Builtin.Int
section
variable {prog:dr}{w:dA}{A:eB}{E:ae->ay->Prop}{s:ay}{x:Str}{n:Int}{t u:Tok}
theorem p8(b9:MulOk x n)(h:∀ t' k,Q (.str (Txt.mul x n) t') { s with toks:=k }):aT (aS prog w) A (px .Mult (.int n u) (.str x t)) Q E s:=by
 refine lm_binaryOp_repeat_right (T := "str") (U := "int") (by decide) (fun s'=>typeIs_int s' n u) (typeIs_str s x t) F.fills_int_mul noFill_str_mul F.slot_int_mul lm_noRepeat_int repeat_str F.slot_int_index.lookup (call_gives F.slot_int_mul (typeIs_int s n u) F.entry_int_mul (F.args_int_mul_2 _ _) (AutoIntG3.int___mul___int_str_0 n u x t) ⟨rfl,typeIs_str _ x t,call_gives F.slot_str_mul (typeIs_str _ x t) F.entry_str_mul (F.args_str_mul_2 _ _) (gives_str_mul x n t u b9.1 b9.2.1 b9.2.2) ?_⟩)
 unfold Txt.mul at h;by_cases h1:n<1
 ·rw[if_pos h1];have h':=h s.toks (s.toks+1);rw[if_pos h1] at h';exact⟨by decide,h'⟩
 ·rw[if_neg h1];refine post_val_or_made (fun hc=>fits_reps (b9.2.2 h1 (by simpa using hc))) fun t' k=>?_;have h':=h t' k;rw[if_neg h1] at h';exact h'
end
def uk(n:Int)(z:Str):Str:=⟨(List.replicate n.toNat z.cps.toList).flatten.toArray⟩
theorem lr(xs:Array Nat):∀ (k:Nat) (acc:Array Nat),(List.replicate k xs).foldl (· ++ ·) acc=acc++(List.replicate k xs.toList).flatten.toArray
 |0,acc=>by simp
 |k+1,acc=>by rw[R_,List.foldl_cons,lr xs k,R_,List.flatten_cons];apply Array.ext';simp
theorem Aq(h:1<=n):Txt.mul z n=uk n z:=by
 unfold Txt.mul uk;rw[if_neg (by lia)];by_cases h1:n=1
 ·subst h1;simp
 ·by_cases h0:z.length=0
  ·have hz:z.cps = #[]:=LN h0;rw[if_pos (by simp[h0])];obtain⟨c⟩:=z;cases hz;simp
  ·rw[if_neg (by simp[h1,h0]),lr];simp
def Cq:R2:=fun x y H Q=>match x,y with
 |.int n,.str z=>(1<=n/\n<=100/\z.length<=100)/\Q (.str (uk n z)) H
 |_,_=>False
section
variable {X:Cx}
theorem Bm:eJ X (px .Mult) Cq:=by
 intro pins s σ H x y v u Q I rx ry h;unfold Cq at h;split at h
 ·rename_i n z;obtain⟨⟨h1,h2,h3⟩,q⟩:=h;obtain⟨t,rfl⟩:=rx;obtain⟨t',rfl⟩:=ry;refine p8 ⟨?_,fun _ _=>?_,fun _ _=>?_⟩ fun t' k=>⟨.str (uk n z),H,I.tok _,⟨_,by rw[Aq h1]⟩,q⟩
  ·have a1:¬ n < -(2 ^ 63:Int):=by lia
   have a2:¬ n >= 2 ^ 63:=by lia
   rw[decide_eq_false a1,decide_eq_false a2];rfl
  ·have:(2 ^ 63-1:Int) / 100<=(2 ^ 63-1) / n:=by apply Int.le_ediv_of_mul_le (by lia);have:(2 ^ 63-1:Int) / 100*n<=(2 ^ 63-1:Int) / 100*100:=Int.mul_le_mul_of_nonneg_left h2 (by decide);lia
   have e:(2 ^ 63-1:Int) / 100=92233720368547758:=by decide
   lia
  ·have:z.length*n.toNat<=100*100:=M9 h3 (by lia);have hs:=hJ;simp only[tooLong,decide_eq_false_iff_not];generalize z.length*n.toNat=m at this ⊢;lia
 ·exact h.elim
end
end L2
namespace L2
open PySem PySem.Spec PyProof.Rows
end L2
namespace L2.Q
open PySem PySem.Spec PyProof.Rows
section
variable {X:Cx}{K:aE}{a b:Expr}{ta tb:WE}{pos:Pos}{x:Str}
def UI:W1:=fun _ x Q=>match x with
 |.list xs=>∃ bs:List Bool,xs=bs.map D.bl/\Q .sh (.bl (bs.all (fun b=>b)))
 |_=>False
theorem Ft{H:Hp}{bs:List Bool}{vs:List V}(r:bT K H (bs.map D.bl) vs):vs=bs.map V.bl:=by
 induction bs generalizing vs with
 |nil=>exact r.n0
 |cons b bs ih =>obtain⟨u,us,rfl,r1,rs⟩:=bT.c (d:=D.bl b) r;cases r1;rw[ih rs];rfl
theorem Di:Mu K (Qs K) UI:=by
 intro Hs H m x v As Qd Qv w rx h f;have r1:=rx.rep w
 cases r1 with
 |list z s q =>obtain⟨bs,rfl,h⟩:=h;cases Ft q;exact⟨bs,s,f.sh w (.bl _) h⟩
 |_=>exact h.elim
theorem nJ(n:Int)(z:Str):(uk n z).length=n.toNat*z.length:=by unfold uk Str.length;rw[hG,len_rep,yk]
def yD:W2:=fun _ x _ y Q=>match x,y with
 |.int n,.str z=>(1<=n/\n<=100/\z.length<=100)/\Q .sh (.str (uk n z))
 |_,_=>False
theorem Bp:nK K Cq yD:=by
 intro Hs H m x v As n y u Bs Qd Qv w rx ry h f;have r1:=rx.rep w;have r2:=ry.rep w
 cases r1 with
 |int i=>cases r2 with
  |str hz =>refine⟨h.1,v7 f w ?_ h.2⟩;obtain⟨⟨h1,h2,h3⟩,_⟩:=h;rw[nJ,hJ];have:=M9 (show i.toNat<=100 by lia) h3;lia
  |_=>exact h.elim
 |_=>cases r2<;>exact h.elim
theorem Dm(ha:QE X K a ta)(hb:QE X K b tb):QE X K (.BinOp a .Mult b pos) (aC yD ta tb):=Oa Bm Bp ha hb
end
end L2.Q
namespace L2.Q.R
open PySem PySem.Spec PyProof.Rows L2.Q
section
variable {Q:Md->L2.Q.D->Prop}{m m':Md}{xs:List L2.Q.D}{a b:Int}{x:Str}
theorem Kp:UI m (.list xs) Q = ∃ bs:List Bool,xs=bs.map L2.Q.D.bl/\Q .sh (.bl (bs.all (fun b=>b))):=rfl
theorem HQ:yD m (.int a) m' (.str x) Q=((1<=a/\a<=100/\x.length<=100)/\Q .sh (.str (uk a x))):=rfl
end
end L2.Q.R
namespace L2.Q
open PySem PySem.Spec PyProof.Rows
end L2.Q
namespace TS
open PySem PySem.SetTable
def fk:Nat->Nat->Nat
 |0,s=>s
 |k+1,s=>5*fk k s+1
theorem CT(a b s:Nat):fk (a+b) s=fk b (fk a s):=by
 induction b with
 |zero=>rfl
 |succ b ih=>show 5*fk (a+b) s+1=5*fk b (fk a s)+1;rw[ih]
theorem xf(n s:Nat):4*fk n s+1=5 ^ n*(4*s+1):=by
 induction n with
 |zero=>simp[fk]
 |succ n ih =>
  show 4*(5*fk n s+1)+1=5 ^ (n+1)*(4*s+1)
  rw[A8,PC (5 ^ n) 5,He,<- ih];lia
theorem yV(m:Nat):∃ q,5 ^ 2 ^ m=1+2 ^ (m+2)*q/\q % 2=1:=by
 induction m with
 |zero=>exact⟨1,by decide,by decide⟩
 |succ m ih =>
  obtain⟨q,e,o⟩:=ih;refine⟨q+2 ^ (m+1)*(q*q),?_,?_⟩
  ·have hp:5 ^ 2 ^ (m+1)=(5 ^ 2 ^ m) ^ 2:=by rw[A8 2 m,Nat.pow_mul]
   rw[hp,e];clear e hp;have e1:2 ^ (m+1+2)=2*2 ^ (m+2):=by rw[show m+1+2=(m+2)+1 by exact G0 ..,A8];lia
   have e2:2 ^ (m+2)=2*2 ^ (m+1):=by rw[show m+2=(m+1)+1 by rfl,A8];lia
   rw[e1,e2];generalize 2 ^ (m+1)=y;rw[Nat.pow_two];simp only[Nat.mul_add,Nb,Nat.one_mul,Nat.mul_one];have a1:2*y*q*(2*y*q)=2*(2*y)*(y*(q*q)):=by simp only[He,Nat.mul_left_comm,PC]
   have a2:2*(2*y)*q=2*y*q+2*y*q:=by rw[He 2 (2*y) q];lia
   rw[a1,a2];lia
  ·have:2 ^ (m+1)*(q*q) % 2=0:=by rw[A8,PC (2 ^ m) 2,He,Nat.mul_mod_right]
   lia
theorem zW(m x:Nat):∃ r,fk (2 ^ m) x=x+2 ^ m*r/\r % 2=1:=by
 obtain⟨q,e,o⟩:=yV m;have c:=xf (2 ^ m) x;rw[e] at c;refine⟨q*(4*x+1),?_,?_⟩
 ·have e2:2 ^ (m+2)=4*2 ^ m:=by rw[Nat.pow_add];lia
  rw[e2,Nb,Nat.one_mul,He,He] at c;lia
 ·rw[Nat.mul_mod,o,Nat.one_mul];lia
theorem Dy(m s e:Nat):∃ k,k+1<=2 ^ m/\fk k s % 2 ^ m=e % 2 ^ m:=by
 induction m with
 |zero=>exact⟨0,by decide,by simp[Nat.mod_one]⟩
 |succ m ih =>
  obtain⟨k,hk,h⟩:=ih;have hp:2 ^ (m+1)=2 ^ m*2:=A8 ..;have Z4:0<2 ^ m:=Nat.pow_pos (by decide);have key:∀ a:Nat,a % (2 ^ m*2)=a % 2 ^ m+2 ^ m*(a / 2 ^ m % 2):=fun a=>Nat.mod_mul;by_cases c:fk k s / 2 ^ m % 2=e / 2 ^ m % 2
  ·exact⟨k,by walk_at "s4",by rw[hp,key,key,h,c]⟩
  ·refine⟨k+2 ^ m,by lia,?_⟩;obtain⟨r,er,ro⟩:=zW m (fk k s);rw[CT,er,hp,key,key,Nat.add_mul_mod_self_left,h,Nat.add_mul_div_left _ _ Z4];have:(fk k s / 2 ^ m+r) % 2=e / 2 ^ m % 2:=by lia
   rw[this]
def tf(M:Nat)(p:Probe):Probe :=
 if p.more>0 then { p with j:=p.j+1,more:=p.more-1 } else
 { p with j:=(leap M p.i p.perturb).1,more:=runEnd M (leap M p.i p.perturb).1-(leap M p.i p.perturb).1,i:=(leap M p.i p.perturb).1,perturb:=(leap M p.i p.perturb).2 }
def ps(M:Nat)(h:Int):Nat->Probe
 |0=>{ j:=bits h % (M+1),more:=runEnd M (bits h % (M+1))-bits h % (M+1),i:=bits h % (M+1),perturb:=bits h,dummy:=none }
 |n+1=>tf M (ps M h n)
def J(M:Nat)(h:Int)(n:Nat):Nat:=(ps M h n).j
theorem rE(h:i<=M):i<=runEnd M i/\runEnd M i<=M/\runEnd M i<=i+9:=by unfold runEnd;split<;>lia
theorem BR(M:Nat)(h:Int):∀ n,(ps M h n).i<=M/\(ps M h n).j+(ps M h n).more<=M/\(ps M h n).dummy=none/\(ps M h n).more<=9
 |0=>by have h0:bits h % (M+1)<=M:=M7 (LM _ (wq _));have:=rE h0;exact⟨h0,by show bits h % (M+1)+(runEnd M (bits h % (M+1))-bits h % (M+1))<=M;lia,rfl,by show runEnd M (bits h % (M+1))-bits h % (M+1)<=9;lia⟩
 |n+1=>by
  obtain⟨a,b,c,d⟩:=BR M h n;show(tf M (ps M h n)).i<=M/\_/\(tf M (ps M h n)).dummy=none/\_;unfold tf;by_cases hm:(ps M h n).more>0
  ·simp only[hm,if_true];show _/\(tf M (ps M h n)).j+(tf M (ps M h n)).more<=M/\_/\(tf M (ps M h n)).more<=9;simp only[tf,hm,if_true];exact⟨a,by lia,c,by walk_at "s4"⟩
  ·simp only[hm,if_false];show _/\(tf M (ps M h n)).j+(tf M (ps M h n)).more<=M/\_/\(tf M (ps M h n)).more<=9;simp only[tf,hm,if_false];have h0:(leap M (ps M h n).i (ps M h n).perturb).1<=M:=M7 (LM _ (wq _));have:=rE h0;exact⟨h0,by lia,c,by lia⟩
theorem Rh(M:Nat)(h:Int)(n:Nat):J M h n<=M:=by have:=BR M h n;unfold J;lia
theorem u6(M:Nat)(h:Int)(n:Nat):∀ r,r<=(ps M h n).more->ps M h (n+r)={ ps M h n with j:=(ps M h n).j+r,more:=(ps M h n).more-r }
 |0,_=>rfl
 |r+1,hr=>by show tf M (ps M h (n+r))=_;rw[u6 M h n r (by exact mS ‹_›)];unfold tf;rw[if_pos (show(ps M h n).more-r>0 by lia)];simp only[Probe.mk.injEq,true_and,and_true];walk_at "s1"
def lp(M:Nat)(h:Int):Nat->Nat × Nat
 |0=>(bits h % (M+1),bits h)
 |k+1=>leap M (lp M h k).1 (lp M h k).2
def kP(M:Nat)(h:Int):Nat->Nat
 |0=>0
 |k+1=>kP M h k+(runEnd M (lp M h k).1-(lp M h k).1)+1
theorem Bl(M:Nat)(h:Int):∀ k,(lp M h k).1<=M
 |0=>M7 (LM _ (wq _))
 |k+1=>M7 (LM _ (wq _))
theorem vI(M:Nat)(h:Int):∀ k,kP M h k<=10*k
 |0=>da _
 |k+1=>by have:=vI M h k;have:=rE (Bl M h k);show kP M h k+_+1<=_;lia
theorem sZ(M:Nat)(h:Int):∀ k,ps M h (kP M h k)={ j:=(lp M h k).1,more:=runEnd M (lp M h k).1-(lp M h k).1,i:=(lp M h k).1,perturb:=(lp M h k).2,dummy:=none }
 |0=>rfl
 |k+1=>by have ih:=sZ M h k;have e:=u6 M h (kP M h k) (runEnd M (lp M h k).1-(lp M h k).1) (by rw[ih];exact da _);show tf M (ps M h (kP M h k+(runEnd M (lp M h k).1-(lp M h k).1)))=_;rw[e,ih];unfold tf;rw[if_neg (by simp)];rfl
theorem zJ(M:Nat)(h:Int):∀ k,(lp M h k).2=bits h / 32 ^ k
 |0=>by simp[lp]
 |k+1=>by show(lp M h k).2 / 32=_;rw[zJ M h k,Nat.div_div_eq_div_mul,A8]
theorem Bu(h:Int):bits h<2 ^ 64:=by unfold bits;have h1:=tS h (show(2 ^ 64:Int)≠0 by decide);have h2:=sC h (show(0:Int)<2 ^ 64 by decide);lia
theorem wD(M:Nat)(h:Int):∀ k,(lp M h (13+k)).1 % (M+1)=fk k (lp M h 13).1 % (M+1)
 |0=>rfl
 |k+1=>by
  have e:(lp M h (13+k)).2=0:=by rw[zJ];refine Nat.div_eq_of_lt (oz (Bu h) ?_);exact ky (by decide:2 ^ 64<=32 ^ 13) (M6 (by decide) (by exact LC _ _))
  show(leap M (lp M h (13+k)).1 (lp M h (13+k)).2).1 % (M+1)=_;unfold leap;rw[e];show((lp M h (13+k)).1*5+1+0 / 32) % (M+1) % (M+1)=(5*fk k (lp M h 13).1+1) % (M+1);rw[Nat.mod_mod,Nat.zero_div,LH,Nat.add_mod,Nat.mul_mod,wD M h k,<- Nat.mul_mod,<- Nat.add_mod,PC]
theorem cover(hM:M+1=2 ^ m)(h:Int)(he:e<=M):∃ k,k<=M+13/\(lp M h k).1=e:=by obtain⟨k,hk,q⟩:=Dy m (lp M h 13).1 e;rw[<- hM] at hk q;refine⟨13+k,by lia,?_⟩;have:=wD M h k;rw[q] at this;rwa[Nat.mod_eq_of_lt (EW (Bl M h _)),Nat.mod_eq_of_lt (EW he)] at this
theorem Ek(M:Nat)(h:Int)(k:Nat):J M h (kP M h k)=(lp M h k).1:=by unfold J;rw[sZ]
theorem lM(hM:M+1=2 ^ m)(h:Int)(kg:Nat->Bool)(he:e<=M)(hf:kg e=false):∃ n,n<=10*(M+13)/\kg (J M h n)=false/\∀ k<n,kg (J M h k)=true:=by
 obtain⟨k,hk,q⟩:=cover hM h he;have hb:=vI M h k;have hB:kg (J M h (kP M h k))=false:=by rw[Ek,q];exact hf
 generalize kP M h k=b at hb hB;have go:∀ b,kg (J M h b)=false->∃ n,n<=b/\kg (J M h n)=false/\∀ k<n,kg (J M h k)=true:=by
  intro b
  induction b using Nat.strongRecOn with
  |ind b ih =>
   intro hB;by_cases c:∃ k,k<b/\kg (J M h k)=false
   ·obtain⟨k,h1,h2⟩:=c;obtain⟨n,a1,a2,a3⟩:=ih k h1 h2;exact⟨n,by lia,a2,a3⟩
   ·refine⟨b,da _,hB,fun k hk=>?_⟩
    cases z:kg (J M h k) with
    |true=>rfl
    |false=>exact absurd ⟨k,hk,z⟩ c
 obtain⟨n,a1,a2,a3⟩:=go b hB;exact⟨n,by lia,a2,a3⟩
def Up(xs:Array Nat):Prop:=∀ i j:Nat,i<j->j<xs.size->xs.getD i 0<xs.getD j 0
theorem rK{xs:Array Nat}{i d d':Nat}(h:i<xs.size):xs.getD i d=xs.getD i d':=by simp[Array.getD,h]
theorem mW{xs:Array Nat}(U:Up xs)(j:Nat):∀ (fuel lo hi:Nat),hi-lo<=fuel->lo<=hi->hi<=xs.size->(∀ i<lo,xs.getD i 0<j)->(∀ i,hi<=i->i<xs.size->j<=xs.getD i 0) ->
  below.go xs j fuel lo hi<=xs.size/\(∀ i<below.go xs j fuel lo hi,xs.getD i 0<j)/\(∀ i,below.go xs j fuel lo hi<=i->i<xs.size->j<=xs.getD i 0)
 |0,lo,hi,hf,h1,h2,h3,h4=>by
  obtain rfl:lo=hi:=by lia
  exact⟨h2,h3,h4⟩
 |fuel+1,lo,hi,hf,h1,h2,h3,h4=>by
  unfold below.go;by_cases c:lo<hi
  ·rw[if_pos c];dsimp only;have hm:(lo+hi) / 2<xs.size:=by lia
   by_cases d:xs.getD ((lo+hi) / 2) j<j
   ·rw[if_pos d];rw[rK (d':=0) hm] at d;refine mW U j fuel _ _ (by lia) (by lia) h2 (fun i nE=>?_) h4;by_cases e:i=(lo+hi) / 2
    ·rw[e];exact d
    ·exact Sv (U i _ (by lia) hm) d
   ·rw[if_neg d];rw[rK (d':=0) hm] at d;refine mW U j fuel _ _ (by lia) (by lia) (by exact mS ‹_›) h3 fun i nE hs=>?_;by_cases e:i=(lo+hi) / 2
    ·rw[e];exact M0 ‹_›
    ·have:=U ((lo+hi) / 2) i (by lia) hs;lia
  ·rw[if_neg c];obtain rfl:lo=hi:=by lia
   exact⟨h2,h3,h4⟩
theorem aJ(U:Up xs)(j:Nat):below xs j<=xs.size/\(∀ i<below xs j,xs.getD i 0<j)/\(∀ i,below xs j<=i->i<xs.size->j<=xs.getD i 0) :=
 mW U j xs.size 0 xs.size (by lia) (by lia) (da _) (fun i h=>absurd h (GY i)) fun i h1 h2=>by lia
theorem below_at(U:Up xs)(h:i<xs.size):below xs (xs.getD i 0)=i:=by
 obtain⟨a,b,c⟩:=aJ U (xs.getD i 0);by_cases h1:below xs (xs.getD i 0)<i
 ·have:=c _ (da _) (by lia);have:=U _ i h1 h;lia
 ·by_cases h2:i<below xs (xs.getD i 0)
  ·have:=b i h2;lia
  ·lia
theorem uh(U:Up xs)(h:i<xs.size):below xs (xs.getD i 0+1)=i+1:=by
 obtain⟨a,b,c⟩:=aJ U (xs.getD i 0+1);by_cases h1:below xs (xs.getD i 0+1)<i+1
 ·have:=c i (by lia) h;lia
 ·by_cases h2:i+1<below xs (xs.getD i 0+1)
  ·have:=b (i+1) h2;have:=U i (i+1) (by lia) (by lia);lia
  ·lia
def taken(xs:Array Nat)(j:Nat):Bool:=xs[below xs j]? == some j
theorem wZ{xs:Array Nat}{i j:Nat}(h:xs[i]? = some j):i<xs.size/\xs.getD i 0=j:=by obtain⟨h1,h2⟩:=Dx.mp h;exact⟨h1,by simp[Array.getD,h1,h2]⟩
theorem qT{xs:Array Nat}{i:Nat}(h:i<xs.size):xs[i]? = some (xs.getD i 0):=by simp[Array.getD,h]
theorem eN{xs:Array Nat}(U:Up xs){j:Nat}:taken xs j=true↔∃ i,i<xs.size/\xs.getD i 0=j:=by
 unfold taken;rw[beq_iff_eq];constructor
 ·intro h;exact⟨_,wZ h⟩
 ·rintro⟨i,h,rfl⟩;rw[below_at U h];exact qT h
theorem jk{xs:Array Nat}(U:Up xs){j:Nat}(h:taken xs j=true):below xs j<xs.size/\xs.getD (below xs j) 0=j:=by unfold taken at h;rw[beq_iff_eq] at h;exact wZ h
theorem a_{α:Type}(xs:Array α){p:Nat}(x:α)(h:p<=xs.size):(insertAt xs p x).size=xs.size+1:=by unfold insertAt;simp;lia
theorem P5{α:Type}(xs:Array α){p:Nat}(x:α)(h:p<=xs.size)(i:Nat):(insertAt xs p x)[i]? = if i<p then xs[i]? else if i=p then some x else xs[i-1]? := by
 unfold insertAt;have hs:((xs.extract 0 p).push x).size=p+1:=by simp;exact LD ‹_›
 by_cases h1:i<p
 ·rw[if_pos h1,Array.getElem?_append_left (by lia),Array.getElem?_push,if_neg (by simp;lia),PH];rw[if_pos (by lia)];simp
 ·rw[if_neg h1];by_cases h2:i=p
  ·rw[if_pos h2,Array.getElem?_append_left (by lia),Array.getElem?_push,if_pos (by simp;lia)]
  ·rw[if_neg h2,Array.getElem?_append_right (by lia),hs,PH];by_cases h3:i-(p+1)<min xs.size xs.size-p
   ·rw[if_pos h3];congr 1;lia
   ·rw[if_neg h3,LP (by lia)]
theorem cL(h:p<=xs.size)(i:Nat):(insertAt xs p x).getD i 0=if i<p then xs.getD i 0 else if i=p then x else xs.getD (i-1) 0:=by
 have e:∀ (ys:Array Nat) (k:Nat),ys.getD k 0=ys[k]?.getD 0:=fun ys k=>by simp[EZ]
 rw[e,P5 xs x h];split
 ·rw[e]
 ·split
  ·rfl
  ·rw[e]
theorem zN(U:Up xs)(hj:taken xs j=false):Up (insertAt xs (below xs j) j):=by
 obtain⟨a,b,c⟩:=aJ U j;have ne:∀ i,i<xs.size->xs.getD i 0≠j:=fun i hi e=>by have:=(eN U (j:=j)).mpr ⟨i,hi,e⟩;rw[hj] at this;cases this
 intro i k hik hk;rw[a_ xs j a] at hk;rw[cL a,cL a];by_cases h1:k<below xs j
 ·rw[if_pos (by lia),if_pos h1];exact U i k hik (by lia)
 ·rw[if_neg h1];by_cases h2:k=below xs j
  ·rw[if_pos h2,if_pos (by lia)];exact b i (by lia)
  ·rw[if_neg h2];by_cases h3:i<below xs j
   ·rw[if_pos h3];exact U i (k-1) (by lia) (by lia)
   ·rw[if_neg h3];by_cases h4:i=below xs j
    ·rw[if_pos h4];have:=c (k-1) (by lia) (by lia);have:=ne (k-1) (by lia);lia
    ·rw[if_neg h4];exact U (i-1) (k-1) (by lia) (by lia)
theorem uV(U:Up xs)(hj:taken xs j=false):taken (insertAt xs (below xs j) j) k=(decide (k=j) || taken xs k):=by
 have a:=(aJ U j).1;have U':=zN U hj;apply EX.mpr;rw[eN U',Bool.or_eq_true,decide_eq_true_eq,eN U];rw[a_ xs j a];constructor
 ·rintro⟨i,hi,e⟩;rw[cL a] at e;by_cases h1:i<below xs j
  ·rw[if_pos h1] at e;exact .inr ⟨i,by lia,e⟩
  ·rw[if_neg h1] at e;by_cases h2:i=below xs j
   ·rw[if_pos h2] at e;exact .inl e.symm
   ·rw[if_neg h2] at e;exact .inr ⟨i-1,by lia,e⟩
 ·rintro(rfl|⟨i,hi,e⟩)
  ·exact⟨below xs k,by lia,by rw[cL a,if_neg (by lia),if_pos rfl]⟩
  ·by_cases h1:i<below xs j
   ·exact⟨i,by lia,by rw[cL a,if_pos h1];exact e⟩
   ·exact⟨i+1,by lia,by rw[cL a,if_neg (by lia),if_neg (by lia)];exact e⟩
def Reach(M:Nat)(place:Array Nat)(h:Int)(j:Nat):Prop:=∃ n,n<=10*(M+13)/\J M h n=j/\∀ k<n,taken place (J M h k)=true
structure TI{α:Type}(t:SetTable)(es:Array (Int × α)):Prop where
 pw:∃ m,t.mask+1=2 ^ m/\3<=m
 sz:t.place.size=es.size
 up:Up t.place
 le:∀ i,i<t.place.size->t.place.getD i 0<=t.mask
 dm:t.dummies = #[]
 few:es.size*5<t.mask*3
 path:∀ i h x,es[i]? = some (h,x)->Reach t.mask t.place h (t.place.getD i 0)
section
variable {α:Type}{t:SetTable}{es:Array (Int × α)}
theorem TI.slot(T:TI t es)(j:Nat):t.slot j=if taken t.place j then .live (below t.place j) else .empty:=by
 unfold SetTable.slot taken;dsimp only;split
 ·rfl
 ·have:has t.dummies j=false:=by rw[T.dm];rfl
  rw[this];rfl
theorem TI.fits(T:TI t es):t.fits es.size=true:=by have:=T.few;simp only[SetTable.fits,fill,T.dm,T.sz,k7,beq_iff_eq,decide_eq_true_eq,true_and];simp;lia
theorem TI.odd(T:TI t es):t.gaveWay=false:=by
 obtain⟨m,h,h3⟩:=T.pw;unfold SetTable.gaveWay;rw[beq_eq_false_iff_ne];have:2 ^ m=2*2 ^ (m-1):=by rw[show m=(m-1)+1 by lia,A8];simp;lia
 lia
theorem TI.free(T:TI t es):∃ e,e<=t.mask/\taken t.place e=false:=by
 have hf:=T.few;have hs:=T.sz;by_cases c:∃ e,e<=t.mask/\taken t.place e=false
 ·exact c
 ·exfalso;have all:∀ e,e<=t.mask->taken t.place e=true:=fun e he=>by
   cases z:taken t.place e with
   |true=>rfl
   |false=>exact absurd ⟨e,he,z⟩ c
  -- slot e stands at place at most e
  have go:∀ e,e<=t.mask->e<=below t.place e:=by
   intro e
   induction e with
   |zero=>intro _;exact eT _
   |succ e ih =>
    intro he;have h1:=jk T.up (all e (by exact mS ‹_›));have h2:=jk T.up (all (e+1) he);have:=ih (by exact mS ‹_›);obtain⟨_,b,c⟩:=aJ T.up (e+1);by_cases z:below t.place e<below t.place (e+1)
    ·walk_at "s1"
    ·have:=c (below t.place e) (by exact M0 ‹_›) h1.1;lia
  have:=go t.mask (da _);have:=(jk T.up (all t.mask (da _))).1;lia
theorem TI.put(T:TI t es)(hj:j<=t.mask)(hn:taken t.place j=false)(hr:Reach t.mask t.place h j)(ht:t'.mask=t.mask)(hp:t'.place=insertAt t.place (below t.place j) j)(hd:t'.dummies = #[])(hf:(es.size+1)*5<t.mask*3):TI t' (insertAt es (below t.place j) (h,x)):=by
 have a:=(aJ T.up j).1;have a':below t.place j<=es.size:=by rw[<- T.sz];exact a
 refine⟨by rw[ht];exact T.pw,by rw[hp,a_ _ _ a,a_ _ _ a',T.sz],by rw[hp];exact zN T.up hn,fun i hi=>?_,hd,by rw[a_ _ _ a',ht];exact hf,fun i g y e=>?_⟩
 ·rw[hp,a_ _ _ a] at hi;rw[hp,cL a,ht];split
  ·exact T.le i (by lia)
  ·split
   ·exact hj
   ·exact T.le (i-1) (by lia)
 ·have mono:∀ {g:Int} {k:Nat},Reach t.mask t.place g k->Reach t'.mask t'.place g k:=fun {g k} ⟨n,h1,h2,h3⟩=>⟨n,by rw[ht];exact h1,by rw[ht];exact h2,fun q hq=>by
   rw[hp,ht,uV T.up hn,h3 q hq,Bool.or_true]⟩
  rw[P5 es _ a'] at e;rw[hp,cL a,<- hp];by_cases h1:i<below t.place j
  ·rw[if_pos h1] at e ⊢;exact mono (T.path i g y e)
  ·rw[if_neg h1] at e ⊢;by_cases h2:i=below t.place j
   ·rw[if_pos h2] at e ⊢;cases e;exact mono hr
   ·rw[if_neg h2] at e ⊢;exact mono (T.path (i-1) g y e)
end
theorem aN{α:Type}[DecidableEq α]:∀ {l m:List α},l.Nodup->(∀ x∈l,x∈m)->l.length<=m.length
 |[],_,_,_=>eT _
 |x :: l,m,nd,h=>by rw[lT] at nd;have hx:=h x eL;have:=aN (l:=l) (m:=m.erase x) nd.2 fun y hy=>(List.mem_erase_of_ne (fun e=>nd.1 (by rw[<- e];exact hy))).mpr (h y (eI _ hy));rw[List.length_erase_of_mem hx] at this;have:0<m.length:=List.length_pos_of_mem hx;simp only[sA];lia
def kg(owner:Array (Option Nat))(j:Nat):Bool:=(owner.getD j (some 0)).isSome
theorem n8(h:Int)(owner:Array (Option Nat)):∀ (fuel k:Nat),(∀ q<kP M h k,kg owner (J M h q)=true)->(∃ K,k<=K/\K<k+fuel/\K<=M+13/\kg owner (lp M h K).1=false) ->
  ∃ j n,layClean.free M owner fuel (lp M h k).1 (lp M h k).2=some j/\J M h n=j/\n<=10*(M+13)/\kg owner j=false/\∀ q<n,kg owner (J M h q)=true
 |0,k,_,⟨K,h1,h2,_⟩=>by lia
 |fuel+1,k,hq,⟨K,h1,h2,h3,h4⟩=>by
  have UJ:∀ r,r<=runEnd M (lp M h k).1-(lp M h k).1->J M h (kP M h k+r)=(lp M h k).1+r:=fun r hr=>by unfold J;rw[u6 M h (kP M h k) r (by rw[sZ];exact hr),sZ]
  have hle:=rE (Bl M h k);have e:∀ r,(owner.getD ((lp M h k).1+r) (some 0)).isNone = !kg owner ((lp M h k).1+r):=fun r=>by unfold kg;cases owner.getD ((lp M h k).1+r) (some 0)<;>rfl
  unfold layClean.free
  cases hf:(List.range (runEnd M (lp M h k).1+1-(lp M h k).1)).find? fun r=>(owner.getD ((lp M h k).1+r) (some 0)).isNone with
  |some r =>
   obtain⟨a1,a2,a3⟩:=List.find?_range_eq_some.mp hf;have a2:r<runEnd M (lp M h k).1+1-(lp M h k).1:=by simpa using a2
   rw[e] at a1;have a1:kg owner ((lp M h k).1+r)=false:=by simpa using a1
   have occs:∀ q<kP M h k+r,kg owner (J M h q)=true:=fun q Ri=>by
    by_cases z:q<kP M h k
    ·exact hq q z
    ·have:=a3 (q-kP M h k) (by lia);rw[e] at this;have hj:=UJ (q-kP M h k) (by lia);rw[show kP M h k+(q-kP M h k)=q by lia] at hj;rw[hj];simpa using this
   refine⟨_,kP M h k+r,rfl,UJ r (by lia),?_,a1,occs⟩;have hb:=vI M h K;by_cases z:kP M h k+r<=kP M h K
   ·lia
   ·have:=occs (kP M h K) (by lia);rw[Ek,h4] at this;cases this
  |none =>
   have hn:=List.find?_eq_none.mp hf;have Z5:∀ r,r<=runEnd M (lp M h k).1-(lp M h k).1->kg owner ((lp M h k).1+r)=true:=fun r hr=>by have:=hn r (by simp;lia);rw[e] at this;simpa using this
   dsimp only;have hK:K≠k:=fun z=>by subst z;have:=Z5 0 (eT _);rw[LH,h4] at this;cases this
   refine n8 h owner fuel (k+1) (fun q Ri=>?_) ⟨K,by lia,by lia,h3,h4⟩;by_cases z:q<kP M h k
   ·exact hq q z
   ·have Ri:q<kP M h k+(runEnd M (lp M h k).1-(lp M h k).1)+1:=Ri;have hj:=UJ (q-kP M h k) (by lia);rw[show kP M h k+(q-kP M h k)=q by lia] at hj;rw[hj];exact Z5 _ (by lia)
structure OI(M:Nat)(hs:List Int)(owner:Array (Option Nat)):Prop where
 sz:owner.size=M+1
 lt:∀ j v:Nat,owner[j]? = some (some v)->v<hs.length
 inj:∀ j j' v:Nat,owner[j]? = some (some v)->owner[j']? = some (some v)->j=j'
 all:∀ v:Nat,v<hs.length->∃ j:Nat,owner[j]? = some (some v)
 path:∀ j v:Nat,owner[j]? = some (some v)->∃ n,n<=10*(M+13)/\J M (hs.getD v 0) n=j/\∀ q<n,kg owner (J M (hs.getD v 0) q)=true
theorem qH(h:j<owner.size):kg owner j=true↔∃ v,owner[j]? = some (some v):=by
 unfold kg;rw[A9 h];simp only[Array.getD,h,dite_true,Option.some.injEq]
 cases hh:owner[j] with
 |none =>have:owner.getInternal j h=none:=hh;rw[this];simp
 |some v =>have:owner.getInternal j h=some v:=hh;rw[this];simp
theorem OI.free(O:OI M hs owner)(hl:hs.length<=M):∃ e,e<=M/\kg owner e=false:=by
 by_cases c:∃ e,e<=M/\kg owner e=false
 ·exact c
 ·exfalso;have all:∀ e,e<=M->∃ v,owner[e]? = some (some v):=fun e he=>by
   refine(qH (by rw[O.sz];lia)).mp ?_
   cases z:kg owner e with
   |true=>rfl
   |false=>exact absurd ⟨e,he,z⟩ c
  have nd:((List.range (M+1)).map fun j=>(owner.getD j none).getD 0).Nodup:=by rw[R1,wo];refine List.Pairwise.imp_of_mem ?_ (R1.mp Pu);intro a b ha hb gX z;obtain⟨va,ea⟩:=all a (by have:=rg.mp ha;lia);obtain⟨vb,eb⟩:=all b (by have:=rg.mp hb;lia);rw[EZ,EZ,ea,eb] at z;have z:va=vb:=z;subst z;exact gX (O.inj _ _ _ ea eb)
  have:=aN (m:=List.range hs.length) nd fun x hx=>by obtain⟨j,hj,rfl⟩:=de.mp hx;obtain⟨v,e⟩:=all j (by have:=rg.mp hj;lia);rw[EZ,e];exact rg.mpr (O.lt _ _ e)
  simp at this;lia
theorem OI.lay(hM:M+1=2 ^ m)(O:OI M hs owner)(hl:hs.length<=M)(h:Int) :
  ∃ j,layClean.free M owner (turns M) (bits h % (M+1)) (bits h)=some j/\OI M (hs++[h]) (owner.setIfInBounds j (some hs.length)):=by
 obtain⟨e,he,hf⟩:=O.free hl;obtain⟨K,hK,hKe⟩:=cover hM h he;obtain⟨j,n,e1,e2,e3,e4,e5⟩:=n8 h owner (turns M) 0 (fun q hq=>absurd hq (GY q)) ⟨K,eT _,by unfold turns;lia,hK,by rw[hKe];exact hf⟩;refine⟨j,e1,?_⟩;have hj:j<owner.size:=by rw[O.sz,<- e2];exact EW (Rh M h n)
 have get:∀ i,(owner.setIfInBounds j (some hs.length))[i]? = if j=i then some (some hs.length) else owner[i]? := fun i=>by
  rw[Array.getElem?_setIfInBounds];by_cases z:j=i
  ·subst z;simp[hj]
  ·simp[z]
 have oc:∀ i,kg owner i=true->kg (owner.setIfInBounds j (some hs.length)) i=true:=fun i hi=>by
  unfold kg at hi ⊢;rw[EZ] at hi ⊢;rw[get];split
  ·rfl
  ·exact hi
 have gX:∀ v,owner[j]?≠some (some v):=fun v z=>by have:=(qH hj).mpr ⟨v,z⟩;rw[e4] at this;cases this
 refine⟨by rw[Array.size_setIfInBounds];exact O.sz,fun i v z=>?_,fun i i' v z z'=>?_,fun v hv=>?_,fun i v z=>?_⟩
 ·rw[get] at z;split at z
  ·cases z;simp
  ·have:=O.lt i v z;simp;lia
 ·rw[get] at z z';split at z
  ·cases z;split at z'
   ·lia
   ·exact absurd (O.lt _ _ z') (vt _)
  ·split at z'
   ·cases z';exact absurd (O.lt _ _ z) (vt _)
   ·exact O.inj i i' v z z'
 ·simp at hv;by_cases c:v=hs.length
  ·exact⟨j,by rw[get,if_pos rfl,c]⟩
  ·obtain⟨i,hi⟩:=O.all v (by lia);refine⟨i,?_⟩;rw[get,if_neg (fun z=>gX v (by rw[z];exact hi))];exact hi
 ·rw[get] at z;split at z
  ·rename_i hji;cases z;refine⟨n,e3,?_,fun q hq=>oc _ ?_⟩
   ·rw[GN,CL (da _)];simp[e2,hji]
   ·have:=e5 q hq;rw[GN,CL (da _)];simpa using this
  ·have hv:=O.lt i v z;obtain⟨n',a1,a2,a3⟩:=O.path i v z;have eg:(hs++[h]).getD v 0=hs.getD v 0:=by rw[GN,GN,MQ hv]
   rw[eg];exact⟨n',a1,a2,fun q hq=>oc _ (a3 q hq)⟩
theorem OI.nil(M:Nat):OI M [] (Array.replicate (M+1) none):=by
 have no:∀ (j v:Nat),¬ (Array.replicate (M+1) (none:Option Nat))[j]? = some (some v):=fun j v z=>by rw[Array.getElem?_replicate] at z;split at z<;>cases z
 exact⟨by simp,fun j v z=>absurd z (no j v),fun j j' v z _=>absurd z (no j v),fun v hv=>absurd hv (GY v),fun j v z=>absurd z (no j v)⟩
theorem Aw(hM:M+1=2 ^ m)(hs:Array Int)(hl:hs.size<=M):∃ owner,layClean M hs=some owner/\OI M hs.toList owner:=by
 have go:∀ (l pre:List Int) (owner:Array (Option Nat)),OI M pre owner->pre.length+l.length<=M->∃ Z6,l.foldl (fun acc h=>do
   let (owner,k) ← acc
   let j ← layClean.free M owner (turns M) (bits h % (M+1)) (bits h)
   pure (owner.setIfInBounds j (some k),k+1)) (some (owner,pre.length))=some (Z6,pre.length+l.length)/\OI M (pre++l) Z6:=by
  intro l
  induction l with
  |nil=>intro pre owner O _;exact⟨owner,rfl,by rw[kr];exact O⟩
  |cons h l ih =>
   intro pre owner O hz;rw[sA] at hz;obtain⟨j,e,O'⟩:=O.lay hM (by lia) h;obtain⟨o2,e2,O2⟩:=ih (pre++[h]) _ O' (by simp;lia);refine⟨o2,?_,by rw[tJ] at O2;exact O2⟩;rw[List.foldl_cons];have:(do
    let (owner,k) ← (some (owner,pre.length):Option (Array (Option Nat) × Nat))
    let j ← layClean.free M owner (turns M) (bits h % (M+1)) (bits h)
    pure (owner.setIfInBounds j (some k),k+1))=some (owner.setIfInBounds j (some pre.length),(pre++[h]).length):=by
    simp[e]
   rw[this,e2];simp;lia
 obtain⟨o,e,O⟩:=go hs.toList [] _ (OI.nil M) (by simpa using hl);refine⟨o,?_,by simpa using O⟩;unfold layClean;rw[<- Array.foldl_toList];have e':=e;simp only[List.length_nil] at e';rw[e'];rfl
theorem iK{n:Nat}:∀ (fuel a:Nat),3<=a->n<2 ^ (a+fuel)->∃ b,3<=b/\sizeAbove.go n fuel (2 ^ a)=2 ^ b/\n<2 ^ b/\(2 ^ b<=2*n\/b=a)
 |0,a,ha,h=>⟨a,ha,rfl,by simpa using h,.inr rfl⟩
 |fuel+1,a,ha,h=>by
  unfold sizeAbove.go;by_cases c:2 ^ a<=n
  ·rw[if_pos c];obtain⟨b,h1,h2,h3,h4⟩:=iK fuel (a+1) (by exact zI ‹_›) (by rw[show a+1+fuel=a+(fuel+1) by exact Nat.add_right_comm ..];exact h);refine⟨b,h1,by rw[A8] at h2;exact h2,h3,?_⟩;rcases h4 with h4|h4
   ·exact .inl h4
   ·left;rw[h4,A8];lia
  ·rw[if_neg c];exact⟨a,ha,rfl,by exact LB ‹_›,.inr rfl⟩
theorem fY{n:Nat}(h:n<2 ^ 60):∃ b,3<=b/\sizeAbove n=2 ^ b/\n<2 ^ b/\(2 ^ b<=2*n\/b=3) :=
 iK 64 3 (da _) (Sv h (by decide))
section
variable {α:Type}
def aZ(M:Nat)(owner:Array (Option Nat)):List (Nat × Nat):=(List.range (M+1)).filterMap fun j=>(owner.getD j none).map (j,·)
theorem dw{M:Nat}{owner:Array (Option Nat)}{p:Nat × Nat}:p∈aZ M owner↔p.1<M+1/\owner[p.1]? = some (some p.2):=by
 unfold aZ;rw[Se];constructor
 ·rintro⟨j,hj,e⟩;rw[EZ] at e
  cases h:owner[j]? with
  |none=>rw[h] at e;cases e
  |some o =>
   rw[h] at e
   cases o with
   |none=>cases e
   |some v =>cases e;exact⟨rg.mp hj,h⟩
 ·rintro⟨h1,h2⟩;exact⟨p.1,rg.mpr h1,by rw[EZ,h2];rfl⟩
theorem qX(M:Nat)(owner:Array (Option Nat)):((aZ M owner).map (·.1)).Pairwise (· < ·):=by
 unfold aZ;rw[wo,List.pairwise_filterMap];refine List.Pairwise.imp ?_ List.pairwise_lt_range;intro a b B8 p hp q hq
 cases h1:owner.getD a none with
 |none=>rw[h1] at hp;cases hp
 |some x =>
  cases h2:owner.getD b none with
  |none=>rw[h2] at hq;cases hq
  |some y =>rw[h1] at hp;rw[h2] at hq;cases hp;cases hq;exact B8
theorem su{l:List Nat}(h:l.Pairwise (· < ·)):Up l.toArray:=fun i j kS hj=>by
 have hj:j<l.length:=by simpa using hj
 have:=MR.mp h i j (by walk_at "s1") hj kS;have e:∀ k (hk:k<l.length),l.toArray.getD k 0=l[k]:=fun k hk=>by simp[Array.getD,hk]
 rw[e i (by walk_at "s1"),e j hj];exact this
theorem tQ{β:Type}{f:α->Option β}:∀ {l:List α},(∀ x∈l,(f x).isSome=true)->(l.filterMap f).length=l.length/\∀ i:Nat,(l.filterMap f)[i]? = (l[i]?).bind f
 |[],_=>⟨rfl,fun i=>by simp⟩
 |x :: l,h=>by
  obtain⟨a,b⟩:=tQ (f:=f) (l:=l) fun y hy=>h y (eI _ hy);have hx:=h x eL
  cases e:f x with
  |none=>rw[e] at hx;cases hx
  |some y =>
   rw[AZ,e];refine⟨by simp[a],fun i=>?_⟩
   cases i with
   |zero=>simp[e]
   |succ i=>simpa using b i
theorem tM(es:Array (Int × α)):(List.range es.size).filterMap (fun i=>es[i]?)=es.toList:=by
 apply Lv;intro i;rw[(tQ (l:=List.range es.size) fun x hx=>by
  have:=rg.mp hx;simp[this]).2 i]
 by_cases h:i<es.size
 ·rw[List.getElem?_range h,oa];rfl
 ·rw[EL (by simpa using h),EL (by simpa using h)];rfl
theorem qI{M m finger moves:Nat}{led plain:Bool}(hM:M+1=2 ^ m)(hm:3<=m){es:Array (Int × α)}(hf:es.size*5<M*3) :
  ∃ t order,laid M finger moves led plain (es.map (·.1))=some (t,order)/\t.plain=plain/\t.led=led/\t.mask=M/\TI t (order.filterMap fun i=>es[i]?)/\(order.filterMap fun i=>es[i]?).size=es.size/\(order.filterMap fun i=>es[i]?).toList.Perm es.toList/\order.toList.Perm (List.range es.size):=by
 obtain⟨owner,e,O⟩:=Aw hM (es.map (·.1)) (by rw[Array.size_map];lia);have hn:(es.map (·.1)).toList.length=es.size:=by simp
 refine⟨{ mask:=M,place:=((aZ M owner).map (·.1)).toArray,dummies:=#[],finger,led,moves,plain },((aZ M owner).map (·.2)).toArray,?_,rfl,rfl,rfl,?_⟩
 ·unfold laid;rw[e];rfl
 have Z7:∀ p∈aZ M owner,p.2<es.size:=fun p hp=>by have:=O.lt _ _ (dw.mp hp).2;lia
 have nd:((aZ M owner).map (·.2)).Nodup:=by rw[R1,wo];have:=qX M owner;rw[wo] at this;refine List.Pairwise.imp_of_mem ?_ this;intro p q hp hq gp z;have:=O.inj _ _ _ (dw.mp hp).2 (by rw[z];exact(dw.mp hq).2);lia
 have pm:((aZ M owner).map (·.2)).Perm (List.range es.size):=by
  refine(List.perm_ext_iff_of_nodup nd Pu).mpr fun v=>⟨fun hv=>?_,fun hv=>?_⟩
  ·obtain⟨p,hp,rfl⟩:=de.mp hv;exact rg.mpr (Z7 p hp)
  ·obtain⟨j,hj⟩:=O.all v (by rw[hn];exact rg.mp hv);have Z8:=(Dx.mp hj).1;rw[O.sz] at Z8;exact de.mpr ⟨(j,v),dw.mpr ⟨Z8,hj⟩,rfl⟩
 have hlen:(aZ M owner).length=es.size:=by have:=pm.length_eq;simpa using this
 have vF:(((aZ M owner).map (·.2)).toArray.filterMap fun i=>es[i]?).toList=(aZ M owner).filterMap fun p=>es[p.2]? := by rw[Array.toList_filterMap,Sf];rfl
 obtain⟨f1,f2⟩:=tQ (l:=aZ M owner) (f:=fun p=>es[p.2]?) fun p hp=>by simp[Z7 p hp]
 have gr':∀ i:Nat,(((aZ M owner).map (·.2)).toArray.filterMap fun i=>es[i]?)[i]? = ((aZ M owner)[i]?).bind fun p=>es[p.2]? := fun i=>by rw[<- oa,vF];exact f2 i
 have fz:(((aZ M owner).map (·.2)).toArray.filterMap fun i=>es[i]?).size=es.size:=by rw[<- yk,vF,f1,hlen]
 have jS:∀ i:Nat,∀ p,(aZ M owner)[i]? = some p->((aZ M owner).map (·.1)).toArray.getD i 0=p.1:=fun i p hp=>by rw[EZ];simp[hp]
 have tk:∀ j,kg owner j=true->j<=M->taken ((aZ M owner).map (·.1)).toArray j=true:=fun j hj hM'=>by
  obtain⟨v,hv⟩:=(qH (by rw[O.sz];exact EW ‹_›)).mp hj;obtain⟨i,hi⟩:=R7.mp (dw.mpr (show((j,v):Nat × Nat).1<M+1/\owner[((j,v):Nat × Nat).1]? = some (some ((j,v):Nat × Nat).2) from⟨by show j<M+1;exact EW ‹_›,hv⟩));exact(eN (su (qX M owner))).mpr ⟨i,by
   have:=(lP.mp hi).1;simpa using this,jS i _ hi⟩
 refine⟨?_,fz,?_,by simpa using pm⟩
 ·refine⟨⟨m,hM,hm⟩,?_,su (qX M owner),fun i hi=>?_,rfl,by rw[fz];exact hf,fun i h x hx=>?_⟩
  ·rw[fz];simp[hlen]
  ·have hi:i<(aZ M owner).length:=by simpa using hi
   have e1:=wm hi;show((aZ M owner).map (·.1)).toArray.getD i 0<=M;rw[jS i _ e1];have:=(dw.mp (tI e1)).1;lia
  ·rw[gr'] at hx
   cases hp:(aZ M owner)[i]? with
   |none=>rw[hp] at hx;cases hx
   |some p =>
    rw[hp] at hx;have hx:es[p.2]? = some (h,x):=hx;have hm':=dw.mp (tI hp);obtain⟨n,a1,a2,a3⟩:=O.path _ _ hm'.2;have hh:(es.map (·.1)).toList.getD p.2 0=h:=by rw[GN,oa,Array.getElem?_map,hx];rfl
    rw[hh] at a2 a3;refine⟨n,a1,?_,fun q hq=>tk _ (a3 q hq) (Rh M h q)⟩;show J M h n=((aZ M owner).map (·.1)).toArray.getD i 0;rw[jS i _ hp];exact a2
 ·rw[vF];have:=pm.filterMap fun i=>es[i]?;rw[tM,Sf] at this;exact this
theorem pP{t:SetTable}{es:Array (Int × α)}(hn:es.size<=10000) :
  ∃ t' order,t.relaid (es.map (·.1)) (grown es.size)=some (t',order)/\t'.plain=t.plain/\t'.led=t.led/\sizeAbove (grown es.size)<=16777216/\(es.size<=2000->t'.mask<=8191)/\TI t' (order.filterMap fun i=>es[i]?)/\(order.filterMap fun i=>es[i]?).size=es.size/\(order.filterMap fun i=>es[i]?).toList.Perm es.toList/\order.toList.Perm (List.range es.size):=by
 have hg:grown es.size=es.size*4:=by unfold grown;rw[if_neg (by lia)]
 obtain⟨b,h3,e,gp,hle⟩:=fY (n:=es.size*4) (by lia);have h8:8<=2 ^ b:=M6 (n:=2) (by decide) h3;unfold relaid;rw[hg,e];obtain⟨t',order,q1,q2,q3,qm,q4⟩:=qI (M:=2 ^ b-1) (m:=b) (finger:=t.finger) (moves:=t.movedTo (2 ^ b-1)) (led:=t.led) (plain:=t.plain) (by lia) h3 (es:=es) (by lia);refine⟨t',order,q1,q2,q3,?_,fun hz=>?_,q4⟩
 ·rcases hle with hle|rfl
  ·lia
  ·decide
 ·rw[qm];rcases hle with hle|rfl
  ·have:b<14:=LB fun z=>by have:=M6 (n:=2) (by decide) z;lia
   have:=M6 (n:=2) (by decide) (M7 this);lia
  ·decide
end
section
variable {α:Type}{t:SetTable}{es:Array (Int × α)}
theorem lZ(T:TI t es)(hashAt:Nat->Int)(h:Int):∀ (fuel n:Nat),(∃ N,n<=N/\N<n+fuel/\taken t.place (J t.mask h N)=false) ->
  ∃ n',n<=n'/\n'<n+fuel/\(∀ q,n<=q->q<n'->taken t.place (J t.mask h q)=true/\hashAt (below t.place (J t.mask h q))≠h) /\ ((taken t.place (J t.mask h n')=false/\probe.go t hashAt h fuel (ps t.mask h n)=some (.empty (J t.mask h n') none)) \/ (taken t.place (J t.mask h n')=true/\hashAt (below t.place (J t.mask h n'))=h/\probe.go t hashAt h fuel (ps t.mask h n)=some (.candidate (J t.mask h n') (below t.place (J t.mask h n')) (ps t.mask h (n'+1)))))
 |0,n,⟨N,h1,h2,_⟩=>by lia
 |fuel+1,n,⟨N,h1,h2,h3⟩=>by
  unfold probe.go;have hs:=T.slot (J t.mask h n);have hd:=(BR t.mask h n).2.2.1;by_cases c:taken t.place (J t.mask h n)=true
  ·rw[if_pos c] at hs;have hs:t.slot (ps t.mask h n).j=.live (below t.place (J t.mask h n)):=hs;rw[hs];dsimp only;by_cases e:hashAt (below t.place (J t.mask h n))=h
   ·rw[if_pos (by simpa using e)];exact⟨n,da _,by lia,fun q a b=>by lia,.inr ⟨c,e,rfl⟩⟩
   ·rw[if_neg (by simpa using e)];have hN:N≠n:=fun z=>by rw[z,c] at h3;cases h3
    obtain⟨n',a1,a2,a3,a4⟩:=lZ T hashAt h fuel (n+1) ⟨N,by lia,by lia,h3⟩;refine⟨n',by exact mS ‹_›,by lia,fun q b1 b2=>?_,a4⟩;by_cases z:q=n
    ·subst z;exact⟨c,e⟩
    ·exact a3 q (by lia) b2
  ·have c:taken t.place (J t.mask h n)=false:=by simpa using c
   rw[if_neg (by rw[c];exact kK)] at hs;have hs:t.slot (ps t.mask h n).j=.empty:=hs;rw[hs];dsimp only;rw[hd];exact⟨n,da _,by lia,fun q a b=>by lia,.inl ⟨c,rfl⟩⟩
end
section
variable {prog:dr}{w:dA}{K:Type}[DecidableEq K]{knd:KeyKind prog w K}
abbrev aK(knd:KeyKind prog w K)(k:List K):Int:=tupleKeyHash knd k
def yf(knd:KeyKind prog w K)(p:List K × ag):Int × ae:=(aK knd p.1,.ref p.2)
structure D8(knd:KeyKind prog w K)(h:cE)(a:ag)(ks:List (List K × ag)):Prop where
 ob:∃ o es ep t,h.get? a=some o/\o.ExactSet/\o.data=.set es ep t/\TI t es/\t.mask<=8191/\t.led=(!w.params.followText "set-order")/\es.toList=ks.map (yf knd)
 nd:(ks.map (·.1)).Nodup
 is:∀ p∈ks,IsTupleKey knd h p.1 p.2
variable {A:eB}{E:ae->ay->Prop}{s:ay}
theorem jM(hk:IsTupleKey knd s.heap k a)(h:Q false s):aT (aS prog w) A (ofAClassStatement 8 (.ref a)) Q E s:=by
 have hT:=hk.typeIs;obtain⟨o,items,n,ho,_,hd,hi⟩:=hk;unfold ofAClassStatement;refine ah (wpAny_typeOf hT ?_);dsimp only;refine ah ?_;refine aI ?_;simp only[Nc,iX,if_false];refine ah (wpAny_seqItems ho hd ?_);dsimp only;refine ah ?_;rw[<- SJ];refine wpAny_forIn_list _ (fun rest r s'=>r.1=none/\s'=s/\∀ v∈rest,carriedByValue v=true) _ ?_ ?_ _ _ ⟨rfl,rfl,hi.byValue⟩
 ·rintro v rest r s' ⟨hr,rfl,oj⟩;have hv:=oj v eL;have e:ofAClassStatement 7 v=pure false:=by
   cases v with
   |ref a=>cases hv
   |_=>rfl
  rw[e];refine ah (aI ?_);simp only[iX,if_false];exact aI ⟨rfl,rfl,fun u JY=>oj u (eI _ JY)⟩
 ·rintro⟨r1,r2⟩ s' ⟨hr,rfl,_⟩;simp only at hr;subst hr;exact aI h
theorem iB(hk:IsTupleKey knd s.heap k a)(ip:∀ k v,knd.is k v=true->v.scannable=true)(h:∀ b,Q b s):aT (aS prog w) A (hashByValue 8 (.ref a)) Q E s:=by
 have hT:=hk.typeIs;obtain⟨o,items,n,ho,_,hd,hi⟩:=hk;have gt':∀ v∈items.toList,v.scannable=true:=by
  clear ho hd;generalize items.toList=l at hi
  induction hi with
  |nil=>intro v hv;cases hv
  |cons h1 _ ih =>
   intro v hv;rcases eM.mp hv with rfl|hv
   ·exact ip _ _ h1
   ·exact ih v hv
 unfold hashByValue;refine ah (wpAny_specialOf hT F.slot_tuple_hash.lookup ?_);dsimp only;refine ah (wpAny_seqItems ho hd ?_);dsimp only[Option.getD];refine ah ?_;rw[<- SJ];refine wpAny_forIn_list _ (fun rest r s'=>s'=s/\∀ v∈rest,v.scannable=true) _ ?_ ?_ _ _ ⟨rfl,gt'⟩
 ·rintro v rest r s' ⟨rfl,oj⟩;rw[hashByValue_scannable 7 (oj v eL)];refine ah (aI ?_);split
  ·exact aI (aI (h _))
  ·exact aI ⟨rfl,fun u JY=>oj u (eI _ JY)⟩
 ·rintro⟨r1,r2⟩ s' ⟨rfl,_⟩
  cases r1 with
  |none=>exact aI (h true)
  |some b=>exact aI (h b)
end
local macro_rules | `(tactic| walk_at $s:str) => do
 let x:=s.getString
 if x.startsWith "PV" then `(tactic| exact $(Lean.mkIdent (.str (.str (.num (.str (.str (.str .anonymous "_private") "PySem") "SetOps") 0) "PySem") (x.drop 2).toString)))
 else Lean.Macro.throwUnsupported
abbrev vA:Array (Int × ae)->Nat->Int:=by walk_at "PVstoredHashAt"
abbrev Bj:Array (Int × ae)->Option (SetTable × Array Nat)->Sem (Array (Int × ae) × SetTable):=by walk_at "PVreordered"
abbrev iy:Array (Int × ae)->SetTable->Bool:=by walk_at "PVdrawn"
abbrev Gr:Array (Int × ae)->SetTable->Sem Unit:=by walk_at "PVmustBeLedForItsPlaces"
abbrev Et:Bool->Sem Unit:=by walk_at "PVgaveWayHere"
def qd:Array (Int × ae)->Nat->Int:=vA
theorem oN(es:Array (Int × ae))(i:Nat):qd es i=(es[i]?.map (·.1)).getD 0:=rfl
section
variable {prog:dr}{w:dA}{K:Type}[DecidableEq K]{knd:KeyKind prog w K}{A:eB}{E:ae->ay->Prop}{s:ay}
theorem tU(hk:IsTupleKey knd s.heap k a)(hy:∀ y∈ys,∃ k' b,y=.ref b/\IsTupleKey knd s.heap k' b)(h:Q false s):aT (aS prog w) A (searchCouldBeSeen (.ref a) ys) Q E s:=by
 unfold searchCouldBeSeen;refine ah ?_;refine wpAny_forIn_list _ (fun rest r s'=>r.1=none/\s'=s/\∀ y∈rest,∃ k' b,y=.ref b/\IsTupleKey knd s.heap k' b) _ ?_ ?_ _ _ ⟨rfl,rfl,hy⟩
 ·rintro y rest r s' ⟨hr,rfl,oj⟩;obtain⟨k',b,rfl,hb⟩:=oj y eL;have go:∀ (P:Prop),P->P:=fun _ p=>p;dsimp only;split
  ·exact aI ⟨rfl,rfl,fun u JY=>oj u (eI _ JY)⟩
  ·refine ah (wpAny_eqIsQuiet_tuple hk ?_);simp only[Nc,iX,if_false];refine ah (wpAny_eqIsQuiet_tuple hb ?_);simp only[Nc,iX,if_false];refine ah (jM hk ?_);simp only[iX,if_false];refine ah (jM hb ?_);simp only[iX,if_false];exact aI ⟨rfl,rfl,fun u JY=>oj u (eI _ JY)⟩
 ·rintro⟨r1,r2⟩ s' ⟨hr,rfl,_⟩;simp only at hr;subst hr;exact aI h
theorem Hc{K G:Prop}(pk:K)(h:K->G):G:=h pk
theorem pM{a x:ag}{k:List K}{ks:List (List K × ag)}{o:Obj}{es:Array (Int × ae)}{ep:Nat}{t:SetTable}(hu:A.units<gE)(ho:s.heap.get? a=some o)(hd:o.data=.set es ep t)(T:TI t es)(he:es.toList=ks.map (yf knd))(mB:∀ p∈ks,IsTupleKey knd s.heap p.1 p.2) (hx:IsTupleKey knd s.heap k x) {Q:SetFound->ay->Prop} (Z9:k∈ks.map (·.1)->Q (.there none) s)(nf:Nat) (hnf:nf<=10*(t.mask+13)) (sL:taken t.place (J t.mask (aK knd k) nf)=false) (Z_:∀ q<nf,taken t.place (J t.mask (aK knd k) q)=true)(Qb:k∉ks.map (·.1)->Q (.free (J t.mask (aK knd k) nf) false) s) :
  ∀ (fuel n:Nat) (stand:Option Probe),stand.getD (t.probeStart (aK knd k))=ps t.mask (aK knd k) n->n<=nf->nf<n+fuel -> (∀ q<n,∀ p,ks[below t.place (J t.mask (aK knd k) q)]? = some p->p.1≠k)->aT (aS prog w) A (setSearchFrom a (.ref x) (aK knd k) true fuel stand) Q E s
 |0,n,stand,_,h1,h2,_=>by lia
 |fuel+1,n,stand,mI,h1,h2,hq=>by
  have D9:∀ i:Nat,es[i]? = (ks[i]?).map (yf knd):=fun i=>by rw[<- oa,he,qV]
  unfold setSearchFrom;refine ah (mG ho hd T.fits ?_);dsimp only;rw[if_neg (by rw[T.odd];exact kK)];obtain⟨n',a1,a2,a3,a4⟩:=lZ T (qd es) (aK knd k) (10*turns t.mask) n ⟨nf,h1,by unfold turns;lia,sL⟩;have LW:n'<=nf:=by
   by_cases z:n'<=nf
   ·exact z
   ·have:=(a3 nf h1 (by exact LB ‹_›)).1;rw[sL] at this;cases this
  rcases a4 with⟨c1,c2⟩|⟨c1,c2,c3⟩
  ·have c2:t.probe (qd es) (aK knd k) (stand.getD (t.probeStart (aK knd k)))=some (.empty (J t.mask (aK knd k) n') none):=by rw[mI];exact c2
   have e:n'=nf:=by
    by_cases z:n'<nf
    ·have:=Z_ n' z;rw[c1] at this;cases this
    ·lia
   have c2:t.probe (vA es) (aK knd k) (stand.getD (t.probeStart (aK knd k)))=some (.empty (J t.mask (aK knd k) n') none):=c2;rw[c2];dsimp only;rw[e];refine aI (Qb fun hm=>?_);obtain⟨p,hp,rfl⟩:=de.mp hm;obtain⟨i,hi⟩:=R7.mp hp;have ei:es[i]? = some (aK knd p.1,.ref p.2):=by rw[D9,hi];rfl
   have aa':i<t.place.size:=by rw[T.sz];exact(Dx.mp ei).1
   obtain⟨ni,b1,b2,b3⟩:=T.path i _ _ ei;have bt:below t.place (J t.mask (aK knd p.1) ni)=i:=by rw[b2];exact below_at T.up aa'
   have tk:taken t.place (J t.mask (aK knd p.1) ni)=true:=by rw[b2];exact(eN T.up).mpr ⟨i,aa',rfl⟩
   have gp:ni<nf:=by
    by_cases z:nf<ni
    ·have:=b3 nf z;rw[sL] at this;cases this
    ·have:ni≠nf:=fun z=>by rw[z,sL] at tk;cases tk
     lia
   by_cases z:ni<n
   ·exact hq ni z p (by rw[bt];exact hi) rfl
   ·refine(a3 ni (by exact M0 ‹_›) (by lia)).2 ?_;rw[bt,oN,ei];rfl
  ·have c3:t.probe (vA es) (aK knd k) (stand.getD (t.probeStart (aK knd k)))=some (.candidate (J t.mask (aK knd k) n') (below t.place (J t.mask (aK knd k) n')) (ps t.mask (aK knd k) (n'+1))):=by rw[mI];exact c3
   rw[c3];dsimp only;have tk:=jk T.up c1;have Ou:t.slot (J t.mask (aK knd k) n')=.live (below t.place (J t.mask (aK knd k) n')):=by rw[T.slot,if_pos c1]
   generalize hi:below t.place (J t.mask (aK knd k) n')=i at tk c2 Ou ⊢;have Rj:i<es.size:=by rw[<- T.sz];exact tk.1
   obtain⟨p,hp⟩:∃ p,ks[i]? = some p:=by
    have:i<ks.length:=by have:=congrArg List.length he;simp at this;lia
    exact⟨_,wm this⟩
   have ei:es[i]? = some (aK knd p.1,.ref p.2):=by rw[D9,hp];rfl
   have hpm:=tI hp;have gX:n'≠nf:=fun z=>by rw[z,sL] at c1;cases c1
   have again:¬ p.1=k->aT (aS prog w) A (setSearchFrom a (.ref x) (aK knd k) true fuel (some (ps t.mask (aK knd k) (n'+1)))) Q E s:=fun hpk =>
    pM hu ho hd T he mB hx Z9 nf hnf sL Z_ Qb fuel (n'+1) (some (ps t.mask (aK knd k) (n'+1))) rfl (by lia) (by lia) fun q Ri p' gu=>by
     by_cases z:q<n
     ·exact hq q z p' gu
     ·by_cases z2:q=n'
      ·subst z2;rw[hi,hp] at gu;cases gu;exact hpk
      ·intro e';have:=(a3 q (by exact M0 ‹_›) (by lia)).2;refine this ?_;rw[oN,D9,gu];show aK knd p'.1=_;rw[e']
   have pe:p.1=k->k∈ks.map (·.1):=fun e=>e ▸ de.mpr ⟨p,hpm,rfl⟩;have seen:∀ y∈List.map (fun x=>x.snd) (Array.filter (fun x=>x.fst == aK knd k) es).toList,∃ k' b,y=.ref b/\IsTupleKey knd s.heap k' b:=fun y hy=>by obtain⟨e',Qw,rfl⟩:=de.mp hy;rw[Array.toList_filter] at Qw;have:=(A7.mp Qw).1;rw[he] at this;obtain⟨p',gu,rfl⟩:=de.mp this;exact⟨p'.1,p'.2,rfl,mB p' gu⟩
   refine Hc ?pk (K:=?K) fun key=>?main;case main =>
    split
    ·refine ah (tU hx seen ?_);rw[if_neg kK];exact key
    ·exact key
   rw[ei];dsimp only;refine ah (oy (wpAny_eqBool_tuple hu (mB p hpm) hx ?_));refine ah (mG ho hd T.fits ?_);dsimp only;by_cases e:p.1=k
   ·rw[if_pos (by simp[e])];exact aI (Z9 (pe e))
   ·rw[if_neg (by simp[e])];have Ud:t.sameMemory t.moves t.mask=some true:=by unfold sameMemory;rw[if_pos (by simp)]
    rw[Ud];dsimp only;rw[if_pos rfl,Ou];dsimp only;rw[ei];dsimp only;refine ah (m:=isSame (.ref p.2) (.ref p.2)) ?_;unfold isSame;dsimp only;rw[if_pos (by simp)];refine aI (ah (aI ?_));rw[if_pos rfl];dsimp only;rw[if_neg (by simp[e])];exact again e
end
theorem cQ{α β:Type}{f:α->β}:∀ {l l2:List β},l.Perm l2->∀ {m:List α},l2=m.map f->∃ m':List α,l=m'.map f/\m'.Perm m:=by
 intro l l2 p
 induction p with
 |nil=>intro m e;exact⟨m,by rw[<- e],.refl _⟩
 |cons x _ ih =>
  intro m e
  cases m with
  |nil=>cases e
  |cons y m =>simp only[iF,List.cons.injEq] at e;obtain⟨m',e1,p1⟩:=ih e.2;exact⟨y :: m',by rw[iF,<- e1,e.1],p1.cons _⟩
 |swap x y l =>
  intro m e
  match m,e with
  |a :: b :: m,e =>simp only[iF,List.cons.injEq] at e;exact⟨b :: a :: m,by simp[e.1,e.2.1,e.2.2],.swap ..⟩
 |trans _ _ ih1 Us =>intro m e;obtain⟨m',e1,p1⟩:=Us e;obtain⟨m2,e2,p2⟩:=ih1 e1;exact⟨m2,e2,p2.trans p1⟩
theorem lB{α:Type}(xs:Array α)(p:Nat)(x:α):(insertAt xs p x).toList=xs.toList.take p++x :: xs.toList.drop p:=by unfold insertAt;simp;rw[Lq (by simp)]
theorem d7(hz:(order.filterMap fun i=>es[i]?).size=es.size)(h:Q (order.filterMap fun i=>es[i]?,t) s):aT (aS prog w) A (Bj es (some (t,order))) Q E s:=by
 show aT _ _ (if ((order.filterMap fun i=>es[i]?).size != es.size)=true then (do unsupported "internal:set-table-lost-an-element";pure (order.filterMap fun i=>es[i]?,t)) else pure (order.filterMap fun i=>es[i]?,t)) _ _ _;rw[if_neg (by simp[hz])];exact aI h
section
variable {prog:dr}{w:dA}{K:Type}[DecidableEq K]{knd:KeyKind prog w K}{A:eB}{E:ae->ay->Prop}{s:ay}
theorem IsTupleKey.eW(hk:IsTupleKey knd h k a)(e:∀ o,h.get? a=some o->h'.get? a=some o):IsTupleKey knd h' k a:=by obtain⟨o,items,n,ho,r⟩:=hk;exact⟨o,items,n,e o ho,r⟩
theorem D8.ne(S:D8 knd h a ks)(hx:IsTupleKey knd h k x):x≠a:=by obtain⟨⟨o,es,ep,t,ho,hex,_⟩,_,_⟩:=S;obtain⟨o',items,n,og,hc,_⟩:=hx;intro z;subst z;rw[ho] at og;cases og;rw[hex.1] at hc;exact absurd hc (by decide)
theorem zE(S:D8 knd s.heap a ks)(hx:IsTupleKey knd s.heap k x)(hz:ks.length<2000)(hu:A.units<gE)(ip:∀ k v,knd.is k v=true->v.scannable=true)(h:∀ (b:Bool) (h':cE) (dc:List (List K × ag)),Heap.SameBut a s.heap h'->D8 knd h' a dc->(k∈ks.map (·.1)/\dc=ks\/k∉ks.map (·.1)/\dc.Perm ((k,x) :: ks))->Q b { s with heap:=h' }) :
  aT (aS prog w) A (setAddHashed a (.ref x) (aK knd k)) Q E s:=by
 obtain⟨⟨o,es,ep,t,ho,hex,hd,T,hM,hL,he⟩,nd,is⟩:=id S;have hlen:es.size=ks.length:=by have:=congrArg List.length he;simpa using this
 obtain⟨m,hm,_⟩:=T.pw;obtain⟨e0,B9,My⟩:=T.free;obtain⟨nf,n1,n2,n3⟩:=lM hm (aK knd k) (taken t.place) B9 My;unfold setAddHashed setAddHashedIn;refine oy (ah (mG ho hd T.fits ?_));dsimp only;have hbs:byScan (.ref x) es=false:=by simp[byScan,Value.scannable]
 rw[hbs];simp only[iX,if_false];refine ah ?_;unfold setSearch;refine pM hu ho hd T he is hx (fun pe=>?_) nf n1 n2 n3 (fun AF=>?_) 100000 0 none rfl (eT _) (by lia) fun q hq=>absurd hq (GY q)
 ·dsimp only;refine aI ?_;have e:s={ s with heap:=s.heap }:=by cases s;rfl
  rw[e];exact h _ _ ks (Heap.SameBut.refl a s.heap) S (.inl ⟨pe,rfl⟩)
 ·dsimp only;generalize hj:J t.mask (aK knd k) nf=j at n2 ⊢;have UK:j<=t.mask:=by rw[<- hj];exact Rh ..
  have UL:Reach t.mask t.place (aK knd k) j:=⟨nf,n1,hj,n3⟩
  refine ah (mG ho hd T.fits ?_);dsimp only;have UM:t.put j=({ t with place:=insertAt t.place (below t.place j) j,dummies:=#[] },below t.place j):=by
   unfold SetTable.put;have:has t.dummies j=false:=by rw[T.dm];rfl
   simp only[this,iX,if_false];rw[T.dm]
  rw[UM];dsimp only;have pe:(insertAt es (below t.place j) (aK knd k,.ref x)).toList=(ks.take (below t.place j)++(k,x) :: ks.drop (below t.place j)).map (yf knd):=by rw[lB,he,k6,iF,MY,MZ];rfl
  have xE:(ks.take (below t.place j)++(k,x) :: ks.drop (below t.place j)).Perm ((k,x) :: ks):=by refine List.perm_middle.trans ?_;rw[Lr]
  have FI:below t.place j<=es.size:=by rw[<- T.sz];exact(aJ T.up j).1
  have Cb:(insertAt es (below t.place j) (aK knd k,Value.ref x)).size=es.size+1:=a_ _ _ FI;have hxa:=S.ne hx;have Ov:∀ h',Heap.SameBut a s.heap h'->∀ dc:List (List K × ag),dc.Perm ((k,x) :: ks)->∀ p∈dc,IsTupleKey knd h' p.1 p.2:=fun h' sb dc pm p hp=>by
   have:IsTupleKey knd s.heap p.1 p.2:=by
    rcases eM.mp (pm.mem_iff.mp hp) with rfl|hp
    ·exact hx
    ·exact is p hp
   exact IsTupleKey.eW this fun o' og=>sb.extBut _ _ (S.ne this) og
  have Ow:∀ dc:List (List K × ag),dc.Perm ((k,x) :: ks)->(dc.map (·.1)).Nodup:=fun dc pm=>by rw[(pm.map _).nodup_iff,iF,lT];exact⟨AF,nd⟩
  -- behind the flag
  have main:∀ pl:Bool,aT (aS prog w) A (do
    storeSet a (insertAt es (below t.place j) (aK knd k,.ref x)) { t with place:=insertAt t.place (below t.place j) j,dummies:=#[],plain:=pl }
    if (!false && ({ t with place:=insertAt t.place (below t.place j) j,dummies:=#[],plain:=pl }:SetTable).tooFull)=true then do
      setRelay a (grown (es.size+1))
      pure true
     else pure true) Q E s:=fun pl=>by
   generalize Ox:({ t with place:=insertAt t.place (below t.place j) j,dummies:=#[],plain:=pl }:SetTable)=t';have tm:t'.mask=t.mask:=by rw[<- Ox]
   have tp:t'.place=insertAt t.place (below t.place j) j:=by rw[<- Ox]
   have td:t'.dummies = #[]:=by rw[<- Ox]
   have Rk:t'.fill=es.size+1:=by unfold SetTable.fill;rw[tp,td,a_ _ _ (aJ T.up j).1,T.sz];simp
   refine ah (EI ho hd ?_ (by rw[Cb,hJ];lia));have kU:(s.heap.update a (Obj.putSet (insertAt es (below t.place j) (aK knd k,.ref x)) t')).get? a=some { o with data:=.set (insertAt es (below t.place j) (aK knd k,.ref x)) (ep+1) t' }:=by have:=vn (Obj.putSet (insertAt es (below t.place j) (aK knd k,.ref x)) t') ho (by rw[sv _ _ hd];rfl);rw[sv _ _ hd] at this;exact this
   have vS:=Heap.SameBut.update s.heap a (Obj.putSet (insertAt es (below t.place j) (aK knd k,.ref x)) t');by_cases c:t'.tooFull=true
   ·rw[if_pos (by rw[c];rfl)];have Mv:t'.fits (insertAt es (below t.place j) (aK knd k,Value.ref x)).size=true:=by have:=T.few;simp only[SetTable.fits,Rk,k7,beq_iff_eq,decide_eq_true_eq];rw[tp,a_ _ _ (aJ T.up j).1,Cb,T.sz,tm];exact⟨rfl,by lia⟩
    obtain⟨t2,order,r1,r2,r3,r4,r5,r6,r7,r8,_⟩:=pP (t:=t') (es:=insertAt es (below t.place j) (aK knd k,Value.ref x)) (by lia);rw[Cb] at r1 r4;unfold setRelay;refine ah (ah (mG kU rfl Mv ?_));dsimp only;rw[if_neg (by rw[hJ];lia)];refine ah ?_;rw[r1];obtain⟨dc,ek,pk⟩:=cQ r8 pe;refine d7 r7 ?_;dsimp only;refine EI kU rfl ?_ (by rw[r7,Cb,hJ];lia);refine aI ?_;have xI:=vS.trans (Heap.SameBut.update _ a (Obj.putSet (order.filterMap fun i=>(insertAt es (below t.place j) (aK knd k,Value.ref x))[i]?) t2));have mw:=vn (Obj.putSet (order.filterMap fun i=>(insertAt es (below t.place j) (aK knd k,Value.ref x))[i]?) t2) kU (by rw[sv _ _ rfl];rfl);rw[sv _ _ rfl] at mw;exact h true _ dc xI ⟨⟨_,_,_,_,mw,hex,rfl,r6,r5 (by lia),by rw[r3,<- Ox];exact hL,ek⟩,Ow dc (pk.trans xE),Ov _ xI dc (pk.trans xE)⟩ (.inr ⟨AF,pk.trans xE⟩)
   ·rw[if_neg (by simpa using c)];refine aI ?_;have rU:(es.size+1)*5<t.mask*3:=by unfold SetTable.tooFull at c;rw[Rk,tm] at c;simpa using c
    exact h true _ _ vS ⟨⟨_,_,_,_,kU,hex,rfl,T.put UK n2 UL tm tp td rU,by rw[tm];exact hM,by rw[<- Ox];exact hL,pe⟩,Ow _ xE,Ov _ vS _ xE⟩ (.inr ⟨AF,xE⟩)
  split
  ·refine ah (iB hx ip fun b=>?_)
   cases b with
   |true=>exact main t.plain
   |false=>exact main false
  ·exact ah (aI (main t.plain))
end
end TS
namespace TS
open PySem PySem.SetTable PyProof.Rows
section
variable {prog:dr}{w:dA}{A:eB}{R:Result->ay->Prop}{I:ag}{fp wr:List ag}{n:Nat}{P:Nat->ae->Prop}{St:Nat->cE->Prop}
theorem yw(W:Walks prog w A.in1 I fp wr n P St)(S:ag)(Kb:S∉fp)(SI:Nat->cE->Prop)(keep:∀ i h h',SI i h->(∀ b o,b∉wr->h.get? b=some o->h'.get? b=some o)->SI i h')(step:∀ (i:Nat) (v:ae) (s':ay) (E':ae->ay->Prop) (Q:Bool->ay->Prop),P i v->SI i s'.heap->(∀ b h' tk,Heap.SameBut S s'.heap h'->SI (i+1) h'->Q b { s' with heap:=h',toks:=tk })->aT (aS prog w) A.in1 (setAdd S v) Q E' s') :
  ∀ (k i:Nat) (s:ay),n-i=k->i<=n->St i s.heap->SI i s.heap -> (∀ h' tk,SI n h'->(∀ b o,b∉wr->b≠S->s.heap.get? b=some o->h'.get? b=some o)->R (.ok (.ret .none)) { s with heap:=h',toks:=tk }) ->
   codeAny (aS prog w) A (.builtin "set.update.loop" ⟨[.ref S,.ref I],[]⟩) R s:=by
 have hSw:S∉wr:=fun h=>Kb (W.sub _ h);intro k
 induction k with
 |zero =>
  intro i s hk hi mI hS hR;have pe:i=n:=by lia
  subst pe;refine GA F.entry_set_update_loop ?_;rw[Around.under_plainId F.plain_set_update_loop _];show aT _ A.in1 (pyNext (.ref I) >>= _) _ _ s;refine ah (W.done s _ _ mI fun h' tk oQ=>?_);show aT _ A.in1 (ret Value.none) _ _ _;exact aI (hR h' tk (keep _ _ _ hS oQ) fun b o hb _ e=>oQ b o hb e)
 |succ k ih =>
  intro i s hk hi mI hS hR;have gp:i<n:=by lia
  refine GA F.entry_set_update_loop ?_;rw[Around.under_plainId F.plain_set_update_loop _];show aT _ A.in1 (pyNext (.ref I) >>= _) _ _ s;refine ah (W.item i s _ _ gp mI fun v h' tk hP gy' oQ=>?_);show aT _ A.in1 (holding [v] (setAdd S v) >>= _) _ _ _;refine ah (oy (step i v _ _ _ hP (keep _ _ _ hS oQ) fun b h2 tk2 sb hS2=>?_));refine aI ⟨plainId_quiet F.plain_set_update_loop _,ih (i+1) _ (by lia) gp (W.frame _ _ _ gy' fun b hb o e=>?_) hS2 fun h3 tk3 hS3 IU=>?_⟩
  ·exact sb.extBut b o (fun z=>Kb (by rw[<- z];exact hb)) e
  ·exact hR h3 tk3 hS3 fun b o hb Oy e=>IU b o hb Oy (sb.extBut b o Oy (oQ b o hb e))
end
section
variable {prog:dr}{w:dA}{A:eB}{E:ae->ay->Prop}{s:ay}
theorem vy(a:ae)(h:Q₁ (.ref s.heap.objs.size) { s with heap:=s.heap.push { cls:=.type "set",dict:=none,data:=.set #[] 0 (.fresh 0 0 (!w.params.followText "set-order")) } }) :
  codeAny (aS prog w) A (.call (.builtin "set.__new__") ⟨[.type "set",a],[]⟩) (wants Q₁ E) s:=by
 refine codeAny_of_tree ?_;show aT _ A.in1 (do checkBuiltinCall "set.__new__" ⟨[.type "set",a],[]⟩;again (.builtin "set.__new__" ⟨[.type "set",a],[]⟩)) _ _ s;refine ah (GL (F.newCall_set_1 a) (aI ⟨plainId_quiet F.plain_set_new _,GA F.entry_set_new ?_⟩));rw[Around.under_plainId F.plain_set_new _];unfold Builtin.«set.__new__» Builtin.Frozenset.newClass;have UN:=sub_set_self;obtain⟨hp,g,d,tk,os⟩:=s;dsimp only
 wp_walk
 refine zt (aI ?_);dsimp only;simp only[newObj];refine ah (wpAny_alloc (aI ?_));exact aI h
theorem eE(hh:A.handled=none)(hl:s.heap.IsList l items)(SI:Nat->cE->Prop)(h0:∀ h,h.get? s.heap.objs.size=some { cls:=.type "set",dict:=none,data:=.set #[] 0 (.fresh 0 0 (!w.params.followText "set-order")) }->(∀ b o,s.heap.get? b=some o->h.get? b=some o)->SI 0 h) (keep:∀ i h h',SI i h->(∀ b o,b<=s.heap.objs.size->h.get? b=some o->h'.get? b=some o)->SI i h') (step:∀ (i:Nat) (v:ae) (s':ay) (E':ae->ay->Prop) (Q:Bool->ay->Prop),items[i]? = some v->SI i s'.heap->(∀ b h' tk,Heap.SameBut s.heap.objs.size s'.heap h'->SI (i+1) h'->Q b { s' with heap:=h',toks:=tk }) ->
   aT (aS prog w) A.in1.in1.in1 (setAdd s.heap.objs.size v) Q E' s')
  (h:∀ (h':cE) (tk:Nat),SI items.size h'->(∀ b o,b<s.heap.objs.size->s.heap.get? b=some o->h'.get? b=some o)->Q (.ref s.heap.objs.size) { s with heap:=h',toks:=tk }) :
  aT (aS prog w) A (call (.type "set") [.ref l]) Q E s:=by
 obtain⟨c,tl,lO'⟩:=F.called_set.mro;have lP':=F.called_set.made;have UN:=F.called_set.sub;refine wpAny_call (codeAny_of_tree ?_);show aT _ _ (callAny (.type "set") _) _ _ _;refine aI ⟨Code.quiet_builtin _ (by decide +kernel),GA F.entry_type_call ?_⟩;rw[Around.under_plain (weight_type_call_type "set" [.ref l] []) rfl];have h1:=F.called_set.notType;have h2:=F.called_set.canCreate;have hct:=F.typeCall_set_1 (.ref l);repeat (any_goals (first|assumption|wp_step))
 refine codeAny_mono (vy (.ref l) (E:=E) (Q₁:=fun obj fm=>obj=.ref s.heap.objs.size/\fm={ s with heap:=s.heap.push { cls:=.type "set",dict:=none,data:=.set #[] 0 (.fresh 0 0 (!w.params.followText "set-order")) } }) ⟨rfl,rfl⟩) fun r fm hr=>?_
 cases r with
 |error e=>exact hr
 |ok fl =>
  cases fl with
  |ret obj =>
   obtain⟨rfl,rfl⟩:=hr;generalize lR':(!w.params.followText "set-order")=led at h0 ⊢;have hS:(s.heap.push { cls:=.type "set",dict:=none,data:=.set #[] 0 (.fresh 0 0 led) }).get? s.heap.objs.size=some { cls:=.type "set",dict:=none,data:=.set #[] 0 (.fresh 0 0 led) }:=ku _ rfl;have hT:Shared.TypeIs { s with heap:=s.heap.push { cls:=.type "set",dict:=none,data:=.set #[] 0 (.fresh 0 0 led) } } (.ref s.heap.objs.size) "set" := ⟨_,hS,rfl⟩
   have hli:=F.called_set.init.lookup;have hbi:=F.called_set.init.bind (.ref s.heap.objs.size);repeat (any_goals (first|assumption|wp_step))
   refine codeAny_mono (codeAny_call_builtin (R:=wants (fun r Ic=>r=.none/\∃ h' tk,Ic={ s with heap:=h',toks:=tk }/\SI items.size h' /\ (∀ b o,b<s.heap.objs.size->s.heap.get? b=some o->h'.get? b=some o)) E) F.called_set.init.plain F.entry_set_init (check_set_init_1 hT ?_)) fun gC' Ic UO=>?_
   ·obtain⟨ol,hol,ny,nl,hdl⟩:=hl;obtain⟨lU',gD',lV',gE'⟩:=ol;simp only at ny hdl;subst ny;subst hdl;have gF':(s.heap.push { cls:=.type "set",dict:=none,data:=.set #[] 0 (.fresh 0 0 led) }).get? l=some { cls:=.type "list",dict:=gD',data:=.seq items nl,slots:=gE' }:=fE _ hol;have lW':=F.sub_list_set;have lX':=F.sub_list_frozenset;have gX:(Value.type "list" == Value.type "dict")=false:=by decide
    have Mm:(s.heap.push { cls:=.type "set",dict:=none,data:=.set #[] 0 (.fresh 0 0 led) }).IsList l items:=⟨_,gF',rfl,nl,rfl⟩
    unfold Builtin.«set.__init__» noKeywords Builtin.Frozenset.updateFrom;generalize hPI:pyIter=PI
    wp_walk
    subst hPI;refine wpAny_pyIter_list Mm ?_;refine ah (wpAny_runValue ?_);have hlS:l<s.heap.objs.size:=eP hol;have hh3:A.in1.in1.in1.handled=none:=by simp[hh]
    have fz:(s.heap.push { cls:=.type "set",dict:=none,data:=.set #[] 0 (.fresh 0 0 led) }).objs.size=s.heap.objs.size+1:=Heap.size_push ..;have gI':l≠(s.heap.push { cls:=.type "set",dict:=none,data:=.set #[] 0 (.fresh 0 0 led) }).objs.size:=by rw[fz];exact gI (zI hlS)
    have Kb:s.heap.objs.size∉[(s.heap.push { cls:=.type "set",dict:=none,data:=.set #[] 0 (.fresh 0 0 led) }).objs.size,l]:=by rw[fz];simp only[eM,vk,GP,or_false,not_or];exact⟨gI (Nat.lt_succ_self _),PB hlS⟩
    refine yw (Walks.list hh3 _ l gI' items) s.heap.objs.size Kb SI (fun i h h' hi hk=>keep i h h' hi fun b o hb e=>hk b o ?_ e) (fun i v s' E' Q' hP hi hq=>step i v s' E' Q' hP hi hq) (items.size-0) 0 _ (by lia) (eT _) ⟨⟨_,ku _ rfl,rfl,rfl⟩,(Mm.push _)⟩ ?hS0 ?hR
    ·rw[fz];simp only[eM,GP,or_false];exact gI (EW hb)
    case hS0 =>
     exact h0 _ (fE _ hS) fun b o e=>fE _ (fE _ e)
    case hR =>
     intro h' xS Oz oQ;show aT _ _ _ _ _ _;refine aI ?_;show aT _ _ (ret Value.none) _ _ _;refine aI ⟨rfl,h',xS,rfl,Oz,fun b o hb e=>?_⟩;refine oQ b o ?_ (gI hb) (fE _ (fE _ e));rw[fz];simp only[eM,GP,or_false];exact gI (zI hb)
   ·cases gC' with
    |error e=>exact UO
    |ok gK' =>
     cases gK' with
     |ret r =>
      obtain⟨rfl,h',tk,rfl,Oz,oQ⟩:=UO;repeat (any_goals (first|assumption|wp_step))
      exact h _ _ Oz oQ
     |_=>exact UO.elim
  |_=>exact hr.elim
end
theorem oO:Manifest.owners.lookup (String.ofList ['r','o','t','a','r','e','t','i','_','t','e','s'].reverse)=some Manifest.sig_set_iterator:=by kernel_rfl
theorem bh:Slot "set_iterator" "__next__" "set_iterator.__next__" :=
 .of (owner := "set_iterator") (n := "__next__") (by rw[typeLookup_type,builtinLookup_eq_fast];kernel_rfl) (by decide +kernel) (by decide +kernel) (by decide +kernel) (by first|exact .inl (by decide +kernel)|exact .inr (by decide +kernel)) (by rw[Lc];kernel_rfl)
theorem kI:entryFor table "set_iterator.__next__" = some Builtin.«set_iterator.__next__» := entryFor_of_tree (by kernel_rfl)
theorem mC (a:ae):argsOk "set_iterator.__next__" ⟨[a],[]⟩:=by unfold argsOk;rw[signature?_of (id := "set_iterator.__next__") (n:=['_','_','t','x','e','n','_','_']) (o:=['r','o','t','a','r','e','t','i','_','t','e','s']) (by kernel_rfl) oO];kernel_rfl
theorem ie:Slot "set_iterator" "__iter__" "set_iterator.__iter__" :=
 .of (owner := "set_iterator") (n := "__iter__") (by rw[typeLookup_type,builtinLookup_eq_fast];kernel_rfl) (by decide +kernel) (by decide +kernel) (by decide +kernel) (by first|exact .inl (by decide +kernel)|exact .inr (by decide +kernel)) (by rw[Lc];kernel_rfl)
theorem j8:entryFor table "set.__iter__" = some Builtin.«frozenset.__iter__» :=
 entryFor_alias (id' := "frozenset.__iter__") (by kernel_rfl) rfl (by decide +kernel) (by kernel_rfl)
theorem iw{α:Type}:∀ (l:List α) (i:Nat) (h:i<l.length),(l[i] :: l.eraseIdx i).Perm l
 |x :: l,0,_=>.refl _
 |x :: l,i+1,h=>by have ih:=iw l i (by simpa using h);exact(List.Perm.swap _ _ _).trans (ih.cons x)
theorem wQ{α:Type}(next:Nat->Nat):∀ (fuel k:Nat) (left:List α) (out:Array α),left.length=fuel->(pickOrder.go next fuel k left out).toList.Perm (out.toList++left)
 |0,k,left,out,h=>by have:left=[]:=Pk.mp h;subst this;unfold pickOrder.go;rw[kr]
 |fuel+1,k,left,out,h=>by unfold pickOrder.go;have gp:next k % left.length<left.length:=LM _ (by lia);rw[wm gp];dsimp only;refine(wQ next fuel (k+1) _ _ (by rw[R9];split<;>lia)).trans ?_;rw[pS,tJ];refine List.Perm.append_left _ ?_;exact iw _ _ gp
theorem gU{α:Type}(next:Nat->Nat)(xs:Array α):(pickOrder next xs).toList.Perm xs.toList:=by unfold pickOrder;have:=wQ next xs.size 0 xs.toList #[] (by simp);simpa using this
section
variable {prog:dr}{w:dA}{A:eB}{E:ae->ay->Prop}{s:ay}
theorem pF(hn:n≠0)(h:∀ i d,i<n->Q i { s with drawn:=d }):aT M A (choose src n) Q E s:=fun Γ p _=>⟨hn,h _ _ (LM _ (Nat.pos_of_ne_zero hn))⟩
theorem wG{α:Type}(n:Nat):∀ (xs:List α) (s:ay) (Q:List α->ay->Prop),xs.length=n->(∀ ys d,ys.Perm xs->Q ys { s with drawn:=d })->aT (aS prog w) A (drawOrder n xs) Q E s:=by
 induction n with
 |zero =>intro xs s Q h q;have:xs=[]:=Pk.mp h;subst this;unfold drawOrder;exact aI (q [] s.drawn (.refl _))
 |succ n ih =>
  intro xs s Q h q
  cases xs with
  |nil=>cases h
  |cons x xs =>unfold drawOrder;refine ah (pF (by simp) fun i d hi=>?_);rw[wm hi];dsimp only;refine ah (ih _ _ _ (by rw[R9,if_pos hi];simp at h ⊢;lia) fun ys d' py=>?_);refine aI ?_;exact q _ d' ((py.cons _).trans (iw _ _ hi))
def ti(h:cE)(I:ag)(first:ae)(i:Nat)(a:ag)(n ep:Nat):Prop :=
 h.get? I=some { cls:=.type "set_iterator",dict:=none,data:=.fields #[first,.int i 0,.ref a,.int n 0,.int ep 0],slots:=#[] }
def Ct(h:cE)(a:ag)(es:Array (Int × ae))(ep:Nat)(t:SetTable):Prop:=∃ o,h.get? a=some o/\o.data=.set es ep t
variable {a I:ag}{es:Array (Int × ae)}{ep:Nat}{t:SetTable}{first:ae}{i n:Nat}
theorem ti.typeIs (h:ti s.heap I first i a n ep):s.TypeIs (.ref I) "set_iterator" := ⟨_,h,rfl⟩
theorem vL(hit:ti s.heap I first i a n ep)(h:aT (aS prog w) A.in1 (Builtin.«set_iterator.__next__» ⟨[.ref I],[]⟩) (fun fin s'=>∃ v,fin=.done (.ret v)/\Q (some v) s') (fun e s'=>aT (aS prog w) A (isInstance e (.type "StopIteration")) (fun b BI=>b=true/\Q none BI) E s') s) :
  aT (aS prog w) A (pyNext (.ref I)) Q E s:=by
 unfold pyNext;refine ah (wpAny_attempt (MK (name:=Str.ofString "__next__") hit.typeIs bh (CD bh hit.typeIs kI ?_ (mC _))))
 refine sq h (fun fin s' ⟨v,e,q⟩=>⟨v,e,aI q⟩) fun e s' q=>?_;refine ah (sq q (fun b BI d4=>?_) fun _ _ x=>x);obtain⟨e,q⟩:=d4;subst e;rw[if_pos rfl];exact aI q
theorem vP{P:Fin->ay->Prop}{Q:Option ae->ay->Prop}(hh:A.handled=none)(hQ:∀ h',(∀ b o,s.heap.get? b=some o->h'.get? b=some o)->Q none { s with heap:=h' }) :
  aT (aS prog w) A.in1 (newExc (.type "StopIteration") [] >>= fun e=>raiseNew e) P (fun e s'=>aT (aS prog w) A (isInstance e (.type "StopIteration")) (fun b BI=>b=true/\Q none BI) E s') s:=by
 refine ah ?_;simp only[newExc,newTuple];refine ah (qE ?_ (by size_fits));refine ah (m:=firstArgMember _ _) (GL (a:=Value.none) (by first|rfl|(simp only[firstArgMember];rfl)) ?_);refine qE ?_ (by size_fits);simp only[raiseNew];refine ah (wpAny_handled ?_);rw[show A.in1.handled=none from hh];refine ah (aI (wpAny_throw ?_));refine K0 (T := "StopIteration") (b:=true) ⟨_,ku _ rfl,rfl⟩ isSubtype_stop ⟨rfl,?_⟩;exact hQ _ fun b o e=>fE _ (fE _ e)
theorem gC{Q:Option ae->ay->Prop}{slot:Nat}{r:Option (ae × Nat)}(hh:A.handled=none)(gX:a≠I)(hit:ti s.heap I (.int slot 0) i a es.size ep)(CB:Ct s.heap a es ep t)(hf:t.fits es.size=true)(hr:∀ (A':eB) (E':ae->ay->Prop) (Q':Option (ae × Nat)->ay->Prop),Q' r s->aT (aS prog w) A' (setNext a slot i ep) Q' E' s)(h1:∀ x nx h',r=some (x,nx)->ti h' I (.int nx 0) (i+1) a es.size ep->Heap.SameBut I s.heap h'->Q (some x) { s with heap:=h' }) (h2:∀ h',r=none->(∀ b o,b≠I->s.heap.get? b=some o->h'.get? b=some o)->Q none { s with heap:=h' }) :
  aT (aS prog w) A (pyNext (.ref I)) Q E s:=by
 obtain⟨o,ho,hd⟩:=CB;refine vL hit ?_;unfold Builtin.«set_iterator.__next__»;refine ah (m:=slotArgs "__next__" 0 ⟨[.ref I],[]⟩) (GL (a:=(.ref I,[])) rfl ?_);dsimp only;refine ah (wpAny_fieldsOf hit rfl ?_);dsimp only;refine ah (EH ho hd hf ?_);rw[if_neg (by simp)];simp only[Nh];refine ah (hr _ _ _ ?_)
 cases r with
 |some p =>obtain⟨x,nx⟩:=p;dsimp only;refine ah (KW hit (by simp) fun g1 e1 vS=>?_);refine ah (KW (s:={ s with heap:=g1 }) e1 (by simp) fun g2 e2 xI=>?_);exact aI ⟨x,rfl,h1 x nx g2 rfl (by unfold ti;simpa[ki] using e2) (vS.trans xI)⟩
 |none =>dsimp only;refine ah (KW hit (by simp) fun g1 e1 vS=>?_);exact vP (s:={ s with heap:=g1 }) hh fun h' k=>h2 h' rfl fun b o hb e=>k b o (vS.extBut b o hb e)
theorem lN{Q:Option ae->ay->Prop}{T:ag}{ix:List Nat}{oT:Obj}{kT:Nat}(hh:A.handled=none)(hit:ti s.heap I (.ref T) i a es.size ep)(CB:Ct s.heap a es ep t)(hf:t.fits es.size=true)(hT:s.heap.get? T=some oT) (hTd:oT.data=.seq (ix.map fun(k:Nat)=>Value.int k 0).toArray kT)(h1:∀ k e h',ix[i]? = some k->es[k]? = some e->ti h' I (.ref T) (i+1) a es.size ep->Heap.SameBut I s.heap h'->Q (some e.2) { s with heap:=h' }) (IJ:∀ k∈ix,k<es.size) (h2:∀ h',ix[i]? = none->(∀ b o,b≠I->s.heap.get? b=some o->h'.get? b=some o)->Q none { s with heap:=h' }) :
  aT (aS prog w) A (pyNext (.ref I)) Q E s:=by
 obtain⟨o,ho,hd⟩:=CB;refine vL hit ?_;unfold Builtin.«set_iterator.__next__»;refine ah (m:=slotArgs "__next__" 0 ⟨[.ref I],[]⟩) (GL (a:=(.ref I,[])) rfl ?_);dsimp only;refine ah (wpAny_fieldsOf hit rfl ?_);dsimp only;refine ah (EH ho hd hf ?_);rw[if_neg (by simp)];refine ah (wpAny_seqItems hT hTd ?_);dsimp only;simp only[Nh,List.getElem?_toArray,qV]
 cases hk:ix[i]? with
 |some k =>dsimp only[Option.map];have hkl:=IJ k (tI hk);refine ah ?_;unfold setNextDrawn;refine ah (mG ho hd hf ?_);dsimp only;simp only[Nh];rw[if_neg (by simp),A9 hkl];refine aI ?_;refine ah (KW hit (by simp) fun g1 e1 vS=>?_);exact aI ⟨_,rfl,h1 k es[k] g1 hk (A9 hkl) (by unfold ti;simpa[ki] using e1) vS⟩
 |none =>dsimp only[Option.map];refine ah (KW hit (by simp) fun g1 e1 vS=>?_);refine ah (KW (s:={ s with heap:=g1 }) e1 (by simp) fun g2 e2 xI=>?_);exact vP (s:={ s with heap:=g2 }) hh fun h' k=>h2 h' hk fun b o hb e=>k b o ((vS.trans xI).extBut b o hb e)
theorem lQ (a:ae):argsOk "set_iterator.__iter__" ⟨[a],[]⟩:=by unfold argsOk;rw[signature?_of (id := "set_iterator.__iter__") (n:=['_','_','r','e','t','i','_','_']) (o:=['r','o','t','a','r','e','t','i','_','t','e','s']) (by kernel_rfl) oO];kernel_rfl
theorem kj:entryFor table "set_iterator.__iter__" = some Builtin.«dict_keyiterator.__iter__» :=
 entryFor_alias (id' := "dict_keyiterator.__iter__") (by kernel_rfl) rfl (by decide +kernel) (by kernel_rfl)
theorem jz(hit:ti s.heap I first i a n ep)(h:Q (.ref I) s):aT (aS prog w) A (pyIter (.ref I)) Q E s:=by refine wpAny_pyIter_slot hit.typeIs ie (CD ie hit.typeIs kj ?_ (lQ _));show aT _ _ (ret (.ref I)) _ _ s;exact aI ⟨_,rfl, "set_iterator",_,hit.typeIs,bh.lookup,h⟩
theorem oW {slot:Nat} {Q:Option (ae × Nat)->ay->Prop} (hb:w.params.followText "set-order" = true) (CB:Ct s.heap a es ep t) (hf:t.fits es.size=true)(h:Q (((pickOrder (w.params.setOrder a ep) es)[i]?).map fun e=>(e.2,slot)) s):aT (aS prog w) A (setNext a slot i ep) Q E s:=by
 obtain⟨o,ho,hd⟩:=CB;unfold setNext;refine ah (mG ho hd hf ?_);dsimp only;unfold EJ;refine ah (ah (zt (aI ?_)));dsimp only;rw[if_pos (by exact hb),if_neg (by simp)];refine ah ?_;unfold setWalk;refine ah (mG ho hd hf ?_);dsimp only;unfold EJ;refine ah (ah (zt (aI ?_)));dsimp only;rw[if_pos (by exact hb)];refine ah (zt (aI ?_));exact aI h
theorem lz {slot:Nat} {Q:Option (ae × Nat)->ay->Prop} (hb:w.params.followText "set-order" = false) (hl:t.led=true) (AU:(!t.plain && decide (es.size>1))=false) (CB:Ct s.heap a es ep t) (hf:t.fits es.size=true)(h:Q (match es[below t.place slot]?,t.place[below t.place slot]? with
  |some (_,x),some j=>some (x,j+1)
  |_,_=>none) s):aT (aS prog w) A (setNext a slot i ep) Q E s:=by
 obtain⟨o,ho,hd⟩:=CB;unfold setNext;refine ah (mG ho hd hf ?_);dsimp only;unfold EJ;refine ah (ah (zt (aI ?_)));dsimp only;rw[if_neg (by rw[show(aS prog w).w.params.followText "set-order" = false from hb];exact kK)];have e0:iy es t=(!t.plain && decide (es.size>1)):=rfl;unfold iy at e0;rw[e0,AU,if_neg kK];refine ah (m:=Gr es t) ?_;show aT _ _ (if (!t.led && !es.isEmpty)=true then unsupported "set:maker-not-led" else pure ()) _ _ s;rw[if_neg (by rw[hl];simp)];exact aI (aI h)
def PV(ys:List (Int × ae))(i:Nat)(v:ae):Prop:=∃ e,ys[i]? = some e/\v=e.2
theorem ti.keep(x:ti h I first i a n ep)(e:∀ o,h.get? I=some o->h'.get? I=some o):ti h' I first i a n ep:=e _ x
theorem Ct.keep(x:Ct h a es ep t)(e:∀ o,h.get? a=some o->h'.get? a=some o):Ct h' a es ep t:=let ⟨o,ho,r⟩:=x;⟨o,e _ ho,r⟩
theorem uH (hh:A.handled=none) (gX:a≠I) (hb:w.params.followText "set-order" = true) (hf:t.fits es.size=true) :
  Walks prog w A I [I,a] [I] es.size (PV (pickOrder (w.params.setOrder a ep) es).toList) (fun i h=>(∃ slot:Nat,ti h I (.int slot 0) i a es.size ep)/\Ct h a es ep t) where
 sub:=fun b hb=>by simp at hb;simp[hb]
 frame:=fun _ _ _ ⟨⟨sl,x⟩,y⟩ hk=>⟨⟨sl,x.keep fun o e=>hk I (by simp) o e⟩,y.keep fun o e=>hk a (by simp) o e⟩
 item:=fun i s Q E hi ⟨⟨sl,x⟩,y⟩ hQ=>by
  have hlen:(pickOrder (w.params.setOrder a ep) es).size=es.size:=by have:=(gU (w.params.setOrder a ep) es).length_eq;simpa using this
  refine gC hh gX x y hf (r:=((pickOrder (w.params.setOrder a ep) es)[i]?).map fun e=>(e.2,sl)) (fun A' E' Q' q=>oW hb y hf q) (fun v nx h' e x' sb=>?_) fun h' e k=>?_
  ·rw[A9 (by lia)] at e;cases e;exact hQ _ h' s.toks ⟨_,by rw[oa];exact A9 (by lia),rfl⟩ ⟨⟨_,x'⟩,y.keep fun o e=>sb.extBut _ _ gX e⟩ fun b o hb e=>sb.extBut b o (fun h=>hb (by simp[h])) e
  ·rw[A9 (by lia)] at e;cases e
 done:=fun s Q E ⟨⟨sl,x⟩,y⟩ hQ=>by
  have hlen:(pickOrder (w.params.setOrder a ep) es).size=es.size:=by have:=(gU (w.params.setOrder a ep) es).length_eq;simpa using this
  refine gC hh gX x y hf (r:=((pickOrder (w.params.setOrder a ep) es)[es.size]?).map fun e=>(e.2,sl)) (fun A' E' Q' q=>oW hb y hf q) (fun v nx h' e x' sb=>?_) fun h' e k=>?_
  ·rw[LP (by lia)] at e;cases e
  ·exact hQ h' s.toks fun b o hb e=>k b o (fun h=>hb (by simp[h])) e
 self:=fun _ _ _ _ ⟨⟨sl,x⟩,y⟩ hQ=>jz x hQ
def slotAt(t:SetTable):Nat->Nat
 |0=>0
 |i+1=>t.place.getD i 0+1
theorem iJ(U:Up t.place)(h:i<=t.place.size):below t.place (slotAt t i)=i:=by
 cases i with
 |zero =>
  obtain⟨_,b,_⟩:=aJ U 0;by_cases z:below t.place 0=0
  ·exact z
  ·exact absurd (b 0 (Nat.pos_of_ne_zero z)) (GY _)
 |succ i=>exact uh U (by lia)
theorem uw (hh:A.handled=none) (gX:a≠I) (hb:w.params.followText "set-order" = false) (hl:t.led=true) (AU:(!t.plain && decide (es.size>1))=false) (U:Up t.place) (hz:t.place.size=es.size) (hf:t.fits es.size=true) :
  Walks prog w A I [I,a] [I] es.size (PV es.toList) (fun i h=>ti h I (.int (slotAt t i:Nat) 0) i a es.size ep/\Ct h a es ep t) where
 sub:=fun b hb=>by simp at hb;simp[hb]
 frame:=fun _ _ _ ⟨x,y⟩ hk=>⟨x.keep fun o e=>hk I (by simp) o e,y.keep fun o e=>hk a (by simp) o e⟩
 item:=fun i s Q E hi ⟨x,y⟩ hQ=>by
  have FI:=iJ (t:=t) U (i:=i) (by lia);have e1:es[below t.place (slotAt t i)]? = some es[i]:=by rw[FI];exact A9 hi
  have e2:t.place[below t.place (slotAt t i)]? = some (t.place.getD i 0):=by rw[FI];exact qT (by lia)
  refine gC hh gX x y hf (r:=some (es[i].2,t.place.getD i 0+1)) (fun A' E' Q' q=>lz hb hl AU y hf (by rw[e1,e2];exact q)) (fun v nx h' e x' sb=>?_) fun h' e k=>nomatch e;cases e;exact hQ _ h' s.toks ⟨_,by rw[oa];exact A9 hi,rfl⟩ ⟨x',y.keep fun o e=>sb.extBut _ _ gX e⟩ fun b o hb e=>sb.extBut b o (fun h=>hb (by simp[h])) e
 done:=fun s Q E ⟨x,y⟩ hQ=>by
  have FI:=iJ (t:=t) U (i:=es.size) (by lia);have e1:es[below t.place (slotAt t es.size)]? = none:=by rw[FI];exact LP (da _)
  refine gC hh gX x y hf (r:=none) (fun A' E' Q' q=>lz hb hl AU y hf (by rw[e1];exact q)) (fun v nx h' e x' sb=>nomatch e) fun h' e k=>?_;exact hQ h' s.toks fun b o hb e=>k b o (fun h=>hb (by simp[h])) e
 self:=fun _ _ _ _ ⟨x,y⟩ hQ=>jz x hQ
theorem uB{T:ag}{ix:List Nat}{kT:Nat}(hh:A.handled=none)(gX:a≠I)(hTI:T≠I)(hf:t.fits es.size=true)(hp:ix.Perm (List.range es.size)) :
  Walks prog w A I [I,a,T] [I] es.size (PV (ix.filterMap fun k=>es[k]?)) (fun i h=>ti h I (.ref T) i a es.size ep/\Ct h a es ep t/\∃ o,h.get? T=some o/\o.data=.seq (ix.map fun(k:Nat)=>Value.int k 0).toArray kT):=by
 have hlen:ix.length=es.size:=by simpa using hp.length_eq
 have IJ:∀ k∈ix,k<es.size:=fun k hk=>rg.mp (hp.mem_iff.mp hk);obtain⟨f1,f2⟩:=tQ (l:=ix) (f:=fun k=>es[k]?) fun k hk=>by simp[IJ k hk]
 exact {
  sub:=fun b hb=>by simp at hb;simp[hb]
  frame:=fun _ _ _ ⟨x,y,o,z,zd⟩ hk=>⟨x.keep fun o e=>hk I (by simp) o e,y.keep fun o e=>hk a (by simp) o e,o,hk T (by simp) o z,zd⟩
  item:=fun i s Q E hi ⟨x,y,o,z,zd⟩ hQ=>by
   refine lN hh x y hf z zd (fun k e h' e1 e2 x' sb=>?_) IJ fun h' e k=>?_
   ·refine hQ _ h' s.toks ⟨e,by rw[f2,e1];exact e2,rfl⟩ ⟨x',y.keep fun o e=>sb.extBut _ _ gX e,o,sb.extBut _ _ hTI z,zd⟩ fun b o hb e=>sb.extBut b o (fun h=>hb (by simp[h])) e
   ·rw[wm (by lia)] at e;cases e
  done:=fun s Q E ⟨x,y,o,z,zd⟩ hQ=>by
   refine lN hh x y hf z zd (fun k e h' e1 e2 x' sb=>?_) IJ fun h' e k=>?_
   ·rw[EL (by lia)] at e1;cases e1
   ·exact hQ h' s.toks fun b o hb e=>k b o (fun h=>hb (by simp[h])) e
  self:=fun _ _ _ _ ⟨x,_⟩ hQ=>jz x hQ }
end
section
variable {prog:dr}{w:dA}{A:eB}{E:ae->ay->Prop}{s:ay}{a:ag}{o:Obj}{es:Array (Int × ae)}{ep:Nat}{t:SetTable}
theorem yR (hh:A.handled=none) (ho:s.heap.get? a=some o) (hex:o.ExactSet) (hd:o.data=.set es ep t) (hf:t.fits es.size=true) (U:Up t.place) (hz:t.place.size=es.size) (hl:t.led=(!w.params.followText "set-order")) (hn:es.size<=bS)(h:∀ (I:ag) (h2:cE) d (fp:List ag) (St:Nat->cE->Prop) (ys:List (Int × ae)),(∀ b o,s.heap.get? b=some o->h2.get? b=some o)->s.heap.objs.size<=I->(∀ b∈fp,b=a\/s.heap.objs.size<=b)->ys.Perm es.toList ->
   Walks prog w A I fp [I] es.size (PV ys) St->St 0 h2->Q (.ref I) { s with heap:=h2,drawn:=d }):aT (aS prog w) A (pyIter (.ref a)) Q E s:=by
 have hT:s.TypeIs (.ref a) "set" := ⟨o,ho,hex.1⟩
 have gp:a<s.heap.objs.size:=eP ho;refine wpAny_pyIter_slot hT F.slot_set_iter (CD F.slot_set_iter hT j8 ?_ (F.args_set_iter_1 _));unfold Builtin.«frozenset.__iter__»;refine ah (m:=Builtin.Frozenset.slot0 "__iter__" ⟨[.ref a],[]⟩) (GL (a:=a) rfl ?_);refine ah ?_;unfold Builtin.Frozenset.sizeOf;refine ah (EH ho hd hf (aI ?_));refine ah ?_;unfold setDrawn;refine ah (mG ho hd hf ?_);dsimp only;unfold EJ;refine ah (ah (zt (aI ?_)));refine aI ?_;have e0:iy es t=(!t.plain && decide (es.size>1)):=rfl;unfold iy at e0;rw[e0];show aT _ _ (if (!w.params.followText "set-order" && (!t.plain && decide (es.size>1)))=true then _ else _) _ _ s
 cases hb:w.params.followText "set-order" with
 |true =>
  rw[if_neg (by simp)];refine ah (aI ?_);refine ah (FX ho hd hf ?_);refine ah (qE ?_);refine aI ⟨_,rfl, "set_iterator",_,⟨_,ku _ rfl,rfl⟩,bh.lookup,?_⟩;have og:(s.heap.push { cls:=.type "set_iterator",data:=.fields #[ki 0,ki 0,.ref a,ki es.size,ki ep] }).get? a=some o:=fE _ ho;exact h s.heap.objs.size _ s.drawn _ _ _ (fun b o e=>fE _ e) (da _) (fun b hb=>by
   rcases eM.mp hb with rfl|hb
   ·exact .inr (da _)
   ·exact .inl (vk.mp hb)) (gU _ _) (uH (ep:=ep) hh (gI gp) hb hf) ⟨⟨0,ku _ rfl⟩,o,og,hd⟩
 |false =>
  cases AU:(!t.plain && decide (es.size>1)) with
  |false =>
   rw[if_neg (by simp)];refine ah (aI ?_);refine ah (FX ho hd hf ?_);refine ah (qE ?_);refine aI ⟨_,rfl, "set_iterator",_,⟨_,ku _ rfl,rfl⟩,bh.lookup,?_⟩;have og:(s.heap.push { cls:=.type "set_iterator",data:=.fields #[ki 0,ki 0,.ref a,ki es.size,ki ep] }).get? a=some o:=fE _ ho;exact h s.heap.objs.size _ s.drawn _ _ _ (fun b o e=>fE _ e) (da _) (fun b hb=>by
    rcases eM.mp hb with rfl|hb
    ·exact .inr (da _)
    ·exact .inl (vk.mp hb)) (.refl _) (uw (ep:=ep) hh (gI gp) hb (by rw[hl,hb];rfl) AU U hz hf) ⟨ku _ rfl,o,og,hd⟩
  |true =>
   rw[if_pos (by simp)];refine ah (wG es.size (List.range es.size) s _ (by simp) fun ix d hp=>?_);refine ah (qE ?_ ?hzz);case hzz =>
    have:=hp.length_eq;rw[A5] at this;show(ix.map fun(i:Nat)=>ki i).toArray.size<=bS;rw[hG,cK,this];exact hn
   have kU:(s.heap.push { cls:=.type "tuple",data:=.seq (ix.map fun(i:Nat)=>ki i).toArray }).get? a=some o:=fE _ ho;refine ah (FX kU hd hf ?_);refine ah (qE ?_);refine aI ⟨_,rfl, "set_iterator",_,⟨_,ku _ rfl,rfl⟩,bh.lookup,?_⟩;have Rl:(s.heap.push { cls:=.type "tuple",data:=.seq (ix.map fun(i:Nat)=>ki i).toArray }).objs.size=s.heap.objs.size+1:=Heap.size_push ..;refine h (s.heap.push { cls:=.type "tuple",data:=.seq (ix.map fun(i:Nat)=>ki i).toArray }).objs.size _ d [(s.heap.push { cls:=.type "tuple",data:=.seq (ix.map fun(i:Nat)=>ki i).toArray }).objs.size,a,s.heap.objs.size] _ (ix.filterMap fun k=>es[k]?) (fun b o e=>fE _ (fE _ e)) (by rw[Rl];exact Nat.le_succ _) (fun b hb=>?_) ?_ (uB (ep:=ep) (kT:=0) (T:=s.heap.objs.size) (ix:=ix) (t:=t) hh (by rw[Rl];exact gI (zI gp)) (by rw[Rl];exact gI (Nat.lt_succ_self _)) hf hp) ⟨ku _ rfl,⟨o,fE _ kU,hd⟩,_,fE _ (ku _ rfl),rfl⟩
   ·rcases eM.mp hb with rfl|hb
    ·exact .inr (by rw[Rl];exact Nat.le_succ _)
    ·rcases eM.mp hb with rfl|hb
     ·exact .inl rfl
     ·rw[vk.mp hb];exact .inr (da _)
   ·have:=hp.filterMap fun k=>es[k]?;rw[tM] at this;exact this
theorem yr (hT:s.TypeIs (.ref a) "set") (h:Q false s):aT (aS prog w) A (Builtin.List.listLengthHint (.ref a)) Q E s:=by
 unfold Builtin.List.listLengthHint;refine ah (wpAny_specialOf hT PySem.F.slot_set_len.lookup ?_);generalize hid:("set.__len__" : String)=id0
 wp_delta
 rw[show splitId id0=some ("set", "__len__") from by subst hid;decide +kernel];subst hid;refine ah (K0 (T := "set") (b:=true) hT (by rw[Lc];kernel_rfl) ?_);refine K2 (fun B8=>absurd B8 (by decide)) (fun _=>?_);refine K2 (fun _=>?_) (fun B8=>absurd (by decide +kernel) B8);refine ah (wpAny_typeOf hT ?_);exact aI h
theorem A_ {R:Result->ay->Prop} (hh:A.handled=none) (ho:s.heap.get? a=some o) (hex:o.ExactSet) (hd:o.data=.set es ep t) (hf:t.fits es.size=true) (U:Up t.place) (hz:t.place.size=es.size) (hl:t.led=(!w.params.followText "set-order")) (hn:es.size<=bS)(S:ag) (hSa:S≠a) (res:ae) (c₀:Nat) (hS:s.heap.get? S=some { cls:=.type "list",data:=.seq #[] c₀ }) (hR:∀ h' tk d Ee c' ys,(∀ b o,b≠S->s.heap.get? b=some o->h'.get? b=some o)->h'.get? S=some { cls:=.type "list",dict:=none,data:=.seq Ee c',slots:=#[] }->ys.Perm es.toList->ItemsOf (PV ys) Ee es.size->R (.ok (.ret res)) { s with heap:=h',toks:=tk,drawn:=d }) :
  aT (aS prog w) A.in1 (Builtin.List.listExtendWith (.ref S) (.ref a) res) (fun fin s'=>match fin with|.done f=>R (.ok f) s'|.again c'=>c'.quiet=true/\codeAny (aS prog w) A c' R s') (fun e s'=>R (.error e) s') s:=by
 have hT:s.TypeIs (.ref a) "set" := ⟨o,ho,hex.1⟩
 have hSl:=eP hS;unfold Builtin.List.listExtendWith;refine ah (wpAny_typeOf hT ?_);have h1:Builtin.List.listSameRef (.ref S) (.ref a)=false:=by simp[Builtin.List.listSameRef,hSa]
 simp only[h1,show(Value.type "set" == Value.type "list")=false by decide,show(Value.type "set" == Value.type "tuple")=false by decide,Bool.or_false,iX,if_false];refine ah (yR (A:=A.in1) hh ho hex hd hf U hz hl hn fun I h2 d fp St ys kp hI hfp hp W st=>?_);have Kb:S∉fp:=fun hm=>by
  rcases hfp S hm with z|z
  ·exact hSa z
  ·exact absurd hSl (Nat.not_lt.mpr z)
 have key:∀ (h:cE) (c₁ tk:Nat),St 0 h->(∀ b o,b≠S->s.heap.get? b=some o->h.get? b=some o) ->
   h.get? S=some { cls:=.type "list",data:=.seq #[] c₁ }->codeAny (aS prog w) A (.builtin "list.extend.loop" ⟨[.ref S,.ref I,res],[]⟩) R { s with heap:=h,toks:=tk,drawn:=d }:=by
  intro h c₁ tk mI hk OB;refine codeAny_extend_loopS W.toS hn S Kb res es.size 0 _ #[] c₁ rfl (eT _) mI OB (ItemsOf.nil _) fun s' Ee c' hm Oz NZ=>?_;rw[Moved.eq_with hm];refine hR s'.heap s'.toks d Ee c' ys (fun b o hb e=>hm.heap b o (fun FC=>?_) (hk b o hb e)) Oz hp NZ;rcases eM.mp FC with e'|FC
  ·exact hb e'
  ·exact absurd (eP e) (by rw[vk.mp FC];exact Nat.not_lt.mpr hI)
 have OB:h2.get? S=some { cls:=.type "list",data:=.seq #[] c₀ }:=kp _ _ hS;refine ah (oy (yr (s:={ s with heap:=h2,drawn:=d }) ⟨o,kp _ _ ho,hex.1⟩ ?_));refine K2 (fun _=>?_) (fun _=>aI ⟨plainId_quiet PySem.F.plain_extend_loop _,key _ c₀ _ st (fun b o _ e=>kp b o e) OB⟩);refine ah (wd ?_);refine ah ?_;show aT _ _ (updateSeq S (·.push .none) >>= fun _=>updateSeq S (·.pop)) _ _ _;refine ah (wpAny_updateSeq OB rfl ?_);have ai':=vn (Obj.mapSeq (·.push Value.none)) OB rfl;refine wpAny_updateSeq (hz:=by seq_fits) ai' rfl ?_;have gR':=vn (Obj.mapSeq (·.pop)) ai' rfl;refine aI ⟨plainId_quiet PySem.F.plain_extend_loop _,key _ _ _ ?_ (fun b o hb e=>?_) gR'⟩
 ·refine W.frame 0 _ _ st fun b hb o e=>?_;have Oy:b≠S:=fun h=>Kb (h ▸ hb);exact(CY _ _ (Ne.symm Oy)).trans ((CY _ _ (Ne.symm Oy)).trans e)
 ·exact(CY _ _ (Ne.symm hb)).trans ((CY _ _ (Ne.symm hb)).trans (kp _ _ e))
theorem uo(h:ItemsOf (PV ys) acc n)(hn:ys.length=n):acc.toList=ys.map (·.2):=by
 apply Lv;intro i;rw[qV];by_cases hi:i<n
 ·have nE:i<acc.size:=by rw[h.1];exact hi
  have e1:acc[i]? = some acc[i]:=A9 nE;obtain⟨e,he,hv⟩:=h.2 i acc[i] e1;rw[oa,e1,he,hv];rfl
 ·rw[EL (by rw[yk,h.1];lia),EL (by lia)];rfl
theorem je {R:Result->ay->Prop} (hh:A.handled=none) (ho:s.heap.get? a=some o) (hex:o.ExactSet) (hd:o.data=.set es ep t) (hf:t.fits es.size=true) (U:Up t.place) (hz:t.place.size=es.size) (hl:t.led=(!w.params.followText "set-order")) (hn:es.size<=bS)(hR:∀ h' tk d Ee c' ys,(∀ b o,s.heap.get? b=some o->h'.get? b=some o)->h'.get? s.heap.objs.size=some { cls:=.type "list",dict:=none,data:=.seq Ee c',slots:=#[] }->ys.Perm es.toList->ItemsOf (PV ys) Ee es.size->R (.ok (.ret (.ref s.heap.objs.size))) { s with heap:=h',toks:=tk,drawn:=d }) :
  codeAny (aS prog w) A (.builtin "proto.collect" ⟨[.ref a],[]⟩) R s:=by
 have gp:a<s.heap.objs.size:=eP ho;have hS:(s.heap.push { cls:=.type "list",data:=.seq ([]:List ae).toArray }).get? s.heap.objs.size=some { cls:=.type "list",data:=.seq ([]:List ae).toArray }:=ku _ rfl;refine GA F.entry_proto_collect ?_;rw[Around.under_plainId F.plain_proto_collect _];show aT _ A.in1 (newList [] >>= fun l=>again (.builtin "list.__iadd__" ⟨[l,.ref a],[]⟩)) _ _ s;refine ah (qE ?_);refine aI ⟨plainId_quiet F.plain_list_iadd _,GA F.entry_list_iadd ?_⟩;rw[Around.under_plainId F.plain_list_iadd _];show aT _ A.in1 (Builtin.List.listExtendWith (.ref s.heap.objs.size) (.ref a) (.ref s.heap.objs.size)) _ _ _;exact A_ (R:=R) (s:={ s with heap:=s.heap.push { cls:=.type "list",data:=.seq ([]:List ae).toArray } }) hh (fE _ ho) hex hd hf U hz hl hn s.heap.objs.size (PB gp) _ 0 hS fun h' tk d Ee c' ys kp eo hp ia =>
  hR h' tk d Ee c' ys (fun b o e=>kp b o (gI (eP e)) (fE _ e)) eo hp ia
theorem gw (hh:A.handled=none) (ho:s.heap.get? a=some o) (hex:o.ExactSet) (hd:o.data=.set es ep t) (hf:t.fits es.size=true) (U:Up t.place) (hz:t.place.size=es.size) (hl:t.led=(!w.params.followText "set-order")) (hn:es.size<=bS)(hQ:∀ h' tk d vs,(∀ b o,s.heap.get? b=some o->h'.get? b=some o)->s.heap.objs.size<=h'.objs.size->vs.Perm (es.toList.map (·.2))->Q vs { s with heap:=h',toks:=tk,drawn:=d }):aT (aS prog w) A (collect (.ref a)) Q E s:=by
 unfold collect;refine ah (wpAny_runValue (je hh ho hex hd hf U hz hl hn fun h' tk d acc c ys kp eo hp ia=>?_));show aT _ A (load s.heap.objs.size >>= _) _ _ { s with heap:=h',toks:=tk,drawn:=d };refine ah (wpAny_load eo ?_);refine aI (hQ h' tk d _ kp (mS (eP eo)) ?_);rw[uo ia (by rw[hp.length_eq];simp)];exact hp.map _
end
end TS
namespace B1
open PySem PyProof.Rows
section
variable {prog:dr}{w:dA}{A:eB}{E:ae->ay->Prop}{s:ay}{κ:tN}{r:ae->Int}{P:ae->Prop}
theorem gf{R:List ae->Prop}(gS':∀ (A':eB) (E':ae->ay->Prop) (Q':List ae->ay->Prop),A'.handled=A.handled->(∀ vs h1 tk d,R vs->(∀ b o,s.heap.get? b=some o->h1.get? b=some o)->s.heap.objs.size<=h1.objs.size->Q' vs { s with heap:=h1,toks:=tk,drawn:=d })->aT (aS prog w) A' (collect v) Q' E' s) (fz:∀ vs,R vs->vs.length<=bS) (hP:∀ vs,R vs->∀ v∈vs,P v) (hk:∀ vs,R vs->2<=vs.length->∀ (A':eB) (E':ae->ay->Prop) (s':ay),(∀ b o,s.heap.get? b=some o->s'.heap.get? b=some o)->∀ (Q:tN->ay->Prop),Q κ s'->aT (aS prog w) A' (keyKind' vs.toArray) Q E' s') (C:∀ (s':ay),(∀ b o,s.heap.get? b=some o->s'.heap.get? b=some o)->oS prog w A.in1.in1 s' κ r P) (h:∀ (vs:List ae) (h':cE) (a:ag) (out:List ae) (n tk:Nat) d,R vs->out.Perm vs->(out.Pairwise fun x y=>r x<=r y)->(∀ b o,s.heap.get? b=some o->h'.get? b=some o)->s.heap.objs.size<=a->h'.get? a=some (seqObj "list" out.toArray n)->Q (.ref a) { s with heap:=h',toks:=tk,drawn:=d }) :
  aT (aS prog w) A (call (.builtin "sorted") [v]) Q E s:=by
 refine Calls.call_function_entry kind_sorted plain_sorted entry_sorted (args_sorted1 _) ?_;unfold Builtin.«sorted»;refine ah (m:=checkCount "sorted" 1 1 _) (aI ?_);refine ah (gS' _ _ _ rfl fun vs h1 tk d hR kp hz=>?_);have Cb:=fz vs hR;refine ah (wpAny_newList ?_ (by simpa using Cb));have Nq:(h1.push (seqObj "list" vs.toArray 0)).get? h1.objs.size=some (seqObj "list" vs.toArray 0):=ku _ rfl;have old:∀ b o,s.heap.get? b=some o->(dF (h1.push (seqObj "list" vs.toArray 0)) h1.objs.size vs).get? b=some o:=fun b o e=>by have gp:b<h1.objs.size:=eP (kp b o e);rw[qQ (gI gp) (by rw[size_push'];exact zI gp)];exact fE _ (kp b o e)
 show aT _ _ _ _ _ { s with heap:=h1.push (seqObj "list" vs.toArray 0),toks:=tk,drawn:=d };refine ah (oy (CD slot_list_sort ⟨_,Nq,rfl⟩ entry_list_sort (oh (r:=r) (s:={ s with heap:=h1.push (seqObj "list" vs.toArray 0),toks:=tk,drawn:=d }) Nq Cb (hP vs hR) (fun h2=>hk vs hR h2 _ _ _ old) (fun h2=>C _ old) fun out a1 a2=>⟨_,rfl,?_⟩) (args_list_sort _)))
 obtain⟨n,e⟩:=sortedHeap_at (out:=out) Nq;refine aI ⟨_,rfl,h vs _ h1.objs.size out.toList n tk d hR a1 a2 (fun b o e=>?_) hz (by rw[Array.toArray_toList];exact e)⟩;have gp:b<h1.objs.size:=eP (kp b o e);rw[sortedHeap_old (gI gp) (by rw[size_push'];exact zI gp)];exact fE _ (kp b o e)
end
end B1
namespace TS
open PySem PySem.SetTable PyProof.Rows
section
variable {prog:dr}{w:dA}{K:Type}[DecidableEq K]{knd:KeyKind prog w K}{A:eB}{E:ae->ay->Prop}{s:ay}
theorem fO{α:Type}(led:Bool):TI (α:=α) (SetTable.fresh 0 0 led) #[] :=
 ⟨⟨3,rfl,da _⟩,rfl,fun i j h hj=>absurd hj (GY _),fun i hi=>absurd hi (GY _),rfl,(by show 0*5<7*3;decide),fun i h x e=>by simp at e⟩
theorem oH{l:ag}{items:Array ae}{xs:List (List K × ag)}{Q:ae->ay->Prop}(hh:A.handled=none)(hu:A.units+8<gE)(hl:s.heap.IsList l items)(hi:items.toList=xs.map fun p=>Value.ref p.2)(mB:∀ p∈xs,IsTupleKey knd s.heap p.1 p.2) (hz:xs.length<=2000) (ip:∀ k v,knd.is k v=true->v.scannable=true)(h:∀ h' tk ks,D8 knd h' s.heap.objs.size ks->(∀ k,k∈ks.map (·.1)↔k∈xs.map (·.1))->(∀ p∈ks,p∈xs)->(∀ b o,s.heap.get? b=some o->h'.get? b=some o)->Q (.ref s.heap.objs.size) { s with heap:=h',toks:=tk }) :
  aT (aS prog w) A (call (.type "set") [.ref l]) Q E s:=by
 have lt:∀ p∈xs,p.2<s.heap.objs.size:=fun p hp=>by obtain⟨o,_,_,ho,_⟩:=mB p hp;exact eP ho
 refine eE hh hl (fun i h=>∃ ks,D8 knd h s.heap.objs.size ks/\(∀ k,k∈ks.map (·.1)↔k∈(xs.take i).map (·.1))/\(∀ p∈ks,p∈xs)/\ks.length<=i/\∀ p∈xs,IsTupleKey knd h p.1 p.2) (fun h e k=>?_) (fun i h h' ⟨ks,S,m1,m2,m3,m4⟩ k=>?_) (fun i v s' E' Q' hv ⟨ks,S,m1,m2,m3,m4⟩ q=>?_) fun h' tk ⟨ks,S,m1,m2,m3,m4⟩ k=>?_
 ·exact⟨[],⟨⟨_,#[],0,_,e,⟨rfl,rfl,rfl⟩,rfl,fO _,(by show 7<=8191;decide),rfl,rfl⟩,k9,fun p hp=>nomatch hp⟩,fun k=>by simp,(fun p hp=>nomatch hp),da _,fun p hp=>IsTupleKey.eW (mB p hp) fun o ho=>k _ _ ho⟩
 ·obtain⟨⟨o,es,ep,t,ho,r⟩,nd,is⟩:=S;exact⟨ks,⟨⟨o,es,ep,t,k _ _ (da _) ho,r⟩,nd,fun p hp=>IsTupleKey.eW (is p hp) fun o ho=>k _ _ (mS (lt p (m2 p hp))) ho⟩,m1,m2,m3,fun p hp=>IsTupleKey.eW (m4 p hp) fun o ho=>k _ _ (mS (lt p hp)) ho⟩
 ·have om:items.toList[i]? = some v:=by rw[oa];exact hv
  rw[hi,qV] at om
  cases ex:xs[i]? with
  |none=>rw[ex] at om;cases om
  |some p =>
   rw[ex] at om;cases om;have hp:=tI ex;have Rj:i<xs.length:=(lP.mp ex).1;have OD:(xs.take (i+1)).map (·.1)=(xs.take i).map (·.1)++[p.1]:=by rw[ER,ex,k6];rfl
   unfold setAdd;refine oy (ah (wpAny_pyHash_tuple (by show A.units+3<gE;lia) (m4 p hp) ?_));refine zE (s:={ s' with toks:=s'.toks+(p.1.length+1) }) S (m4 p hp) (by lia) (by show A.units+3<gE;lia) ip fun b h' dc sb S' c=>?_;refine q b h' _ sb ⟨dc,S',fun k=>?_,fun p' gu=>?_,?_,fun p' gu=>IsTupleKey.eW (m4 p' gu) fun o ho=>sb.extBut _ _ (gI (lt p' gu)) ho⟩
   ·rw[OD,eS,vk,<- m1];rcases c with⟨c1,rfl⟩|⟨c1,c2⟩
    ·exact⟨.inl,fun z=>z.elim id fun e=>e ▸ c1⟩
    ·rw[(c2.map _).mem_iff,iF,eM];exact⟨fun z=>z.symm,fun z=>z.symm⟩
   ·rcases c with⟨c1,rfl⟩|⟨c1,c2⟩
    ·exact m2 p' gu
    ·rcases eM.mp (c2.mem_iff.mp gu) with rfl|z
     ·exact hp
     ·exact m2 p' z
   ·rcases c with⟨c1,rfl⟩|⟨c1,c2⟩
    ·lia
    ·rw[c2.length_eq];simp;lia
 ·have e:items.size=xs.length:=by have:=congrArg List.length hi;simpa using this
  rw[e,yi] at m1;exact h h' tk ks S m1 m2 fun b o ho=>k b o (eP ho) ho
end
end TS
namespace L2
open PySem PySem.Spec PyProof.Rows
section
variable {X:Cx}{pins:List (ag × Obj)}{σ:St}{H:Hp}{s:ay}
theorem Inv.drawn{d}(I:Inv X pins σ H s):Inv X pins σ H { s with drawn:=d }:=⟨I.ok,I.os,I.bare,I.base,I.loc,I.cell,I.free,I.pV,I.pin,I.b9,I.len⟩
theorem fH:∀ (k:Key) (v:ae),(kA prog w).is k v=true->v.scannable=true:=fun k v h=>by rcases Bi h with⟨i,t,rfl,rfl⟩|⟨x,t,rfl,rfl⟩<;>rfl
def gK(K:aE):V->Hp->VK->Prop:=fun x H Q=>match x with
 |.ref p=>∃ ys ks b0 sh,fq K H p ys/\ys.length<=2000/\b8 H ys ks/\(∀ k∈ks,i3 k=b0 :: sh) /\
   ∀ zs ms l,b8 H zs ms->ms.Nodup->(∀ k,k∈ms↔k∈ks)->(ms.Pairwise fun a b=>iq b a=false)->H l=none->Q (.ref l) (upd H l (.lst zs))
 |_=>False
theorem b8.pairs(h:b8 H ys ks)(hv:Vals ys vs):∃ xs:List (List Key × ag),vs=xs.map (fun p=>Value.ref p.2)/\xs.map (·.1)=ks/\∀ p∈xs,H p.2=some (.tup (p.1.map kV)):=by
 induction ys generalizing ks vs with
 |nil=>exact⟨[],Paired.n0 hv,(show ks=[] from Paired.n0 h).symm,fun p hp=>nomatch hp⟩
 |cons y ys ih =>
  obtain⟨k,ks,rfl,⟨b,rfl,g⟩,t⟩:=Paired.c h;obtain⟨v,vs,rfl,rfl,rs⟩:=Paired.c hv;obtain⟨xs,e1,e2,e3⟩:=ih t rs;refine⟨(k,b) :: xs,by rw[e1];rfl,by rw[<- e2];rfl,fun p hp=>?_⟩;rcases eM.mp hp with rfl|hp
  ·exact g
  ·exact e3 p hp
end
section
variable {X:Cx}{e:Expr}{te:TE}{p p2 pos kX:Pos}
theorem qL (hc:X.calm=true) (hu:X.A.units+64<gE) (hg:Gl X "sorted") (hm:X.mg "sorted" = none) (tj:Gl X "set") (k8:X.mg "set" = none) (he:PE X e te)(hv:j3 "sorted" = some (.builtin "sorted")) (FK:j3 "set" = some (.type "set"))(jI:bI [e] X.env=(false,cv e X.env) :: bI [] X.env:=by rfl) (hs:bI [.Call (.Name "set" p2) [e] [] kX] X.env=(false,cv (.Call (.Name "set" p2) [e] [] kX) X.env) :: bI [] X.env:=by rfl) :
  PE X (.Call (.Name "sorted" p) [.Call (.Name "set" p2) [e] [] kX] [] pos) (P4 (gK X.K) te):=by
 intro pins s σ H Q I h;refine wc (vv I hg hm hv ?_ (by decide) (by decide));refine PyProof.Rows.callWith_builtin1 ?_ hs rfl;rw[hs];refine Calls.spliced_cons ?_;refine wc (vv I tj k8 FK ?_ (by decide) (by decide));refine PyProof.Rows.callWith_type1 ?_ jI rfl;rw[jI];refine Calls.spliced_cons (dz (he pins s σ H _ I h) fun u s1 dn=>L2.gL dn fun x H1 I1 r1 q1=>Calls.spliced_nil ?_);have q1:gK X.K x H1 Q:=q1;obtain⟨a,rfl⟩:∃ a,x=.ref a:=by
  unfold gK at q1;split at q1
  ·exact⟨_,rfl⟩
  ·exact q1.elim
 obtain⟨ys,ks,b0,sh,hl,hz1,ht,ub,q⟩:=q1;cases r1;obtain⟨vs,rv,pl,hz⟩:=I1.list hl;obtain⟨xs,ex,ek,hx⟩:=ht.pairs rv;have xk:X.A.handled=none:=I1.ok.hd hc;have hlen:xs.length=ys.length:=by rw[rv.length,ex,cK]
 have mB:∀ p∈xs,IsTupleKey (kA X.prog X.w) s1.heap p.1 p.2:=fun p hp=>by obtain⟨us,ru,o,e1,c1,n1,d1⟩:=I1.tup (hx p hp);exact⟨o,us.toArray,n1,e1,c1,d1,by simpa using Qg ru⟩
 refine TS.oH (knd:=kA X.prog X.w) xk (by lia) pl.isList (by simpa using ex) mB (by lia) fH fun h2 tk dc S m1 m2 kp=>?_;refine Calls.spliced_nil ?_;obtain⟨⟨o,es,ep,t,ho,hex,hd,T,hM,hL,vF⟩,nd,is⟩:=S;have OG:es.toList.map (·.2)=dc.map fun p=>Value.ref p.2:=by rw[vF,gi];rfl
 have Rm:dc.length<=2000:=by
  have:=TS.aN nd (m:=ks) fun k hk=>by rw[<- ek];exact(m1 k).mp hk
  rw[cK] at this;have:ks.length=xs.length:=by rw[<- ek,cK]
  lia
 have OJ:es.size=dc.length:=by have:=congrArg List.length vF;simpa using this
 have OL:∀ p∈dc,p.1∈ks:=fun p hp=>by rw[<- ek];exact de.mpr ⟨p,m2 p hp,rfl⟩
 have mem:∀ fi:List ae,fi.Perm (dc.map fun p=>Value.ref p.2)->∀ v∈fi,∃ b k,v=.ref b/\H1 b=some (.tup (k.map kV))/\k∈ks:=fun fi pv v hv=>by obtain⟨p,hp,rfl⟩:=de.mp (pv.mem_iff.mp hv);exact⟨p.2,p.1,rfl,hx p (m2 p hp),OL p hp⟩
 have FL:s1.heap.objs.size<=h2.objs.size:=mS (eP ho);refine B1.gf (s:={ s1 with heap:=h2,toks:=tk }) (κ:=tuples' true) (R:=fun fi=>fi.Perm (dc.map fun p=>Value.ref p.2)) (r:=fun v=>B4 ks (jZ H1 v)) (P:=fun v=>∃ b k,v=.ref b/\H1 b=some (.tup (k.map kV))/\i3 k=b0 :: sh/\k∈ks) (fun A' E' Q' hA hQ=>TS.gw (s:={ s1 with heap:=h2,toks:=tk }) (hA.trans xk) ho hex hd T.fits T.up T.sz hL (by rw[OJ,hJ];lia) fun h' xS d fi nX OO pv=>hQ fi h' xS d (by rw[<- OG];exact pv) nX OO) (fun fi pv=>by rw[pv.length_eq,cK,hJ];lia) (fun fi pv v hv=>?_) (fun fi pv UQ A' E' s' nX Q' q'=>?_) (fun s' nX=>tE I1 fun b o e=>nX b o (kp b o e)) fun fi h' a' out n xS d pv pm pw nX ha eo=>?_
 ·obtain⟨b,k,e1,e2,e3⟩:=mem fi pv v hv;exact⟨b,k,e1,e2,ub k e3,e3⟩
 ·obtain⟨zs,z1,z2⟩:=b8.of (H:=H1) (ks:=ks) fi (mem fi pv);obtain⟨fs,f1,f2,f3⟩:=kat_tups I1 (s':=s') (fun b o e=>nX b o (kp b o e)) z1 z2 fun k hk=>by obtain⟨v,hv,rfl⟩:=de.mp hk;obtain⟨b,k,rfl,e2,e3⟩:=mem fi pv v hv;rw[bK e2];exact ub k e3
  cases b0 with
  |true =>refine Pj (T:=.type "int") f1 (by lia) (fun f hf=>?_) (by decide) q';obtain⟨i,t,rfl⟩:=(f3 f hf).1 rfl;exact .now
  |false =>refine Pj (T:=.type "str") f1 (by lia) (fun f hf=>?_) (by decide) q';obtain⟨i,t,rfl⟩:=(f3 f hf).2 rfl;exact .now
 ·have vT:=pm.trans pv;obtain⟨zs,z1,z2⟩:=b8.of (H:=H1) (ks:=ks) out fun v hv=>mem _ vT v hv;have zl:=z2.length;have ol:=vT.length_eq;rw[cK] at ol;have OQ:(dc.map fun p=>Value.ref p.2).map (jZ H1)=dc.map (·.1):=by rw[gi];exact Ls fun p hp=>bK (hx p (m2 p hp))
  have OS:(out.map (jZ H1)).Perm (dc.map (·.1)):=by rw[<- OQ];exact vT.map _
  refine⟨.ref a',_,(I1.laid (a:=a') (t':=xS) (fun b o e=>nX b o (kp b o e)) (ky FL ha) (show gS X.prog X.w _ h' _ (.lst zs) from⟨by rw[hJ];lia,out,n,z2,eo⟩)).drawn,rfl,
   q zs _ _ z1 (OS.nodup_iff.mpr nd) (fun k=>by rw[OS.mem_iff,m1,ek]) ?_ (I1.b9.fresh (ky FL ha))⟩
  rw[wo];refine pw.imp_of_mem fun {x y} mx my hle=>?_;obtain⟨b,k,rfl,hb,kk⟩:=mem _ vT x mx;obtain⟨c,m,rfl,DJ,km⟩:=mem _ vT y my;rw[bK hb,bK DJ] at *
  have:=oV (L:=ks) ((ub m km).trans (ub k kk).symm) km;rw[<- this];exact decide_eq_false (by lia)
end
end L2
namespace TS
open PySem PySem.SetTable PyProof.Rows
section
variable {t:SetTable}{es:Array (Int × ae)}
theorem wj(T:TI t es)(h:Int)(x:ae):∃ j,j<=t.mask/\taken t.place j=false/\Reach t.mask t.place h j /\
  layNew t es h x=(insertAt es (below t.place j) (h,x),{ t with place:=insertAt t.place (below t.place j) j,dummies:=#[] },false,false):=by
 obtain⟨m,hm,_⟩:=T.pw;obtain⟨e0,B9,My⟩:=T.free;obtain⟨nf,n1,n2,n3⟩:=lM hm h (taken t.place) B9 My;obtain⟨n',a1,a2,a3,a4⟩:=lZ T (fun _=>h+1) h (10*turns t.mask) 0 ⟨nf,eT _,by unfold turns;lia,n2⟩;rcases a4 with⟨c1,c2⟩|⟨_,c2,_⟩
 ·have LW:n'<=nf:=by
   by_cases z:n'<=nf
   ·exact z
   ·have:=(a3 nf (eT _) (by exact LB ‹_›)).1;rw[n2] at this;cases this
  refine⟨J t.mask h n',Rh ..,c1,⟨n',by walk_at "s1",rfl,fun q hq=>(a3 q (eT _) hq).1⟩,?_⟩;have TL:t.freeSlot h=some (J t.mask h n',false):=by unfold SetTable.freeSlot;have:t.probe (fun _=>h+1) h (t.probeStart h)=some (.empty (J t.mask h n') none):=c2;rw[this];rfl
  have UM:t.put (J t.mask h n')=({ t with place:=insertAt t.place (below t.place (J t.mask h n')) (J t.mask h n'),dummies:=#[] },below t.place (J t.mask h n')):=by
   unfold SetTable.put;have:has t.dummies (J t.mask h n')=false:=by rw[T.dm];rfl
   simp only[this,iX,if_false];rw[T.dm]
  have hb:=(aJ T.up (J t.mask h n')).1;have Mv:({ t with place:=insertAt t.place (below t.place (J t.mask h n')) (J t.mask h n'),dummies:=#[] }:SetTable).fits (insertAt es (below t.place (J t.mask h n')) (h,x)).size=true:=by have:=T.few;have fz:(insertAt es (below t.place (J t.mask h n')) (h,x)).size=es.size+1:=a_ _ _ (by rw[<- T.sz];exact hb);simp only[SetTable.fits,SetTable.fill,fz,a_ _ _ hb,T.sz,k7,beq_iff_eq,decide_eq_true_eq,true_and];simp;lia
  unfold layNew;rw[TL];dsimp only;rw[UM];dsimp only;unfold SetTable.orStandIn;rw[Mv];rfl
 ·exact absurd c2 (by lia)
end
section
variable {prog:dr}{w:dA}{K:Type}[DecidableEq K]{knd:KeyKind prog w K}
def v3(knd:KeyKind prog w K)(p:K × ae):Int × ae:=(knd.hash p.1,p.2)
structure ll(knd:KeyKind prog w K)(h:cE)(a:ag)(ks:List (K × ae)):Prop where
 ob:∃ o es ep t,h.get? a=some o/\o.ExactSet/\o.data=.set es ep t/\TI t es/\t.mask<=8191/\t.led=(!w.params.followText "set-order")/\es.toList=ks.map (v3 knd)
 nd:(ks.map (·.1)).Nodup
 is:∀ p∈ks,knd.is p.1 p.2=true
variable {A:eB}{E:ae->ay->Prop}{s:ay}
theorem wM(S:ll knd s.heap a ks)(hx:knd.is k x=true)(hz:ks.length<2000)(ip:∀ k v,knd.is k v=true->v.scannable=true)(h:∀ (b:Bool) (h':cE) (dc:List (K × ae)),Heap.SameBut a s.heap h'->ll knd h' a dc->(k∈ks.map (·.1)/\dc=ks\/k∉ks.map (·.1)/\dc.Perm ((k,x) :: ks))->Q b { s with heap:=h' }) :
  aT (aS prog w) A (setAddHashed a x (knd.hash k)) Q E s:=by
 obtain⟨⟨o,es,ep,t,ho,hex,hd,T,hM,hL,he⟩,nd,is⟩:=id S;have hlen:es.size=ks.length:=by have:=congrArg List.length he;simpa using this
 have D9:ElemsOf knd es.toList:=fun e hm=>by rw[he] at hm;obtain⟨p,hp,rfl⟩:=de.mp hm;exact⟨⟨p.1,is p hp,rfl⟩,ip _ _ (is p hp)⟩
 have Qn:scanBound=4096:=rfl;unfold setAddHashed setAddHashedIn;refine oy (ah (mG ho hd T.fits ?_));dsimp only;rw[byScan_of (ip _ _ hx) (by lia) D9];simp only[↓reduceIte];unfold setAddByScan;refine ah ?_;refine ah (wd ?_);refine ah (wpAny_setScan_of hx ho hd T.fits D9 ?_)
 cases hr:List.findIdx? (fun e=>knd.is k e.2) es.toList with
 |some j =>
  dsimp only;refine aI (aI ?_);obtain⟨hj,OU,_⟩:=VC.mp hr;have hm:es.toList[j]∈ks.map (v3 knd):=by rw[<- he];exact MX hj
  obtain⟨p,hp,Np⟩:=de.mp hm;rw[<- Np] at OU;have hk:k=p.1:=knd.inj p.2 k p.1 OU (is p hp);have e:s={ s with heap:=s.heap }:=by cases s;rfl
  rw[e];exact h _ _ ks (Heap.SameBut.refl a s.heap) S (.inl ⟨de.mpr ⟨p,hp,hk.symm⟩,rfl⟩)
 |none =>
  dsimp only;have AF:k∉ks.map (·.1):=fun hm=>by obtain⟨p,hp,rfl⟩:=de.mp hm;have:=List.findIdx?_eq_none_iff.mp hr (v3 knd p) (by rw[he];exact de.mpr ⟨p,hp,rfl⟩);rw[show knd.is p.1 (v3 knd p).2=true from is p hp] at this;cases this
  obtain⟨j,UK,n2,UL,hlay⟩:=wj T (knd.hash k) x;rw[hlay];dsimp only;refine ah (aI ?_);have pe:(insertAt es (below t.place j) (knd.hash k,x)).toList=(ks.take (below t.place j)++(k,x) :: ks.drop (below t.place j)).map (v3 knd):=by rw[lB,he,k6,iF,MY,MZ];rfl
  have xE:(ks.take (below t.place j)++(k,x) :: ks.drop (below t.place j)).Perm ((k,x) :: ks):=by refine List.perm_middle.trans ?_;rw[Lr]
  have FI:below t.place j<=es.size:=by rw[<- T.sz];exact(aJ T.up j).1
  have Cb:(insertAt es (below t.place j) (knd.hash k,x)).size=es.size+1:=a_ _ _ FI;have Ov:∀ dc:List (K × ae),dc.Perm ((k,x) :: ks)->∀ p∈dc,knd.is p.1 p.2=true:=fun dc pm p hp=>by
   rcases eM.mp (pm.mem_iff.mp hp) with rfl|hp
   ·exact hx
   ·exact is p hp
  have Ow:∀ dc:List (K × ae),dc.Perm ((k,x) :: ks)->(dc.map (·.1)).Nodup:=fun dc pm=>by rw[(pm.map _).nodup_iff,iF,lT];exact⟨AF,nd⟩
  have main:∀ t':SetTable,t'.mask=t.mask->t'.place=insertAt t.place (below t.place j) j->t'.dummies = #[]->t'.led=t.led->aT (aS prog w) A (do
    storeSet a (insertAt es (below t.place j) (knd.hash k,x)) t'
    if (!false && t'.tooFull)=true then do
      Et (relayAll t' (insertAt es (below t.place j) (knd.hash k,x)) (grown (insertAt es (below t.place j) (knd.hash k,x)).size)).2.2
      storeSet a (relayAll t' (insertAt es (below t.place j) (knd.hash k,x)) (grown (insertAt es (below t.place j) (knd.hash k,x)).size)).1 (relayAll t' (insertAt es (below t.place j) (knd.hash k,x)) (grown (insertAt es (below t.place j) (knd.hash k,x)).size)).2.1
      pure (some true)
     else pure (some true)) (fun r s'=>aT (aS prog w) A (match r with|some added=>pure added|none=>setAddHashedIn a x (knd.hash k) 99999) Q E s') E s:=fun t' tm tp td tl=>by
   have Rk:t'.fill=es.size+1:=by unfold SetTable.fill;rw[tp,td,a_ _ _ (aJ T.up j).1,T.sz];simp
   refine ah (EI ho hd ?_ (by rw[Cb,hJ];lia));have kU:(s.heap.update a (Obj.putSet (insertAt es (below t.place j) (knd.hash k,x)) t')).get? a=some { o with data:=.set (insertAt es (below t.place j) (knd.hash k,x)) (ep+1) t' }:=by have:=vn (Obj.putSet (insertAt es (below t.place j) (knd.hash k,x)) t') ho (by rw[sv _ _ hd];rfl);rw[sv _ _ hd] at this;exact this
   have vS:=Heap.SameBut.update s.heap a (Obj.putSet (insertAt es (below t.place j) (knd.hash k,x)) t');by_cases c:t'.tooFull=true
   ·rw[if_pos (by rw[c];rfl)];obtain⟨t2,order,r1,r2,r3,r4,r5,r6,r7,r8,r9⟩:=pP (t:=t') (es:=insertAt es (below t.place j) (knd.hash k,x)) (by lia);have gT':relayAll t' (insertAt es (below t.place j) (knd.hash k,x)) (grown (insertAt es (below t.place j) (knd.hash k,x)).size)=(order.filterMap fun i=>(insertAt es (below t.place j) (knd.hash k,x))[i]?,t2,false):=by unfold relayAll;rw[r1];dsimp only;rw[if_pos];rw[k7];refine⟨?_,r6.fits⟩;unfold coversAll;rw[List.isPerm_iff];exact r9
    rw[gT'];dsimp only;refine ah (aI ?_);obtain⟨dc,ek,pk⟩:=cQ r8 pe;refine ah (EI kU rfl ?_ (by rw[r7,Cb,hJ];lia));refine aI (aI ?_);have xI:=vS.trans (Heap.SameBut.update _ a (Obj.putSet (order.filterMap fun i=>(insertAt es (below t.place j) (knd.hash k,x))[i]?) t2));have mw:=vn (Obj.putSet (order.filterMap fun i=>(insertAt es (below t.place j) (knd.hash k,x))[i]?) t2) kU (by rw[sv _ _ rfl];rfl);rw[sv _ _ rfl] at mw;exact h true _ dc xI ⟨⟨_,_,_,_,mw,hex,rfl,r6,r5 (by lia),by rw[r3,tl];exact hL,ek⟩,Ow dc (pk.trans xE),Ov dc (pk.trans xE)⟩ (.inr ⟨AF,pk.trans xE⟩)
   ·rw[if_neg (by simpa using c)];refine aI (aI ?_);have rU:(es.size+1)*5<t.mask*3:=by unfold SetTable.tooFull at c;rw[Rk,tm] at c;simpa using c
    exact h true _ _ vS ⟨⟨_,_,_,_,kU,hex,rfl,T.put UK n2 UL tm tp td rU,by rw[tm];exact hM,by rw[tl];exact hL,pe⟩,Ow _ xE,Ov _ xE⟩ (.inr ⟨AF,xE⟩)
  split
  ·refine ah ?_;rw[hashByValue_scannable 8 (ip _ _ hx)];refine aI ?_;split
   ·exact main _ rfl rfl rfl rfl
   ·exact main _ rfl rfl rfl rfl
  ·refine ah (aI ?_);rw[if_pos rfl];exact main _ rfl rfl rfl rfl
end
section
variable {prog:dr}{w:dA}{K:Type}[DecidableEq K]{knd:KeyKind prog w K}{A:eB}{E:ae->ay->Prop}{s:ay}
theorem dG{l:ag}{items:Array ae}{xs:List (K × ae)}{Q:ae->ay->Prop}(hh:A.handled=none)(hl:s.heap.IsList l items)(hi:items.toList=xs.map (·.2))(mB:∀ p∈xs,knd.is p.1 p.2=true) (hz:xs.length<=2000) (ip:∀ k v,knd.is k v=true->v.scannable=true)(h:∀ h' tk ks,ll knd h' s.heap.objs.size ks->(∀ k,k∈ks.map (·.1)↔k∈xs.map (·.1))->(∀ p∈ks,p∈xs)->(∀ b o,s.heap.get? b=some o->h'.get? b=some o)->Q (.ref s.heap.objs.size) { s with heap:=h',toks:=tk }) :
  aT (aS prog w) A (call (.type "set") [.ref l]) Q E s:=by
 refine eE hh hl (fun i h=>∃ ks,ll knd h s.heap.objs.size ks/\(∀ k,k∈ks.map (·.1)↔k∈(xs.take i).map (·.1))/\(∀ p∈ks,p∈xs)/\ks.length<=i) (fun h e k=>?_) (fun i h h' ⟨ks,S,m1,m2,m3⟩ k=>?_) (fun i v s' E' Q' hv ⟨ks,S,m1,m2,m3⟩ q=>?_) fun h' tk ⟨ks,S,m1,m2,m3⟩ k=>?_
 ·exact⟨[],⟨⟨_,#[],0,_,e,⟨rfl,rfl,rfl⟩,rfl,fO _,(by show 7<=8191;decide),rfl,rfl⟩,k9,fun p hp=>nomatch hp⟩,fun k=>by simp,(fun p hp=>nomatch hp),da _⟩
 ·obtain⟨⟨o,es,ep,t,ho,r⟩,nd,is⟩:=S;exact⟨ks,⟨⟨o,es,ep,t,k _ _ (da _) ho,r⟩,nd,is⟩,m1,m2,m3⟩
 ·have om:items.toList[i]? = some v:=by rw[oa];exact hv
  rw[hi,qV] at om
  cases ex:xs[i]? with
  |none=>rw[ex] at om;cases om
  |some p =>
   rw[ex] at om;cases om;have hp:=tI ex;have Rj:i<xs.length:=(lP.mp ex).1;have OD:(xs.take (i+1)).map (·.1)=(xs.take i).map (·.1)++[p.1]:=by rw[ER,ex,k6];rfl
   unfold setAdd;refine oy (ah (knd.pyHash (k:=p.1) (mB p hp) ?_));refine wM (s:={ s' with toks:=s'.toks+1 }) S (mB p hp) (by lia) ip fun b h' dc sb S' c=>?_;refine q b h' _ sb ⟨dc,S',fun k=>?_,fun p' gu=>?_,?_⟩
   ·rw[OD,eS,vk,<- m1];rcases c with⟨c1,rfl⟩|⟨c1,c2⟩
    ·exact⟨.inl,fun z=>z.elim id fun e=>e ▸ c1⟩
    ·rw[(c2.map _).mem_iff,iF,eM];exact⟨fun z=>z.symm,fun z=>z.symm⟩
   ·rcases c with⟨c1,rfl⟩|⟨c1,c2⟩
    ·exact m2 p' gu
    ·rcases eM.mp (c2.mem_iff.mp gu) with rfl|z
     ·exact hp
     ·exact m2 p' z
   ·rcases c with⟨c1,rfl⟩|⟨c1,c2⟩
    ·lia
    ·rw[c2.length_eq];simp;lia
 ·have e:items.size=xs.length:=by have:=congrArg List.length hi;simpa using this
  rw[e,yi] at m1;exact h h' tk ks S m1 m2 fun b o ho=>k b o (eP ho) ho
end
end TS
namespace L2
open PySem PySem.Spec PyProof.Rows
def h_(K:aE):V->Hp->VK->Prop:=fun x H Q=>match x with
 |.ref p=>∃ (ks:List Key) (b:Bool),fq K H p (ks.map kV)/\ks.length<=2000/\(∀ k∈ks,qc k=b) /\
   ∀ (ms:List Key) (l:ag),ms.Nodup->(∀ k,k∈ms↔k∈ks)->(ms.Pairwise fun a b=>r0 b a=false)->H l=none->Q (.ref l) (upd H l (.lst (ms.map kV)))
 |_=>False
theorem lC(h:Vals (ks.map kV) vs):∃ xs:List (Key × ae),vs=xs.map (·.2)/\xs.map (·.1)=ks/\∀ p∈xs,RelV (kV p.1) p.2:=by
 induction ks generalizing vs with
 |nil=>exact⟨[],Paired.n0 h,rfl,fun p hp=>nomatch hp⟩
 |cons k ks ih =>
  obtain⟨v,vs,rfl,r,rs⟩:=Paired.c h;obtain⟨xs,e1,e2,e3⟩:=ih rs;refine⟨(k,v) :: xs,by rw[e1];rfl,by rw[<- e2];rfl,fun p hp=>?_⟩;rcases eM.mp hp with rfl|hp
  ·exact r
  ·exact e3 p hp
section
variable {X:Cx}{e:Expr}{te:TE}{p p2 pos kX:Pos}
theorem qj (hc:X.calm=true) (hg:Gl X "sorted") (hm:X.mg "sorted" = none) (tj:Gl X "set") (k8:X.mg "set" = none) (he:PE X e te)(hv:j3 "sorted" = some (.builtin "sorted")) (FK:j3 "set" = some (.type "set"))(jI:bI [e] X.env=(false,cv e X.env) :: bI [] X.env:=by rfl) (hs:bI [.Call (.Name "set" p2) [e] [] kX] X.env=(false,cv (.Call (.Name "set" p2) [e] [] kX) X.env) :: bI [] X.env:=by rfl) :
  PE X (.Call (.Name "sorted" p) [.Call (.Name "set" p2) [e] [] kX] [] pos) (P4 (h_ X.K) te):=by
 intro pins s σ H Q I h;refine wc (vv I hg hm hv ?_ (by decide) (by decide));refine PyProof.Rows.callWith_builtin1 ?_ hs rfl;rw[hs];refine Calls.spliced_cons ?_;refine wc (vv I tj k8 FK ?_ (by decide) (by decide));refine PyProof.Rows.callWith_type1 ?_ jI rfl;rw[jI];refine Calls.spliced_cons (dz (he pins s σ H _ I h) fun u s1 dn=>L2.gL dn fun x H1 I1 r1 q1=>Calls.spliced_nil ?_);have q1:h_ X.K x H1 Q:=q1;obtain⟨a,rfl⟩:∃ a,x=.ref a:=by
  unfold h_ at q1;split at q1
  ·exact⟨_,rfl⟩
  ·exact q1.elim
 obtain⟨ks,b,hl,hz1,hb,q⟩:=q1;cases r1;obtain⟨vs,rv,pl,hz⟩:=I1.list hl;obtain⟨xs,ex,ek,hx⟩:=lC rv;have xk:X.A.handled=none:=I1.ok.hd hc;have hlen:xs.length=ks.length:=by rw[<- ek,cK]
 have mB:∀ p∈xs,(kA X.prog X.w).is p.1 p.2=true:=fun p hp=>by
  obtain⟨k,v⟩:=p;have r:=hx _ hp;rw[SQ]
  cases k with
  |inl i=>obtain⟨t,e⟩:=r;rw[show v=_ from e];exact SN ..
  |inr x=>obtain⟨t,e⟩:=r;rw[show v=_ from e];exact PK ..
 refine TS.dG (knd:=kA X.prog X.w) xk pl.isList (by simpa using ex) mB (by lia) fH fun h2 tk dc S m1 m2 kp=>?_;refine Calls.spliced_nil ?_;obtain⟨⟨o,es,ep,t,ho,hex,hd,T,hM,hL,vF⟩,nd,is⟩:=S;have OG:es.toList.map (·.2)=dc.map (·.2):=by rw[vF,gi];rfl
 have Rm:dc.length<=2000:=by
  have:=TS.aN nd (m:=ks) fun k hk=>by rw[<- ek];exact(m1 k).mp hk
  rw[cK] at this;lia
 have OJ:es.size=dc.length:=by have:=congrArg List.length vF;simpa using this
 have OL:∀ p∈dc,p.1∈ks:=fun p hp=>by rw[<- ek];exact de.mpr ⟨p,m2 p hp,rfl⟩
 have mem:∀ fi:List ae,fi.Perm (dc.map (·.2))->∀ v∈fi,∃ k,RelV (kV k) v/\k∈ks:=fun fi pv v hv=>by obtain⟨p,hp,rfl⟩:=de.mp (pv.mem_iff.mp hv);exact⟨p.1,hx p (m2 p hp),OL p hp⟩
 have FL:s1.heap.objs.size<=h2.objs.size:=mS (eP ho);refine B1.gf (s:={ s1 with heap:=h2,toks:=tk }) (κ:=oneType') (R:=fun fi=>fi.Perm (dc.map (·.2))) (r:=fun v=>B4 (ks.map fun k=>[k]) (iQ v)) (P:=fun v=>∃ k,RelV (kV k) v/\qc k=b/\k∈ks) (fun A' E' Q' hA hQ=>TS.gw (s:={ s1 with heap:=h2,toks:=tk }) (hA.trans xk) ho hex hd T.fits T.up T.sz hL (by rw[OJ,hJ];lia) fun h' xS d fi nX OO pv=>hQ fi h' xS d (by rw[<- OG];exact pv) nX OO) (fun fi pv=>by rw[pv.length_eq,cK,hJ];lia) (fun fi pv v hv=>?_) (fun fi pv UQ A' E' s' nX Q' q'=>?_) (fun s' nX=>yq) fun fi h' a' out n xS d pv pm pw nX ha eo=>?_
 ·obtain⟨k,rk,mk⟩:=mem fi pv v hv;exact⟨k,rk,hb k mk,mk⟩
 ·obtain⟨ms,rm⟩:=ph (ks:=ks) fi (mem fi pv);refine wJ (b:=b) rm (fun k hk=>?_) UQ q';have:(fi.map iQ)=ms.map fun k=>[k]:=keys_map rm;have Fs:[k]∈fi.map iQ:=by rw[this];exact de.mpr ⟨k,hk,rfl⟩
  obtain⟨v,hv,e⟩:=de.mp Fs;obtain⟨k',rk,mk⟩:=mem fi pv v hv;rw[jP rk] at e;cases e;exact hb _ mk
 ·have vT:=pm.trans pv;obtain⟨ms,rm⟩:=ph (ks:=ks) out (mem _ vT);have OQ:(dc.map (·.2)).map iQ=(dc.map (·.1)).map fun k=>[k]:=by rw[gi,gi];exact Ls fun p hp=>jP (hx p (m2 p hp))
  have pk:ms.Perm (dc.map (·.1)):=wR (by rw[<- keys_map rm,<- OQ];exact vT.map _);have hml:ms.length=dc.length:=by simpa using pk.length_eq
  have ak':∀ k∈ms,k∈ks:=fun k hk=>by rw[<- ek];exact(m1 k).mp (pk.mem_iff.mp hk)
  refine⟨.ref a',_,(I1.laid (a:=a') (t':=xS) (fun b o e=>nX b o (kp b o e)) (ky FL ha) (show gS X.prog X.w _ h' _ (.lst (ms.map kV)) from⟨by rw[cK,hJ];lia,out,n,rm,eo⟩)).drawn,rfl,
   q ms _ (pk.nodup_iff.mpr nd) (fun k=>by rw[pk.mem_iff,m1,ek]) ?_ (I1.b9.fresh (ky FL ha))⟩
  have pw2:(out.map iQ).Pairwise fun x y=>B4 (ks.map fun k=>[k]) x<=B4 (ks.map fun k=>[k]) y:=wo.mpr pw;rw[keys_map rm,wo] at pw2;refine pw2.imp_of_mem fun {x y} mx my hle=>?_;have mx:=ak' x mx;have my:=ak' y my;rw[<- vq,<- oV (L:=ks.map fun k=>[k]) (by simp[i3,hb x mx,hb y my]) (de.mpr ⟨y,my,rfl⟩)];exact decide_eq_false (by lia)
end
end L2
namespace L2.Q
open PySem PySem.Spec PyProof.Rows
section
variable {X:Cx}{K:aE}{e:Expr}{te:WE}{p p2 pos kX:Pos}
theorem tK:j3 "set" = some (.type "set"):=by decide +kernel
def cU:W1:=fun _ x Q=>match x with
 |.list xs=>∃ (ks:List (List Key)) (sh:List Bool),xs=ks.map kM/\ks.length<=2000/\(∀ k∈ks,i3 k=true :: sh)/\∀ ms:List (List Key),ms.Nodup->(∀ k,k∈ms↔k∈ks)->(ms.Pairwise fun a b=>iq b a=false)->Q (.ow true) (.list (ms.map kM))
 |_=>False
def eZ:W1:=fun _ x Q=>match x with
 |.list xs=>∃ (ks:List Key) (b:Bool),xs=ks.map oq/\ks.length<=2000/\(∀ k∈ks,qc k=b)/\∀ ms:List Key,ms.Nodup->(∀ k,k∈ms↔k∈ks)->(ms.Pairwise fun a b=>r0 b a=false)->Q (.ow true) (.list (ms.map oq))
 |_=>False
theorem qN:QQ K (gK K) cU:=by
 intro Hs H m x v As Qd Qv w rx h f;have r1:=rx.rep w
 cases r1 with
 |list z s q =>obtain⟨ks,sh,rfl,hz,hs,h⟩:=h;obtain⟨ta,ok⟩:=v9 q;have hl:=q.length;rw[cK] at hl;refine⟨_,ks,true,sh,s,by lia,ta,hs,fun zs ms l tz nd mm pw UR=>?_⟩;have rr:=nu (K:=K) tz fun k hk=>ok k ((mm k).mp hk);have:ms.length<=ks.length:=TS.aN nd fun k hk=>(mm k).mp hk;exact f.lst w (by rw[cK,hJ];lia) rr (gR ms) (h ms nd mm pw) l UR
 |_=>exact h.elim
theorem qz:QQ K (h_ K) eZ:=by
 intro Hs H m x v As Qd Qv w rx h f;have r1:=rx.rep w
 cases r1 with
 |list z s q =>obtain⟨ks,b,rfl,hz,hb,h⟩:=h;obtain⟨e,ok⟩:=qM q;subst e;refine⟨ks,b,s,hz,hb,fun ms l nd mm pw hl=>?_⟩;have:ms.length<=ks.length:=TS.aN nd fun k hk=>(mm k).mp hk;exact f.lst w (by rw[cK,hJ];lia) (mO fun k hk=>ok k ((mm k).mp hk)) (jF ms) (h ms nd mm pw) l hl
 |_=>exact h.elim
theorem iu (hm:X.mg "sorted" = none) (k8:X.mg "set" = none) (he:QE X K e te) (hc:X.calm=true:=by rfl) (hK:X.K=K:=by rfl) (jI:bI [e] X.env=(false,cv e X.env) :: bI [] X.env:=by rfl) (hs:bI [.Call (.Name "set" p2) [e] [] kX] X.env=(false,cv (.Call (.Name "set" p2) [e] [] kX) X.env) :: bI [] X.env:=by rfl) (hu:X.A.units+64<gE:=by assumption) (hg:Gl X "sorted" := by rfl) (tj:Gl X "set" := by rfl) :
  QE X K (.Call (.Name "sorted" p) [.Call (.Name "set" p2) [e] [] kX] [] pos) (fP cU te):=by
 subst hK;refine PE.imp (qL hc hu hg hm tj k8 he jR tK jI hs) fun σ H Qv d4=>?_;obtain⟨Hs,ρ,ai,Q,sr,h,fin⟩:=d4;exact⟨Hs,ρ,ai,_,sr,h,fun v H1 bE m x As g1 r1 f1 q1=>qN bE H1 m x v As Q Qv g1.wf r1 q1 (Fin.after fin g1)⟩
theorem lJ (hm:X.mg "sorted" = none) (k8:X.mg "set" = none) (he:QE X K e te) (hc:X.calm=true:=by rfl) (hK:X.K=K:=by rfl) (jI:bI [e] X.env=(false,cv e X.env) :: bI [] X.env:=by rfl) (hs:bI [.Call (.Name "set" p2) [e] [] kX] X.env=(false,cv (.Call (.Name "set" p2) [e] [] kX) X.env) :: bI [] X.env:=by rfl) (hg:Gl X "sorted" := by rfl) (tj:Gl X "set" := by rfl) :
  QE X K (.Call (.Name "sorted" p) [.Call (.Name "set" p2) [e] [] kX] [] pos) (fP eZ te):=by
 subst hK;refine PE.imp (qj hc hg hm tj k8 he jR tK jI hs) fun σ H Qv d4=>?_;obtain⟨Hs,ρ,ai,Q,sr,h,fin⟩:=d4;exact⟨Hs,ρ,ai,_,sr,h,fun v H1 bE m x As g1 r1 f1 q1=>qz bE H1 m x v As Q Qv g1.wf r1 q1 (Fin.after fin g1)⟩
end
end L2.Q
namespace L2.Q.R
open PySem PySem.Spec PyProof.Rows L2.Q
section
variable {Q:Md->L2.Q.D->Prop}{m:Md}{xs:List L2.Q.D}
theorem Cz:cU m (.list xs) Q = ∃ (ks:List (List Key)) (sh:List Bool),xs=ks.map kM/\ks.length<=2000/\(∀ k∈ks,i3 k=true :: sh)/\∀ ms:List (List Key),ms.Nodup->(∀ k,k∈ms↔k∈ks)->(ms.Pairwise fun a b=>iq b a=false)->Q (.ow true) (.list (ms.map kM)):=rfl
theorem CG:eZ m (.list xs) Q = ∃ (ks:List Key) (b:Bool),xs=ks.map oq/\ks.length<=2000/\(∀ k∈ks,qc k=b)/\∀ ms:List Key,ms.Nodup->(∀ k,k∈ms↔k∈ks)->(ms.Pairwise fun a b=>r0 b a=false)->Q (.ow true) (.list (ms.map oq)):=rfl
end
end L2.Q.R
namespace L2
open PySem PySem.Spec PyProof.Rows
end L2
namespace L2.Q
open PySem PySem.Spec PyProof.Rows
end L2.Q
namespace L2.Q.R
open PySem PySem.Spec PyProof.Rows L2.Q
end L2.Q.R
namespace L2.Q
open PySem PySem.Spec PyProof.Rows PySem.W
abbrev am':List ae:=[.type "ValueError",.type "Exception",.type "BaseException",.type "object"]
structure n4(K:aE)(C:ag):Prop where
 ex:excIn K C am' "ValueError.__new__" = true
 gx:findIn K (.ref C) "__getattr__" = some none
 ga:findIn K (.ref C) "__getattribute__" = some (some (.builtin "BaseException.__getattribute__"))
 cl:findIn K (.ref C) "__class__" = some (some (.builtin "object.__class__"))
 ob:mroIn K C (.type "object")=some true
theorem n4.obj{K:aE}(x:n4 K C)(X:K.In h):∃ bm N nm q bs hdct sn sub ab col dd k0 k1 k2 k3 k5 mN,
  h.get? C=some (excClassObj nm q C N bs bm hdct sn sub ab col dd k0 k1 k2 k3 k5 "ValueError.__new__")/\h.Ns N mN/\mN "__init__" = none/\OwnTail h am' bm:=by
 have q:=x.ex;unfold excIn at q;split at q
 ·rename_i dd cd sl ho;split at q
  ·rename_i C' bm k0 k1 k2 k3 n k5 hm hs;simp only[k7,beq_iff_eq,Sw] at q;obtain⟨⟨⟨⟨⟨e1,e2⟩,an'⟩,ht⟩,b9⟩,EA⟩:=q;cases e1;cases e2;cases cd;dsimp only at hm an' b9 EA;cases hm;cases an';have Ou:sl = #[k0,k1,k2,k3,some (.builtin "ValueError.__new__"),k5]:=by cases sl;dsimp only at hs;rw[hs]
   cases Ou;exact⟨bm,_,_,_,_,_,_,_,_,_,dd,k0,k1,k2,k3,k5,_,X _ _ ho,.of_isNs (isNs_of_in X b9),nsMap_none_of_in X b9 EA,tail_of_in X ht⟩
  ·cases q
 ·cases q
section
variable {prog:dr}{w:dA}{A:eB}{E:ae->ay->Prop}{h:cE}{g:Array GenState}{d:Drawn}{t:Nat}{os:OsState}{a C:ag}{o:Obj}{K:aE}
theorem yJ{R:Result->ay->Prop}(x:n4 K C)(X:K.In h)(hx:h.get? a=some o)(hc:o.cls=.ref C)(hq:R (.ok (.ret (.ref C))) ⟨h,g,d,t,os⟩) :
  codeAny (aS prog w) A (.call (.builtin "getset_descriptor.__get__") ⟨[.builtin "object.__class__",.ref a,.ref C],[]⟩) R ⟨h,g,d,t,os⟩:=by
 obtain⟨bm,N,nm,q,bs,hdct,sn,sub,ab,col,dd,k0,k1,k2,k3,k5,mN,hC,hN,EA,T⟩:=x.obj X;have hT5:(⟨h,g,d,t,os⟩:ay).TypeIs (.builtin "object.__class__") "getset_descriptor" := F.typeOf_object_class;have OV:(Value.ref C :: bm).contains (.type (".".intercalate ("object.__class__".cutAt '.').dropLast))=true:=by rw[F.owner_object_class,Sh,T.hasType (X := "object") (b:=true) rfl];rfl
 refine codeAny_call_builtin F.slot_gs_get.plain F.entry_gs_get (F.slot_gs_get.check _ _ _ _ _ _ _ _ hT5 (F.args_gs_get _ _ _) ?_);repeat (any_goals (first|assumption|(with_reducible refine FY hx ?_;rw[hc])|(with_reducible refine wpAny_isSubtype_exc hC ?_;rw[OV])|wp_step))
 refine⟨Code.quiet_builtin _ (by decide +kernel),GA F.entry_object_class ?_⟩;repeat (any_goals (first|assumption|(with_reducible refine FY hx ?_;rw[hc])|wp_step))
theorem tZ(x:n4 K C)(X:K.In h)(hx:h.get? a=some o)(hc:o.cls=.ref C)(hq:Q (.done (.ret (.ref C))) ⟨h,g,d,t,os⟩) :
  aT (aS prog w) A (Builtin.«object.__getattribute__» ⟨[.ref a,.str "__class__" tk],[]⟩) Q E ⟨h,g,d,t,os⟩:=by
 have hT5:(⟨h,g,d,t,os⟩:ay).TypeIs (.builtin "object.__class__") "getset_descriptor" := F.typeOf_object_class;have f5:=F.typeOf_object_class;have f6:=F.slot_gs_get.lookup;have f7:=F.slot_gs_set.lookup;have Lk:=looks_findIn (M:=aS prog w) X x.cl;repeat (any_goals (first|assumption|(with_reducible refine FY hx ?_;rw[hc])|with_reducible refine Lk.at ?_|wp_step))
 refine yJ x X hx hc ?_;repeat (any_goals (first|assumption|wp_step))
theorem Bd(x:n4 K C)(X:K.In h)(hx:h.get? a=some o)(hc:o.cls=.ref C)(hq:Q (.ref C) ⟨h,g,d,t,os⟩) :
  aT (aS prog w) A (getAttrBy (.ref a) (.str "__class__" tk) false) Q E ⟨h,g,d,t,os⟩:=by
 have f3:=F.attr_ValueError.ga.bind (.ref a);have hx2:(Value.builtin "BaseException.__getattribute__" == Value.builtin "object.__getattribute__")=false:=by decide +kernel
 have hx1:(onTheHeap (Value.ref C) && Value.builtin "BaseException.__getattribute__" == Value.builtin "object.__getattribute__")=false:=by rw[hx2];rfl
 have Lk:=looks_findIn (M:=aS prog w) X x.ga;have Lg:=looks_findIn (M:=aS prog w) X x.gx;repeat (any_goals (first|assumption|(with_reducible refine FY hx ?_;rw[hc])|with_reducible refine Lk.at ?_|with_reducible refine Lg.at ?_|wp_step))
 obtain⟨bm,N,nm,q,bs,hdct,sn,sub,ab,col,dd,k0,k1,k2,k3,k5,mN,hC,hN,EA,T⟩:=x.obj X;have hk:builtinKind "BaseException.__getattribute__" = some .slot:=by decide +kernel
 have hsplit:splitId "BaseException.__getattribute__" = some ("BaseException", "__getattribute__"):=by decide +kernel
 have OV:(Value.ref C :: bm).contains (.type "BaseException")=true:=by rw[Sh,T.hasType (X := "BaseException") (b:=true) rfl];rfl
 have chk:∀ {Q':Unit->ay->Prop} {E':ae->ay->Prop} {A':eB},Q' () ⟨h,g,d,t,os⟩->aT (aS prog w) A' (checkBuiltinCall "BaseException.__getattribute__" ⟨[.ref a,.str "__class__" tk],[]⟩) Q' E' ⟨h,g,d,t,os⟩:=fun {Q' E' A'} hq'=>by
  have ha:=F.args_bexc_ga (.ref a) (.str "__class__" tk);simp only[checkBuiltinCall,hk,hsplit];refine ah ?_;unfold isInstance;repeat (first|(with_reducible refine FY hx ?_;rw[hc])|(with_reducible refine wpAny_isSubtype_exc hC ?_;rw[OV])|wp_step)
  exact hq'
 refine codeAny_call_builtin F.attr_ValueError.ga.plain F.entry_bexc_ga (chk (tZ x X hx hc ?_));repeat (any_goals (first|assumption|wp_step))
theorem wA (x:n4 K C) (X:K.In h) (hx:h.get? a=some o) (hc:o.cls=.ref C) (hq:Q (some (.ref C)) ⟨h,g,d,t+1,os⟩):aT (aS prog w) A (getAttr? (.ref a) "__class__") Q E ⟨h,g,d,t,os⟩:=by unfold getAttr? getAttrBy?;repeat (any_goals (first|assumption|with_reducible apply Bd x X hx hc|wp_step))
end
def TrC(h B:cE)(e:ag)(cls a0 fl:ae):Prop :=
 ∃ oe vs T oT ts,h.get? e=some oe/\(oe.cls=cls/\vs[0]? = some a0/\vs[2]? = some .none)/\oe.data=.fields vs/\vs[1]? = some (.ref T)/\B.get? T=none/\T≠e/\h.get? T=some oT/\oT.data=.fields ts/\ts[3]? = some fl
def AV(B:cE)(l:List PySem.Env)(e:ag)(cls a0 fl:ae)(h:cE):Prop:=B.StaysIn h/\B.get? e=none/\h.FunFrames B l/\TrC h B e cls a0 fl
abbrev Rn(B:cE)(l:List PySem.Env)(e:ag)(cls a0:ae)(h:cE):Prop:=AV B l e cls a0 .none h
theorem AV.there{B h:cE}(x:AV B l e cls a0 fl h):∃ ob,h.get? e=some ob/\ob.cls=cls:=by obtain⟨_,_,_,oe,_,_,_,_,he,hc,_⟩:=x;exact⟨oe,he,hc.1⟩
theorem AV.first{B h:cE}(x:AV B l e cls a0 fl h):∃ oe vs,h.get? e=some oe/\oe.cls=cls/\oe.data=.fields vs/\vs[2]? = some .none:=by obtain⟨_,_,_,oe,vs,_,_,_,he,hc,hd,_⟩:=x;exact⟨oe,vs,he,hc.1,hd,hc.2.2⟩
section
variable {M:Model}{A:eB}{E:ae->ay->Prop}{s:ay}{base:cE}{env:PySem.Env}{outer:List PySem.Env}{L e:ag}{cls a0 fl:ae}{Q:Unit->ay->Prop}
theorem zu(sL:A.frames=some (env :: outer))(hf:env.frame=some L)(k1:base.StaysIn h2)(k2:base.get? e=none)(k3:h2.FunFrames base (env :: outer))(ge:h2.get? e=some oe)(gd:oe.data=.fields vs)(gz:1<vs.size)(g0:oe.cls=cls/\vs[0]? = some a0/\vs[2]? = some .none)(hQ:∀ h',AV base (env :: outer) e cls a0 (ki L) h'->h2.UpToSlots h'->Q () { s with heap:=h' }) :
  aT M A (do let a <- PySem.frameOf env;let pl <- entryPlaceOf L b;let t <- EntryCells.newEntry hd1 a .none (ki L) .none pl;setField (.ref e) 1 t) Q E { s with heap:=h2 }:=by
 have ne:e∉fN (env :: outer):=fun z=>by obtain⟨_,o,q,n⟩:=k3.mem z;rw[ge] at q;cases q;exact n _ gd
 refine ah (wpAny_frameOf_fun sL k3 hf fun h3 q3=>ah (wpAny_entryPlaceOf fun pl hp=>?_));unfold EntryCells.newEntry newFields;refine ah (qE ?_ (hp.sizeOk5 _ _ _ _ _));generalize CB:({ cls:=.type "traceback",dict:=none,data:=.fields ([hd1,.ref L,.none,ki L,.none]++(if pl.isEmpty then List.replicate 6 Value.none else pl)).toArray }:Obj)=ob;have ge3:h3.get? e=some oe:=(q3.2.1 e ne).trans ge;have k13:base.StaysIn h3:=fun b o q=>(q3.2.1 b fun z=>by rw[(k3.mem z).1] at q;cases q).trans (k1 b o q);have ge4:=fE (h:=h3) ob ge3;refine wpAny_setField ge4 gd gz (hQ _ ?_ ?_);all_goals
  have nT:h3.objs.size≠e:=PB (eP ge3);have kp:∀ b o,b≠e->h3.get? b=some o->((h3.push ob).update e (Obj.mapFields (·.setIfInBounds 1 (Value.ref h3.objs.size)))).get? b=some o:=fun b o q1 q2=>by rw[CY _ _ (Ne.symm q1)];exact fE _ q2
  have nr:∀ b o,h2.get? b=some o->(∀ us,o.data≠.fields us)->b≠e:=fun b o q1 q2 q=>by rw[q,ge] at q1;cases q1;exact q2 _ gd
  have up:∀ b o,h2.get? b=some o->(∀ us,o.data≠.fields us)->∃ sl,((h3.push ob).update e (Obj.mapFields (·.setIfInBounds 1 (Value.ref h3.objs.size)))).get? b=some { o with slots:=sl }:=fun b o q1 q2=>by obtain⟨sl,q⟩:=q3.2.2 b o q1;exact⟨sl,kp b _ (nr b o q1 q2) q⟩
 ·refine⟨fun b o q=>kp b o (fun z=>by rw[z,k2] at q;cases q) (k13 b o q),k2,k3.of_keeps fun b o q1 q2=>?_,?_⟩
  ·obtain⟨sl,q⟩:=up b o q1 q2;exact⟨_,q,rfl⟩
  ·have dd:=Obj.data_mapFields gd (·.setIfInBounds 1 (Value.ref h3.objs.size));have gT:(h3.push ob).get? h3.objs.size=some ob:=ku h3 (by rw[<- CB];rfl);refine⟨_,_,h3.objs.size,ob,_,vn _ ge4 (Obj.isFreed_of_fields dd),⟨(Obj.cls_mapFields _ _).trans g0.1,?_,?_⟩,dd,by simp[gz],k13.fresh,nT,(CY _ _ (Ne.symm nT)).trans gT,by rw[<- CB],?_⟩
   ·rw[Sx (by decide)];exact g0.2.1
   ·rw[Sx (by decide)];exact g0.2.2
   ·first
    | (simp;done)
    | (rcases hp with rfl|⟨_,_,_,_,_,_,_,rfl⟩<;>simp)
 ·exact up
theorem Ey(sL:A.frames=some (env :: outer))(hf:env.frame=some L)(x:AV base (env :: outer) e cls a0 fl s.heap)(hQ:∀ h',AV base (env :: outer) e cls a0 (ki L) h'->s.heap.UpToSlots h'->Q () { s with heap:=h' }):aT M A (noteFrame (.ref e) env) Q E s:=by
 obtain⟨k1,k2,k3,oe,vs,T,oT,ts,ge,gc,gd,g1,gn,ne,gT,gD,g3⟩:=id x;unfold noteFrame;simp only[hf];refine ah (GB ge gd g1 ?_);rw[if_pos (by simp)];refine ah (GB gT gD g3 ?_);by_cases z:fl=ki L
 ·rw[if_pos (by simpa using z)];exact aI (hQ _ (z ▸ x) (Heap.UpToSlots.refl _))
 rw[if_neg (by simpa using z)];refine ah (wpAny_setField gT gD (Dx.mp g3).1 ?_);have ot:∀ b,b≠T->(s.heap.update T (Obj.mapFields (·.setIfInBounds 3 Value.none))).get? b=s.heap.get? b:=fun b hb=>CY _ _ (Ne.symm hb);have nr:∀ b o,s.heap.get? b=some o->(∀ us,o.data≠.fields us)->b≠T:=fun b o hb hn q=>by rw[q,gT] at hb;cases hb;exact hn _ gD
 refine zu sL hf (fun b o hb=>(ot b fun q=>by rw[q,gn] at hb;cases hb).trans (k1 b o hb)) k2 (k3.of_keeps fun b o hb hn=>⟨o,(ot b (nr b o hb hn)).trans hb,rfl⟩) ((ot e (Ne.symm ne)).trans ge) gd (Dx.mp g1).1 gc fun h' q up=>?_;exact hQ h' q fun b o hb hn=>up b o ((ot b (nr b o hb hn)).trans hb) hn
theorem mj(x:AV base l e cls a0 fl s.heap)(hQ:∀ h',AV base l e cls a0 (fr.elim .none fun f=>ki f) h'->s.heap.UpToSlots h'->Q () { s with heap:=h' }):aT M A (setFlight (.ref e) fr) Q E s:=by
 obtain⟨k1,k2,k3,oe,vs,T,oT,ts,ge,gc,gd,g1,gn,ne,gT,gD,g3⟩:=x;have gz:=(Dx.mp g3).1;unfold setFlight;refine ah (GB ge gd g1 ?_);rw[if_pos (by simp)];have ot:∀ b,b≠T->(s.heap.update T (Obj.mapFields (·.setIfInBounds 3 (fr.elim Value.none fun f=>ki f)))).get? b=s.heap.get? b:=fun b hb=>CY _ _ (Ne.symm hb);have nr:∀ b o,s.heap.get? b=some o->(∀ us,o.data≠.fields us)->b≠T:=fun b o hb hn q=>by rw[q,gT] at hb;cases hb;exact hn _ gD
 refine wpAny_setField gT gD gz (hQ _ ⟨fun b o hb=>(ot b fun q=>by rw[q,gn] at hb;cases hb).trans (k1 b o hb),k2,k3.of_keeps fun b o hb hn=>⟨o,(ot b (nr b o hb hn)).trans hb,rfl⟩,oe,vs,T,_,_,(ot e (Ne.symm ne)).trans ge,gc,gd,g1,gn,ne,vn _ gT (Obj.isFreed_of_fields (Obj.data_mapFields gD _)),Obj.data_mapFields gD _,by simp[gz]⟩ fun b o hb hn=>⟨o.slots,(ot b (nr b o hb hn)).trans hb⟩)
theorem Ff(sL:A.frames=some (env :: outer))(hf:env.frame=some L)(x:AV base (env :: outer) e cls a0 fl s.heap)(hQ:∀ h',Rn base outer e cls a0 h'->s.heap.UpToSlots h'->Q () { s with heap:=h' }):aT M A (leaving env (.ref e)) Q E s:=by
 unfold leaving;exact ah (Ey sL hf x fun h1 x1 u1=>mj x1 fun h2 x2 u2=>hQ h2 ⟨x2.1,x2.2.1,x2.2.2.1.2.2,x2.2.2.2⟩ (u1.trans u2))
theorem vh(sL:A.frames=some (env :: outer))(hf:env.frame=some L)(k:base.StaysIn h)(k3:h.FunFrames base (env :: outer))(hx:Heap.MadeExcOf h s.heap e cls args)(hQ:∀ h' t,Rn base outer e cls (.ref t) h'->s.heap.UpToSlots h'->Q () { s with heap:=h' }):aT M A (leaving env (.ref e)) Q E s:=by
 obtain⟨t,ge,gt,ht⟩:=hx.there;have fresh:base.get? e=none:=by
  cases q:base.get? e with
  |none=>rfl
  |some o=>have:=k e o q;rw[hx.new] at this;cases this
 unfold leaving noteFrame;simp only[hf];refine ah (ah (GB (x:=.none) ge rfl rfl ?_));rw[if_neg (by decide)];refine zu (s:=s) sL hf (fun b o q=>hx.keeps b o (k b o q)) fresh (k3.of_keeps fun b o q _=>⟨o,hx.keeps b o q,rfl⟩) ge rfl (by simp) ⟨rfl,rfl,rfl⟩ fun h1 x1 u1=>mj x1 fun h2 x2 u2=>hQ h2 t ⟨x2.1,x2.2.1,x2.2.2.1.2.2,x2.2.2.2⟩ (u1.trans u2)
end
def XAt(a C:ag)(h:cE):Prop:=∃ o,h.get? a=some o/\o.cls=.ref C
theorem n4.gZ'{K:aE}(x:n4 K C)(X:K.In h):Looks M h (isType (.ref C)) true:=by obtain⟨bm,N,nm,q,bs,hdct,sn,sub,ab,col,dd,k0,k1,k2,k3,k5,mN,hC,hN,EA,T⟩:=x.obj X;intro A' Q' E' s' k q;unfold isType loadHead;exact ah (wpAny_loadPart (k _ _ hC) (aI q))
theorem rT{K:aE}(x:n4 K C):KitX K (.ref a) (.ref C) (XAt a C) where
 ty:=fun M h X p=>by obtain⟨o,h1,h2⟩:=p;exact h2 ▸ (Looks.ld h1).andThen .now
 it:=fun M h X p=>x.gZ' X
 ne:=fun h tp dd its n sl X htp=>by obtain⟨bm,N,nm,q,bs,hdct,sn,sub,ab,col,dd,k0,k1,k2,k3,k5,mN,hC,hN,EA,T⟩:=x.obj X;refine Bool.eq_false_iff.mpr fun q=>?_;have e:C=tp:=Value.ref.inj (beq_iff_eq.mp q);subst e;have z:=congrArg (fun o=>o.map (·.data)) (hC.symm.trans htp);cases z
 ca:=fun {prog w A E Q s} X p k=>by obtain⟨h,g,d,t,os⟩:=s;obtain⟨o,h1,h2⟩:=p;exact wA x X h1 h2 k
theorem qY{K:aE}{a C R:ag}{os:OsState}(x:n4 K C)(r:n4 K R)(sub:mroIn K C (.ref R)=some true)(X:K.In h)(p:XAt a C h)(hq:Q true ⟨h,g,d,t,os⟩):aT M A (excMatches (.ref a) (.ref R)) Q E ⟨h,g,d,t,os⟩:=by
 obtain⟨bm,N,nm,q,bs,hdct,sn,lZ',ab,col,dd,k0,k1,k2,k3,k5,mN,hC,hN,EA,T⟩:=r.obj X;obtain⟨oe,he,S6⟩:=p;have OV:(Value.ref R :: bm).contains (.type "BaseException")=true:=by rw[Sh,T.hasType (X := "BaseException") (b:=true) rfl];rfl
 have f:=tc_notTuple;have Lk:=looks_mroIn (M:=M) X sub;unfold excMatches;repeat (first|(with_reducible refine FY he ?_;rw[S6])|with_reducible refine FY hC ?_|(with_reducible refine wpAny_isSubtype_exc hC ?_;rw[OV])|with_reducible refine Lk.at ?_|wp_step)
 exact hq
theorem FunFrames.rebase{h base B:cE}:∀ {l:List PySem.Env},h.FunFrames base l->(∀ b∈fN l,B.get? b=none)->h.FunFrames B l
 |[],_,_=>trivial
 |env :: rest,⟨hk,⟨L,o,hf,hn,ho,hd⟩,hr⟩,hB=>⟨hk,⟨L,o,hf,hB L (by unfold fN;rw[AZ,hf];exact eL),ho,hd⟩,
   FunFrames.rebase hr fun b hb=>hB b (by unfold fN;rw[AZ,hf];exact eI _ hb)⟩
theorem gS.there{P:dr}(x:gS P w H h a o):∃ u,h.get? a=some u:=by
 cases o with
 |lst xs=>obtain⟨_,_,_,_,e⟩:=x;exact⟨_,e⟩
 |tup xs=>obtain⟨_,_,_,_,e,_⟩:=x;exact⟨_,e⟩
 |dK kvs=>obtain⟨_,_,_,_,o,_,_,e,_⟩:=x;exact⟨_,e⟩
 |dT kvs=>obtain⟨_,_,_,_,o,_,_,e,_⟩:=x;exact⟨_,e⟩
 |set S n=>obtain⟨o,_,_,_,e,_⟩:=x;exact⟨_,e⟩
 |ins C dx fs=>obtain⟨_,_,_,e,_⟩:=x;exact⟨_,e⟩
 |own y=>exact x
 |xd fs=>obtain⟨_,⟨_,_,_,e,_⟩,_⟩:=x;exact⟨_,e⟩
 |PL lo hi=>obtain⟨_,_,_,e⟩:=x;exact⟨_,e⟩
 |nh ob u=>obtain⟨e,_⟩:=x;exact⟨_,e⟩
 |E4 ps=>exact⟨_,(show h.get? a=some _ from x)⟩
 |met f y=>exact⟨_,(show h.get? a=some _ from x)⟩
 |ext φ=>obtain⟨_,e,_⟩:=x;exact e
def AW(B:cE)(fs:List ag)(H':Hp)(h₀ h:cE):Prop:=∀ b o,h.get? b=some o->(H' b≠none\/h₀.get? b≠none)->b∉fs->B.get? b=some o
def tq(P:dr)(w:dA)(mg:Str->Option ae)(rn:List Str):DM:=fun outer H s E e s' =>
 ∃ a n C a0 H' B,e=.ref a/\(n∈rn/\mg n=some (.ref C))/\s'.os=s.os/\AllBare s'.gens/\Un (fN outer) [] H H' s.heap s'.heap/\hX P w H' s'.heap /\
  Rn B outer a (.ref C) a0 s'.heap/\AW B (fN outer) H' s.heap s'.heap/\(∀ b∈fN outer,H' b=none)/\E (.ref C) none H'
structure dC(fs:List ag)(H':Hp)(h₀ h h':cE):Prop where
 keep:∀ b o,h.get? b=some o->(H' b≠none\/h₀.get? b≠none)->b∉fs->h'.get? b=some o
 slot:∀ b o,h.get? b=some o->b∈fs->∃ sl,h'.get? b=some { o with slots:=sl }
theorem dC.of{B:cE}(c:AW B (fN l) H' h₀ h)(st:B.StaysIn h')(up:h.UpToSlots h')(ff:h.FunFrames base l):dC (fN l) H' h₀ h h' :=
 ⟨fun b o e k n=>st b o (c b o e k n),fun b o e m=>by
  obtain⟨_,o',e',d⟩:=ff.mem m;rw[e] at e';cases e';exact up b o e d⟩
theorem dC.trans(a:dC fs H' h₀ h h1)(b:dC fs H' h₀ h1 h2):dC fs H' h₀ h h2 :=
 ⟨fun x o e k n=>b.keep x o (a.keep x o e k n) k n,fun x o e m=>by
  obtain⟨_,e1⟩:=a.slot x o e m;obtain⟨sl,e2⟩:=b.slot x _ e1 m;exact⟨sl,e2⟩⟩
theorem dC.un(m:dC fs H' h₀ h h')(u:Un fs [] H H' h₀ h):Un fs [] H H' h₀ h' where
 keep:=fun b o e n nb nx=>m.keep b o (u.keep b o e n nb nx) (.inr (by rw[e];exact fun z=>nomatch z)) nb
 slot:=fun b o e n hb nx=>by obtain⟨_,e1⟩:=u.slot b o e n hb nx;obtain⟨sl,e2⟩:=m.slot b _ e1 hb;exact⟨sl,e2⟩
 free:=u.free
 there:=fun b o e nx=>by
  obtain⟨o',e1⟩:=u.there b o e nx;by_cases hb:b∈fs
  ·obtain⟨sl,e2⟩:=m.slot b o' e1 hb;exact⟨_,e2⟩
  ·exact⟨o',m.keep b o' e1 (.inr (by rw[e];exact fun z=>nomatch z)) hb⟩
 i9:=u.i9
 rp:=u.rp
 sD:=u.sD
theorem dC.b9{P:dr}(m:dC fs H' h₀ h h')(f:∀ b∈fs,H' b=none)(x:hX P w H' h):hX P w H' h':=fun a o e =>
 (x a o e).eW (fun b u hb q=>by
  have hH:H' b≠none:=by
   rcases hb with z|z
   ·rw[z,e];exact fun z=>nomatch z
   ·rw[z];exact fun z=>nomatch z
  exact m.keep b u q (.inl hH) fun z=>hH (f b z)) (fun _ q=>q) fun _ _ q=>q
section
variable {X:Cx}{pins:List (ag × Obj)}{σ:St}{H H':Hp}{s:ay}{e:ae}
theorem AW.up{B h h':cE}(mI:X.stack=X.env :: X.outer)(hf:X.env.frame=some X.env.locals)(hex:X.ex=[])(I:Inv X pins σ H s)(un:Un (fN X.stack) [] H H' s.heap h)(c:AW B (fN X.stack) H' s.heap h)(m:dC (fN X.stack) H' s.heap h h')(fr:∀ b∈fN X.stack,H' b=none)(b9:hX X.prog X.w H' h) :
  Un X.fs [] X.zS H' X.ft.heap h'/\AW B X.fs H' X.ft.heap h':=by
 have hs:∀ b,b∈fN X.stack↔b=X.env.locals\/b∈X.fs:=fun b=>by rw[mI];unfold fN;rw[AZ,hf];exact eM
 have Nm:∀ b o,X.ft.heap.get? b=some o->b≠X.env.locals:=fun b o e=>gI (oz (eP e) I.ok.above);have Mz:∀ b:ag,b∉X.ex:=fun b z=>by rw[hex] at z;exact nomatch z
 have m':=m.un un;have th:∀ b o,X.ft.heap.get? b=some o->∃ o',s.heap.get? b=some o':=fun b o e=>I.base.there b o e (Mz b);refine⟨⟨fun b o e n nb nx=>?_,fun b o e n hb nx=>?_,fun b o e n nx=>?_,fun b o e nx=>?_,fun b xs e=>un.i9 b xs (I.base.i9 b xs e),fun b ob u e=>un.rp b ob u (I.base.rp b ob u e),fun b ps e=>?_⟩,fun b o e k nb=>?_⟩
 ·exact m'.keep b o (I.base.keep b o e n nb (Mz b)) (I.base.free b o e n (Mz b)) (fun z=>((hs b).mp z).elim (Nm b o e) nb) (by simp)
 ·obtain⟨_,e1⟩:=I.base.slot b o e n hb (Mz b);obtain⟨sl,e2⟩:=m'.slot b _ e1 (I.base.free b o e n (Mz b)) ((hs b).mpr (.inr hb)) (by simp);exact⟨sl,e2⟩
 ·obtain⟨o',e1⟩:=th b o e;exact un.free b o' e1 (I.base.free b o e n (Mz b)) (by simp)
 ·obtain⟨o',e1⟩:=th b o e;exact m'.there b o' e1 (by simp)
 ·obtain⟨m1,e1⟩:=I.base.sD b ps e;obtain⟨m2,e2⟩:=un.sD b _ e1;exact⟨m1++m2,by rw[e2,LR]⟩
 ·have key:∀ o',h.get? b=some o'->(H' b≠none\/s.heap.get? b≠none)->b∉fN X.stack->B.get? b=some o:=fun o' e' k' n'=>by have:=m.keep b o' e' k' n';rw[e] at this;cases this;exact c b o e' k' n'
  rcases k with k|k
  ·have nf:b∉fN X.stack:=fun z=>k (fr b z)
   cases q:H' b with
   |none=>exact absurd q k
   |some u =>obtain⟨o',e'⟩:=gS.there (b9 b u q);exact key o' e' (.inl k) nf
  ·cases q:X.ft.heap.get? b with
   |none=>exact absurd q k
   |some o0 =>obtain⟨o1,e1⟩:=th b o0 q;obtain⟨o2,e2⟩:=un.there b o1 e1 (by simp);exact key o2 e2 (.inr (by rw[e1];exact fun z=>nomatch z)) fun z=>((hs b).mp z).elim (Nm b o0 q) nb
end
section
variable {P:dr}{w:dA}{K:aE}{mg:Str->Option ae}{base:cE}{N:List Str}{qual:Str}{scope:Scope}{f:ag}{cd:ae}{A:eB}{outer:List PySem.Env}{ft:ay}{zS:Hp}{E:XK}{rn:List Str}
theorem vJ(hf:env.frame=some L)(h:b∈fN l):b∈fN (env :: l):=by unfold fN;rw[AZ,hf];exact eI _ h
theorem BX:Passes (tq P w mg rn) (p9 (tq P w mg rn) P w K mg base N qual scope f cd A outer ft zS E) E:=by intro pins σ H s e s' I hx;obtain⟨a,n,C,a0,H',B,he,hn,os,bare,un,b9,FP,cov,fr,hE⟩:=hx;subst he;refine Ff I.ok.frames rfl FP fun h' aw' up=>?_;have mv:=dC.of cov aw'.1 up FP.2.2.1;obtain⟨u1,c1⟩:=AW.up (X:=p9 (tq P w mg rn) P w K mg base N qual scope f cd A outer ft zS E) rfl rfl rfl I un cov mv fr b9;exact⟨a,n,C,a0,H',B,rfl,hn,os.trans I.os,bare,u1,mv.b9 fr b9,aw',c1,fun b hb=>fr b (vJ rfl hb),hE⟩
def qy(X:Cx)(rn:List Str)(E:XK):Prop:=∀ (pins:List (ag × Obj)) (σ:St) (H:Hp) (s:ay) (h':cE) (e:ag) (n:Str) (C:ag) (vs:List ae),Inv X pins σ H s->Heap.MadeExcOf s.heap h' e (.ref C) vs ->
 n∈rn->X.mg n=some (.ref C)->E (.ref C) none H->X.xe (.ref e) { s with heap:=h' }
theorem sX:qy (p9 (tq P w mg rn) P w K mg base N qual scope f cd A outer ft zS E) rn E:=by
 intro pins σ H s h' e n C vs I hx hn hm hE;have st:=I.stack;have ff:s.heap.FunFrames (hideAll s.heap (fN (mh qual scope ft.heap.objs.size f cd :: outer))) (mh qual scope ft.heap.objs.size f cd :: outer):=FunFrames.rebase st fun b hb=>hideAll_none _ hb;refine vh (h:=s.heap) I.ok.frames rfl (fun b o q=>of_hideAll _ q) ff hx fun h'' t FP up=>?_;have ff':h'.FunFrames (hideAll s.heap (fN (mh qual scope ft.heap.objs.size f cd :: outer))) (mh qual scope ft.heap.objs.size f cd :: outer):=ff.of_keeps fun b o q _=>⟨o,hx.keeps b o q,rfl⟩
 have b9:hX P w H h':=I.b9.kept hx.keeps;have fr:∀ b∈fN (mh qual scope ft.heap.objs.size f cd :: outer),H b=none:=I.SY;have cov:AW (hideAll s.heap (fN (mh qual scope ft.heap.objs.size f cd :: outer))) (fN (mh qual scope ft.heap.objs.size f cd :: outer)) H s.heap h':=fun b o q k nb=>by
  have ho:∃ o1,s.heap.get? b=some o1:=by
   rcases k with k|k
   ·cases z:H b with
    |none=>exact absurd z k
    |some u=>exact gS.there (I.b9 b u z)
   ·exact Option.ne_none_iff_exists'.mp k
  obtain⟨o1,e1⟩:=ho;have e2:=hx.keeps b o1 e1;rw[q] at e2;cases e2;exact hideAll_get _ e1 nb
 have mv:dC (fN (mh qual scope ft.heap.objs.size f cd :: outer)) H s.heap h' h'':=dC.of cov FP.1 up ff';obtain⟨u1,c1⟩:=AW.up (X:=p9 (tq P w mg rn) P w K mg base N qual scope f cd A outer ft zS E) rfl rfl rfl I (Un.kept hx.keeps) cov mv fr b9;exact⟨e,n,C,_,H,_,rfl,⟨hn,hm⟩,I.os,I.bare,u1,mv.b9 fr b9,FP,c1,fun b hb=>fr b (vJ rfl hb),hE⟩
def LX(rn:List Str)(mg:Str->Option ae)(E:XK):Str->Hp->Prop:=fun n H'=>n∈rn->∀ C,mg n=some (.ref C)->E (.ref C) none H'
def fC(K:aE)(rn:List Str)(mg:Str->Option ae)(sp:gy):Sp:=fun vs H Qv E=>∃ ds Qd,bT K H ds vs/\sp ds Qd /\ (∀ v H' ax m d As,bG H ax->Wf ax H'->RM K ax H' m d v As->As.Nodup->(∀ a∈As,ax a=none)->Qd m d->Qv v H') /\
 ∀ n H',bG H H'->Qd (.ow false) (.str n)->LX rn mg E n H'
theorem ud(h:fC K rn mg sp vs H Qv E)(hp:∀ ds Q,sp ds Q->t { nx:=fun _=>Q .sh .non,rt:=Q } (aH N.length ds)) :
  AJ K (LX rn mg E) t { nx:=fun _ H'=>Qv .non H',rt:=Qv } (start N vs) H:=by
 obtain⟨ds,Qd,rs,hs,fin,fx⟩:=h;have hl:=rs.length;refine⟨H,aH N.length ds,[],{ nx:=fun _=>Qd .sh .non,rt:=Qd },⟨?_,⟨bG.refl _,fun _ _ e=>e⟩,k9,fun a h=>nomatch h⟩,hp ds Qd hs,?_,?_,?_,?_,fx⟩
 ·unfold aH start;rw[hl];exact SR.start rs
 ·exact fun cf H' ax c9 cS s sr q=>fin .non H' ax .sh .non [] s sr.wf ⟨rfl,.non⟩ k9 (fun a h=>nomatch h) q
 ·exact fun cf H' ax c9 cS s sr q=>q.elim
 ·exact fun cf H' ax c9 cS s sr q=>q.elim
 ·exact fun v H' ax m d As s w r nd own q=>fin v H' ax m d As s w r nd own q
theorem UT.ok{st:Stmt}{ps:List Str}(F:ui K x qual st f fd)(S:Iy N ps (hZ st))(len:∀ ds Q,sp ds Q->ds.length=ps.length)(DS:∀ (dP:ae) (A:eB) (outer:List PySem.Env) (s:ay) (H:Hp) (E:XK),kC k (A.deeper (mh qual (hZ st) s.heap.objs.size f dP))->y9 (p9 (tq P w mg rn) P w K mg base N qual (hZ st) f dP A outer s H E) K (LX rn mg E) (rV st) t)(hp:∀ ds Q,sp ds Q->t { nx:=fun _=>Q .sh .non,rt:=Q } (aH N.length ds)):t5 P w K mg base (tq P w mg rn) (k+1) f fd ps (fC K rn mg sp):=by
 obtain⟨oc,od,kV,doc,pm,an,dP,ct,Ap,rfl,lk,rq⟩:=F.ex;exact Wq lk rq S (fun vs H Q E ⟨ds,Qd,rs,hs,_⟩=>by rw[<- rs.length];exact len ds Qd hs) fun A outer s H vs Q E hr BM=>⟨_,DS dP A outer s H E hr,ud BM hp⟩
structure MA(P:dr)(w:dA)(K:aE)(mg:Str->Option ae)(base:cE)(rn:List Str)(k:Nat)(x:Str)(ps:List Str)(sp:gy):Prop where
 ex:∃ (g:ag) (fd:zv),mg x=some (.ref g)/\EK K (.ref g)=true/\Binds K fd ps []/\t5 P w K mg base (tq P w mg rn) k g fd ps (fC K rn mg sp)
theorem ui.hr'{st:Stmt}{ps:List Str}(F:ui K x qual st f fd)(hm:mg x=some (.ref f))(ok:t5 P w K mg base (tq P w mg rn) k f fd ps (fC K rn mg sp))(h:∀ (kV doc pm:ae) (an:Option ag) (dP ct:ae) (us:List ae),us.length=ps.length->bindArgs (vj x qual (y6 st) (rV st) (hZ st) .none kV doc pm an dP ct) ⟨us,[]⟩=pure (ps.zip us)):MA P w K mg base rn k x ps sp:=⟨f,fd,hm,F.kp,F.binds h,ok⟩
end
def UU(K:aE)(mg:Str->Option ae)(n:Str):Prop:=∃ C,mg n=some (.ref C)/\n4 K C
def tv(m:Md)(d:D)(Y:Str->Prop)(N:Prop):Prop:=match m,d with
 |.ow false,.str n=>Y n
 |_,_=>N
theorem vV{K:aE}(r:RM K Hs H m d v As)(h:tv m d Y N):N:=by
 unfold tv at h;split at h
 ·obtain⟨r,ne⟩:=r;cases r;exact absurd rfl ne
 ·exact h
section
variable {X:Cx}{K:aE}{rn:List Str}{E:XK}{e:Expr}{es:List Expr}{te:WE}{t:WA}{pos:Pos}
def lD(n:Str)(te:WE):WS:=fun E ρ=>te ρ fun _ _=>E.rt (.ow false) (.str n)
theorem yj (hc:X.calm=true) (ok:qy X rn E) (hn:x∈rn) (hm:X.mg x=some (.ref C)) (xc:n4 X.K C) (ha:PA X [e] ta) (hg:Gl X x) (kL:(x == ("__debug__" : Str))=false)(he:bI [e] X.env=[(false,cv e X.env)]):PS X (.Raise (some (.Call (.Name x np) [e] [] dE)) none pos) (fun D σ H=>ta σ H fun vs H1=>vs.length<=bS/\E (.ref C) none H1):=by
 intro pins s σ H D I h;obtain⟨bm,N,nm,q,bs,hdct,sn,sub,ab,col,dd,k0,k1,k2,k3,k5,mN,hC,hN,EA,T⟩:=xc.obj I.mod.Nj;refine wpAny_Raise_call_subT (C:=C) (nm:=nm) (q:=q) (N:=N) (bs:=bs) (bm:=bm) (hdct:=hdct) (sn:=sn) (sub:=sub) (ab:=ab) (col:=col) (dd:=dd) (k0:=k0) (k1:=k1) (k2:=k2) (k3:=k3) (k5:=k5)
  F.excBase_ValueError (mN:=mN) (T.hasType F.excBase_ValueError.hasBase) (I.ok.hd hc) (by rw[he];rfl) EA (Nt I hg hm ⟨rfl,?_⟩ kL)
 have h2:=ha dE pins s σ H _ I h;rw[he] at h2 ⊢;exact Calls.evalArgs_plain (dz h2 fun vs s1 ⟨xs,H1,I1,r,hl,q⟩=>⟨rfl,by rw[<- r.length];exact hl,I1.bk _ _ hC,hN.keeps I1.bk,T.keeps I1.bk,fun h' e' hx=>ok pins σ H1 s1 h' e' x C vs I1 hx hn hm q⟩)
theorem jm (hc:X.calm=true) (ok:qy X rn E) (xc:UU K X.mg x) (hn:x∈rn) (he:QE X K e te) (hg:Gl X x:=by rfl) (kL:(x == ("__debug__" : Str))=false:=by decide) (hK:X.K=K:=by rfl) (hs:bI [e] X.env=[(false,cv e X.env)]:=by rfl):QS X K (LX rn X.mg E) (.Raise (some (.Call (.Name x np) [e] [] dE)) none pos) (lD x te):=by
 subst hK;obtain⟨C,hm,xc⟩:=xc;refine PS.imp (yj hc ok hn hm xc (mr he rL hs) hg kL hs) fun D σ H hx=>jW hx fun Hs ρ ai E' sr h k1 k2 k3 k4 kx=>?_;exact⟨Hs,ρ,ai,_,sr,h,fun v H1 bE m d As g1 r1 f1 q1=>⟨(by decide:1<=bS),kx x H1 (g1.sh.trans g1.wf.sub) q1 hn C hm⟩⟩
section
variable {k:Nat}{x:Str}{ps:List Str}{sp:gy}{p dE:Pos}
theorem BJ (C:MA X.prog X.w X.K X.mg X.base rn k x ps sp) (hr:kC k X.A) (hx:Passes (tq X.prog X.w X.mg rn) X E) (ha:PA X (e :: es) ta) (hg:Gl X x) (kL:(x == ("__debug__" : Str))=false) (he:bI (e :: es) X.env=(false,cv e X.env) :: bI es X.env)(jS:(iP pos (bI es X.env)).any (·.1)=false):PE X (.Call (.Name x p) (e :: es) [] pos) (Iq (fC X.K rn X.mg sp) [] E ta):=by
 obtain⟨g,fd,hm,hk,hb,F⟩:=C.ex;exact Wi F hr hg hm hk hb .nil hx ha kL he jS
theorem uq{σ:St}{H:Hp}{Qv:VK}{Hs:Hp}{ρ:Env}{ai:List ag}{Y:Str->Prop}{Q:Md->D->Prop}(sr:d5 K Hs ρ σ H ai)(h:t ρ fun ps=>sp (ps.map (·.2)) fun m d=>tv m d Y (ck (m,d) (f:=fun p=>Q (B5 p.1 p.2) p.2) ⟨⟩)) (f:∀ v H' ax m d As,e9 Hs H ax H'->RM K ax H' m d v As->bV ax H As->Q m d->Qv v H') (fx:∀ n H',bG Hs H'->Y n->LX rn X.mg E n H'):Iq (fC K rn X.mg sp) [] E (QH K t) σ H Qv:=by
 refine⟨Hs,ρ,ai,_,sr,h,fun vs H1 bE ps As g1 r1 f1 q1=>?_⟩;refine⟨_,_,by rw[kr];exact r1.reps g1.wf,q1,fun v H' ax m d As s w r nd own q=>?_,fun n H' s q=>fx n H' (g1.sh.trans (g1.wf.sub.trans s)) q⟩;obtain⟨g9,r',fr⟩:=lU g1.wf s w r nd own;exact Fin.after f g1 v H' _ (B5 m d) d g9 (cY g1.wf s w) r' fr (vV r q)
def pX(sp:gy)(t:WA):WS:=fun E ρ=>t ρ fun ps=>sp (ps.map (·.2)) fun m d=>tv m d (fun n=>E.rt (.ow false) (.str n)) (ck (m,d) (f:=fun _=>E.nx ρ) ⟨⟩)
variable (C:MA X.prog X.w X.K X.mg X.base rn k x ps sp)(hr:kC k X.A)
include C hr
variable (hx:Passes (tq X.prog X.w X.mg rn) X E)
include hx
theorem nq (ha:QA X K (e :: es) t) (hs:u3 (.Call (.Name x p) (e :: es) [] dE) none pos.line X.env=pure false:=by rfl) (hK:X.K=K:=by rfl) (hg:Gl X x:=by rfl) (kL:(x == ("__debug__" : Str))=false:=by decide) (he:bI (e :: es) X.env=(false,cv e X.env) :: bI es X.env:=by rfl) (jS:(iP dE (bI es X.env)).any (·.1)=false:=by rfl):QS X K (LX rn X.mg E) (.Expr (.Call (.Name x p) (e :: es) [] dE) pos) (pX sp t):=by
 subst hK;exact PS.imp (HP (BJ C hr hx ha hg kL he jS) hs) fun D σ H hx=>jW hx fun Hs ρ ai E' sr h k1 k2 k3 k4 kx=>uq (Q:=fun _ _=>E'.nx ρ) sr h (fun v H1 bE m d As g1 r1 f1 q1=>k1 σ H1 bE ρ ai g1.sh (sr.grow g1) q1) kx
end
def Ki(j:Nat)(a:ag)(b:Bool):WE:=fun ρ Q=>ρ[j]? = some (some (.xc a))/\Q .sh (.bl b)
theorem Bf (hm:X.mg "isinstance" = none) (hp:(a,oe)∈X.pn) (ny:oe.cls=.ref C) (xc:n4 X.K C) (hk:kitOne X.K (.ref C) c=some b) (he:PE X e (DL j)) (ht:PE X e2 (tC vc)) (hvc:∀ u,RelV vc u->u=c)(hg:Gl X "isinstance" := by rfl) (hs:bI (e :: [e2]) X.env=(false,cv e X.env) :: bI [e2] X.env:=by rfl) (jI:bI (e2 :: []) X.env=(false,cv e2 X.env) :: bI [] X.env:=by rfl) (jS:(iP pos (bI [e2] X.env)).any (·.1)=false:=by rfl) :
  QE X K (.Call (.Name "isinstance" p) [e,e2] [] pos) (Ki j a b):=by
 have hc:oI X (.builtin "isinstance") (fun xs H Q=>xs=[.ref a,vc]/\Q (.bl b) H):=by intro pins s σ H xs us Q I r h;obtain⟨rfl,q⟩:=h;obtain⟨u,v,rfl,ru,rv⟩:=Vals.two r;obtain rfl:u=Value.ref a:=ru;obtain rfl:=hvc v rv;obtain⟨ho,_⟩:=I.pin (a,oe) (jv _ hp);exact kia_one (rT xc) I.kB ⟨oe,ho,ny⟩ hk (fun z=>nomatch z) fun tk=>⟨.bl b,H,I.tok tk,rfl,q⟩
 refine PE.imp (P7 hc hg hm dq (mr he (mr ht rL jI) hs) (by decide) (by decide) hs jS) fun σ H Qv hx=>kD hx fun Hs ρ ai Q sr h f=>?_;obtain⟨ea,q⟩:=h;obtain⟨v,e1,r⟩:=sr.sr.get ea;have r:v=V.ref a:=r;subst r;exact⟨_,e1,rfl,Fin.sh f sr.wf (.bl _) q⟩
end
abbrev ig(X:Cx)(pn:List (ag × Obj))(xe:ae->ay->Prop):Cx:={ X with pn:=pn,xe:=xe }
abbrev EB(X:Cx)(pn:List (ag × Obj))(a:ag):Cx:={ X with A:=X.A.mark (some (.ref a)),calm:=false,pn:=pn,xe:=fun _ _=>False }
abbrev Ba(X:Cx)(H:Hp)(s:ay)(p:ag × Obj):Prop:=s.heap.get? p.1=some p.2/\H p.1=none/\p.1≠X.env.locals/\p.1∉X.fs/\∀ v,p.2.data≠.cell v
section
variable {X:Cx}{pins oB pn:List (ag × Obj)}{σ:St}{H:Hp}{s:ay}{xe:ae->ay->Prop}{a:ag}
theorem Inv.ig(I:Inv X pins σ H s)(h:∀ p∈pn++oB,Ba X H s p):Inv (ig X pn xe) oB σ H s :=
 ⟨⟨I.ok.mod,I.ok.kind,I.ok.glob,I.ok.blt,I.ok.above,I.ok.inj,I.ok.has,I.ok.Bz,I.ok.hd,I.ok.frames,I.ok.DF,I.ok.DH,I.ok.bs,I.ok.w9,I.ok.BD,I.ok.BE,I.ok.sF,I.ok.z0⟩,I.os,I.bare,I.base,I.loc,I.cell,I.free,I.pV,h,I.b9,I.len⟩
theorem Inv.lA(I:Inv (L2.Q.ig X pn xe) oB σ H s)(h:∀ p∈X.pn++pins,p∈pn++oB):Inv X pins σ H s :=
 ⟨⟨I.ok.mod,I.ok.kind,I.ok.glob,I.ok.blt,I.ok.above,I.ok.inj,I.ok.has,I.ok.Bz,I.ok.hd,I.ok.frames,I.ok.DF,I.ok.DH,I.ok.bs,I.ok.w9,I.ok.BD,I.ok.BE,I.ok.sF,I.ok.z0⟩,I.os,I.bare,I.base,I.loc,I.cell,I.free,I.pV,fun p hp=>I.pin p (h p hp),I.b9,I.len⟩
theorem Inv.EB(I:Inv (L2.Q.ig X pn xe) oB σ H s)(h:∀ p∈pn2++hy',Ba X H s p):Inv (L2.Q.EB X pn2 a) hy' σ H s :=
 ⟨⟨I.ok.mod,I.ok.kind,I.ok.glob,I.ok.blt,I.ok.above,I.ok.inj,I.ok.has,I.ok.Bz,(fun z=>nomatch z),I.ok.frames,I.ok.DF,I.ok.DH,I.ok.bs,I.ok.w9,I.ok.BD,I.ok.BE,I.ok.sF,I.ok.z0⟩,I.os,I.bare,I.base,I.loc,I.cell,I.free,I.pV,h,I.b9,I.len⟩
theorem Inv.G8(I:Inv (L2.Q.ig X pn xe) pins σ H s):Inv (L2.Q.ig X pn xe2) pins σ H s :=
 ⟨⟨I.ok.mod,I.ok.kind,I.ok.glob,I.ok.blt,I.ok.above,I.ok.inj,I.ok.has,I.ok.Bz,I.ok.hd,I.ok.frames,I.ok.DF,I.ok.DH,I.ok.bs,I.ok.w9,I.ok.BD,I.ok.BE,I.ok.sF,I.ok.z0⟩,I.os,I.bare,I.base,I.loc,I.cell,I.free,I.pV,I.pin,I.b9,I.len⟩
theorem Inv.wu(I:Inv (L2.Q.EB X pn a) oB σ H s)(hd:X.calm=true->X.A.handled=none)(h:∀ p∈X.pn++pins,p∈pn++oB):Inv X pins σ H s :=
 ⟨⟨I.ok.mod,I.ok.kind,I.ok.glob,I.ok.blt,I.ok.above,I.ok.inj,I.ok.has,I.ok.Bz,hd,I.ok.frames,I.ok.DF,I.ok.DH,I.ok.bs,I.ok.w9,I.ok.BD,I.ok.BE,I.ok.sF,I.ok.z0⟩,I.os,I.bare,I.base,I.loc,I.cell,I.free,I.pV,fun p hp=>I.pin p (h p hp),I.b9,I.len⟩
theorem SP.lA{D:Ends}(h:SP (L2.Q.ig X pn xe) oB D f s)(hp:∀ p∈X.pn++pins,p∈pn++oB):SP X pins D f s:=by
 cases f with
 |next=>obtain⟨cf,H',I,q⟩:=h;exact⟨cf,H',Inv.lA I hp,q⟩
 |brk=>obtain⟨cf,H',I,q⟩:=h;exact⟨cf,H',Inv.lA I hp,q⟩
 |cont=>obtain⟨cf,H',I,q⟩:=h;exact⟨cf,H',Inv.lA I hp,q⟩
 |ret u=>obtain⟨v,cf,H',I,r,q⟩:=h;exact⟨v,cf,H',Inv.lA I hp,r,q⟩
theorem Inv.forget(I:Inv X pins σ H s)(hn:h'.Ns X.env.locals m)(hs:Heap.SameBut X.env.locals s.heap h'):Inv X pins (List.replicate X.N.length none) H { s with heap:=h',toks:=t }:=by
 have ne:∀ b o,X.ft.heap.get? b=some o->b≠X.env.locals:=fun b o e=>gI (oz (eP e) I.ok.above);refine⟨I.ok,I.os,I.bare,⟨fun b o e n hb hx=>(hs.2 b (ne b o e)).trans (I.base.keep b o e n hb hx),fun b o e n hb hx=>?_,I.base.free,fun b o e hx=>?_,I.base.i9,I.base.rp,I.base.sD⟩,⟨m,hn,fun i x v e1 e2=>?_⟩,fun x c e=>?_,I.free,I.pV,fun p hp=>?_,fun b o e=>?_,R6⟩
 ·obtain⟨sl,e1⟩:=I.base.slot b o e n hb hx;exact⟨sl,(hs.2 b (ne b o e)).trans e1⟩
 ·obtain⟨o',e1⟩:=I.base.there b o e hx;exact⟨o',(hs.2 b (ne b o e)).trans e1⟩
 ·rw[R5] at e2;split at e2<;>cases e2
 ·obtain⟨v,z⟩:=I.cell x c e;exact⟨v,z.sameBut hs (I.DI x c e)⟩
 ·obtain⟨e,n,nl,nf,d⟩:=I.pin p hp;exact⟨(hs.2 p.1 nl).trans e,n,nl,nf,d⟩
 ·refine(I.b9 b o e).eW (fun c u hc q=>(hs.2 c ?_).trans q) (fun _ q=>q) fun _ _ q=>q;intro z;rcases hc with w|w
  ·rw[<- w,z,I.free] at e;cases e
  ·rw[z,I.free] at w;cases w
end
theorem AW.next{P:dr}{B:cE}(c:AW B fs H' h₀ h)(m:dC fs H' h₀ h h')(b9:hX P w H' h)(th:∀ b o,h₀.get? b=some o->∃ o',h.get? b=some o'):AW B fs H' h₀ h':=fun b o e k nb=>by
 have ho:∃ o',h.get? b=some o':=by
  rcases k with k|k
  ·cases z:H' b with
   |none=>exact absurd z k
   |some u=>exact gS.there (b9 b u z)
  ·obtain⟨o0,e0⟩:=Option.ne_none_iff_exists'.mp k;exact th b o0 e0
 obtain⟨o',e'⟩:=ho;have e2:=m.keep b o' e' k nb;rw[e] at e2;cases e2;exact c b o e' k nb
structure Fw(K:aE)(mg:Str->Option ae)(rn:List Str)(R:Str):Prop where
 ex:∃ r,mg R=some (.ref r)/\n4 K r/\∀ n C,n∈rn->mg n=some (.ref C)->n4 K C/\mroIn K C (.ref r)=some true
end L2.Q
namespace L2.Q
open PySem PySem.Spec PyProof.Rows
theorem mR:j3 "ValueError" = some (.type "ValueError"):=by decide +kernel
end L2.Q
namespace L2.Q.R
open PySem PySem.Spec PyProof.Rows L2.Q
section
variable {E:j9}{ρ:Env}{Q:Md->L2.Q.D->Prop}{te:WE}{tar:WA}{j:Nat}{a:ag}{b:Bool}{sp:gy}{n:Str}{d:L2.Q.D}{Y:Str->Prop}{N:Prop}
theorem GQ:lD n te E ρ=te ρ fun _ _=>E.rt (.ow false) (.str n):=rfl
theorem G7:pX sp tar E ρ=tar ρ fun ps=>sp (ps.map (·.2)) fun m d=>tv m d (fun n=>E.rt (.ow false) (.str n)) (ck (m,d) (f:=fun _=>E.nx ρ) ⟨⟩):=rfl
theorem JS:Ki j a b ρ Q=(ρ[j]? = some (some (.xc a))/\Q .sh (.bl b)):=rfl
theorem KR:tv (.ow false) (.str n) Y N=Y n:=rfl
theorem Jc:tv .sh d Y N=N:=rfl
theorem Ii:tv .bo d Y N=N:=rfl
theorem Ja:tv (.ow true) d Y N=N:=rfl
theorem Kq:tv (.ow b) (.list xs) Y N=N:=by cases b<;>rfl
theorem Lh:tv (.ow b) (.tup xs) Y N=N:=by cases b<;>rfl
theorem JV:tv (.ow b) (.dK xs) Y N=N:=by cases b<;>rfl
theorem K_:tv (.ow b) (.dT xs) Y N=N:=by cases b<;>rfl
end
end L2.Q.R
namespace L2.Q
open PySem PySem.Spec PyProof.Rows PySem.W
theorem t_{K:Frag}:kitAny K t []=some false:=rfl
theorem du{K:Frag}(h:kitOne K t c=some a)(g:kitAny K t r=some b):kitAny K t (c :: r)=some (a || b):=by
 unfold kitAny;rw[h];cases a
 ·exact g
 ·rfl
section
variable {X:Cx}{K:aE}{e:Expr}{es:List Expr}{pos:Pos}
def Ro(vs:List V):TA:=fun _ H Q=>Q vs H
theorem Cp:PA X [] (Ro []):=rL
theorem jq(h:PE X e (tC v))(r:PA X es (Ro vs))(hs:bI (e :: es) X.env=(false,cv e X.env) :: bI es X.env:=by rfl):PA X (e :: es) (Ro (v :: vs)):=mr h r hs
theorem z7{cs:List ag}{us:List ae}(h:Vals (cs.map V.ref) us):us=cs.map Value.ref:=by
 induction cs generalizing us with
 |nil=>exact Paired.n0 h
 |cons c cs ih =>obtain⟨u,us,rfl,r,t⟩:=Paired.c h;rw[show u=Value.ref c from r,ih t];rfl
theorem Ef {j:Nat} {a C:ag} {oe:Obj} {cs:List ag} {b:Bool} {x1} {p p2:Pos} (hm:X.mg "isinstance" = none) (hp:(a,oe)∈X.pn) (ny:oe.cls=.ref C) (xc:n4 X.K C) (hk:kitAny X.K (.ref C) (cs.map Value.ref)=some b) (hz:cs.length<=100) (he:PE X e (DL j)) (ht:PA X es (Ro (cs.map V.ref)))(hg:Gl X "isinstance" := by rfl) (hs:bI (e :: [.Tuple es x1 p2]) X.env=(false,cv e X.env) :: bI [.Tuple es x1 p2] X.env:=by rfl) (jI:bI (.Tuple es x1 p2 :: []) X.env=(false,cv (.Tuple es x1 p2) X.env) :: bI [] X.env:=by rfl) (jS:(iP pos (bI [.Tuple es x1 p2] X.env)).any (·.1)=false:=by rfl) :
  QE X K (.Call (.Name "isinstance" p) [e,.Tuple es x1 p2] [] pos) (Ki j a b):=by
 have hc:oI X (.builtin "isinstance") (fun xs H Q=>∃ t,xs=[.ref a,.ref t]/\H t=some (.tup (cs.map V.ref))/\Q (.bl b) H):=by intro pins s σ H xs us Q I r h;obtain⟨t,rfl,et,q⟩:=h;obtain⟨u,v,rfl,ru,rv⟩:=Vals.two r;obtain rfl:u=Value.ref a:=ru;obtain rfl:v=Value.ref t:=rv;obtain⟨ho,_⟩:=I.pin (a,oe) (jv _ hp);obtain⟨its,ri,o,e1,e2,n,e3⟩:=I.tup et;obtain⟨c',d',dt,sl⟩:=o;cases e2;cases e3;rw[z7 ri] at e1;exact kia_tup (rT xc) I.kB ⟨oe,ho,ny⟩ e1 hk (fun z=>nomatch z) fun tk=>⟨.bl b,H,I.tok tk,rfl,q⟩
 refine PE.imp (P7 hc hg hm dq (mr he (mr (Ts ht) rL jI) hs) (by decide) (by decide) hs jS) fun σ H Qv hx=>kD hx fun Hs ρ ai Q sr h f=>?_;obtain⟨ea,q⟩:=h;obtain⟨v,e1,r⟩:=sr.sr.get ea;have r:v=V.ref a:=r;subst r;refine⟨_,e1,by rw[cK];exact ky hz (by decide),fun t hT=>⟨t,rfl,kQ,?_⟩⟩;have g:=QK (vs:=cs.map V.ref) sr.wf hT;exact Fin.sh (Fin.after f g) g.wf (.bl _) q
end
theorem SR.Am{K:aE}{Hs H:Hp}{ρ:Env}{σ:St}{ai:List ag}{j:Nat}{o:Option V}(s:SR K Hs H (ρ.set j none) σ ai):SR K Hs H (ρ.set j none) (σ.set j o) ai:=by
 generalize e:ρ.set j none=c9 at s
 induction s generalizing ρ j with
 |nil=>exact .nil
 |non s ih =>
  cases ρ with
  |nil=>cases e
  |cons x ρ =>
   cases j with
   |zero=>exact .non s
   |succ j=>exact .non (ih (List.cons.inj e).2)
 |sh r s ih =>
  cases ρ with
  |nil=>cases e
  |cons x ρ =>
   cases j with
   |zero=>cases e
   |succ j=>exact .sh r (ih (List.cons.inj e).2)
 |xc s ih =>
  cases ρ with
  |nil=>cases e
  |cons x ρ =>
   cases j with
   |zero=>cases e
   |succ j=>exact .xc (ih (List.cons.inj e).2)
 |ow ne r s ih =>
  cases ρ with
  |nil=>cases e
  |cons x ρ =>
   cases j with
   |zero=>cases e
   |succ j=>exact .ow ne r (ih (List.cons.inj e).2)
 |lk ne r s ih =>
  cases ρ with
  |nil=>cases e
  |cons x ρ =>
   cases j with
   |zero=>cases e
   |succ j=>exact .lk ne r (ih (List.cons.inj e).2)
 |ob r s ih =>
  cases ρ with
  |nil=>cases e
  |cons x ρ =>
   cases j with
   |zero=>cases e
   |succ j=>exact .ob r (ih (List.cons.inj e).2)
theorem Ai{α:Type}{l:List α}(h:l.Nodup){i j:Nat}{x:α}(a:l[i]? = some x)(b:l[j]? = some x):i=j:=by
 obtain⟨hi,ei⟩:=lP.mp a;obtain⟨hj,ej⟩:=lP.mp b;rcases Nat.lt_trichotomy i j with q|q|q
 ·exact absurd (ei.trans ej.symm) (MR.mp h i j hi hj q)
 ·exact q
 ·exact absurd (ej.trans ei.symm) (MR.mp h j i hj hi q)
section
variable {X:Cx}{pins:List (ag × Obj)}{σ:St}{H:Hp}{s:ay}
theorem Inv.drop(I:Inv X pins σ H s)(hN:X.N.Nodup)(hj:X.N[j]? = some en)(lk:∀ (i:Nat) (x:Str) (v:V),X.N[i]? = some x->σ[i]? = some (some v)->Nk X.env.scope x->∃ u,RelV v u/\Look X.env s.heap m x u)(hn:h'.Ns X.env.locals fun x=>if x=en then v else m x) (hs:Heap.SameBut X.env.locals s.heap h'):Inv X pins (σ.set j none) H { s with heap:=h',toks:=t }:=by
 have F:=Inv.forget (t:=t) I hn hs;refine⟨F.ok,F.os,F.bare,F.base,⟨_,hn,fun i x v' e1 e2 vs=>?_⟩,F.cell,F.free,F.pV,F.pin,F.b9,by rw[List.length_set];exact I.len⟩;have kS:j≠i:=fun z=>by
  subst z;rw[Sj] at e2;split at e2
  ·split at e2<;>cases e2
  ·rename_i z;exact z rfl
 rw[R8 kS] at e2;obtain⟨u,r,l⟩:=lk i x v' e1 e2 vs;refine⟨u,r,?_⟩;rcases l with⟨a,b⟩|⟨a,c,b,d⟩
 ·refine .inl ⟨a,?_⟩;show(if x=en then v else m x)=some u;rw[if_neg fun z=>kS ?_]
  ·exact b
  ·subst z;exact Ai hN hj e1
 ·exact .inr ⟨a,c,b,d.sameBut hs (I.DI x c b)⟩
end
end L2.Q
namespace L2.Q.R
open PySem PySem.Spec PyProof.Rows L2.Q
end L2.Q.R
namespace L2.Q
open PySem PySem.Spec PyProof.Rows
def OW(m:Md)(d:D)(S:D->D->Prop)(O:D->D->Prop):Prop:=match m,d with
 |.sh,.tup [a,b]=>S a b
 |.ow true,.tup [a,b]=>a.flat=false/\b.flat=false/\O a b
 |_,_=>False
def vf(i j:Nat)(te:WE):WS:=fun E ρ=>te ρ fun m d=>OW m d (fun a b=>E.nx ((ρ.set i (some (.sh a))).set j (some (.sh b)))) fun a b=>E.nx ((ρ.set i (some (.ow true a))).set j (some (.ow true b)))
theorem qe{X:Cx}{K:aE}(hc:X.calm=true)(hN:X.N.Nodup)(hi:X.N[i]? = some x)(hx:Loc X.env.scope x)(hj:X.N[j]? = some y)(hy:Loc X.env.scope y)(he:QE X K e te)(hK:X.K=K:=by rfl) (hf:X.fn x=true\/X.env.scope.names.lookup x=some .local:=by first|exact .inl rfl|exact .inr rfl|assumption) (hf2:X.fn y=true\/X.env.scope.names.lookup y=some .local:=by first|exact .inl rfl|exact .inr rfl|assumption) (hn:(qS [.Name x p1,.Name y p2] X.env).length=2:=by rfl) (mI:(qS [.Name x p1,.Name y p2] X.env).findIdx? (·.1)=none:=by rfl) (hs:swapsWithSole [.Tuple [.Name x p1,.Name y p2] k p3] e pos.line X.env=pure false:=by rfl) (hw:swappedStores [.Tuple [.Name x p1,.Name y p2] k p3] e X.env=pure none:=by rfl) (h1:(qS [.Tuple [.Name x p1,.Name y p2] k p3] X.env).map (·.2)=[assign (.Tuple [.Name x p1,.Name y p2] k p3) X.env]:=by rfl) (h2:(qS [.Name x p1,.Name y p2] X.env).map (·.2)=assign (.Name x p1) X.env :: (qS [.Name y p2] X.env).map (·.2):=by rfl) (h3:(qS [.Name y p2] X.env).map (·.2)=assign (.Name y p2) X.env :: (qS [] X.env).map (·.2):=by rfl) :
  QS X K L (.Assign [.Tuple [.Name x p1,.Name y p2] k p3] e pos) (vf i j te):=by
 subst hK;refine PS.imp (cd' he (V1 hc (S_ (S9 hN hi hx hf) (S_ (S9 hN hj hy hf2) V0 h3) h2) hn mI) hs hw h1) fun D σ H hx=>cP hx fun Hs ρ ai E sr h k1 k2 k3 k4=>?_;refine⟨Hs,ρ,ai,_,sr,h,fun v H1 bE m d As g1 r1 f1 q1=>?_⟩;have Rp:=sr.grow g1;unfold OW at q1;split at q1
 ·rename_i a b;obtain⟨_,r⟩:=r1
  cases r with
  |tup z e rs =>
   cases rs with
   |cons ra rs=>cases rs with
    |cons rb rs=>cases rs with
     |nil =>obtain⟨t1,m1,s1⟩:=Rp.B_ i ra;obtain⟨t2,m2,s2⟩:=s1.B_ j rb;exact⟨_,_,rfl,.inl (.inl (g1.wf.sub _ _ e)),rfl,_,_,rfl,_,_,rfl,rfl,k1 _ H1 bE _ t2 g1.sh s2 q1⟩
 ·rename_i a b;obtain⟨fa,fb,q1⟩:=q1;obtain⟨r,ne⟩:=r1
  cases r with
  |sh _ _=>exact absurd rfl ne
  |tup z e n rs =>
   cases rs with
   |@cons _ v1 _ _ A1 _ ra rs=>cases rs with
    |@cons _ v2 _ _ A2 _ rb rs=>cases rs with
     |nil =>
      obtain⟨nd,fr⟩:=f1;rw[kr] at nd fr;obtain⟨n1,n2,n3⟩:=iS.mp nd;have dj:∀ c∈A1++A2,c∉ai:=fun c hc z=>(sr.sr.own c z).ne (fr c hc).2;obtain⟨t1,a1,b1,c1⟩:=SR.uE (ra.ne fa) ra n1 i Rp.sr Rp.sR fun c hc=>dj c (jv _ hc);obtain⟨t2,a2,b2,c2⟩:=SR.uE (rb.ne fb) rb n2 j c1 a1 fun c hc z=>by
       rcases b1 c z with w|w
       ·exact dj c (fe _ hc) w
       ·exact n3 c w c hc rfl
      refine⟨_,_,rfl,.inl (.inl (g1.wf.sub _ _ e)),rfl,_,_,rfl,_,_,rfl,rfl,k1 _ H1 bE _ t2 g1.sh ⟨c2,g1.wf,a2,fun c hc=>?_⟩ q1⟩;rcases b2 c hc with w|w
      ·rcases b1 c w with w|w
       ·exact Rp.own c w
       ·exact(fr c (jv _ w)).1
      ·exact(fr c (fe _ w)).1
 ·exact q1.elim
end L2.Q
namespace L2.Q.R
open PySem PySem.Spec PyProof.Rows L2.Q
section
variable {E:j9}{ρ:Env}{te:WE}{i j:Nat}{x y:L2.Q.D}{S O:L2.Q.D->L2.Q.D->Prop}
theorem JK:vf i j te E ρ=te ρ fun m d=>ck (m,d) (f:=fun p=>OW p.1 p.2 (fun a b=>E.nx ((ρ.set i (some (.sh a))).set j (some (.sh b)))) fun a b=>E.nx ((ρ.set i (some (.ow true a))).set j (some (.ow true b)))) ⟨⟩:=rfl
theorem Hx:OW .sh (.tup [x,y]) S O=S x y:=rfl
theorem Gp:OW (.ow true) (.tup [x,y]) S O=(x.flat=false/\y.flat=false/\O x y):=rfl
end
end L2.Q.R
namespace L2
open PySem PySem.Spec PyProof.Rows Builtin Builtin.Str Builtin.Int
end L2
namespace L2.Q
open PySem PySem.Spec PyProof.Rows
section
variable {X:Cx}{K:aE}{a:Expr}{ta:WE}
def OX(t:WE):WE:=fun ρ Q=>t ρ fun m d=>pU m/\Q .sh d
theorem UW(h:QE X K a ta):QE X K a (OX ta):=by refine PE.imp h fun σ H Qv hx=>kD hx fun Hs ρ ai Q sr h fin=>?_;refine⟨Hs,ρ,ai,_,sr,h,fun v H1 bE m d As g1 r1 f1 q1=>?_⟩;obtain⟨nb,q⟩:=q1;obtain⟨bq,g2,r2⟩:=r1.v8 g1 f1 nb;exact fin v H1 bq .sh d [] g2 ⟨rfl,r2⟩ ⟨k9,fun _ h=>AH h⟩ q
def owl(o:Option (Option Sl))(k:List D->Prop):Prop:=match o with
 |some (some (.ow true (.list xs)))=>k xs
 |_=>False
def intD(y:D)(k:Int->Prop):Prop:=match y with
 |.int i=>k i
 |_=>False
def hD'(d:D):Md:=bif d.flat then .sh else .ow true
end
end L2.Q
namespace L2.Q.R
open PySem PySem.Spec PyProof.Rows L2.Q
section
variable {ρ:Env}{te:WE}{m:Md}{ys:List L2.Q.D}{Q:Md->L2.Q.D->Prop}
theorem Jw:owl (some (some (.ow true (.list ys)))) k=k ys:=rfl
theorem IK:intD (.int i) k=k i:=rfl
theorem hE':OX te ρ Q=te ρ fun m d=>pU m/\Q .sh d:=rfl
end
end L2.Q.R
namespace L2
open PySem PySem.Spec PyProof.Rows
section
variable {prog:dr}{w:dA}{A:eB}{E:ae->ay->Prop}{s:ay}
theorem Ag{κ:Type}[DecidableEq κ]{kd:HeapKind prog w κ}{d b:ag}{xs:List (κ × ag × ae)}{k:κ}{r:ae}{Q:ae->ay->Prop}(hu:kd.room A)(hk:kd.is s.heap k b)(hm:s.heap.DictOfH kd d xs)(hz:xs.length<=bS)(h1:∀ p,atKey xs k=some p->Q p.2 { s with toks:=s.toks+kd.draws k }) (h2:atKey xs k=none->∀ h',h'.DictOfH kd d (storedH xs k b r)->Heap.SameBut d s.heap h'->Q r { s with heap:=h',toks:=s.toks+kd.draws k }):aT (aS prog w) A (dictSetDefault d (.ref b) r) Q E s:=by
 obtain⟨o,es,ep,ho,hc,hd,he,mB,hn⟩:=hm;unfold dictSetDefault;try with_reducible refine oy ?_
 refine ah (kd.pyHash hu hk (ah (wpAny_dictFind_heap (s:={ s with toks:=s.toks+kd.draws k }) hu hk ho hd he mB hn (fun no=>?_) fun j p hj=>?_)))
 ·have nk:=atKey_none_of_get no;refine ah (wd (ah (wpAny_updateDictKeys (hz:=by have e:=size_of_entries he;lia) (s:={ s with toks:=s.toks+kd.draws k }) ho hd (aI (h2 nk _ ?_ (Heap.SameBut.update ..))))));rw[storedH_new nk];refine⟨_,_,ep+1,vn _ ho (Obj.isFreed_of_dict (Obj.data_mapDictKeys hd _)),hc.mapDictKeys _,Obj.data_mapDictKeys hd _,by simp[he,entryOfKey],fun x hx=>?_,?_⟩
  ·rcases eS.mp hx with q|q
   ·exact kd.keeps (mB x q) ho hd (Heap.SameBut.update ..)
   ·obtain rfl:=vk.mp q;exact kd.keeps hk ho hd (Heap.SameBut.update ..)
  ·rw[k6];refine iS.mpr ⟨hn,by simp,fun x hx y hy e=>?_⟩;obtain rfl:y=k:=by simpa using hy
   exact not_mem_keys_of_get no (e ▸ hx)
 ·refine ah (MN (s:={ s with toks:=s.toks+kd.draws k }) ho hd ?_);rw[entry_at he j,hj];exact ah (wd (aI (h1 _ (atKey_of_get hn hj))))
theorem yL{κ:Type}[DecidableEq κ](kd:HeapKind prog w κ)(d b:ag)(hd:(d == u0)=false)(r:ae) :
  MeetsIn prog w (Builtin.«dict.setdefault» ⟨[.ref d,.ref b,r],[]⟩) (fun A R s=>kd.room A.in1/\∃ k xs,kd.is s.heap k b/\s.heap.DictOfH kd d xs/\xs.length<=bS /\ (∀ p,atKey xs k=some p->R (.ok (.ret p.2)) { s with toks:=s.toks+kd.draws k }) /\ (atKey xs k=none->∀ h',h'.DictOfH kd d (storedH xs k b r)->Heap.SameBut d s.heap h'->R (.ok (.ret r)) { s with heap:=h',toks:=s.toks+kd.draws k })) :=
 .of_wp fun A R s d4=>by obtain⟨hu,k,xs,hk,hm,hz,h1,h2⟩:=d4;unfold Builtin.«dict.setdefault» Builtin.Dict.keyAndDefault;refine ah (ah (wpAny_notOrdered_dict hm.typeIs ?_));refine(show aT _ _ (pure (d,Value.ref b,some r)) _ _ s from aI ?_);refine(show aT _ _ (if (d == u0)=true then _ else (dictSetDefault d (Value.ref b) r >>= _)) _ _ s from ?_);rw[if_neg (by rw[hd];decide)];exact ah (Ag hu hk hm hz (fun p q=>aI ⟨p.2,rfl,h1 p q⟩) fun q h' a c=>aI ⟨r,rfl,h2 q h' a c⟩)
end
section
variable {X:Cx}{pins:List (ag × Obj)}{σ:St}{H:Hp}{s:ay}{a b:ag}{A:eB}{E:ae->ay->Prop}
theorem xF(hu:A.units+1<gE)(I:Inv X pins σ H s)(e:H a=some (.dT kvs))(eb:H b=some (.tup (k.map kV)))(hl:kvs.length<bS)(rv:RelV v r)(h1:∀ v' w' s',g7 kvs k=some v'->Inv X pins σ H s'->RelV v' w'->Q w' s') (h2:g7 kvs k=none->∀ s',Inv X pins σ (upd H a (.dT (putK kvs k v))) s'->Q r s') :
  aT (aS X.prog X.w) A (call (.builtin "dict.setdefault") [.ref a,.ref b,r]) Q E s:=by
 obtain⟨z,hd,xs,rel,dd⟩:=dT' I.b9 e;have hz:xs.length<=bS:=by rw[<- Paired.length rel];exact z
 have hp:(putK kvs k v).length<=bS:=by have:=dS' kvs k v;lia
 have vl:=rel.val k;refine call_meetsIn PySem.F.slot_dict_setdefault dd.typeIs PySem.F.entry_dict_setdefault (PySem.F.args_dict_setdefault_3 _ _ _) (yL (CH (kA X.prog X.w)) a b hd r) ⟨ML hu,k,xs,L9 I.b9 eb,dd,hz,fun p gu=>?_,fun hn h' dd' hs=>?_⟩
 ·rw[gu] at vl
  cases ev:g7 kvs k with
  |none=>rw[ev] at vl;exact(vl:False).elim
  |some v'=>rw[ev] at vl;exact h1 v' _ _ ev (I.tok _) vl
 ·have ev:g7 kvs k=none:=by
   rw[hn] at vl
   cases ev:g7 kvs k with
   |none=>rfl
   |some v'=>rw[ev] at vl;exact(vl:False).elim
  refine h2 ev _ ?_;obtain⟨q,es,ep,hq,g2,g3,g4,_,g5⟩:=dd';refine dX' I (by rw[e];exact True.intro) hs ⟨q,hq⟩ ⟨hp,hd,_,(rel.put k eb rv).keeps fun c ys ec=>?_,q,es,ep,hq,g2,g3,g4,g5⟩;rw[iL (bp' ec e fun z=>nomatch z)];exact ec
end
def tSd(td ty tx:TE):TE:=fun σ H Q=>td σ H fun x H1=>∃ a,x=.ref a/\Qi H1 a/\ty σ H1 fun y H2=>tx σ H2 fun z H3=>∃ kvs k b,H3 a=some (.dT kvs)/\y=.ref b/\H3 b=some (.tup (k.map kV))/\kvs.length<bS /\ (∀ v,g7 kvs k=some v->Q v H3)/\(g7 kvs k=none->Q z (upd H3 a (.dT (putK kvs k z))))
theorem Ha {X:Cx} (hu:X.A.units+1<gE) (ho:PE X o td) (he:PE X e ty) (hf:PE X f tx) (m:M2 X o "setdefault" apos e f dE):PE X (.Call (.Attribute o "setdefault" apos) [e,f] [] dE) (tSd td ty tx):=by intro pins s σ H Q I h;refine wpAny_Call_method m.base m.few m.line PySem.F.plainAttrs_dict PySem.F.slot_dict_setdefault PySem.F.type_dict_setdefault (dz (ho pins s σ H _ I h) fun u s1 d4=>?_);obtain⟨x,H1,I1,rx,a,ex,d,q1⟩:=d4;subst ex;cases (show u=Value.ref a from rx);have td:=WU I1 d;refine⟨td.1,td.2.1,?_⟩;rw[m.trees];refine Calls.callWith_builtin rfl (Calls.evalArgs_plain (Calls.spliced_cons (dz (he pins s1 σ H1 _ I1 q1) fun iv s2 dn=>L2.gL dn fun y H2 I2 ry q2=>Calls.spliced_cons (dz (hf pins s2 σ H2 _ I2 q2) fun fv s3 ⟨z,H3,I3,rz,kvs,k,b,e1,e2,e3,hl,q3,q4⟩=>Calls.spliced_nil ?_))));subst e2;cases (show iv=Value.ref b from ry);exact xF hu I3 e1 e3 hl rz (fun v' w' s' ev I' r'=>⟨v',H3,I',r',q3 v' ev⟩) fun ev s' I'=>⟨z,_,I',rz,q4 ev⟩
end L2
namespace L2.Q
open PySem PySem.Spec PyProof.Rows
section
variable {X:Cx}{K:aE}{a b c:Expr}{ta tb tc:WE}{pos apos dE:Pos}
def Rq(x:D)(f:List (Key × D)->Prop)(g:List (List Key × D)->Prop):Prop:=match x with
 |.dK kvs=>f kvs
 |.dT kvs=>g kvs
 |_=>False
def OY(y:D)(k:List D->Prop):Prop:=match y with
 |.tup ys=>k ys
 |_=>False
def FR(o:Option D)(m n:Md)(z:D)(Q:Md->D->Prop):Prop:=match o with
 |some d=>Q (qf m d) d
 |none=>Q n z
def OZ(ta tb tc:WE):WE:=fun ρ Q=>ta ρ fun m x=>Rq x (fun kvs=>tb ρ fun _ y=>tc ρ fun n z=>∃ k,y.key1=some k/\FR (fw kvs k) m n z Q) (fun kvs=>tb ρ fun _ y=>tc ρ fun n z=>OY y fun ys=>∃ ks,dU ys=some ks/\FR (fw kvs ks) m n z Q)
theorem yP(hx:nI K (OZ ta tb tc) σ H Qv):WV (nI K ta) (nI K tb) (nI K tc) σ H Qv:=kD hx fun Hs ρ ai Q sr h fin=>by
 refine⟨Hs,ρ,ai,_,sr,h,fun v H1 bE m x As g1 r1 f1 q1=>?_⟩
 have got:∀ {o:Option V} {d? : Option D} {H2 H3 bq fS:Hp} {w:V} {n:Md} {z:D} {Cs:List ag},e9 bE H1 bq H2->e9 bq H2 fS H3->RM K fS H3 n z w Cs->bV fS H2 Cs->(match d? with
   |some d=>∃ v,o=some v/\Rep K H3 d v/\(m=.sh->Rep K fS d v)
   |none=>o=none)->FR d? m n z Q->Qv (o.getD w) H3:=by
  intro o d? H2 H3 bq fS w n z Cs g2 g3 r3 f3 l q
  cases d? with
  |none=>rw[show o=none from l];exact fin w H3 fS n z Cs ((g1.trans g2).trans g3) r3 (f3.of (g1.trans g2).all) q
  |some d =>obtain⟨v',e,u1,u2⟩:=l;rw[e];exact(Fin.after fin ((g1.trans g2).trans g3)).qf g3.wf u1 u2 q
 have core:∀ G:Hp,bG G H1->(∀ H3 fS,e9 bE H1 fS H3->∀ d v,Rep K G d v->Rep K H3 d v/\(m=.sh->Rep K fS d v))->Rep K G x v->∃ a,v=.ref a/\Qi H1 a/\nI K tb σ H1 fun y H2=>nI K tc σ H2 fun z H3=>∃ o,mz H3 a y o/\Qv (o.getD z) H3:=by
  intro G sg up r
  cases r with
  |dK kk s q =>
   refine⟨_,rfl,.inl ⟨_,bG.rd sg s⟩,bE,ρ,ai,_,sr.grow g1,q1,fun u H2 bq n y Bs g2 r2 f2 q2=>⟨bq,ρ,ai,_,(sr.grow g1).grow g2,q2,fun w H3 fS n3 z Cs g3 r3 f3 q3=>?_⟩⟩;have ry:=(r2.grow g3).rep g3.wf;obtain⟨k,hk,q4⟩:=q3;have ev:=ry.key hk;subst ev;refine⟨_,mz.k' (bG.rd (g2.trans g3).all (bG.rd sg s)),got g2 g3 r3 f3 ?_ q4⟩;have z:=zip_get (k:=k) q;split
   ·rename_i d e;rw[e] at z;obtain⟨v',e',r'⟩:=z;exact⟨v',e',up _ _ (g2.trans g3) _ _ r'⟩
   ·rename_i e;rw[e] at z;exact z
  |dT kk s q =>
   refine⟨_,rfl,.inr ⟨_,bG.rd sg s⟩,bE,ρ,ai,_,sr.grow g1,q1,fun u H2 bq n y Bs g2 r2 f2 q2=>⟨bq,ρ,ai,_,(sr.grow g1).grow g2,q2,fun w H3 fS n3 z Cs g3 r3 f3 q3=>?_⟩⟩;have ry:=(r2.grow g3).rep g3.wf
   cases ry with
   |tup t2 e2 p2 =>
    obtain⟨k,hk,q4⟩:=q3;obtain⟨b',eb,e3⟩:=Rep.kM (.tup t2 e2 p2) hk;cases eb;refine⟨_,mz.t' (bG.rd (g2.trans g3).all (bG.rd sg s)) e3,got g2 g3 r3 f3 ?_ q4⟩;have z:=zip_get (k:=k) q;split
    ·rename_i d e;rw[e] at z;obtain⟨v',e',r'⟩:=z;exact⟨v',e',up _ _ (g2.trans g3) _ _ r'⟩
    ·rename_i e;rw[e] at z;exact z
   |_=>exact q3.elim
  |_=>exact q1.elim
 rcases r1.here g1.wf with⟨hm,r⟩|⟨hm,r⟩
 ·exact core bE g1.wf.sub (fun H3 fS g d v q=>⟨q.same (g1.wf.sub.trans g.all),fun _=>q.same g.sh⟩) r
 ·exact core H1 (bG.refl H1) (fun H3 fS g d v q=>⟨q.same g.all,fun z=>absurd z hm⟩) r
theorem Dk (ha:QE X K a ta) (hb:QE X K b tb) (hc:QE X K c tc) (hm:M2 X a "get" apos b c dE:=by exact⟨rfl,rfl,rfl,rfl⟩) (hu:X.A.units+64<gE:=by assumption):QE X K (.Call (.Attribute a "get" apos) [b,c] [] dE) (OZ ta tb tc) :=
 PE.imp (ee' (by lia) ha hb hc hm) fun σ H Qv hx=>yP hx
def O0(d x:D):D:=match d with
 |.list xs=>.list (xs++[x])
 |d=>d
def mE:List (List Key × D)->List Key->D->List (List Key × D)
 |[],k,x=>[(k,.list [x])]
 |p :: r,k,x=>if p.1=k then (p.1,O0 p.2 x) :: r else p :: mE r k x
def MB(kvs:List (List Key × D))(k:List Key):List (List Key × D):=match fw kvs k with
 |some _=>kvs
 |none=>kvs++[(k,.list [])]
def za:Option D->Prop
 |none=>True
 |some (.list xs)=>xs.length<bS
 |_=>False
def Rr(o:Option (Option Sl))(k:List (List Key × D)->Prop):Prop:=match o with
 |some (some (.ow true (.dT kvs)))=>k kvs
 |_=>False
def Rt(i:Nat)(tk te:WE):WS:=fun E ρ=>Rr ρ[i]? fun kvs=>tk ρ fun _ y=>OY y fun ys=>∃ ks,dU ys=some ks/\kvs.length<bS/\za (fw kvs ks) /\
 te (ρ.set i (some (.ow true (.dT (MB kvs ks))))) fun _ x=>x.flat=true/\E.nx (ρ.set i (some (.ow true (.dT (mE kvs ks x)))))
theorem aX{κ β:Type}[DecidableEq κ](p:κ × β)(r:List (κ × β))(k:κ):fw (p :: r) k=if p.1=k then some p.2 else fw r k:=by by_cases h:p.1=k<;>simp[fw,h]
theorem CW:∀ {kvs:List (List Key × D)},fw kvs k=some d->∃ j,(kvs.map (·.2))[j]? = some d/\(∀ vs:List V,vs.length=kvs.length->g7 ((kvs.map (·.1)).zip vs) k=vs[j]?) /\
  ∀ x,(mE kvs k x).map (·.1)=kvs.map (·.1)/\(mE kvs k x).map (·.2)=(kvs.map (·.2)).set j (O0 d x)
 |[],h=>by simp[fw] at h
 |p :: kvs,h=>by
  rw[aX] at h;by_cases e:p.1=k
  ·rw[if_pos e] at h;cases h;refine⟨0,rfl,fun vs hl=>?_,fun x=>?_⟩
   ·cases vs with
    |nil=>cases hl
    |cons v vs=>exact xa (p:=(p.1,v)) e
   ·simp[mE,e]
  ·rw[if_neg e] at h;obtain⟨j,h1,h2,h3⟩:=CW h;refine⟨j+1,by simpa using h1,fun vs hl=>?_,fun x=>?_⟩
   ·cases vs with
    |nil=>cases hl
    |cons v vs =>show g7 ((p.1,v) :: (kvs.map (·.1)).zip vs) k=_;rw[xh (p:=(p.1,v)) e,h2 vs (by simpa using hl)];rfl
   ·simp[mE,e,h3 x]
theorem pH:∀ {kvs:List (List Key × D)},fw kvs k=none->fw (kvs++[(k,d)]) k=some d
 |[],_=>by simp[fw]
 |p :: kvs,h=>by
  rw[aX] at h;by_cases e:p.1=k
  ·rw[if_pos e] at h;cases h
  ·rw[if_neg e] at h;rw[Pq,aX,if_neg e,pH h]
theorem rY:∀ {kvs:List (List Key × D)},fw kvs k=none->mE (kvs++[(k,.list [])]) k x=mE kvs k x
 |[],_=>by simp[mE,O0]
 |p :: kvs,h=>by
  rw[aX] at h;by_cases e:p.1=k
  ·rw[if_pos e] at h;cases h
  ·rw[if_neg e] at h;rw[Pq,mE,mE,if_neg e,if_neg e,rY h]
theorem d5.place(sr:d5 K Hs ρ σ H ai)(e:ρ[i]? = some (some (.ow fl d))):∃ v,σ[i]? = some (some v)/\Place K Hs H σ fl d v fun fl2 d2=>ρ.set i (some (.ow fl2 d2)):=by obtain⟨v,As,t,e2,ne,r,sb,g⟩:=SR.put i sr.sr e sr.sR;refine⟨v,e2,As,r,ne,sb.nodup sr.sR,fun a h=>sr.own a (sb.subset h),fun bq H2 fl2 d2 fR s2 w2 n2 _ r2 ne2 i6 o2 st=>?_⟩;obtain⟨t2,x,y,z⟩:=g bq H2 fl2 d2 fR s2 r2 ne2 i6 (fun a ha m=>(o2 a ha).2.elim id fun q=>absurd q (sr.sr.own a m).ne) fun a ha m=>st a (sr.sr.own a ha).ne m;exact⟨t2,z,w2,x,fun a h=>(y a h).elim (fun q=>n2 a (sr.own a q) (sr.sr.own a q).ne) fun q=>(o2 a q).1⟩
theorem sJ(sr:d5 K Hs ρ σ H ai)(e1:ρ[i]? = some (some (.ow true (.dT kvs))))(hg:fw kvs ks=some (.list xs)) :
  ∃ a MD c ws,σ[i]? = some (some (.ref a))/\H a=some (.dT MD)/\g7 MD ks=some (.ref c)/\H c=some (.lst ws)/\ws.length=xs.length /\
   ∀ x y,x.flat=true->Rep K Hs x y->ws.length<bS->∃ fo,d5 K Hs (ρ.set i (some (.ow true (.dT (mE kvs ks x))))) σ (upd H c (.lst (ws++[y]))) fo:=by
 obtain⟨v,e2,pl⟩:=sr.place e1;obtain⟨g9,r,ne,nd,own,k⟩:=pl.ex
 cases r with
 |sh hf _=>exact absurd rfl ne
 |@dT a0 vs _ A kk e rs =>
  obtain⟨na,nA⟩:=lT.mp nd;obtain⟨j,ej,ev,es⟩:=CW hg;obtain⟨w,B,e3,r3,sb,g⟩:=rs.at ej nA;have hl:vs.length=kvs.length:=by have:=rs.length;rw[cK] at this;exact this.symm
  cases r3 with
  |sh hf _=>exact absurd (hf rfl) (by simp[D.flat])
  |@list c ws _ B' hz ec Ru =>
   have cA:c∈A:=sb.subset eL;refine⟨a0,_,c,ws,e2,e,(ev vs hl).trans e3,ec,Ru.length.symm,fun x y hx rx hw=>?_⟩;have hca:a0≠c:=fun z=>na (z ▸ cA);obtain⟨nc,nB⟩:=lT.mp (sb.nodup nA);have r4:cx K Hs (upd H c (.lst (ws++[y]))) true (.list (xs++[x])) (.ref c) (c :: B'):=by have:=(Ru.eW (H':=upd H c (.lst (ws++[y]))) (bG.refl _) fun b hb=>iL fun z=>nc (z ▸ hb)).append (az.cons (As:=[]) (.sh (fun _=>hx) rx) .nil);rw[kr,kr] at this;exact .list (by rw[kH];exact hw) kQ this
   obtain⟨fR,n2,y2,_,r5⟩:=g Hs (upd H c (.lst (ws++[y]))) true _ _ (bG.refl _) id r4 (sb.nodup nA) (fun _ h _=>h) (fun b _ nb=>iL fun z=>nb (z ▸ eL));have in2:∀ b∈fR,b∈A:=fun b hb=>(y2 b hb).elim (fun q=>q.1) fun q=>sb.subset q;obtain⟨k1,k2⟩:=es x;have kl:(mE kvs ks x).length=kvs.length:=by have:=congrArg List.length k1;simpa using this
   refine k Hs _ true (.dT (mE kvs ks x)) (a0 :: fR) (bG.refl _) (wX sr.wf (own c (eI _ cA)) fun _ z=>nomatch z) (fun _ h _=>h) id (.dT (vs:=vs) ⟨by rw[kl];exact kk.1,fun p hp=>?_⟩ (by rw[iL hca,k1];exact e) (by rw[k2];exact r5)) (by simp) (lT.mpr ⟨fun z=>na (in2 _ z),n2⟩) (fun b hb=>?_) fun b _ nb=>iL fun z=>nb (z ▸ eI _ cA)
   ·have:p.1∈kvs.map (·.1):=k1 ▸ Sb hp;obtain⟨p',gu,e'⟩:=de.mp this;rw[<- e'];exact kk.2 p' gu
   ·have hb':b∈a0 :: A:=(eM.mp hb).elim (fun z=>z ▸ eL) fun z=>eI _ (in2 b z);exact⟨own b hb',.inl hb'⟩
theorem zO{te:WE}{Hs H:Hp}{ρ:Env}{σ:St}{ai:List ag}{i:Nat}{kvs:List (List Key × D)}{ks:List Key}{xs:List D}{a:ag}{MD:List (List Key × V)}{v':V}{R:Env->Prop}{G:Hp->Prop}(sr:d5 K Hs ρ σ H ai)(e1:ρ[i]? = some (some (.ow true (.dT kvs))))(hg:fw kvs ks=some (.list xs))(hz:xs.length<bS)(eσ:σ[i]? = some (some (.ref a))) (eH:H a=some (.dT MD)) (ev:g7 MD ks=some v') (q:te ρ fun _ x=>x.flat=true/\R (ρ.set i (some (.ow true (.dT (mE kvs ks x)))))) (k1:∀ H' ax c9 cS,bG Hs ax->d5 K ax c9 σ H' cS->R c9->G H') :
  Qf K "list" v' H/\Tr (nI K te) Tq σ H fun us H2=>WL v' us H2 fun _ H3=>G H3:=by
 obtain⟨a',kv',c,ws,f1,f2,f3,f4,f5,f6⟩:=sJ sr e1 hg;have ea:a'=a:=by rw[f1] at eσ;cases eσ;rfl
 subst ea;have ek:kv'=MD:=by rw[f2] at eH;cases eH;rfl
 subst ek;have e':v'=.ref c:=by rw[f3] at ev;cases ev;rfl
 subst e';refine⟨.inl ⟨rfl,_,.inl (.inl f4)⟩,Hs,ρ,ai,_,sr,q,fun y H2 bq m x Cs g2 r2 fr2 q2=>?_⟩;obtain⟨hx,q2⟩:=q2;obtain⟨b',kv2,c2,ws2,h1,h2,h3,h4,h5,h6⟩:=sJ (sr.grow g2) e1 hg;have ea:b'=a':=by rw[f1] at h1;cases h1;rfl
 subst ea;have ek:kv2=kv':=by rw[g2.all _ _ f2] at h2;cases h2;rfl
 subst ek;have e':c2=c:=by rw[f3] at h3;cases h3;rfl
 subst e';obtain⟨fo,nV⟩:=h6 x y hx (r2.flat g2.wf hx) (by lia);exact⟨c2,ws2,y,rfl,rfl,h4,by lia,k1 _ bq _ fo g2.sh nV q2⟩
theorem set_own{α:Type}{ρ:List α}{i:Nat}{x:α}(h:ρ[i]? = some x):ρ.set i x=ρ:=by
 apply Lv;intro j;rw[Sj];split
 ·rename_i e;subst e;have:=(lP.mp h).1;rw[if_pos this,h]
 ·rfl
theorem Gx {L:Str->Hp->Prop} {i:Nat} {p1 p2 p3 p4 p5:Pos} (he:PE X a (DL i)) (hb:QE X K b tb) (hc:QE X K c tc) (hK:X.K=K:=by rfl) (hm:M2 X a "setdefault" p1 b (.List [] p2) p3:=by exact⟨rfl,rfl,rfl,rfl⟩) (hs:u3 (.Call (.Attribute (.Call (.Attribute a "setdefault" p1) [b,.List [] p2] [] p3) "append" p4) [c] [] p5) none pos.line X.env=pure false:=by rfl) (oP:ya (.Call (.Attribute a "setdefault" p1) [b,.List [] p2] [] p3) "append" X.env (cv (.Call (.Attribute a "setdefault" p1) [b,.List [] p2] [] p3) X.env)=cv (.Call (.Attribute a "setdefault" p1) [b,.List [] p2] [] p3) X.env:=by rfl) (rU:((iP p5 (bI [c] X.env)).all (fun x=>!x.1) && (backToKw p5 (CF [] X.env)).all (fun x=>x.1.isSome)
   && decide ([c].length+([]:List pz).length+(if ([]:List pz).isEmpty then 0 else 1)<30))=true:=by rfl)
  (hline:(p4.endLine == p5.line)=true:=by rfl) (se:bI (c :: []) X.env=(false,cv c X.env) :: bI [] X.env:=by rfl) (w_:(iP p5 (bI [] X.env)).any (·.1)=false:=by rfl) (hu:X.A.units+64<gE:=by assumption) :
  QS X K L (.Expr (.Call (.Attribute (.Call (.Attribute a "setdefault" p1) [b,.List [] p2] [] p3) "append" p4) [c] [] p5) pos) (Rt i tb tc):=by
 subst hK;refine PS.imp (HP (L7 PySem.F.plainAttrs_list PySem.F.slot_list_append PySem.F.type_list_append TC (Ha (by lia) he hb (c7 (K:=X.K) aq) hm) (mr hc rL se) oP rU hline se w_) hs) fun D σ H hx=>cP hx fun Hs ρ ai E sr h k1 k2 k3 k4=>?_;unfold Rt Rr at h;split at h
 ·rename_i kvs e1;obtain⟨v,e2,pl⟩:=sr.place e1;obtain⟨g9,r,ne,nd,own,k⟩:=pl.ex;have lv:∀ x∈g9,Hs x=none/\H x≠none:=fun x hx=>⟨own x hx,(r.own x hx).ne⟩
  cases r with
  |sh hf _=>exact absurd rfl ne
  |@dT a0 vs _ A kk e rs =>
   refine⟨_,e2,a0,rfl,.inr ⟨_,.inl e⟩,Hs,ρ,ai,_,sr,h,fun u H2 bq m y Bs g2 r2 f2 q2=>?_⟩;refine⟨bq,ρ,ai,fun m d=>m=.ow true/\d=.list [],sr.grow g2,⟨eT _,rfl,rfl⟩,fun w H3 fS n z Cs g3 r3 f3 q3=>?_⟩;obtain⟨rfl,rfl⟩:=q3;have ry:=(r2.grow g3).rep g3.wf
   cases ry with
   |tup t2 ey p2 =>
    obtain⟨ks,hk,hz,ub,q⟩:=q2;obtain⟨b',eb,e3⟩:=Rep.kM (.tup t2 ey p2) hk;cases eb;have g:=g2.trans g3;have hl:kvs.length=vs.length:=by have:=rs.length;rwa[cK] at this
    have srg:=sr.grow g;have zg:=zip_get (k:=ks) (rs.reps (G:=H) sr.wf.sub fun _ _=>rfl);refine⟨_,ks,_,g.all _ _ e,rfl,e3,by rw[List.length_zip,cK,<- hl,Nat.min_self];exact hz,fun v' ev=>?_,fun ev=>?_⟩
    ·cases hg:fw kvs ks with
     |none=>rw[hg] at zg;rw[zg] at ev;cases ev
     |some d =>
      rw[hg] at ub
      cases d with
      |list xs =>rw[show MB kvs ks=kvs by unfold MB;rw[hg],set_own e1] at q;exact zO (G:=fun H'=>D.nx σ H') srg e1 hg ub e2 (g.all _ _ e) ev q fun H' ax c9 cS s1 s2 q'=>k1 σ H' ax c9 cS (g.sh.trans s1) s2 q'
      |_=>exact ub.elim
    ·have hg:fw kvs ks=none:=by
      cases hg:fw kvs ks with
      |none=>rfl
      |some d=>rw[hg] at zg;obtain⟨v',z,_⟩:=zg;rw[z] at ev;cases ev
     rw[show MB kvs ks=kvs++[(ks,.list [])] by unfold MB;rw[hg]] at q;obtain⟨r3,_⟩:=r3
     cases r3 with
     |sh hf _=>exact absurd (hf rfl) (by simp[Q.D.flat])
     |@list c ws _ B' hw ec Ru =>
      cases Ru;obtain⟨na,nA⟩:=lT.mp nd;have fc:=f3.2 c eL;have Rv:H c=none:=g2.all.free fc.2;have cA:∀ b∈a0 :: A,b≠c:=fun b hb z=>by
       subst z;rcases eM.mp hb with rfl|hb
       ·rw[e] at Rv;cases Rv
       ·exact(rs.own _ hb).ne Rv
      have ek:putK ((kvs.map (·.1)).zip vs) ks (V.ref c)=((kvs++[(ks,Q.D.list [])]).map (·.1)).zip (vs++[V.ref c]):=by have:=NK ks ((kvs.map (·.1)).zip vs);rw[ev] at this;unfold putK;rw[this,if_neg (by decide),k6,List.zip_append (by rw[cK];exact hl)];rfl
      obtain⟨kl,ko⟩:=yO p2 hk;have l1:=p2.length;have rs3:=rs.grow g.sh g.all;have rs4:az X.K fS (upd H3 a0 (.dT (((kvs++[(ks,Q.D.list [])]).map (·.1)).zip (vs++[V.ref c])))) true ((kvs++[(ks,Q.D.list [])]).map (·.2)) (vs++[V.ref c]) (A++[c]):=by have q1:=rs3.eW (H':=upd H3 a0 (.dT (((kvs++[(ks,Q.D.list [])]).map (·.1)).zip (vs++[V.ref c])))) (bG.refl _) fun b hb=>iL fun z=>na (z ▸ hb);have q2:=q1.append (az.cons (cx.list (ds:=[]) (As:=[]) hw ((iL fun z=>cA a0 eL z.symm).trans ec) .nil) .nil);rw[show(kvs++[(ks,Q.D.list [])]).map (·.2)=kvs.map (·.2)++[Q.D.list []] by simp];exact q2
      obtain⟨fo,nV⟩:=k.node (fl2:=true) (d2:=.dT (kvs++[(ks,.list [])])) (C:=A++[c]) g lv (fun _ z=>by cases z) id (.dT ⟨by rw[kH];exact hz,fun p hp=>(eS.mp hp).elim (kk.2 p) fun z=>by
        obtain rfl:p=(ks,.list []):=by simpa using z
        exact⟨by show ks.length<=_;lia,ko⟩⟩ kQ rs4)
       (iS.mpr ⟨nA,by simp,fun x hx y hy z=>cA x (eI _ hx) (by rw[z];simpa using hy)⟩) (fun z=>(eS.mp z).elim na fun z=>cA a0 eL (by simpa using z))
       (fun x hx=>(eS.mp hx).imp id fun z=>by
        obtain rfl:x=c:=by simpa using z
        exact⟨fc.1,Rv⟩)
      rw[ek];have hi:i<ρ.length:=(lP.mp e1).1;refine zO (G:=fun H'=>D.nx σ H') (R:=E.nx) (kvs:=kvs++[(ks,.list [])]) (xs:=[]) nV (by simp[hi]) (pH hg) (by rw[hJ];decide) e2 kQ (by rw[<- ek,dR',if_pos rfl]) ?_ fun H' ax c9 cS s1 s2 q'=>k1 σ H' ax c9 cS (g.sh.trans s1) s2 q';simp only[List.set_set,rY hg];exact q
   |_=>exact q2.elim
 ·exact h.elim
end
end L2.Q
namespace L2
open PySem PySem.Spec PyProof.Rows
end L2
namespace L2.Q
open PySem PySem.Spec PyProof.Rows
section
def hO'(d:D)(k:List (Key × D)->Prop):Prop:=match d with
 |.dK kvs=>k kvs
 |_=>False
end
end L2.Q
namespace L2.Q.R
open PySem PySem.Spec PyProof.Rows L2.Q
section
variable {ρ:Env}{E:j9}{te tb tc tk:WE}{m:Md}{x y:L2.Q.D}{ys:List L2.Q.D}{Q:Md->L2.Q.D->Prop}{i k:Nat}
theorem J1{kvs:List (Key × L2.Q.D)}{k:List (Key × L2.Q.D)->Prop}:hO' (.dK kvs) k=k kvs:=rfl
theorem Kw:OZ te tb tc ρ Q=te ρ fun m x=>ck x (f:=fun x=>Rq x (fun kvs=>tb ρ fun _ y=>tc ρ fun n z=>∃ k,y.key1=some k/\FR (fw kvs k) m n z Q) (fun kvs=>tb ρ fun _ y=>tc ρ fun n z=>ck y (f:=fun y=>OY y fun ys=>∃ ks,dU ys=some ks/\FR (fw kvs ks) m n z Q) ⟨⟩)) ⟨⟩:=rfl
theorem JT:Rq (.dK kvs) f g=f kvs:=rfl
theorem Kh:Rq (.dT kvs) f g=g kvs:=rfl
theorem K9{k:List L2.Q.D->Prop}:OY (.tup ys) k=k ys:=rfl
theorem hQ':Rt i tk te E ρ=ck ρ[i]? (f:=fun o=>Rr o fun kvs=>tk ρ fun _ y=>ck y (f:=fun y=>OY y fun ys=>∃ ks,dU ys=some ks/\kvs.length<bS/\za (fw kvs ks) /\
 te (ρ.set i (some (.ow true (.dT (MB kvs ks))))) fun _ x=>x.flat=true/\E.nx (ρ.set i (some (.ow true (.dT (mE kvs ks x)))))) ⟨⟩) ⟨⟩:=rfl
theorem Lf{kvs:List (List Key × L2.Q.D)}{k:List (List Key × L2.Q.D)->Prop}:Rr (some (some (.ow true (.dT kvs)))) k=k kvs:=rfl
end
end L2.Q.R
namespace L2
open PySem PySem.Spec PyProof.Rows
section
variable {X:Cx}
def ly{α:Type}(xs:List α)(k:Nat)(y:α):List α:=xs.take k++y :: xs.drop k
def hR':V->List V->Hp->VK->Prop:=fun x vs H Q=>∃ l xs i y,x=.ref l/\vs=[.int i,y]/\H l=some (.lst xs)/\0<=i/\i<=bS/\xs.length<bS/\Q .non (upd H l (.lst (ly xs i.toNat y)))
theorem Al{α:Type}(xs:List α)(k:Nat)(y:α):(xs.toArray.extract 0 (min k xs.length)).push y++xs.toArray.extract (min k xs.length)=(ly xs k y).toArray:=by
 apply Nf.mp;rcases Nat.le_total k xs.length with h|h
 ·rw[LD h];simp[ly];exact Lq (by rw[A6];lia)
 ·rw[Nat.min_eq_right h];simp[ly,Lq h,List.drop_eq_nil_of_le h]
theorem De:NH X "list.insert" hR':=by
 intro pins s σ H x vs v us Q I rx rv h;obtain⟨l,xs,i,y,rfl,rfl,hH,h0,h1,hz,q⟩:=h;cases rx;obtain⟨u,w,rfl,ru,rS⟩:=rv.two;obtain⟨t,rfl⟩:=ru;obtain⟨z,its,n,r,hl,e⟩:=I.L8 hH;have hs:bS<2 ^ 62:=by rw[hJ];decide
 have Mv:¬ (!Builtin.List.listFitsIndex i)=true:=by rw[fitsIndex_both (by lia) (by lia)];decide
 refine call_meets F.slot_list_insert ⟨_,e,rfl⟩ F.entry_list_insert (F.args_list_insert_3 _ _ _) (AutoSeq1.list_insert_list_int_val_1 l its.toArray n i t w Mv (by rw[hG];lia)) ⟨e,?_⟩;have ei:(if i<0 then (i+(its.toArray.size:Int)).toNat else min i.toNat its.toArray.size)=min i.toNat its.length:=by rw[if_neg (by lia),hG]
 have rl:Vals (ly xs i.toNat y) (ly its i.toNat w):=(r.take i.toNat).append (.cons rS (r.drop i.toNat));refine⟨.non,_,I.NJ (its':=ly its i.toNat w) hH e ?_ rl ?_,rfl,q⟩
 ·show(its.toArray.extract 0 (if i<0 then (i+(its.toArray.size:Int)).toNat else min i.toNat its.toArray.size)).push w++its.toArray.extract (if i<0 then (i+(its.toArray.size:Int)).toNat else min i.toNat its.toArray.size)=_;rw[ei];exact Al its i.toNat w
 ·unfold ly;simp;lia
end
end L2
namespace L2.Q
open PySem PySem.Spec PyProof.Rows
section
variable {X:Cx}{K:aE}{L:Str->Hp->Prop}{e e2 e3:Expr}{p:WP}{te I0 te3:WE}{apos dE pos:Pos}
theorem yX:j3 "int" = some (.type "int"):=by decide +kernel
def BP(p:WP)(tk:WE):WS:=fun E ρ=>p ρ fun fl d up=>match d with
 |.list xs=>tk ρ fun _ j=>match j with
  |.int j=>∃ y,0<=j/\xs[j.toNat]? = some y/\y.flat=true/\E.nx (up fl (.list (xs.eraseIdx j.toNat)))
  |_=>False
 |_=>False
theorem Place.short(pl:Place K bE H1 σ fl (.list xs) v up)(e:v=.ref a)(h:H1 a=some (.lst vs)):vs.length<=bS:=by
 subst e;rcases pl.ex with⟨g9,r,ne,_⟩
 cases r with
 |sh _ _=>exact absurd rfl ne
 |list hz e3 _=>rw[h] at e3;cases e3;exact hz
theorem z8(ho:QP X K e p)(he:QE X K e2 I0)(hK:X.K=K:=by rfl) (oP:ya e "pop" X.env (cv e X.env)=cv e X.env:=by rfl) (rU:((iP dE (bI [e2] X.env)).all (fun x=>!x.1) && (backToKw dE (CF [] X.env)).all (fun x=>x.1.isSome)
   && decide ([e2].length+([]:List pz).length+(if ([]:List pz).isEmpty then 0 else 1)<30))=true:=by rfl)
  (hline:(apos.endLine == dE.line)=true:=by rfl) (se:bI (e2 :: []) X.env=(false,cv e2 X.env) :: bI [] X.env:=by rfl) (w_:(iP dE (bI [] X.env)).any (·.1)=false:=by rfl)
  (hs:u3 (.Call (.Attribute e "pop" apos) [e2] [] dE) none pos.line X.env=pure false:=by rfl) :
  QS X K L (.Expr (.Call (.Attribute e "pop" apos) [e2] [] dE) pos) (BP p I0):=by
 subst hK;refine PS.imp (HP (L7 PySem.F.plainAttrs_list PySem.F.slot_list_pop PySem.F.type_list_pop dO' ho (mr he rL se) oP rU hline se w_) hs) fun D σ H hx=>cP hx fun Hs ρ ai E sr h k1 k2 k3 k4=>?_;refine⟨Hs,ρ,ai,_,sr,h,fun v H1 bE fl d up g1 p1 q1=>?_⟩
 cases d with
 |list xs =>
  obtain⟨a1,UD,e1,s1⟩:=p1.Rb g1.wf;refine⟨by subst e1;exact .inl ⟨rfl,_,s1⟩,bE,ρ,ai,_,sr.grow g1,q1,fun w H2 bq m jd As g2 r2 f2 q2=>?_⟩;have rj:=r2.rep g2.wf
  cases rj with
  |int j =>
   obtain⟨y,hj,ey,fy,q2⟩:=q2;obtain⟨a,vs,A,ea,e2,UX,rs,nd,hn,k⟩:=p1.put g2;have hz0:=p1.short ea UX;obtain⟨nA,JJ⟩:=lT.mp nd;obtain⟨u,eu,ru⟩:=rs.gl' ey fy g2.wf;obtain⟨B,sb,rb⟩:=rs.erase j.toNat;have gp:=(lP.mp eu).1;have Ou:bS<2 ^ 62:=by rw[hJ];decide
   refine⟨a,vs,j,j.toNat,u,ea,rfl,e2,by lia,by lia,?_,eu,?_⟩
   ·unfold seqIndex?;simp only[show ¬ j<0 by lia,if_false];rw[if_pos (by simp only[k7,decide_eq_true_eq];lia)]
   ·obtain⟨fo,nV⟩:=k fl _ _ B id rb (by rw[R9];split<;>lia) (sb.nodup JJ) (fun z=>nA (sb.subset z)) (fun x hx=>.inl (sb.subset hx));exact k1 _ _ bq _ fo (g1.sh.trans g2.sh) nV q2
  |_=>exact q2.elim
 |_=>exact q1.elim
theorem az.ins(r:cx K Hs H fl d v [])(k:Nat)(q:az K Hs H fl ds vs As):az K Hs H fl (ly ds k d) (ly vs k v) As:=by
 induction k generalizing ds vs As with
 |zero=>exact az.cons r q
 |succ k ih =>
  cases ds with
  |nil =>obtain⟨rfl,rfl⟩:=q.n0;exact az.cons r .nil
  |cons e ds =>obtain⟨u,us,A,B,rfl,rfl,q,qs⟩:=q.c;exact az.cons q (ih qs)
def UY(p:WP)(tk te:WE):WS:=fun E ρ=>p ρ fun fl d up=>match d with
 |.list xs=>tk ρ fun _ j=>te ρ fun _ x=>match j with
  |.int j=>0<=j/\j<=bS/\xs.length<bS/\x.flat=true/\E.nx (up fl (.list (ly xs j.toNat x)))
  |_=>False
 |_=>False
theorem Ec(ho:QP X K e p)(he:QE X K e2 I0)(UZ:QE X K e3 te3)(hK:X.K=K:=by rfl) (oP:ya e "insert" X.env (cv e X.env)=cv e X.env:=by rfl) (rU:((iP dE (bI [e2,e3] X.env)).all (fun x=>!x.1) && (backToKw dE (CF [] X.env)).all (fun x=>x.1.isSome)
   && decide ([e2,e3].length+([]:List pz).length+(if ([]:List pz).isEmpty then 0 else 1)<30))=true:=by rfl)
  (hline:(apos.endLine == dE.line)=true:=by rfl) (se:bI (e2 :: [e3]) X.env=(false,cv e2 X.env) :: bI [e3] X.env:=by rfl) (Ql:bI (e3 :: []) X.env=(false,cv e3 X.env) :: bI [] X.env:=by rfl) (w_:(iP dE (bI [e3] X.env)).any (·.1)=false:=by rfl)
  (hs:u3 (.Call (.Attribute e "insert" apos) [e2,e3] [] dE) none pos.line X.env=pure false:=by rfl) :
  QS X K L (.Expr (.Call (.Attribute e "insert" apos) [e2,e3] [] dE) pos) (UY p I0 te3):=by
 subst hK;refine PS.imp (HP (L7 PySem.F.plainAttrs_list PySem.F.slot_list_insert PySem.F.type_list_insert De ho (mr he (mr UZ rL Ql) se) oP rU hline se w_) hs) fun D σ H hx=>cP hx fun Hs ρ ai E sr h k1 k2 k3 k4=>?_;refine⟨Hs,ρ,ai,_,sr,h,fun v H1 bE fl d up g1 p1 q1=>?_⟩
 cases d with
 |list xs =>
  obtain⟨a1,UD,e1,s1⟩:=p1.Rb g1.wf;refine⟨by subst e1;exact .inl ⟨rfl,_,s1⟩,bE,ρ,ai,_,sr.grow g1,q1,fun w H2 bq m jd As g2 r2 f2 q2=>⟨bq,ρ,ai,_,(sr.grow g1).grow g2,q2,fun y H3 fS m3 x Ob g3 r3 f3 q3=>?_⟩⟩;have rj:=(r2.grow g3).rep g3.wf
  cases rj with
  |int j =>obtain⟨h0,h1,hz,fx,q3⟩:=q3;obtain⟨a,vs,A,ea,e2,UX,rs,nd,hn,k⟩:=p1.put (g2.trans g3);obtain⟨nA,JJ⟩:=lT.mp nd;have hl:=rs.length;refine⟨a,vs,j,y,ea,rfl,e2,h0,h1,by lia,?_⟩;obtain⟨fo,nV⟩:=k fl _ _ A id (az.ins (.sh (fun _=>fx) (r3.flat g3.wf fx)) j.toNat rs) (by unfold ly;simp;lia) JJ nA (fun x hx=>.inl hx);exact k1 _ _ fS _ fo ((g1.sh.trans g2.sh).trans g3.sh) nV q3
  |_=>exact q3.elim
 |_=>exact q1.elim
def O1(p:WP)(te:WE):WS:=fun E ρ=>p ρ fun fl d up=>match d with
 |.list xs=>te ρ fun m y=>m=.ow true/\match y with
  |.list ys=>dQ ys=true/\xs.length+ys.length<=bS/\E.nx (up fl (.list (xs++ys)))
  |_=>False
 |_=>False
theorem uK (ho:QP X K e p) (he:QE X K e2 te) (hK:X.K=K:=by rfl) (hs:u3 (.Call (.Attribute e "extend" apos) [e2] [] dE) none pos.line X.env=pure false:=by rfl) (oP:ya e "extend" X.env (cv e X.env)=cv e X.env:=by rfl) (rU:((iP dE (bI [e2] X.env)).all (fun x=>!x.1) && (backToKw dE (CF [] X.env)).all (fun x=>x.1.isSome)
   && decide ([e2].length+([]:List pz).length+(if ([]:List pz).isEmpty then 0 else 1)<30))=true:=by rfl)
  (hline:(apos.endLine == dE.line)=true:=by rfl) (se:bI (e2 :: []) X.env=(false,cv e2 X.env) :: bI [] X.env:=by rfl) (w_:(iP dE (bI [] X.env)).any (·.1)=false:=by rfl) :
  QS X K L (.Expr (.Call (.Attribute e "extend" apos) [e2] [] dE) pos) (O1 p te):=by
 subst hK;refine PS.imp (HP (L7 PySem.F.plainAttrs_list PySem.F.slot_list_extend PySem.F.type_list_extend dL' ho (mr he rL se) oP rU hline se w_) hs) fun D σ H hx=>cP hx fun Hs ρ ai E sr h k1 k2 k3 k4=>?_;refine⟨Hs,ρ,ai,_,sr,h,fun v H1 bE fl d up g1 p1 q1=>?_⟩
 cases d with
 |list xs =>
  obtain⟨a1,UD,e1,s1⟩:=p1.Rb g1.wf;refine⟨by subst e1;exact .inl ⟨rfl,_,s1⟩,bE,ρ,ai,_,sr.grow g1,q1,fun y H2 bq m x As g2 r2 f2 q2=>?_⟩;obtain⟨rfl,q2⟩:=q2;obtain⟨a,vs,A,ea,e2,UX,rs,nd,hn,k⟩:=p1.put g2;obtain⟨r,ne⟩:=r2
  cases r with
  |sh _ _=>exact absurd rfl ne
  |list hz e3 Ra =>obtain⟨fy,hl,q2⟩:=q2;obtain⟨nA,JJ⟩:=lT.mp nd;have l1:=rs.length;have l2:=Ra.length;refine⟨a,_,vs,_,ea,rfl,e2,e3,by lia,?_⟩;obtain⟨fo,nV⟩:=k fl (xs++_) (vs++_) (A++[]) id (rs.append (bT.owned ((Ra.reps g2.wf.sub fun _ _=>rfl).gP g2.wf.i9 fy) fy)) (by rw[kH];lia) (by simpa using JJ) (by simpa using nA) (fun x hx=>.inl (by simpa using hx));exact k1 _ _ bq _ fo (g1.sh.trans g2.sh) nV q2
  |_=>exact q2.elim
 |_=>exact q1.elim
theorem xX:Qc X "str.upper" (fun x xs H Q=>∃ z,x=.str z/\xs=[]/\z.length<=1000/\Q (.str (Txt.upper z)) H):=by intro pins s σ H x vs v us Q I rx rv h;obtain⟨z,rfl,rfl,hz,q⟩:=h;obtain⟨t,rfl⟩:=rx;have TF:=rv.zero;subst TF;exact PyProof.Rows.SCL.upper (by lia) fun _=>⟨.str _,H,I.tok _,⟨_,rfl⟩,q⟩
def wI:W1:=fun _ x Q=>match x with
 |.str z=>z.length<=1000/\Q .sh (.str (Txt.upper z))
 |_=>False
theorem Bv (ho:QE X K e te) (oP:ya e "upper" X.env (cv e X.env)=cv e X.env:=by rfl) (hline:(apos.endLine == dE.line)=true:=by rfl):QE X K (.Call (.Attribute e "upper" apos) [] [] dE) (fP wI te):=by
 refine PE.imp (WD PySem.F.plainAttrs_str PySem.F.slot_str_upper PySem.F.type_str_upper xX ho oP hline) fun σ H Qv hx=>kD hx fun Hs ρ ai Q sr h f=>?_;refine⟨Hs,ρ,ai,_,sr,h,fun v H1 bE m x As g1 r1 f1 q1=>?_⟩;have r:=r1.rep g1.wf
 cases r with
 |@str z hz =>obtain⟨h1,q⟩:=q1;have:=PyProof.Rows.len_upper z;exact⟨rfl,_,rfl,rfl,h1,Fin.sh (Fin.after f g1) g1.wf (.str (by rw[hJ];lia)) q⟩
 |_=>exact q1.elim
end
end L2.Q
namespace L2.Q.R
open PySem PySem.Spec PyProof.Rows L2.Q
section
variable {ρ:Env}{E:j9}{te tk:WE}{m:Md}{Q:Md->L2.Q.D->Prop}{p:WP}{xs ys:List L2.Q.D}{k:List L2.Q.D->Prop}
def O3(d:L2.Q.D)(k:List L2.Q.D->Prop):Prop:=match d with
 |.list xs=>k xs
 |_=>False
theorem K4:O3 (.list xs) k=k xs:=rfl
theorem Jo:BP p tk E ρ=p ρ fun fl d up=>ck d (f:=fun d=>O3 d fun xs=>tk ρ fun _ j=>ck j (f:=fun j=>intD j fun j=>∃ y,0<=j/\xs[j.toNat]? = some y/\y.flat=true/\E.nx (up fl (.list (xs.eraseIdx j.toNat)))) ⟨⟩) ⟨⟩:=rfl
theorem J9:UY p tk te E ρ=p ρ fun fl d up=>ck d (f:=fun d=>O3 d fun xs=>tk ρ fun _ j=>te ρ fun _ x=>ck j (f:=fun j=>intD j fun j=>0<=j/\j<=bS/\xs.length<bS/\x.flat=true/\E.nx (up fl (.list (ly xs j.toNat x)))) ⟨⟩) ⟨⟩:=rfl
theorem J0:O1 p te E ρ=p ρ fun fl d up=>ck d (f:=fun d=>O3 d fun xs=>te ρ fun m y=>m=.ow true/\ck y (f:=fun y=>O3 y fun ys=>dQ ys=true/\xs.length+ys.length<=bS/\E.nx (up fl (.list (xs++ys)))) ⟨⟩) ⟨⟩:=rfl
theorem Jt:FR (some d) m n z Q=Q (qf m d) d:=rfl
theorem Iz:FR none m n z Q=Q n z:=rfl
theorem Hw:wI m (.str z) Q=(z.length<=1000/\Q .sh (.str (Txt.upper z))):=rfl
end
end L2.Q.R
namespace TS
open PySem PySem.SetTable PyProof.Rows
section
variable {prog:dr}{w:dA}{K:Type}[DecidableEq K]{knd:KeyKind prog w K}{A:eB}{E:ae->ay->Prop}{s:ay}
theorem nM{l:ag}{items:Array ae}{xs:List (List K × ag)}{Q:ae->ay->Prop}(hh:A.handled=none)(hu:A.units+8<gE)(hl:s.heap.IsList l items)(hi:items.toList=xs.map fun p=>Value.ref p.2)(mB:∀ p∈xs,IsTupleKey knd s.heap p.1 p.2) {U:List (List K)} (hU:U.length<=1999) (hxU:∀ p∈xs,p.1∈U) (ip:∀ k v,knd.is k v=true->v.scannable=true)(h:∀ h' tk ks,D8 knd h' s.heap.objs.size ks->(∀ k,k∈ks.map (·.1)↔k∈xs.map (·.1))->(∀ p∈ks,p∈xs)->(∀ b o,s.heap.get? b=some o->h'.get? b=some o)->Q (.ref s.heap.objs.size) { s with heap:=h',toks:=tk }) :
  aT (aS prog w) A (call (.type "set") [.ref l]) Q E s:=by
 have lt:∀ p∈xs,p.2<s.heap.objs.size:=fun p hp=>by obtain⟨o,_,_,ho,_⟩:=mB p hp;exact eP ho
 have few:∀ {h:cE} (ks:List (List K × ag)),D8 knd h s.heap.objs.size ks->(∀ p∈ks,p∈xs)->ks.length<2000:=fun {h} ks S m=>by
  have:=TS.aN S.nd (m:=U) fun k hk=>by obtain⟨p,hp,rfl⟩:=de.mp hk;exact hxU p (m p hp)
  rw[cK] at this;lia
 refine eE hh hl (fun i h=>∃ ks,D8 knd h s.heap.objs.size ks/\(∀ k,k∈ks.map (·.1)↔k∈(xs.take i).map (·.1))/\(∀ p∈ks,p∈xs)/\ks.length<=i/\∀ p∈xs,IsTupleKey knd h p.1 p.2) (fun h e k=>?_) (fun i h h' ⟨ks,S,m1,m2,m3,m4⟩ k=>?_) (fun i v s' E' Q' hv ⟨ks,S,m1,m2,m3,m4⟩ q=>?_) fun h' tk ⟨ks,S,m1,m2,m3,m4⟩ k=>?_
 ·exact⟨[],⟨⟨_,#[],0,_,e,⟨rfl,rfl,rfl⟩,rfl,fO _,(by show 7<=8191;decide),rfl,rfl⟩,k9,fun p hp=>nomatch hp⟩,fun k=>by simp,(fun p hp=>nomatch hp),da _,fun p hp=>IsTupleKey.eW (mB p hp) fun o ho=>k _ _ ho⟩
 ·obtain⟨⟨o,es,ep,t,ho,r⟩,nd,is⟩:=S;exact⟨ks,⟨⟨o,es,ep,t,k _ _ (da _) ho,r⟩,nd,fun p hp=>IsTupleKey.eW (is p hp) fun o ho=>k _ _ (mS (lt p (m2 p hp))) ho⟩,m1,m2,m3,fun p hp=>IsTupleKey.eW (m4 p hp) fun o ho=>k _ _ (mS (lt p hp)) ho⟩
 ·have om:items.toList[i]? = some v:=by rw[oa];exact hv
  rw[hi,qV] at om
  cases ex:xs[i]? with
  |none=>rw[ex] at om;cases om
  |some p =>
   rw[ex] at om;cases om;have hp:=tI ex;have Rj:i<xs.length:=(lP.mp ex).1;have OD:(xs.take (i+1)).map (·.1)=(xs.take i).map (·.1)++[p.1]:=by rw[ER,ex,k6];rfl
   unfold setAdd;refine oy (ah (wpAny_pyHash_tuple (by show A.units+3<gE;lia) (m4 p hp) ?_));refine zE (s:={ s' with toks:=s'.toks+(p.1.length+1) }) S (m4 p hp) (few ks S m2) (by show A.units+3<gE;lia) ip fun b h' dc sb S' c=>?_;refine q b h' _ sb ⟨dc,S',fun k=>?_,fun p' gu=>?_,?_,fun p' gu=>IsTupleKey.eW (m4 p' gu) fun o ho=>sb.extBut _ _ (gI (lt p' gu)) ho⟩
   ·rw[OD,eS,vk,<- m1];rcases c with⟨c1,rfl⟩|⟨c1,c2⟩
    ·exact⟨.inl,fun z=>z.elim id fun e=>e ▸ c1⟩
    ·rw[(c2.map _).mem_iff,iF,eM];exact⟨fun z=>z.symm,fun z=>z.symm⟩
   ·rcases c with⟨c1,rfl⟩|⟨c1,c2⟩
    ·exact m2 p' gu
    ·rcases eM.mp (c2.mem_iff.mp gu) with rfl|z
     ·exact hp
     ·exact m2 p' z
   ·rcases c with⟨c1,rfl⟩|⟨c1,c2⟩
    ·lia
    ·rw[c2.length_eq];simp;lia
 ·have e:items.size=xs.length:=by have:=congrArg List.length hi;simpa using this
  rw[e,yi] at m1;exact h h' tk ks S m1 m2 fun b o ho=>k b o (eP ho) ho
end
end TS
namespace L2
open PySem PySem.Spec PyProof.Rows
def gF(K:aE):V->Hp->VK->Prop:=fun x H Q=>match x with
 |.ref p=>∃ ys ks b0 sh,fq K H p ys/\(∃ U:List (List Key),U.length<=1999/\∀ k∈ks,k∈U)/\b8 H ys ks/\(∀ k∈ks,i3 k=b0 :: sh) /\
   ∀ zs ms l,b8 H zs ms->ms.Nodup->(∀ k,k∈ms↔k∈ks)->(ms.Pairwise fun a b=>iq b a=false)->H l=none->Q (.ref l) (upd H l (.lst zs))
 |_=>False
section
variable {X:Cx}{e:Expr}{te:TE}{p p2 pos kX:Pos}
theorem qg (hc:X.calm=true) (hu:X.A.units+64<gE) (hg:Gl X "sorted") (hm:X.mg "sorted" = none) (tj:Gl X "set") (k8:X.mg "set" = none) (he:PE X e te)(hv:j3 "sorted" = some (.builtin "sorted")) (FK:j3 "set" = some (.type "set"))(jI:bI [e] X.env=(false,cv e X.env) :: bI [] X.env:=by rfl) (hs:bI [.Call (.Name "set" p2) [e] [] kX] X.env=(false,cv (.Call (.Name "set" p2) [e] [] kX) X.env) :: bI [] X.env:=by rfl) :
  PE X (.Call (.Name "sorted" p) [.Call (.Name "set" p2) [e] [] kX] [] pos) (P4 (gF X.K) te):=by
 intro pins s σ H Q I h;refine wc (vv I hg hm hv ?_ (by decide) (by decide));refine PyProof.Rows.callWith_builtin1 ?_ hs rfl;rw[hs];refine Calls.spliced_cons ?_;refine wc (vv I tj k8 FK ?_ (by decide) (by decide));refine PyProof.Rows.callWith_type1 ?_ jI rfl;rw[jI];refine Calls.spliced_cons (dz (he pins s σ H _ I h) fun u s1 dn=>L2.gL dn fun x H1 I1 r1 q1=>Calls.spliced_nil ?_);have q1:gF X.K x H1 Q:=q1;obtain⟨a,rfl⟩:∃ a,x=.ref a:=by
  unfold gF at q1;split at q1
  ·exact⟨_,rfl⟩
  ·exact q1.elim
 obtain⟨ys,ks,b0,sh,hl,⟨U,hU,O4⟩,ht,ub,q⟩:=q1;cases r1;obtain⟨vs,rv,pl,hz⟩:=I1.list hl;obtain⟨xs,ex,ek,hx⟩:=ht.pairs rv;have xk:X.A.handled=none:=I1.ok.hd hc;have hlen:xs.length=ys.length:=by rw[rv.length,ex,cK]
 have mB:∀ p∈xs,IsTupleKey (kA X.prog X.w) s1.heap p.1 p.2:=fun p hp=>by obtain⟨us,ru,o,e1,c1,n1,d1⟩:=I1.tup (hx p hp);exact⟨o,us.toArray,n1,e1,c1,d1,by simpa using Qg ru⟩
 refine TS.nM (knd:=kA X.prog X.w) xk (by lia) pl.isList (by simpa using ex) mB hU (fun p hp=>O4 _ (by rw[<- ek];exact de.mpr ⟨p,hp,rfl⟩)) fH fun h2 tk dc S m1 m2 kp=>?_;refine Calls.spliced_nil ?_;obtain⟨⟨o,es,ep,t,ho,hex,hd,T,hM,hL,vF⟩,nd,is⟩:=S;have OG:es.toList.map (·.2)=dc.map fun p=>Value.ref p.2:=by rw[vF,gi];rfl
 have Rm:dc.length<=2000:=by have:=TS.aN nd (m:=U) fun k hk=>O4 k (by rw[<- ek];exact(m1 k).mp hk);rw[cK] at this;lia
 have OJ:es.size=dc.length:=by have:=congrArg List.length vF;simpa using this
 have OL:∀ p∈dc,p.1∈ks:=fun p hp=>by rw[<- ek];exact de.mpr ⟨p,m2 p hp,rfl⟩
 have mem:∀ fi:List ae,fi.Perm (dc.map fun p=>Value.ref p.2)->∀ v∈fi,∃ b k,v=.ref b/\H1 b=some (.tup (k.map kV))/\k∈ks:=fun fi pv v hv=>by obtain⟨p,hp,rfl⟩:=de.mp (pv.mem_iff.mp hv);exact⟨p.2,p.1,rfl,hx p (m2 p hp),OL p hp⟩
 have FL:s1.heap.objs.size<=h2.objs.size:=mS (eP ho);refine B1.gf (s:={ s1 with heap:=h2,toks:=tk }) (κ:=tuples' true) (R:=fun fi=>fi.Perm (dc.map fun p=>Value.ref p.2)) (r:=fun v=>B4 ks (jZ H1 v)) (P:=fun v=>∃ b k,v=.ref b/\H1 b=some (.tup (k.map kV))/\i3 k=b0 :: sh/\k∈ks) (fun A' E' Q' hA hQ=>TS.gw (s:={ s1 with heap:=h2,toks:=tk }) (hA.trans xk) ho hex hd T.fits T.up T.sz hL (by rw[OJ,hJ];lia) fun h' xS d fi nX OO pv=>hQ fi h' xS d (by rw[<- OG];exact pv) nX OO) (fun fi pv=>by rw[pv.length_eq,cK,hJ];lia) (fun fi pv v hv=>?_) (fun fi pv UQ A' E' s' nX Q' q'=>?_) (fun s' nX=>tE I1 fun b o e=>nX b o (kp b o e)) fun fi h' a' out n xS d pv pm pw nX ha eo=>?_
 ·obtain⟨b,k,e1,e2,e3⟩:=mem fi pv v hv;exact⟨b,k,e1,e2,ub k e3,e3⟩
 ·obtain⟨zs,z1,z2⟩:=b8.of (H:=H1) (ks:=ks) fi (mem fi pv);obtain⟨fs,f1,f2,f3⟩:=kat_tups I1 (s':=s') (fun b o e=>nX b o (kp b o e)) z1 z2 fun k hk=>by obtain⟨v,hv,rfl⟩:=de.mp hk;obtain⟨b,k,rfl,e2,e3⟩:=mem fi pv v hv;rw[bK e2];exact ub k e3
  cases b0 with
  |true =>refine Pj (T:=.type "int") f1 (by lia) (fun f hf=>?_) (by decide) q';obtain⟨i,t,rfl⟩:=(f3 f hf).1 rfl;exact .now
  |false =>refine Pj (T:=.type "str") f1 (by lia) (fun f hf=>?_) (by decide) q';obtain⟨i,t,rfl⟩:=(f3 f hf).2 rfl;exact .now
 ·have vT:=pm.trans pv;obtain⟨zs,z1,z2⟩:=b8.of (H:=H1) (ks:=ks) out fun v hv=>mem _ vT v hv;have zl:=z2.length;have ol:=vT.length_eq;rw[cK] at ol;have OQ:(dc.map fun p=>Value.ref p.2).map (jZ H1)=dc.map (·.1):=by rw[gi];exact Ls fun p hp=>bK (hx p (m2 p hp))
  have OS:(out.map (jZ H1)).Perm (dc.map (·.1)):=by rw[<- OQ];exact vT.map _
  refine⟨.ref a',_,(I1.laid (a:=a') (t':=xS) (fun b o e=>nX b o (kp b o e)) (ky FL ha) (show gS X.prog X.w _ h' _ (.lst zs) from⟨by rw[hJ];lia,out,n,z2,eo⟩)).drawn,rfl,
   q zs _ _ z1 (OS.nodup_iff.mpr nd) (fun k=>by rw[OS.mem_iff,m1,ek]) ?_ (I1.b9.fresh (ky FL ha))⟩
  rw[wo];refine pw.imp_of_mem fun {x y} mx my hle=>?_;obtain⟨b,k,rfl,hb,kk⟩:=mem _ vT x mx;obtain⟨c,m,rfl,DJ,km⟩:=mem _ vT y my;rw[bK hb,bK DJ] at *
  have:=oV (L:=ks) ((ub m km).trans (ub k kk).symm) km;rw[<- this];exact decide_eq_false (by lia)
end
end L2
namespace L2.Q
open PySem PySem.Spec PyProof.Rows
section
variable {X:Cx}{K:aE}{e:Expr}{te:WE}{p p2 pos kX:Pos}
def fj:W1:=fun _ x Q=>match x with
 |.list xs=>∃ (ks U:List (List Key)) (sh:List Bool),xs=ks.map kM/\U.length<=1999/\(∀ k∈ks,k∈U)/\(∀ k∈ks,i3 k=true :: sh)/\∀ ms:List (List Key),ms.Nodup->(∀ k,k∈ms↔k∈ks)->(ms.Pairwise fun a b=>iq b a=false)->Q (.ow true) (.list (ms.map kM))
 |_=>False
theorem p_:QQ K (gF K) fj:=by
 intro Hs H m x v As Qd Qv w rx h f;have r1:=rx.rep w
 cases r1 with
 |list z s q =>obtain⟨ks,U,sh,rfl,hU,O4,hs,h⟩:=h;obtain⟨ta,ok⟩:=v9 q;refine⟨_,ks,true,sh,s,⟨U,hU,O4⟩,ta,hs,fun zs ms l tz nd mm pw UR=>?_⟩;have rr:=nu (K:=K) tz fun k hk=>ok k ((mm k).mp hk);have:ms.length<=U.length:=TS.aN nd fun k hk=>O4 k ((mm k).mp hk);exact f.lst w (by rw[cK,hJ];lia) rr (gR ms) (h ms nd mm pw) l UR
 |_=>exact h.elim
theorem tW (hm:X.mg "sorted" = none) (k8:X.mg "set" = none) (he:QE X K e te) (hc:X.calm=true:=by rfl) (hK:X.K=K:=by rfl) (jI:bI [e] X.env=(false,cv e X.env) :: bI [] X.env:=by rfl) (hs:bI [.Call (.Name "set" p2) [e] [] kX] X.env=(false,cv (.Call (.Name "set" p2) [e] [] kX) X.env) :: bI [] X.env:=by rfl) (hu:X.A.units+64<gE:=by assumption) (hg:Gl X "sorted" := by rfl) (tj:Gl X "set" := by rfl) :
  QE X K (.Call (.Name "sorted" p) [.Call (.Name "set" p2) [e] [] kX] [] pos) (fP fj te):=by
 subst hK;refine PE.imp (qg hc hu hg hm tj k8 he jR tK jI hs) fun σ H Qv d4=>?_;obtain⟨Hs,ρ,ai,Q,sr,h,fin⟩:=d4;exact⟨Hs,ρ,ai,_,sr,h,fun v H1 bE m x As g1 r1 f1 q1=>p_ bE H1 m x v As Q Qv g1.wf r1 q1 (Fin.after fin g1)⟩
end
end L2.Q
namespace L2.Q.R
open PySem PySem.Spec PyProof.Rows L2.Q
theorem CJ:fj m (.list xs) Q = ∃ (ks U:List (List Key)) (sh:List Bool),xs=ks.map kM/\U.length<=1999/\(∀ k∈ks,k∈U)/\(∀ k∈ks,i3 k=true :: sh)/\∀ ms:List (List Key),ms.Nodup->(∀ k,k∈ms↔k∈ks)->(ms.Pairwise fun a b=>iq b a=false)->Q (.ow true) (.list (ms.map kM)):=rfl
end L2.Q.R
namespace L2.Q
open PySem PySem.Spec PyProof.Rows
def aD'(o:Option Sl):Bool:=match o with
 |none=>true
 |some (.sh _)=>true
 |_=>false
def g8(ρ:Env):Bool:=ρ.all aD'
section
variable {X:Cx}{K:aE}{L:Str->Hp->Prop}{pos:Pos}{e:Expr}{te:WE}
theorem SR.g8(s:SR K Hs H ρ σ ai)(h:g8 ρ=true)(g:bG Hs ax):SR K ax H' ρ σ []:=by
 induction s with
 |nil=>exact .nil
 |non _ ih=>exact .non (ih h)
 |sh r _ ih=>exact .sh (r.same g) (ih h)
 |_=>simp[L2.Q.g8,aD'] at h
theorem d5.g8(s:d5 K Hs ρ σ H ai)(h:g8 ρ=true):d5 K H ρ σ H [] :=
 ⟨s.sr.g8 h s.wf.sub,⟨fun _ _ z=>z,fun _ _ z=>z⟩,k9,fun _ m=>nomatch m⟩
def xV(i:Nat)(te:WE):WS:=fun E ρ=>te ρ fun _ d=>g8 ρ=true/\E.nx (ρ.set i (some (.sh d)))
theorem wL(i:Nat)(he:QE X K e te)(hs:u3 e (some (.Name x pos')) pos.line X.env=pure false:=by rfl) (hf:X.fn x=true\/X.env.scope.names.lookup x=some .local:=by first|exact .inl rfl|exact .inr rfl|assumption) (hN:X.N.Nodup:=by assumption) (hi:X.N[i]? = some x:=by rfl) (hx:Loc X.env.scope x:=by first|exact .inl rfl|exact .inr rfl):QS X K L (.Assign [.Name x pos'] e pos) (xV i te):=PS.imp (Tb hN hi hx he hs hf) fun D σ H hx=>cP hx fun Hs ρ ai E sr h k1 k2 k3 k4=>by
 refine⟨Hs,ρ,ai,_,sr,h,fun v H1 bE m d As g1 r1 f1 q1=>?_⟩;obtain⟨a,q1⟩:=q1;obtain⟨cS,s'⟩:=((sr.grow g1).g8 a).set i (m:=.sh) (As:=[]) ⟨rfl,r1.rep g1.wf⟩ k9 (fun _ m=>nomatch m) rfl;exact k1 _ H1 H1 _ cS (g1.sh.trans g1.wf.sub) s' q1
end
end L2.Q
namespace L2.Q.R
open PySem PySem.Spec PyProof.Rows L2.Q
theorem Ip:xV i te E ρ=te ρ fun _ d=>ck d (f:=fun d=>g8 ρ=true/\E.nx (ρ.set i (some (.sh d)))) ⟨⟩:=rfl
theorem Hv:g8 (none :: ρ)=g8 ρ:=rfl
theorem G_:g8 (some (.sh d) :: ρ)=g8 ρ:=rfl
theorem Gq:g8 []=true:=rfl
end L2.Q.R
namespace L2.Q
open PySem PySem.Spec PyProof.Rows PySem.W
abbrev WX:=Env->(Md->D->Prop)->(Str->Prop)->Prop
def tpX(K:aE)(rn:List Str)(mg:Str->Option ae)(E1:XK)(sf:St)(t:WX):TE:=fun σ H Qv=>σ=sf/\∃ Hs ρ ai Q Y,d5 K Hs ρ σ H ai/\t ρ Q Y /\ (∀ v H' ax m d As,e9 Hs H ax H'->RM K ax H' m d v As->bV ax H As->Q m d->Qv v H')/\∀ n H',bG H H'->Y n->LX rn mg E1 n H'
def vX(rn:List Str)(X:Cx)(sf:St)(E1:XK):Prop:=∀ pins H s e s',Inv X pins sf H s->tq X.prog X.w X.mg rn X.stack H s E1 e s'->X.xe e s'
def vM(sp:gy)(t:WA):WX:=fun ρ Q Y=>t ρ fun ps=>sp (ps.map (·.2)) fun m d=>tv m d Y (ck (m,d) (f:=fun p=>Q (B5 p.1 p.2) p.2) ⟨⟩)
section
variable {X:Cx}{K:aE}{rn:List Str}{E:XK}{sf:St}{e:Expr}{es:List Expr}{t:WA}{ta:TA}{pos p:Pos}{k:Nat}{x:Str}{ps:List Str}{sp:gy}
theorem uX (C:MA X.prog X.w X.K X.mg X.base rn k x ps sp) (hr:kC k X.A) (hx:vX rn X sf E) (ha:PA X (e :: es) ta) (hg:Gl X x) (kL:(x == ("__debug__" : Str))=false) (he:bI (e :: es) X.env=(false,cv e X.env) :: bI es X.env)(jS:(iP pos (bI es X.env)).any (·.1)=false):PE X (.Call (.Name x p) (e :: es) [] pos) (fun σ H Q=>σ=sf/\Iq (fC X.K rn X.mg sp) [] E ta σ H Q):=by
 intro pins s σ H Q I ⟨e0,h⟩;subst e0;obtain⟨g,fd,hm,hk,hb,F⟩:=C.ex;refine wc (Nt I hg hm ?_ kL);refine PySem.W.callWith_K (h₀:=X.base) I.ok.mod.Nj hk (dz (ha pos pins s σ H _ I h) fun us s1 dn=>L2.gL dn fun vs H1 I1 r q=>⟨I1.kB,?_⟩) he jS;have r2:Vals (vs++[]) (us++[]):=r.append .nil;have hl:(us++[]).length=ps.length:=by rw[<- r2.length];exact F.len _ _ _ _ q
 refine wpAny_call (codeAny_mono (F.run X.A X.stack s1 H1 ⟨us,[]⟩ (us++[]) (vs++[]) Q E hr I1.Wh (hb s1 us I1.kB hl) r2 q) fun r s' hq=>?_)
 cases r with
 |error e=>exact hx pins H1 s1 e s' I1 hq
 |ok fl =>
  cases fl with
  |ret u=>exact I1.after hq
  |next=>exact False.elim hq
  |brk=>exact False.elim hq
  |cont=>exact False.elim hq
theorem qJ{σ:St}{H:Hp}{Qv:VK}{Hs:Hp}{ρ:Env}{ai:List ag}{Y:Str->Prop}{N:Md->D->Prop}(sr:d5 K Hs ρ σ H ai)(h:t ρ fun ps=>sp (ps.map (·.2)) fun m d=>tv m d Y (N m d))(f:∀ v H1 bE H' ax m d As,e9 Hs H bE H1->bG H1 ax->Wf ax H'->RM K ax H' m d v As->As.Nodup->(∀ a∈As,ax a=none)->N m d->Qv v H') (fx:∀ n H',bG H H'->Y n->LX rn X.mg E n H'):Iq (fC K rn X.mg sp) [] E (QH K t) σ H Qv:=by
 refine⟨Hs,ρ,ai,_,sr,h,fun vs H1 bE ps As g1 r1 f1 q1=>?_⟩;exact⟨_,_,by rw[kr];exact r1.reps g1.wf,q1,fun v H' ax m d As s w r nd own q=>f v H1 bE H' ax m d As g1 s w r nd own (vV r q),fun n H' s q=>fx n H' (g1.all.trans s) q⟩
theorem Cm (C:MA X.prog X.w X.K X.mg X.base rn k x ps sp) (hr:kC k X.A) (hx:vX rn X sf E) (ha:QA X K (e :: es) t) (hK:X.K=K:=by rfl) (hg:Gl X x:=by rfl) (kL:(x == ("__debug__" : Str))=false:=by decide) (he:bI (e :: es) X.env=(false,cv e X.env) :: bI es X.env:=by rfl) (jS:(iP pos (bI es X.env)).any (·.1)=false:=by rfl):PE X (.Call (.Name x p) (e :: es) [] pos) (tpX K rn X.mg E sf (vM sp t)):=by
 subst hK;refine PE.imp (uX C hr hx ha hg kL he jS) fun σ H Qv ⟨e0,Hs,ρ,ai,Q,Y,sr,h,f,fx⟩=>⟨e0,qJ sr h (fun v H1 bE H' ax m d As g1 s w r nd own q=>?_) fx⟩
 obtain⟨g9,r',fr⟩:=lU g1.wf s w r nd own;exact Fin.after f g1 v H' _ (B5 m d) d g9 (cY g1.wf s w) r' fr q
end
end L2.Q
namespace L2.Q.R
open PySem PySem.Spec PyProof.Rows L2.Q
end L2.Q.R
namespace L2.Q
open PySem PySem.Spec PyProof.Rows PySem.W
abbrev WB:=Env->(Env->Prop)->(Str->Prop)->Prop
def tpB(K:aE)(rn:List Str)(mg:Str->Option ae)(E1:XK)(sf:St)(t:WB):TS:=fun D σ H=>σ=sf/\∃ Hs ρ ai N Y,d5 K Hs ρ σ H ai/\t ρ N Y /\ (∀ cf H' ax c9 cS,bG Hs ax->d5 K ax c9 cf H' cS->N c9->D.nx cf H')/\∀ n H',bG H H'->Y n->LX rn mg E1 n H'
def Ca(i:Nat)(wx:WX):WB:=fun ρ N Y=>wx ρ (fun m d=>ck (asg m d) (f:=fun o=>R.put o fun sl=>N (ρ.set i (some sl))) ⟨⟩) Y
theorem SR.Fo{K:aE}:∀ (i:Nat),SR K Hs H ρ σ ai->∃ cS,cS.Sublist ai/\SR K Hs H (ρ.set i (some (.xc a))) (σ.set i (some (.ref a))) cS:=by
 intro i s
 induction s generalizing i with
 |nil=>exact⟨[],CM _,.nil⟩
 |non s ih =>
  cases i with
  |zero=>exact⟨_,List.Sublist.refl _,.xc s⟩
  |succ i=>obtain⟨t,a,b⟩:=ih i;exact⟨t,a,.non b⟩
 |sh q s ih =>
  cases i with
  |zero=>exact⟨_,List.Sublist.refl _,.xc s⟩
  |succ i=>obtain⟨t,a,b⟩:=ih i;exact⟨t,a,.sh q b⟩
 |xc s ih =>
  cases i with
  |zero=>exact⟨_,List.Sublist.refl _,.xc s⟩
  |succ i=>obtain⟨t,a,b⟩:=ih i;exact⟨t,a,.xc b⟩
 |ow ne q s ih =>
  cases i with
  |zero=>exact⟨_,lS _ _,.xc s⟩
  |succ i=>obtain⟨t,a,b⟩:=ih i;exact⟨_,a.append_left _,.ow ne q b⟩
 |lk ne q s ih =>
  cases i with
  |zero=>exact⟨_,lS _ _,.xc s⟩
  |succ i=>obtain⟨t,a,b⟩:=ih i;exact⟨_,a.append_left _,.lk ne q b⟩
 |ob q s ih =>
  cases i with
  |zero=>exact⟨_,lS _ _,.xc s⟩
  |succ i=>obtain⟨t,a,b⟩:=ih i;exact⟨_,a.append_left _,.ob q b⟩
section
variable {X:Cx}{K:aE}{rn:List Str}{E1:XK}{sf:St}{e:Expr}{wx:WX}{i:Nat}{y:Str}{pos' apos:Pos}
theorem E_(hN:X.N.Nodup)(hi:X.N[i]? = some y)(hy:Loc X.env.scope y)(he:PE X e (tpX K rn X.mg E1 sf wx))(hs:u3 e (some (.Name y pos')) apos.line X.env=pure false:=by rfl) (Nr:X.fn y=true\/X.env.scope.names.lookup y=some .local:=by first|exact .inl rfl|exact .inr rfl|assumption):oi X [.Assign [.Name y pos'] e apos] (tpB K rn X.mg E1 sf (Ca i wx)):=by
 intro pins s σ H D I ⟨e0,Hs,ρ,ai,N,Y,sr,h,f,fx⟩;refine VZ (Tb hN hi hy he hs Nr) pins s σ H D I ⟨e0,Hs,ρ,ai,_,_,sr,h,fun v H' ax m d As g1 r1 f1 q1=>?_,fx⟩;have q1:R.put (asg m d) fun sl=>N (ρ.set i (some sl)):=q1
 cases ea:asg m d with
 |none=>rw[ea] at q1;exact q1.elim
 |some sl =>rw[ea] at q1;obtain⟨cS,s'⟩:=(sr.grow g1).set i r1 f1.1 (fun a ha=>⟨(f1.2 a ha).1,fun m=>(sr.sr.own a m).ne (f1.2 a ha).2⟩) ea;exact f _ H' ax _ cS g1.sh s' q1
end
def By(j:Nat)(wb:WB)(hd:ag->Str->WS):WS:=fun E ρ=>wb ρ E.nx fun n=>∀ a,hd a n { nx:=fun c9=>E.nx (c9.set j none),rt:=E.rt } (ρ.set j (some (.xc a)))
theorem Bk{X:Cx}{K:aE}{R:Str}(xr:Fw X.K X.mg rn R) (hN:X.N.Nodup) (hj:X.N[j]? = some en) (hl:X.env.scope.names.lookup en=some .local) (mI:X.stack=X.env :: X.outer) (hf:X.env.frame=some X.env.locals)(hb:∀ pn xe E1 sf,vX rn (ig X pn xe) sf E1->oi (ig X pn xe) body (tpB K rn X.mg E1 sf wb))(hh:∀ pn a oe n C,n∈rn->X.mg n=some (.ref C)->n4 X.K C->(a,oe)∈pn->oe.cls=.ref C->y9 (EB X pn a) K L (hU' :: suite) (hd a n)) (hg:Gl X R:=by rfl) (kL:(R == ("__debug__" : Str))=false:=by decide) :
  QS X K L (.Try body [.ExceptHandler (some (.Name R np)) (some en) (hU' :: suite) Z4] [] [] pos) (By j wb hd):=by
 intro pins s σ H D I hx;obtain⟨Hs,ρ,ai,E,sr,h,k1,k2,k3,k4,kx⟩:=hx;obtain⟨r,hm,xr,sub⟩:=xr.ex;have sp0:∀ p∈X.pn++pins,p∈(X.pn++pins)++[]:=fun p hp=>by rw[kr];exact hp
 have DS:=hb (X.pn++pins) (fun e s'=>∃ oB H1 s1,Inv (ig X (X.pn++pins) X.xe) oB σ H1 s1/\tq X.prog X.w X.mg rn X.stack H1 s1 (fun c _ H'=>∃ n C,c=.ref C/\n∈rn/\X.mg n=some (.ref C)/\bG H H'/\∀ a,hd a n { nx:=fun c9=>E.nx (c9.set j none),rt:=E.rt } (ρ.set j (some (.xc a)))) e s') _ σ (fun oB H1 s1 e s' I1 c=>⟨oB,H1,s1,Inv.G8 I1,c⟩) [] s σ H D (Inv.ig I fun p hp=>I.pin p (by rw[kr] at hp;exact hp)) ⟨rfl,Hs,ρ,ai,_,_,sr,h,k1,fun n H' s2 q hn C hC=>⟨n,C,rfl,hn,hC,s2,q⟩⟩
 refine wpAny_Try_except (sq DS (fun f s1 hs=>?_) fun e s' hx=>?_)
 ·have hs:=SP.lA hs sp0
  cases f with
  |next =>obtain⟨cf,H',I',q⟩:=hs;exact VY pins s1 cf H' D I' q
  |brk=>exact hs
  |cont=>exact hs
  |ret u=>exact hs
 ·obtain⟨oB,H1,s1,I1,a,n',C,a0,H',B,rfl,LW,os,bare,un,b9,FP,cov,fr,n,C2,eC,hn,k8,sm,hq⟩:=hx;cases eC;obtain⟨xc,UN⟩:=sub n C hn k8;obtain⟨U0,g',d',t',Tt⟩:=s';obtain rfl:Tt=s1.os:=os;have hW':Rn B (X.env :: X.outer) a (.ref C) a0 U0:=mI ▸ FP;have th:∀ b o,s1.heap.get? b=some o->∃ o',U0.get? b=some o':=fun b o e=>un.there b o e (by simp);refine Ey (mI ▸ I.ok.frames) hf hW' fun h4 held up4=>mj (fr:=none) held fun h5 Rw up5=>?_;have U4:dC (fN X.stack) H' s1.heap U0 h5:=dC.of cov Rw.1 (up4.trans up5) FP.2.2.1;have aG':=cov.next U4 b9 th;have U5:=U4.un un;have U6:=U4.b9 fr b9;have I5:Inv (ig X (X.pn++pins) X.xe) oB σ H' ⟨h5,g',d',t',s1.os⟩:=I1.call (h':=h5) (g':=g') (d':=d') (t':=t') (ch:=[]) U5 U6 bare (fun b z=>absurd z (by simp));refine wpAny_handleBy_cons (codeAny_handlers_test ?_) (by intro q;cases q);refine Nt (X:=EB X (X.pn++pins) a) (pins:=oB) (Inv.EB I5 fun p hp=>I5.pin p hp) hg hm ?_ kL;refine qY xc xr UN I5.kB Rw.there (codeAny_handlers_suite_as ?_);refine mj (fr:=none) Rw fun h6 Rx up6=>?_;have ff5:h5.FunFrames B X.stack:=mI ▸ Rw.2.2.1;have U7:dC (fN X.stack) H' s1.heap h5 h6:=dC.of aG' Rx.1 up6 ff5;have un6:=U7.un U5;have ig':=U7.b9 fr U6;have I6:Inv (ig X (X.pn++pins) X.xe) oB σ H' ⟨h6,g',d',t',s1.os⟩:=I1.call (h':=h6) (g':=g') (d':=d') (t':=t') (ch:=[]) un6 ig' bare (fun b z=>absurd z (by simp));obtain⟨oe,vs,he,ny,hdt,_⟩:=Rx.first;have nf:a∉fN X.stack:=fun z=>by have ff6:h6.FunFrames B X.stack:=mI ▸ Rx.2.2.1;obtain⟨_,o,e1,d1⟩:=ff6.mem z;rw[he] at e1;cases e1;exact d1 vs hdt
  have na:H' a=none:=by
   cases z:H' a with
   |none=>rfl
   |some u =>have:=(aG'.next U7 U6 fun b o e=>U5.there b o e (by simp)) a oe he (.inl (by rw[z];exact fun z=>nomatch z)) nf;rw[Rx.2.1] at this;cases this
  have frm:∀ b,b∈fN X.stack↔b=X.env.locals\/b∈X.fs:=fun b=>by rw[mI];unfold fN;rw[AZ,hf];exact eM
  have pa:Ba X H' ⟨h6,g',d',t',s1.os⟩ (a,oe):=⟨he,na,fun z=>nf ((frm a).mpr (.inl z)),fun z=>nf ((frm a).mpr (.inr z)),fun v z=>by rw[hdt] at z;cases z⟩
  have I6h:Inv (EB X ((a,oe) :: (X.pn++pins)) a) [] σ H' ⟨h6,g',d',t',s1.os⟩:=Inv.EB I6 fun p hp=>by
   rw[kr] at hp;rcases eM.mp hp with z|z
   ·rw[z];exact pa
   ·exact I6.pin p (jv _ z)
  have gr:=cY sr.wf sm ⟨bG.refl H',fun _ _ e=>e⟩;have sg:=sr.grow gr;obtain⟨ij',aI',r6⟩:=SR.Fo (a:=a) j sg.sr;refine S5 (X:=EB X ((a,oe) :: (X.pn++pins)) a) (v:=.ref a) I6h hN hj (.inl hl) rfl (fun s7 I7 _=>?_) (.inr hl);refine sq (hh ((a,oe) :: (X.pn++pins)) a oe n C hn k8 xc eL ny [] s7 (σ.set j (some (.ref a))) H' { nx:=fun Kj H8=>∃ MF O5 Ry,bG _ MF/\d5 K MF O5 Kj H8 Ry/\E.nx (O5.set j none),rt:=D.rt } I7 ⟨_,ρ.set j (some (.xc a)),ij',_,⟨r6,sg.wf,aI'.nodup sg.sR,fun b hb=>sg.own b (aI'.subset hb)⟩,hq a,fun Kj H8 MF O5 Ry m8 r8 q8=>⟨MF,O5,Ry,m8,r8,q8⟩,fun _ _ _ _ _ _ _ z=>z,fun _ _ _ _ _ _ _ z=>z,
    fun v H2 bq m d As s2=>k4 v H2 bq m d As (gr.sh.trans s2),fun n H2 s2=>kx n H2 (gr.sh.trans s2)⟩) (fun f s8 hs=>?_) fun _ _ z=>z.elim
  cases f with
  |next =>
   obtain⟨Kj,H8,I8,MF,O5,Ry,m8,r8,q8⟩:=hs;have I9:Inv X pins Kj H8 s8:=Inv.wu I8 I.ok.hd fun p hp=>by rw[kr];exact eI _ hp
   obtain⟨m,U8,lk⟩:=id I9.loc;obtain⟨ik',aJ',r9⟩:=SR.Bq j r8.sr;exact wpAny_nameGoes_keeps hl U8 (by rw[I9.ok.kind];rfl) fun h9 v U9 sb=>⟨Kj.set j none,H8,Inv.drop I9 hN hj lk U9 sb,k1 _ H8 MF _ ik' (gr.sh.trans m8) ⟨r9.Am,r8.wf,aJ'.nodup r8.sR,fun b hb=>r8.own b (aJ'.subset hb)⟩ q8⟩
  |brk=>obtain⟨_,_,_,z⟩:=hs;exact z.elim
  |cont=>obtain⟨_,_,_,z⟩:=hs;exact z.elim
  |ret u =>
   obtain⟨v,Kj,H8,I8,rv,q⟩:=hs;have I9:Inv X pins Kj H8 s8:=Inv.wu I8 I.ok.hd fun p hp=>by rw[kr];exact eI _ hp
   obtain⟨m,U8,_⟩:=id I9.loc;exact wpAny_nameGoes hl U8 (by rw[I9.ok.kind];rfl) fun h9 m9 U9 sb=>⟨v,_,H8,Inv.forget I9 U9 sb,rv,q⟩
end L2.Q
namespace L2.Q.R
open PySem PySem.Spec PyProof.Rows L2.Q
section
variable {ρ:L2.Q.Env}{E:j9}{i j:Nat}{wb:WB}{hd:ag->Str->WS}{sp:gy}{t:WA}{N:L2.Q.Env->Prop}{Y:Str->Prop}
theorem Ia:By j wb hd E ρ=wb ρ E.nx fun n=>∀ a,hd a n { nx:=fun c9=>E.nx (c9.set j none),rt:=E.rt } (ρ.set j (some (.xc a))):=rfl
theorem Ju:Ca i (vM sp t) ρ N Y=t ρ fun ps=>sp (ps.map (·.2)) fun m d=>tv m d Y (ck (m,d) (f:=fun p=>ck (asg (B5 p.1 p.2) p.2) (f:=fun o=>put o fun sl=>N (ρ.set i (some sl))) ⟨⟩) ⟨⟩):=rfl
end
end L2.Q.R
namespace TS
open PySem PySem.SetTable PyProof.Rows
section
variable {prog:dr}{w:dA}{K:Type}[DecidableEq K]{knd:KeyKind prog w K}{A:eB}{E:ae->ay->Prop}{s:ay}
theorem lY:entryFor table "set.__sub__" = some Builtin.«frozenset.__sub__» :=
 entryFor_alias (id' := "frozenset.__sub__") (by kernel_rfl) rfl (by decide +kernel) (by kernel_rfl)
def Sz(h:cE)(a:ag)(n:Nat):Prop:=∃ o es ep t,h.get? a=some o/\o.ExactSet/\o.data=.set es ep t/\t.fits es.size=true/\es.size=n
theorem rB {a:ag} {Q:Bool->ay->Prop} (hT:s.TypeIs (.ref a) "set") (h:Q true s):aT (aS prog w) A (Builtin.Frozenset.isAnySet (.ref a)) Q E s:=by unfold Builtin.Frozenset.isAnySet;refine ah (K0 (T := "set") (b:=true) hT (by rw[Lc];kernel_rfl) ?_);exact aI h
theorem pJ {a:ag} {o:Obj} {es:Array (Int × ae)} {ep:Nat} {t:SetTable} {Q:Array (Int × ae)->ay->Prop} (ho:s.heap.get? a=some o) (hd:o.data=.set es ep t) (hf:t.fits es.size=true) (hl:t.led=(!w.params.followText "set-order"))(h:∀ ys d,ys.toList.Perm es.toList->Q ys { s with drawn:=d }):aT (aS prog w) A (setWalk a) Q E s:=by
 unfold setWalk;refine ah (mG ho hd hf ?_);dsimp only;unfold EJ;refine ah (ah (zt (aI ?_)))
 cases hb:w.params.followText "set-order" with
 |true =>rw[if_pos (show(aS prog w).w.params.followText "set-order" = true from hb)];refine ah (zt ?_);exact aI (h _ s.drawn (gU _ _))
 |false =>
  rw[if_neg (show ¬ (aS prog w).w.params.followText "set-order" = true from fun z=>by rw[show(aS prog w).w.params.followText "set-order" = false from hb] at z;cases z)];have e0:iy es t=(!t.plain && decide (es.size>1)):=rfl;unfold iy at e0;rw[e0]
  cases AU:(!t.plain && decide (es.size>1)) with
  |true =>rw[if_pos rfl];refine ah (wG es.size es.toList s _ (by simp) fun ys d hp=>aI (h _ d hp))
  |false =>rw[if_neg (by decide)];refine ah ?_;show aT _ _ (if (!t.led && decide (es.size>1))=true then _ else _) _ _ _;rw[hl,hb,if_neg (by simp)];exact aI (aI (h es s.drawn (.refl _)))
theorem xY{Q:Bool->ay->Prop}(sets:List ag)(hs:∀ a∈sets,∃ o es ep t,s.heap.get? a=some o/\o.data=.set es ep t/\t.fits es.size=true/\∀ e∈es.toList,e.2.scannable=true)(h:Q true s):aT (aS prog w) A (setsQuiet sets) Q E s:=by
 unfold setsQuiet;refine ah ?_;refine wpAny_forIn_list _ (fun rest r s'=>s'=s/\r=(none,())/\∀ a∈rest,a∈sets) _ ?_ ?_ _ _ ⟨rfl,rfl,fun a h=>h⟩
 ·rintro x rest r s' ⟨rfl,rfl,hr⟩;obtain⟨o,es,ep,t,ho,hd,hf,hv⟩:=hs x (hr x eL);refine ah (EH ho hd hf ?_);refine ah ?_;refine PySem.wpAny_forIn_array' _ (fun rest r BI=>BI=s'/\r=(none,())/\∀ e∈rest,e∈es.toList) _ ?_ ?_ _ _ ⟨rfl,rfl,fun a h=>h⟩
  ·rintro⟨g,x⟩ rest r s' ⟨rfl,rfl,hr⟩;have:=hv _ (hr _ eL);dsimp only at this ⊢
   cases x with
   |ref a=>cases this
   |_=>exact aI ⟨rfl,rfl,fun e h=>hr e (eI _ h)⟩
  ·rintro r s' ⟨rfl,rfl,_⟩;exact aI ⟨rfl,rfl,fun a h=>hr a (eI _ h)⟩
 ·rintro r s' ⟨rfl,rfl,_⟩;exact aI h
theorem ll.seen{h:cE}{a:ag}{ks:List (K × ae)}(S:ll knd h a ks)(ip:∀ k v,knd.is k v=true->v.scannable=true):∃ o es ep t,h.get? a=some o/\o.data=.set es ep t/\t.fits es.size=true/\∀ e∈es.toList,e.2.scannable=true:=by obtain⟨⟨o,es,ep,t,ho,hex,hd,T,hM,hL,he⟩,nd,is⟩:=S;refine⟨o,es,ep,t,ho,hd,T.fits,fun e hm=>?_⟩;rw[he] at hm;obtain⟨p,hp,rfl⟩:=de.mp hm;exact ip _ _ (is p hp)
theorem ll.eW{h h':cE}{a:ag}{ks:List (K × ae)}(S:ll knd h a ks)(e:∀ o,h.get? a=some o->h'.get? a=some o):ll knd h' a ks:=by obtain⟨⟨o,es,ep,t,ho,r⟩,nd,is⟩:=S;exact⟨⟨o,es,ep,t,e o ho,r⟩,nd,is⟩
theorem wW{a b r:ag}{ks ks0:List (K × ae)}{Q:Array (Int × ae)->ay->Prop}(S:ll knd s.heap a ks)(S0:ll knd s.heap b ks0)(R:ll knd s.heap r [])(ip:∀ k v,knd.is k v=true->v.scannable=true)(h:∀ (ys:Array (Int × ae)) (ps:List (K × ae)) d h',ys.toList=ps.map (v3 knd)->ps.Perm ks->Heap.SameBut r s.heap h'->ll knd h' r []->Q ys { s with heap:=h',drawn:=d }):aT (aS prog w) A (setWalkUnseen a [b,r] (some r)) Q E s:=by
 obtain⟨⟨o,es,ep,t,ho,hex,hd,T,hM,hL,he⟩,nd,is⟩:=id S;unfold setWalkUnseen;refine ah (mG ho hd T.fits ?_);dsimp only;unfold EJ;refine ah (ah (zt (aI ?_)));refine K2 (fun _=>?_) (fun _=>?_)
 ·refine pJ ho hd T.fits hL fun ys d hp=>?_;obtain⟨ps,e1,e2⟩:=cQ hp he;exact h ys ps d s.heap e1 e2 (Heap.SameBut.refl _ _) R
 ·refine ah (xY _ (fun x hx=>?_) ?_)
  ·rcases eM.mp hx with rfl|hx
   ·exact S.seen ip
   ·rcases eM.mp hx with rfl|hx
    ·exact S0.seen ip
    ·rw[vk.mp hx];exact R.seen ip
  ·rw[if_neg (by decide)];refine ah (wd ?_);obtain⟨⟨o2,x3,ep2,t2,mw,hex2,hd2,T2,U_,hL2,Jn⟩,i6,Od⟩:=id R;refine ah (mG mw hd2 T2.fits ?_);dsimp only;refine K2 (fun _=>?_) (fun _=>?_)
   ·have e2:x3.size=0:=by simpa using congrArg List.length Jn
    refine ah (EI mw hd2 (aI ?_) (by rw[e2];exact eT _));have kU:=vn (Obj.putSet x3 { t2 with led:=t2.led && t.led,plain:=t2.plain && t.plain }) mw (by rw[sv _ _ hd2];rfl);rw[sv _ _ hd2] at kU;exact h es ks s.drawn _ he (.refl _) (Heap.SameBut.update s.heap r _) ⟨⟨_,_,_,_,kU,hex2,rfl,⟨T2.pw,T2.sz,T2.up,T2.le,T2.dm,T2.few,T2.path⟩,U_,by show(t2.led && t.led)=_;rw[hL2,hL,PF],Jn⟩,i6,Od⟩
   ·exact aI (h es ks s.drawn s.heap he (.refl _) (Heap.SameBut.refl _ _) R)
theorem n_ {Q:ae->ay->Prop} (h:∀ h',(∀ b o,s.heap.get? b=some o->h'.get? b=some o)->ll knd h' s.heap.objs.size []->h'.get? s.heap.objs.size=some { cls:=.type "set",data:=.set #[] 0 (.fresh 0 0 (!w.params.followText "set-order")) }->Q (.ref s.heap.objs.size) { s with heap:=h' }) :
  aT (aS prog w) A (newSet (.type "set")) Q E s:=by
 unfold newSet EJ;refine ah (ah (zt (aI ?_)));dsimp only;refine qE ?_;have e:(s.heap.push { cls:=.type "set",data:=.set #[] 0 (.fresh 0 0 (!w.params.followText "set-order")) }).get? s.heap.objs.size=some { cls:=.type "set",data:=.set #[] 0 (.fresh 0 0 (!w.params.followText "set-order")) }:=ku _ rfl;exact h _ (fun b o e=>fE _ e) ⟨⟨_,#[],0,_,e,⟨rfl,rfl,rfl⟩,rfl,fO _,(by show 7<=8191;decide),rfl,rfl⟩,k9,fun p hp=>nomatch hp⟩ e
theorem wg{a:ag}{ks:List (K × ae)}{k:K}{x:ae}{Q:Option Nat->ay->Prop}{o:Obj}{es:Array (Int × ae)}{ep:Nat}{t:SetTable}(ho:s.heap.get? a=some o)(hd:o.data=.set es ep t)(hf:t.fits es.size=true)(he:es.toList=ks.map (v3 knd))(is:∀ p∈ks,knd.is p.1 p.2=true) (hx:knd.is k x=true) (hz:ks.length<=2000) (ip:∀ k v,knd.is k v=true->v.scannable=true)(hn:k∉ks.map (·.1)->Q none s) (hi:∀ i p,ks[i]? = some p->p.1=k->Q (some i) s):aT (aS prog w) A (setFind a x (knd.hash k)) Q E s:=by
 have hlen:es.size=ks.length:=by have:=congrArg List.length he;simpa using this
 have D9:ElemsOf knd es.toList:=fun e hm=>by rw[he] at hm;obtain⟨p,hp,rfl⟩:=de.mp hm;exact⟨⟨p.1,is p hp,rfl⟩,ip _ _ (is p hp)⟩
 unfold setFind setFindIn;refine ah (mG ho hd hf ?_);dsimp only;rw[byScan_of (ip _ _ hx) (by rw[hlen];show ks.length<4096;lia) D9];simp only[↓reduceIte];refine ah (wd ?_);refine ah (wpAny_setScan_of hx ho hd hf D9 ?_)
 cases hr:List.findIdx? (fun e=>knd.is k e.2) es.toList with
 |none =>dsimp only;refine aI (hn fun hm=>?_);obtain⟨p,hp,rfl⟩:=de.mp hm;have:=List.findIdx?_eq_none_iff.mp hr (v3 knd p) (by rw[he];exact de.mpr ⟨p,hp,rfl⟩);rw[show knd.is p.1 (v3 knd p).2=true from is p hp] at this;cases this
 |some j =>
  dsimp only;obtain⟨hj,OU,_⟩:=VC.mp hr;have hj2:j<ks.length:=by rw[<- hlen];simpa using hj
  have e1:es.toList[j]=v3 knd ks[j]:=by simp only[he,List.getElem_map]
  rw[e1] at OU;rw[LG];exact aI (hi j ks[j] (wm hj2) (knd.inj _ _ _ (is _ (MX hj2)) OU))
theorem xP{a b r:ag}{nm:String}{ks:List (K × ae)}{k0:K}{v0:ae}{Q:Unit->ay->Prop}{ys:Array (Int × ae)}{ps:List (K × ae)}{was:Nat}(hy:ys.toList=ps.map (v3 knd))(hp:ps.Perm ks)(nd:(ks.map (·.1)).Nodup)(is:∀ p∈ks,knd.is p.1 p.2=true)(hA:∃ o es t,s.heap.get? a=some o/\o.data=.set es was t/\t.fits es.size=true) (S0:ll knd s.heap b [(k0,v0)]) (R:ll knd s.heap r []) (har:a≠r) (Rz:b≠r) (hz:ks.length<8) (ip:∀ k v,knd.is k v=true->v.scannable=true)(h:∀ h' dc,Heap.SameBut r s.heap h'->ll knd h' r dc->dc.Perm (ps.filter fun p=>decide (p.1≠k0))->Q () { s with heap:=h' }):aT (aS prog w) A (forIn ys PUnit.unit fun x __s=>do
         holding [x.snd] do
           let __do_lift ← setFind b x.snd x.fst
           let there ← pure __do_lift.isSome
           if (!there)=true then do
             let _ ← setAddHashed r x.snd x.fst
             pure ()
            else pure ()
         Builtin.Frozenset.unchanged nm a was
         pure (ForInStep.yield PUnit.unit)) Q E s:=by
 obtain⟨o,es,t,ho,hd,hf⟩:=hA;refine PySem.wpAny_forIn_array' _ (fun rest _ s'=>∃ pre todo dc,ps=pre++todo/\rest=todo.map (v3 knd)/\ll knd s'.heap r dc/\dc.Perm (pre.filter fun p=>decide (p.1≠k0))/\Heap.SameBut r s.heap s'.heap/\s'={ s with heap:=s'.heap }) _ ?_ ?_ _ _ ⟨[],ps,[],rfl,hy,R,.refl _,Heap.SameBut.refl _ _,rfl⟩
 ·rintro x rest ⟨⟩ s' ⟨pre,todo,dc,e1,e2,R',p',sb,HM⟩
  cases todo with
  |nil=>cases e2
  |cons p todo =>
   cases e2;have FC:p∈ks:=hp.mem_iff.mp (by rw[e1];exact fe _ eL);have AF:∀ q∈pre,q.1≠p.1:=fun q hq e=>by have i6:(ps.map (·.1)).Nodup:=(hp.map _).nodup_iff.mpr nd;rw[e1,k6,iF] at i6;exact(iS.mp i6).2.2 _ (Sb hq) _ eL e
   have hl:pre.length<8:=by have:=congrArg List.length e1;rw[hp.length_eq] at this;simp at this;lia
   have hk:dc.length<2000:=by have:=p'.length_eq;have:=MV (fun p=>decide (p.1≠k0)) pre;lia
   obtain⟨⟨o0,RA,Va,t0,x5,RB,EC,T0,hM0,Vb,B9⟩,nd0,RC⟩:=S0.eW (h':=s'.heap) fun o e=>sb.extBut _ _ Rz e;have tail:∀ h2 (P:ForInStep PUnit->ay->Prop),Heap.SameBut r s.heap h2->P (.yield .unit) { s with heap:=h2 }->aT (aS prog w) A (do Builtin.Frozenset.unchanged nm a was;pure (ForInStep.yield PUnit.unit)) P E { s with heap:=h2 }:=fun h2 P xI hP=>by unfold Builtin.Frozenset.unchanged;refine ah (ah (FX (s:={ s with heap:=h2 }) (xI.extBut _ _ har ho) hd hf ?_));rw[if_neg (by simp)];exact aI (aI hP)
   have e3:ps=(pre++[p])++todo:=by rw[e1,tJ];rfl
   rw[HM];refine ah (oy (ah (wg (s:={ s with heap:=s'.heap }) x5 EC T0.fits B9 RC (is p FC) (by simp) ip (fun hn=>?_) fun i q hq e=>?_)))
   ·have ne:p.1≠k0:=fun z=>hn (by simp[z]);refine ah (aI ?_);rw[if_pos (by rfl)];refine ah (wM (s:={ s with heap:=s'.heap }) R' (is p FC) hk ip fun bb h2 ED xI R2 c=>aI ?_);refine tail h2 _ (sb.trans xI) ⟨pre++[p],todo,ED,e3,rfl,R2,?_,sb.trans xI,rfl⟩;rcases c with⟨c,_⟩|⟨_,c⟩
    ·obtain⟨q,hq,e⟩:=de.mp c;exact absurd e (AF q (A7.mp (p'.mem_iff.mp hq)).1)
    ·rw[Si,Lw,if_pos (by simpa using ne),List.filter_nil];exact c.trans ((p'.cons _).trans (Pl (l₁:=[p])))
   ·have ez:p.1=k0:=by rw[<- e];exact(congrArg Prod.fst (vk.mp (tI hq)))
    refine ah (aI ?_);rw[if_neg (by simp)];refine aI (tail s'.heap _ sb ⟨pre++[p],todo,dc,e3,rfl,R',?_,sb,rfl⟩);rw[Si,Lw,if_neg (by simpa using ez),List.filter_nil,kr];exact p'
 ·rintro⟨⟩ s' ⟨pre,todo,dc,e1,e2,R',p',sb,HM⟩
  cases todo with
  |cons p todo=>cases e2
  |nil =>rw[HM];rw[kr] at e1;exact h _ dc sb R' (e1 ▸ p')
theorem TI.as{α:Type}{t t':SetTable}{es:Array (Int × α)}(T:TI t es)(e1:t'.mask=t.mask)(e2:t'.place=t.place)(e3:t'.dummies=t.dummies):TI t' es:=by
 obtain⟨a,b,c,d,e,f,g⟩:=T;rw[<- e1,<- e2] at *
 exact⟨a,b,c,d,e3.trans e,f,g⟩
theorem zY{a:ag}{ks:List (K × ae)}{Q:ae->ay->Prop}(S:ll knd s.heap a ks)(hz:ks.length<=2000)(h8:8<=ks.length)(h:∀ h' r dc,(∀ b o,s.heap.get? b=some o->h'.get? b=some o/\b≠r)->ll knd h' r dc->dc.Perm ks->Q (.ref r) { s with heap:=h' }):aT (aS prog w) A (Builtin.Frozenset.copyOf a) Q E s:=by
 obtain⟨⟨o,es,ep,t,ho,hex,hd,T,hM,hL,he⟩,nd,is⟩:=id S;have hT:s.TypeIs (.ref a) "set" := ⟨o,ho,hex.1⟩
 have hlen:es.size=ks.length:=by simpa using congrArg List.length he
 have gp:=eP ho;unfold Builtin.Frozenset.copyOf Builtin.Frozenset.baseOf Builtin.Frozenset.addrOf;refine ah (ah (K0 (T := "set") (b:=true) hT (by rw[Lc];kernel_rfl) (aI ?_)));rw[if_pos rfl];refine ah (n_ (knd:=knd) fun h1 k1 R kU=>?_);refine ah (aI ?_);have gX:∀ b o,s.heap.get? b=some o->b≠s.heap.objs.size:=fun b o e=>gI (eP e);unfold setMerge;refine ah ?_;rw[if_neg (by simpa using (gX _ _ ho).symm)];refine ah (mG (s:={ s with heap:=h1 }) (k1 _ _ ho) hd T.fits ?_);dsimp only;rw[if_neg (by rw[Array.isEmpty_iff_size_eq_zero];lia)];unfold setRoomFor;refine ah (ah (mG (s:={ s with heap:=h1 }) kU rfl (fO (α:=ae) (!w.params.followText "set-order")).fits ?_));have hrf:(SetTable.fresh 0 0 (!w.params.followText "set-order")).roomFor es.size=some (es.size*2):=by unfold roomFor;rw[if_pos (by show(0+0+es.size)*5 >= 7*3;lia)];show some ((0+es.size)*2)=_;rw[LG]
 dsimp only;rw[hrf];dsimp only;obtain⟨m,h3,e,mc',hle⟩:=fY (n:=es.size*2) (by lia);have hmz:2 ^ m<=4*es.size:=by
  rcases hle with z|z
  ·lia
  ·subst z;lia
 unfold setRelay;refine ah (mG (s:={ s with heap:=h1 }) kU rfl (fO (α:=ae) (!w.params.followText "set-order")).fits ?_);dsimp only;rw[e,if_neg (by rw[hJ];lia)];unfold relaid;rw[e];obtain⟨t1,ord,q1,q2,q3,qm,q4,q5,q6,q7⟩:=qI (M:=2 ^ m-1) (m:=m) (finger:=(SetTable.fresh 0 0 (!w.params.followText "set-order")).finger) (moves:=(SetTable.fresh 0 0 (!w.params.followText "set-order")).movedTo (2 ^ m-1)) (led:=(SetTable.fresh 0 0 (!w.params.followText "set-order")).led) (plain:=(SetTable.fresh 0 0 (!w.params.followText "set-order")).plain) (by lia) h3 (es:=(#[]:Array (Int × ae))) (by simp;lia);have hz0:(ord.filterMap fun i=>(#[]:Array (Int × ae))[i]?) = #[]:=LN q5;rw[q1];refine ah (d7 q5 ?_);rw[hz0] at q4 ⊢;refine EI (s:={ s with heap:=h1 }) kU rfl ?_ (eT _);have mw:=vn (Obj.putSet #[] t1) kU (by rw[sv _ _ rfl];rfl);rw[sv _ _ rfl] at mw;have sb:=Heap.SameBut.update h1 s.heap.objs.size (Obj.putSet #[] t1);generalize h1.update s.heap.objs.size (Obj.putSet #[] t1)=h2 at mw sb;have hM1:t1.mask<=8191:=by lia
 have tl:t1.led=(!w.params.followText "set-order"):=q3;refine ah (mG (s:={ s with heap:=h2 }) mw rfl q4.fits ?_);have aO':∀ (t2:SetTable) (x3:Array (Int × ae)) (ED:List (K × ae)),TI t2 x3->t2.mask<=8191->t2.led=(t1.led && t.led)->x3.toList=ED.map (v3 knd)->ED.Perm ks->aT (aS prog w) A (storeSet s.heap.objs.size x3 t2) (fun a s'=>aT (aS prog w) A (pure (Value.ref s.heap.objs.size)) Q E s') E { s with heap:=h2 }:=fun t2 x3 ED T2 U_ y3 Jn L_=>by
  have fz:x3.size=ks.length:=by
   have q1:x3.size=ED.length:=by simpa using congrArg List.length Jn
   rw[q1,L_.length_eq]
  refine EI (s:={ s with heap:=h2 }) mw rfl (aI ?_) (by rw[fz,hJ];lia);have RD:=vn (Obj.putSet x3 t2) mw (by rw[sv _ _ rfl];rfl);rw[sv _ _ rfl] at RD;have Vc:=Heap.SameBut.update h2 s.heap.objs.size (Obj.putSet x3 t2);exact h _ _ ED (fun b o e=>⟨Vc.extBut _ _ (gX b o e) (sb.extBut _ _ (gX b o e) (k1 b o e)),gX b o e⟩) ⟨⟨_,_,_,_,RD,⟨rfl,rfl,rfl⟩,rfl,T2,U_,by rw[y3,tl,hL,PF],Jn⟩,(L_.map _).nodup_iff.mpr nd,fun p hp=>is p (L_.mem_iff.mp hp)⟩ L_
 have My:t1.fill=0:=by unfold SetTable.fill;rw[q4.sz,q4.dm];rfl
 dsimp only;by_cases c:t1.mask=t.mask
 ·rw[show t1.road t=.slotForSlot by unfold road;rw[My,T.dm,c];simp];exact aO' _ es ks (T.as rfl rfl rfl) hM rfl he (.refl _)
 ·rw[show t1.road t=.clean by unfold road;rw[My];simp[c]];obtain⟨t2,mf',r1,r2,r3,rm,r4,r5,r6,r7⟩:=qI (M:=t1.mask) (m:=m) (finger:=t1.finger) (moves:=t1.moves) (led:=t1.led && t.led) (plain:=t1.plain && t.plain) (by lia) h3 (es:=es) (by lia);dsimp only;rw[r1];refine ah (d7 r5 ?_);obtain⟨ED,g1,g2⟩:=cQ r6 he;exact aO' _ _ ED r4 (by show t2.mask<=8191;lia) r3 g1 g2
theorem lg{α:Type}{xs:Array α}{i:Nat}(h:i<xs.size):(eraseAt xs i).size=xs.size-1:=by unfold eraseAt;simp;lia
theorem sY{k0:K}:∀ {ks:List (K × ae)},(ks.map (·.1)).Nodup->k0∈ks.map (·.1)->(ks.filter fun p=>decide (p.1≠k0)).length=ks.length-1
 |[],_,h=>nomatch h
 |p :: ks,nd,h=>by
  rw[iF,lT] at nd;rw[Lw];by_cases c:p.1=k0
  ·have:ks.filter (fun p=>decide (p.1≠k0))=ks:=Sd.mpr fun q hq=>decide_eq_true fun(z:q.1=k0)=>nd.1 (by rw[c,<- z];exact Sb hq);rw[if_neg (by simpa using c),this];rfl
  ·rw[if_pos (by simpa using c)];have hm:k0∈ks.map (·.1):=(eM.mp h).resolve_left fun z=>c z.symm;have:=List.length_pos_of_mem hm;rw[sA,sY nd.2 hm,sA];rw[cK] at this;lia
theorem Fj{r b:ag}{nm:String}{ks:List (K × ae)}{k0:K}{v0:ae}{Q:Unit->ay->Prop}(R:ll knd s.heap r ks)(S0:ll knd s.heap b [(k0,v0)])(Rz:b≠r)(hz:ks.length<=2000)(ip:∀ k v,knd.is k v=true->v.scannable=true)(h:∀ h' d,Heap.SameBut r s.heap h'->Sz h' r (ks.filter fun p=>decide (p.1≠k0)).length->Q () { s with heap:=h',drawn:=d }):aT (aS prog w) A (Builtin.Frozenset.differenceUpdate nm r (.ref b)) Q E s:=by
 obtain⟨⟨o,es,ep,t,ho,hex,hd,T,hM,hL,he⟩,nd,is⟩:=id R;obtain⟨⟨o0,RA,Va,t0,x5,RB,EC,T0,hM0,Vb,B9⟩,nd0,RC⟩:=id S0;have O6:s.TypeIs (.ref b) "set" := ⟨o0,x5,RB.1⟩
 have hlen:es.size=ks.length:=by simpa using congrArg List.length he
 have Vd:RA.size=1:=by simpa using congrArg List.length B9
 unfold Builtin.Frozenset.differenceUpdate;rw[if_neg (by simpa using Rz)];refine ah (rB O6 ?_);rw[if_pos rfl];unfold Builtin.Frozenset.addrOf Builtin.Frozenset.sizeOf;refine ah (aI ?_);refine ah (ah (EH x5 EC T0.fits (aI ?_)));refine ah (ah (EH ho hd T.fits (aI ?_)));rw[Vd,if_neg (by show ¬ 0>es.size;lia)];refine ah (FX x5 EC T0.fits ?_);refine ah (oy ?_);unfold setWalkUnseen;refine ah (ah (mG x5 EC T0.fits ?_));dsimp only;unfold EJ;refine ah (ah (zt (aI ?_)));rw[if_pos (by simp[Vd])];refine pJ x5 EC T0.fits Vb fun ys d hp=>?_;rw[B9] at hp;have ey:ys.toList=[v3 knd (k0,v0)]:=List.perm_singleton.mp hp;rw[<- SJ,ey,List.forIn_cons];have cont:∀ h2 (P:ForInStep PUnit->ay->Prop),Heap.SameBut r s.heap h2->P (.yield .unit) { s with heap:=h2,drawn:=d }->aT (aS prog w) A (do Builtin.Frozenset.unchanged nm b Va;pure (ForInStep.yield PUnit.unit)) P E { s with heap:=h2,drawn:=d }:=fun h2 P sb hP=>by unfold Builtin.Frozenset.unchanged;refine ah (ah (FX (s:={ s with heap:=h2,drawn:=d }) (sb.extBut _ _ Rz x5) EC T0.fits ?_));rw[if_neg (by simp)];exact aI (aI hP)
 have fin2:∀ h2,Heap.SameBut r s.heap h2->(∃ o es ep t,h2.get? r=some o/\o.ExactSet/\o.data=.set es ep t/\t.fits es.size=true/\t.dummies.size<=1/\7<=t.mask/\es.size=(ks.filter fun p=>decide (p.1≠k0)).length)->aT (aS prog w) A (setTidy r) Q E { s with heap:=h2,drawn:=d }:=fun h2 sb d4=>by obtain⟨o2,x3,ep2,t2,a1,a2,a3,a4,a5,a6,a7⟩:=d4;unfold setTidy;refine ah (mG (s:={ s with heap:=h2,drawn:=d }) a1 a3 a4 ?_);dsimp only;rw[if_neg (by unfold tooManyDummies;simp;lia)];exact aI (h h2 d sb ⟨o2,x3,ep2,t2,a1,a2,a3,a4,a7⟩)
 have h7:7<=t.mask:=by obtain⟨m,e1,e2⟩:=T.pw;have:2 ^ 3<=2 ^ m:=M6 (by decide) e2;lia
 refine ah (ah (ah (oy ?_)));unfold setDiscardHashed;refine ah (wg (s:={ s with drawn:=d }) ho hd T.fits he is (RC _ eL) (by lia) ip (fun hn=>aI ?_) fun i p hi ep=>?_)
 ·refine cont s.heap _ (Heap.SameBut.refl _ _) ?_;dsimp only;rw[List.forIn_nil];refine aI (aI (fin2 _ (Heap.SameBut.refl _ _) ⟨o,es,_,t,ho,hex,hd,T.fits,by rw[T.dm];decide,h7,?_⟩));have:ks.filter (fun p=>decide (p.1≠k0))=ks:=Sd.mpr fun p hp=>decide_eq_true fun(z:p.1=k0)=>hn (de.mpr ⟨p,hp,z⟩);rw[hlen,this]
 ·dsimp only;refine ah (mG (s:={ s with drawn:=d }) ho hd T.fits ?_);dsimp only;have Rj:i<ks.length:=(lP.mp hi).1;have fz:(eraseAt es i).size=ks.length-1:=by rw[lg (by lia),hlen]
  have jS:t.place[i]? = some (t.place.getD i 0):=qT (by rw[T.sz];lia);have AU:t.drop i={ t with place:=eraseAt t.place i,dummies:=#[t.place.getD i 0] }:=by unfold drop;rw[jS,T.dm];rfl
  refine ah (EI (s:={ s with drawn:=d }) ho hd ?_ (by rw[fz,hJ];lia));have kU:=vn (Obj.putSet (eraseAt es i) (t.drop i)) ho (by rw[sv _ _ hd];rfl);rw[sv _ _ hd] at kU;refine ah (wpAny_point (aI ?_));refine cont _ _ (Heap.SameBut.update s.heap r _) ?_;dsimp only;rw[List.forIn_nil];refine aI (aI (fin2 _ (Heap.SameBut.update s.heap r _) ⟨_,_,_,_,kU,hex,rfl,?_,by rw[AU];exact da 1,by rw[AU];exact h7,?_⟩))
  ·have:=T.few;rw[AU];simp only[SetTable.fits,SetTable.fill,lg (show i<t.place.size by rw[T.sz];lia),T.sz,fz,hlen,k7,beq_iff_eq,decide_eq_true_eq,true_and];show ks.length-1+1<=t.mask;lia
  ·rw[fz,sY nd (de.mpr ⟨p,tI hi,ep⟩)]
theorem xN{a b:ag}{ks:List (K × ae)}{k0:K}{v0:ae}{Q:ae->ay->Prop}(S:ll knd s.heap a ks)(S0:ll knd s.heap b [(k0,v0)])(hz:ks.length<=2000)(ip:∀ k v,knd.is k v=true->v.scannable=true)(h:∀ h' d r,(∀ b o,s.heap.get? b=some o->h'.get? b=some o)->Sz h' r (ks.filter fun p=>decide (p.1≠k0)).length->Q (.ref r) { s with heap:=h',drawn:=d }):aT (aS prog w) A (px .Sub (.ref a) (.ref b)) Q E s:=by
 obtain⟨⟨o,es,ep,t,ho,hex,hd,T,hM,hL,he⟩,nd,is⟩:=id S;obtain⟨⟨o0,RA,Va,t0,x5,RB,EC,T0,hM0,Vb,B9⟩,nd0,RC⟩:=id S0;have hT:s.TypeIs (.ref a) "set" := ⟨o,ho,hex.1⟩
 have O6:s.TypeIs (.ref b) "set" := ⟨o0,x5,RB.1⟩
 have hlen:es.size=ks.length:=by simpa using congrArg List.length he
 have Vd:RA.size=1:=by simpa using congrArg List.length B9
 refine wpAny_binaryOp_same hT O6 F.fills_set_sub F.slot_set_sub (CD F.slot_set_sub hT lY ?_ (F.args_set_sub_2 _ _));show aT _ _ (do
  let (self, other) ← Builtin.Frozenset.slot1 "__sub__" ⟨[.ref a, .ref b], []⟩
  let (l, r) := if false then (other, self) else (self, other)
  if !(<- Builtin.Frozenset.isAnySet l <&&> Builtin.Frozenset.isAnySet r) then rule s!"frozenset.{"__sub__"}.declined";return <- ret .notImplemented
  ret (<- Builtin.Frozenset.difference s!"frozenset.{"__sub__"}" (<- Builtin.Frozenset.addrOf l) r)) _ _ _
 refine ah (m:=Builtin.Frozenset.slot1 "__sub__" ⟨[.ref a,.ref b],[]⟩) (GL (a:=(.ref a,.ref b)) rfl ?_);simp only[iX,if_false];refine ah (ah (rB hT (rB O6 ?_)));rw[if_neg (by decide)];refine ah (m:=Builtin.Frozenset.addrOf (.ref a)) (aI ?_);have fin:∀ h' d r,(∀ b o,s.heap.get? b=some o->h'.get? b=some o)->Sz h' r (ks.filter fun p=>decide (p.1≠k0)).length->aT (aS prog w) A.in1 (ret (.ref r)) (fun fin s'=>∃ v,fin=Fin.done (Flow.ret v)/\v≠Value.notImplemented/\Q v s') E { s with heap:=h',drawn:=d }:=fun h' d r kp z =>
  aI ⟨_,rfl,(fun z=>nomatch z),h h' d r kp z⟩
 refine ah ?_;unfold Builtin.Frozenset.difference;refine ah (rB O6 ?_);simp only[Nc,iX,if_false,PD,if_true];unfold Builtin.Frozenset.addrOf Builtin.Frozenset.sizeOf Builtin.Frozenset.baseOf;refine ah (aI ?_);refine ah (ah (EH x5 EC T0.fits (aI ?_)));refine ah (ah (EH ho hd T.fits (aI ?_)));refine K2 (fun c=>?_) (fun c=>?_)
 ·refine ah (wd ?_);refine ah (zY S hz (by lia) fun h1 r ks1 k1 R p1=>?_);refine ah (aI ?_);refine ah (oy (Fj (s:={ s with heap:=h1 }) R (S0.eW fun o e=>(k1 _ _ e).1) (k1 _ _ x5).2 (by rw[p1.length_eq];exact hz) ip fun h2 d sb z=>aI ?_));exact fin h2 d r (fun b o e=>sb.extBut _ _ (k1 _ _ e).2 (k1 _ _ e).1) (by rw[<- (p1.filter _).length_eq];exact z)
 ·refine ah (ah (K0 (T := "set") (b:=true) hT (by rw[Lc];kernel_rfl) (aI ?_)));rw[if_pos rfl];refine ah (n_ (knd:=knd) fun h1 k1 R kU=>?_);refine ah (aI ?_);have gX:∀ b o,s.heap.get? b=some o->b≠s.heap.objs.size:=fun b o e=>gI (eP e);refine ah (FX (s:={ s with heap:=h1 }) (k1 _ _ ho) hd T.fits ?_);refine ah (oy (ah ?_));refine wW (s:={ s with heap:=h1 }) (S.eW fun o e=>k1 _ _ e) (S0.eW fun o e=>k1 _ _ e) R ip fun ys ps d h2 ey pp sb R2=>?_;refine ah (xP (s:={ s with heap:=h2,drawn:=d }) ey pp nd is ⟨o,es,t,sb.extBut _ _ (gX _ _ ho) (k1 _ _ ho),hd,T.fits⟩ (S0.eW fun o e=>sb.extBut _ _ (gX _ _ e) (k1 _ _ e)) R2 (gX _ _ ho) (gX _ _ x5) (by lia) ip fun h3 ks3 Vc R3 p3=>aI (aI ?_));refine fin h3 d _ (fun b o e=>Vc.extBut _ _ (gX _ _ e) (sb.extBut _ _ (gX _ _ e) (k1 _ _ e))) ?_;obtain⟨⟨o3,es3,ep3,t3,RD,is',hd3,T3,hM3,hL3,UZ⟩,Q_,is3⟩:=R3;refine⟨o3,es3,ep3,t3,RD,is',hd3,T3.fits,?_⟩;have:es3.size=ks3.length:=by simpa using congrArg List.length UZ
  rw[this,p3.length_eq,(pp.filter _).length_eq]
end
end TS
namespace L2
open PySem PySem.Spec PyProof.Rows
def nR(K:aE)(z:Str):V->Hp->VK->Prop:=fun x H Q=>match x with
 |.ref p=>∃ ks:List Key,fq K H p (ks.map kV)/\ks.length<=2000/\∀ ms:List Key,ms.Nodup->(∀ k,k∈ms↔k∈ks/\k≠.inr z)->Q (.int ms.length) H
 |_=>False
section
variable {X:Cx}{e:Expr}{te:TE}{p p2 p3 p4 p5 pos kX Ve:Pos}{z:Str}{j:Nat}
theorem vO (hc:X.calm=true) (hg:Gl X "len") (hm:X.mg "len" = none) (tj:Gl X "set") (k8:X.mg "set" = none) (he:PE X e te)(hv:j3 "len" = some (.builtin "len")) (FK:j3 "set" = some (.type "set"))(jI:bI [e] X.env=(false,cv e X.env) :: bI [] X.env:=by rfl) :
  PE X (.Call (.Name "len" p) [.BinOp (.Call (.Name "set" p2) [e] [] kX) .Sub (.Call (.Name "set" p3) [.List [.Constant (.str z) j p4] p5] [] Ve) aQ'] [] pos) (P4 (nR X.K z) te):=by
 intro pins s σ H Q I h;refine wc (vv I hg hm hv ?_ (by decide) (by decide));refine PyProof.Rows.callWith_builtin1 ?_ rfl rfl;refine Calls.spliced_cons (wpAny_BinOp ?_);refine wc (vv I tj k8 FK ?_ (by decide) (by decide));refine PyProof.Rows.callWith_type1 ?_ jI rfl;rw[jI];refine Calls.spliced_cons (dz (he pins s σ H _ I h) fun u s1 dn=>L2.gL dn fun x H1 I1 r1 q1=>Calls.spliced_nil ?_);have q1:nR X.K z x H1 Q:=q1;obtain⟨a,rfl⟩:∃ a,x=.ref a:=by
  unfold nR at q1;split at q1
  ·exact⟨_,rfl⟩
  ·exact q1.elim
 obtain⟨ks,hl,hz1,q⟩:=q1;cases r1;obtain⟨vs,rv,pl,hz⟩:=I1.list hl;obtain⟨xs,ex,ek,hx⟩:=lC rv;have xk:X.A.handled=none:=I1.ok.hd hc;have hlen:xs.length=ks.length:=by rw[<- ek,cK]
 have mB:∀ p∈xs,(kA X.prog X.w).is p.1 p.2=true:=fun p hp=>by
  obtain⟨k,v⟩:=p;have r:=hx _ hp;rw[SQ]
  cases k with
  |inl i=>obtain⟨t,e⟩:=r;rw[show v=_ from e];exact SN ..
  |inr x=>obtain⟨t,e⟩:=r;rw[show v=_ from e];exact PK ..
 refine TS.dG (knd:=kA X.prog X.w) xk pl.isList (by simpa using ex) mB (by lia) fH fun h2 tk dc S m1 m2 kp=>?_;have I2:Inv X pins σ H1 { s1 with heap:=h2,toks:=tk }:=I1.kept kp;refine wc (vv I2 tj k8 FK ?_ (by decide) (by decide));refine PyProof.Rows.callWith_type1 ?_ rfl rfl;refine Calls.spliced_cons (wpAny_List_spliced (Calls.spliced_cons (Calls.Constant_str (k:=j) (pos:=p4) (Calls.spliced_nil ⟨by show 1<=bS;rw[hJ];lia,?_⟩))));refine Calls.spliced_nil ?_;have l3:=ku h2 (o:={ cls:=.type "list",data:=.seq #[Value.str z tk] 0 }) rfl;have k3:∀ b o,h2.get? b=some o->(h2.push { cls:=.type "list",data:=.seq #[Value.str z tk] 0 }).get? b=some o:=fun b o e=>fE _ e;refine TS.dG (knd:=kA X.prog X.w) (xs:=[(.inr z,Value.str z tk)]) xk (items:=#[Value.str z tk]) ⟨_,l3,rfl,0,rfl⟩ rfl (fun p hp=>by rw[vk.mp hp,SQ];exact PK ..) (by simp) fH fun h4 RG k4 S4 m4 m5 kp4=>?_;have e4:∃ v4,k4=[(Sum.inr z,v4)]:=by
  have RH:=S4.nd
  match k4,m4,RH with
  |[],m4,_=>exact absurd ((m4 (.inr z)).mpr (by simp)) (by simp)
  |[(k,v)],m4,_ =>
   have:k=.inr z:=by simpa using (m4 k).mp (by simp)
   exact⟨v,by rw[this]⟩
  | (k,v) :: (k',v') :: l,m4,RH =>
   have h1:k=.inr z:=by simpa using (m4 k).mp (by simp)
   have h2:k'=.inr z:=by simpa using (m4 k').mp (by simp)
   rw[h1,h2] at RH;simp at RH
 obtain⟨v4,rfl⟩:=e4;have Rm:dc.length<=2000:=by
  have:=TS.aN S.nd (m:=ks) fun k hk=>by rw[<- ek];exact(m1 k).mp hk
  rw[cK] at this;lia
 refine TS.xN (s:={ s1 with heap:=h4,toks:=RG }) (S.eW fun o e=>kp4 _ _ (k3 _ _ e)) S4 Rm fH fun h5 d r kp5 Z=>?_;obtain⟨o,es,ep,t,ho,hex,hd,hf,vF⟩:=Z;refine Calls.spliced_nil (call_len_set (s:={ s1 with heap:=h5,toks:=RG,drawn:=d }) ho hex hd hf ?_ ?_)
 ·have:=MV (fun p:Key × ae=>decide (p.1≠.inr z)) dc;lia
 have I5:Inv X pins σ H1 { s1 with heap:=h5,toks:=RG+1+1,drawn:=d }:=(I1.kept (t':=RG+1+1) fun b o e=>kp5 _ _ (kp4 _ _ (k3 _ _ (kp b o e)))).drawn;refine⟨.int es.size,H1,I5,⟨_,rfl⟩,?_⟩;have:=q ((dc.filter fun p=>decide (p.1≠.inr z)).map (·.1)) (S.nd.sublist (List.filter_sublist.map _)) fun k=>by rw[<- ek,<- m1];simp only[de,A7,decide_eq_true_eq];exact⟨fun⟨p,⟨h1,h2⟩,h3⟩=>⟨⟨p,h1,h3⟩,h3 ▸ h2⟩,fun⟨⟨p,h1,h2⟩,h3⟩=>⟨p,⟨h1,h2 ▸ h3⟩,h2⟩⟩
 rw[cK] at this;rwa[vF]
end
end L2
namespace L2.Q
open PySem PySem.Spec PyProof.Rows
section
variable {X:Cx}{K:aE}{e:Expr}{te:WE}{p p2 p3 p4 p5 pos kX Ve aQ':Pos}{z:Str}{j:Nat}
def nU(z:Str):W1:=fun _ x Q=>match x with
 |.list xs=>∃ ks:List Key,xs=ks.map oq/\ks.length<=2000/\∀ ms:List Key,ms.Nodup->(∀ k,k∈ms↔k∈ks/\k≠.inr z)->Q .sh (.int ms.length)
 |_=>False
theorem vg:QQ K (nR K z) (nU z):=by
 intro Hs H m x v As Qd Qv w rx h f;have r1:=rx.rep w
 cases r1 with
 |list z s q =>obtain⟨ks,rfl,hz,h⟩:=h;obtain⟨e,ok⟩:=qM q;subst e;exact⟨ks,s,hz,fun ms nd mm=>f.sh w (.int _) (h ms nd mm)⟩
 |_=>exact h.elim
theorem yp (hm:X.mg "len" = none) (k8:X.mg "set" = none) (he:QE X K e te) (hc:X.calm=true:=by rfl) (hK:X.K=K:=by rfl) (jI:bI [e] X.env=(false,cv e X.env) :: bI [] X.env:=by rfl) (hg:Gl X "len" := by rfl) (tj:Gl X "set" := by rfl) :
  QE X K (.Call (.Name "len" p) [.BinOp (.Call (.Name "set" p2) [e] [] kX) .Sub (.Call (.Name "set" p3) [.List [.Constant (.str z) j p4] p5] [] Ve) aQ'] [] pos) (fP (nU z) te):=by
 subst hK;refine PE.imp (vO hc hg hm tj k8 he dg tK jI) fun σ H Qv d4=>?_;obtain⟨Hs,ρ,ai,Q,sr,h,fin⟩:=d4;exact⟨Hs,ρ,ai,_,sr,h,fun v H1 bE m x As g1 r1 f1 q1=>vg bE H1 m x v As Q Qv g1.wf r1 q1 (Fin.after fin g1)⟩
end
end L2.Q
namespace L2.Q.R
open PySem PySem.Spec PyProof.Rows L2.Q
theorem FZ{z:Str}{m:Md}{xs:List L2.Q.D}{Q:Md->L2.Q.D->Prop}:nU z m (.list xs) Q = ∃ ks:List Key,xs=ks.map oq/\ks.length<=2000/\∀ ms:List Key,ms.Nodup->(∀ k,k∈ms↔k∈ks/\k≠.inr z)->Q .sh (.int ms.length):=rfl
end L2.Q.R
namespace L2.Q
open PySem PySem.Spec PyProof.Rows
theorem Ux.mk{P:dr}{w:dA}{K:aE}{mg:Str->Option ae}{base:cE}{x:Str}{st:Stmt}{f:ag}{fd:zv}{sp:gy}{t:WS}(m:mg x=some (.ref f))(F:ui K x x st f fd)(N:List Str)(n k:Nat)(len:∀ ds Q,sp ds Q->ds.length=n)(hp:∀ ds Q,sp ds Q->t { nx:=fun _=>Q .sh .non,rt:=Q } (aH N.length ds)) (hb:∀ {dP:ae} {A:eB} {outer:List PySem.Env} {s:ay} {H:Hp} {E:XK},{_:kC k (A.deeper (mh x (hZ st) s.heap.objs.size f dP))}->{_:(A.deeper (mh x (hZ st) s.heap.objs.size f dP)).units+64<gE}->{_:N.Nodup} -> {_:(p9 vw P w K mg base N x (hZ st) f dP A outer s H E).E6.env.scope=hZ st/\(p9 vw P w K mg base N x (hZ st) f dP A outer s H E).E6.N=N}->y9 (p9 vw P w K mg base N x (hZ st) f dP A outer s H E).E6 K L0 (rV st) t) (S:Iy N (N.take n) (hZ st):=by exact⟨rfl,rfl,rfl,by decide +kernel,rfl,by decide +kernel,by decide +kernel⟩) (hl:(N.take n).length=n:=by rfl) (bi:∀ (kV doc pm:ae) (an:Option ag) (dP ct:ae) (us:List ae),us.length=(N.take n).length->bindArgs (vj x x (y6 st) (rV st) (hZ st) .none kV doc pm an dP ct) ⟨us,[]⟩=pure ((N.take n).zip us):=by
   intro _ _ _ _ _ _ us h;iterate 13 all_goals rcases us with _|⟨_,us⟩<;>first|rfl|(simp at h;done)|skip):Qt P w K mg base (k+1) x (N.take n) (fX K sp)/\t5 P w K mg base vw (k+1) f fd (N.take n) (fX K sp) :=
 have G:=Ux.ok F S (fun ds Q h=>(len ds Q h).trans hl.symm) (fun _ _ _ _ _ _ hr=>@hb _ _ _ _ _ _ hr hr.units S.nd ⟨rfl,rfl⟩) hp
 ⟨F.cal m G bi,G⟩
theorem UT.mk{P:dr}{w:dA}{K:aE}{mg:Str->Option ae}{base:cE}{rn:List Str}{x:Str}{st:Stmt}{f:ag}{fd:zv}{sp:gy}{t:WS}(m:mg x=some (.ref f))(F:ui K x x st f fd)(N:List Str)(n k:Nat)(len:∀ ds Q,sp ds Q->ds.length=n)(hp:∀ ds Q,sp ds Q->t { nx:=fun _=>Q .sh .non,rt:=Q } (aH N.length ds)) (hb:∀ {dP:ae} {A:eB} {outer:List PySem.Env} {s:ay} {H:Hp} {E:XK},{_:kC k (A.deeper (mh x (hZ st) s.heap.objs.size f dP))}->{_:(A.deeper (mh x (hZ st) s.heap.objs.size f dP)).units+64<gE}->{_:N.Nodup} -> {_:(p9 (tq P w mg rn) P w K mg base N x (hZ st) f dP A outer s H E).env.scope=hZ st/\(p9 (tq P w mg rn) P w K mg base N x (hZ st) f dP A outer s H E).N=N}->y9 (p9 (tq P w mg rn) P w K mg base N x (hZ st) f dP A outer s H E) K (LX rn mg E) (rV st) t) (S:Iy N (N.take n) (hZ st):=by exact⟨rfl,rfl,rfl,by decide +kernel,rfl,by decide +kernel,by decide +kernel⟩) (hl:(N.take n).length=n:=by rfl) (bi:∀ (kV doc pm:ae) (an:Option ag) (dP ct:ae) (us:List ae),us.length=(N.take n).length->bindArgs (vj x x (y6 st) (rV st) (hZ st) .none kV doc pm an dP ct) ⟨us,[]⟩=pure ((N.take n).zip us):=by
   intro _ _ _ _ _ _ us h;iterate 13 all_goals rcases us with _|⟨_,us⟩<;>first|rfl|(simp at h;done)|skip):MA P w K mg base rn (k+1) x (N.take n) sp :=
 ui.hr' F m (UT.ok F S (fun ds Q h=>(len ds Q h).trans hl.symm) (fun _ _ _ _ _ _ hr=>@hb _ _ _ _ _ _ hr hr.units S.nd ⟨rfl,rfl⟩) hp) bi
namespace R
theorem Jr:zh m (.bl i) m' (.bl j) Q=Q .sh (.bl (!decide (i=j))):=rfl
end R
end L2.Q
local macro_rules | `(tactic| walk_at "q") => do
 let nm (s:String):Lean.Ident:=Lean.mkIdent ((s.splitOn ".").foldl Lean.Name.mkStr .anonymous)
 let ds ← ("HR KD Jq Jj HB Jb Kd J7 Gk FN H_ JP Jp Ih JF Jh KY Ir Ik JN Ia Ju Jo J9 J0 K4 Hw Jt Iz J1 Kw JT Kh K9 hQ' Lf K6 JQ HH Im La J4 Iu Ig DW Hn FJ Gi Lb HN wB_ KH Kg gd' JR K3 Gs Gf wC_ gf' gg' Hu Jf J_ Ip HJ Jk Ke KC Kr Jd GK GC GZ Gz Gu GD GR HW Jv HX Jz HF IW JG Ji J2 Ka JX Iw Ij Km Ld KZ Kp HQ Cz FZ CJ CG Jr Ib KQ Ky Kc KJ J8 Kz Ks K1 JW K8 Il Io Jx JC Jl Kv Gh Hg Hr gh' Ga Js I_ J3 Ku J5 Jg Hq Hk gi' Fy Kf Gg Ht Kl K7 KN Hz JB JH GJ Gv F_ Fz FW gN_ gT_ JL JZ Jy Je JD Gn Gb GX K5 IV Jm GQ G7 JS KR Jc Ii Ja Kq Lh JV K_ JK Hx Gp Jw IK hE'".splitOn " ").toArray.mapM fun s=>`(Lean.Parser.Tactic.simpLemma| ↓$(nm ("L2.Q.R." ++ s)):ident)
 let us ← ("L2.Q.R.Hv L2.Q.R.G_ L2.Q.R.Gq L2.Q.Rf L2.Q.hD' L2.Q.uA L2.Q.Cv L2.Q.AQ L2.Q.IY L2.Q.FG L2.Q.B5 L2.Q.jQ L2.Q.Oi L2.Q.Oh L2.Q.Uw L2.Q.lH L2.Q.Ak L2.Q.asg L2.Q.qf L2.Q.aH L2.Q.D.flat L2.Q.dQ L2.Q.D.QZ L2.Q.D.ty L2.Q.QV L2.Q.D.key1 L2.Q.dU L2.Q.JM L2.Q.Ie List.length_map List.map_cons List.map_nil List.length_cons List.length_nil List.replicate_succ List.replicate_zero List.cons_append List.nil_append List.append_nil List.getElem?_cons_zero List.getElem?_cons_succ List.getElem?_nil List.set_cons_zero List.set_cons_succ List.all_cons List.all_nil Option.some.injEq Option.join_some Option.map_some Option.map_none Nat.reduceAdd Nat.reduceSub true_and and_true Bool.and_true Bool.true_and Bool.and_false Bool.false_and Bool.not_true Bool.not_false Bool.false_eq_true if_true if_false decide_true decide_false reduceIte cond_true cond_false PySem.sizeLine_eq L2.Q.fZ' L2.Q.ga' L2.Q.gb' L2.Q.aW L2.Q.Dz L2.Q.empty_app Nat.zero_add exists_eq_left' Int.reduceLT Int.reduceLE Int.reducePow Int.reduceNeg Int.reduceToNat Int.reduceAdd Int.reduceMul Int.reduceSub Nat.reduceLeDiff Nat.reduceLT false_or or_false and_self L2.Ko".splitOn " ").toArray.mapM fun s=>`(Lean.Parser.Tactic.simpLemma| $(nm s):ident)
 let as:Lean.TSyntaxArray [`Lean.Parser.Tactic.simpStar,`Lean.Parser.Tactic.simpErase,`Lean.Parser.Tactic.simpLemma]:=(ds++us).map fun x=>⟨x.raw⟩
 `(tactic| simp -dsimp only [$as,*])
namespace L2.Q.RJ
open PySem PySem.Spec PyProof.Rows
theorem small{n:Nat}(h:n<=10000):n<=bS:=ky h (by decide)
theorem DK{n:Nat}(h:n<=10000):n<bS:=xd6 h (by decide)
def isLet(c:Nat):Bool:=decide (97<=c/\c<=122)
abbrev abc:Str := "abcdefghijklmnopqrstuvwxyz"
theorem l_:sg abc=(List.range 26).map (97 + ·):=by decide +kernel
theorem Ea{i:Int}(h0:0<=i)(h1:i<26):∃ c,gV (sg abc) i=some c/\isLet c=true:=by
 refine⟨97+i.toNat,?_,?_⟩
 ·have:gV (sg abc) ((i.toNat:Nat):Int)=some (97+i.toNat):=DV (by
   rw[l_];have:i.toNat<26:=by lia
   simp[this])
  rwa[pT h0] at this
 ·simp[isLet];lia
theorem z9(x:Int):∃ c,gV (sg abc) (x % 26)=some c/\isLet c=true:=Ea (tS _ (by decide)) (sC _ (by decide))
def lets(x:Str):Prop:=∀ c∈sg x,isLet c=true
def Open(x:Str):Prop:=1<=x.length/\x.length<=6/\lets x
def x6 (x:Str):Prop:=x = "*"\/Open x
theorem rG{x y:Str}(hx:lets x)(hy:lets y):lets (x++y):=fun c hc=>by rw[gY] at hc;exact(eS.mp hc).elim (hx c) (hy c)
theorem yt{c:Nat}(h:isLet c=true):lets ⟨#[c]⟩:=fun d hd=>by
 have:d=c:=by simpa[sg] using hd
 rw[this];exact h
theorem mq{x:Str}(h:lets x)(lo hi:Option Int):lets (kR x lo hi):=fun c hc=>by unfold kR sg at hc;rw[List.toList_toArray] at hc;exact h c (Pn (Pp hc))
theorem fK(c:Nat):(⟨#[c]⟩:Str).length=1:=rfl
theorem x6.ok{x:Str}(h:x6 x):PyData.strOk x=true:=by
 rw[zZ];rcases h with rfl|h
 ·have:sg "*" = [42]:=by decide +kernel
  intro c hc;rw[this] at hc;have:c=42:=by simpa using hc
  lia
 ·intro c hc;have:=h.2.2 c hc;simp[isLet] at this;lia
theorem fu:∀ (l:List Str),dQ (l.map D.str)=true
 |[]=>rfl
 |x :: l=>by simp[dQ,fu l,D.flat]
theorem cW:∀ (l:List Int),dQ (l.map D.int)=true
 |[]=>rfl
 |x :: l=>by simp[dQ,cW l,D.flat]
theorem rQ(l:List Str)(x:Str):l.map D.str++[D.str x]=(l++[x]).map D.str:=by simp
theorem ints_app(l:List Int)(x:Int):l.map D.int++[D.int x]=(l++[x]).map D.int:=by simp
theorem gh{n i:Nat}{lo:Int}{x:D}(h:(gk lo n)[i]? = some x):i<n/\x=.int (lo+(i:Nat)):=by
 unfold gk at h;rw[qV] at h;by_cases hi:i<n
 ·rw[List.getElem?_range hi] at h;exact⟨hi,(Option.some.inj h).symm⟩
 ·rw[EL (by simpa using hi)] at h;cases h
theorem fM(lo:Int)(n:Nat):(gk lo n).length=n:=by simp[gk]
theorem nF{lo:Int}{n:Nat}{x:D}(h:x∈gk lo n):∃ i:Nat,i<n/\x=.int (lo+i):=by obtain⟨i,hi⟩:=R7.mp h;exact⟨i,gh hi⟩
theorem bN{α:Type}(l:List α):l.filter (fun _=>true)=l:=Sd.mpr fun _ _=>rfl
abbrev bX:=Int × Str × Int
def tF(s:bX):List Key:=[.inl s.1,.inr s.2.1,.inl s.2.2]
def dS(s:bX):D:=.tup [.int s.1,.str s.2.1,.int s.2.2]
def mD(many:Int)(steps:List bX):D:=.tup [.int many,.list (steps.map dS)]
theorem aP:∀ (l:List bX),dQ (l.map dS)=true
 |[]=>rfl
 |x :: l=>by simp[dQ,aP l,dS,D.flat]
def iO(many:Int)(s:bX):Prop:=0<=s.1/\s.1<many/\x6 s.2.1/\0<=s.2.2/\s.2.2<many
theorem Ep{many:Int}{s:bX}(n:Nat)(h:iO many s):eh (n+1) (dS s)=true:=by have:=h.2.2.1.ok;simp[eh,dS,this]
theorem Bc{many:Int}{l:List bX}(n:Nat)(h:∀ s∈l,iO many s):eh (n+2) (.list (l.map dS))=true:=by simp only[eh,List.all_map,GU];intro s hs;exact Ep n (h s hs)
theorem O7{many:Int}{l:List bX}(n:Nat)(h:∀ s∈l,iO many s):eh (n+3) (mD many l)=true:=by have h2:=Bc n h;show(eh (n+2) (.int many) && (eh (n+2) (.list (l.map dS)) && true))=true;rw[h2];rfl
theorem uI:∀ (l:List bX),xt (l.map dS)=true
 |[]=>rfl
 |x :: l=>by simp[xt,uI l,dS,D.nb]
theorem RK(many:Int)(l:List bX):(mD many l).nb=true:=by simp[mD,D.nb,xt,uI]
theorem eq_self{x:D}(h:x.nb=true):kE x x=true:=(mJ x x h h).mpr rfl
theorem mZ{s t:bX}(h:tF s=tF t):s=t:=by obtain⟨a,b,c⟩:=s;obtain⟨a',b',c'⟩:=t;simp[tF] at h;obtain⟨rfl,rfl,rfl⟩:=h;rfl
def ltP(s t:bX):Bool:=iq (tF s) (tF t)
theorem rA{P:bX->Prop}:∀ {ks:List (List Key)},(∀ k∈ks,∃ s,k=tF s/\P s)->∃ l:List bX,ks=l.map tF/\∀ s∈l,P s
 |[],_=>⟨[],rfl,fun s h=>nomatch h⟩
 |k :: ks,h=>by
  obtain⟨s,rfl,p⟩:=h k eL;obtain⟨l,rfl,q⟩:=rA fun k hk=>h k (eI _ hk);refine⟨s :: l,rfl,fun t ht=>?_⟩;rcases eM.mp ht with rfl|ht
  ·exact p
  ·exact q t ht
abbrev Kn:=List (List Key × D)
theorem uG{names:List Str}{i:Int}(h0:0<=i)(h1:i<names.length):∃ n,n∈names/\gV (names.map D.str) i=some (.str n):=by
 have hn:i.toNat<names.length:=by lia
 refine⟨names[i.toNat],MX hn,?_⟩;have:=DV (xs:=names.map D.str) (j:=i.toNat) (v:=.str names[i.toNat]) (by simp[hn]);rwa[pT h0] at this
theorem name_mod{names:List Str}(x:Int)(h:1<=names.length):∃ n,n∈names/\gV (names.map D.str) (x % (names.length:Int))=some (.str n) :=
 uG (tS _ (by lia)) (sC _ (by lia))
theorem Bx{α:Type}(f:α->D)(l:List α)(lo hi:Option Int):iE (l.map f) lo hi=(iE l lo hi).map f:=by unfold iE;rw[cK,MY,MZ]
theorem zX{α:Type}{l:List α}{lo hi:Option Int}{x:α}(h:x∈iE l lo hi):x∈l:=Pn (Pp h)
def n5(steps out:List bX):Prop:=out.Nodup/\(∀ s,s∈out↔s∈steps)/\(out.Pairwise fun a b=>ltP b a=false)
theorem b_{α β:Type}{f:α->β}{l:List α}(h:(l.map f).Nodup):l.Nodup:=by rw[List.Nodup,wo] at h;exact h.imp fun B8 e=>B8 (by rw[e])
theorem n5.one{steps out aS':List bX}(M:n5 steps out)(M2:n5 steps aS'):out=aS' :=
 List.Perm.eq_of_pairwise (fun a b _ _ h1 h2=>mZ (qx (a:=tF a) (b:=tF b) rfl h2 h1)) M.2.2 M2.2.2 ((List.perm_ext_iff_of_nodup M.1 M2.1).mpr fun s=>(M.2.1 s).trans (M2.2.1 s).symm)
theorem n5.len{steps out:List bX}(M:n5 steps out):out.length<=steps.length:=TS.aN M.1 fun s hs=>(M.2.1 s).mp hs
theorem qZ{l:List bX}(P:List D->Prop)(hz:l.length<=2000)(k:∀ out,n5 l out->P (out.map dS)):∃ (ks:List (List Key)) (sh:List Bool),l.map dS=ks.map kM/\ks.length<=2000/\(∀ k∈ks,i3 k=true :: sh) /\
  ∀ ms:List (List Key),ms.Nodup->(∀ k,k∈ms↔k∈ks)->(ms.Pairwise fun a b=>iq b a=false)->P (ms.map kM):=by
 refine⟨l.map tF,[false,true],by rw[gi];rfl,by simpa using hz,?_,fun ms nd mm pw=>?_⟩
 ·intro k hk;obtain⟨s,_,rfl⟩:=de.mp hk;rfl
 ·obtain⟨out,rfl,ho⟩:=rA (P:=fun s=>s∈l) (ks:=ms) fun k hk=>by obtain⟨s,hs,rfl⟩:=de.mp ((mm k).mp hk);exact⟨s,rfl,hs⟩
  have e:(out.map tF).map kM=out.map dS:=by rw[gi];rfl
  rw[e];refine k out ⟨b_ nd,fun s=>⟨fun hm=>ho s hm,fun hm=>?_⟩,wo.mp pw⟩;obtain⟨s',fF,e⟩:=de.mp ((mm (tF s)).mpr (de.mpr ⟨s,hm,rfl⟩));rw[<- mZ e];exact fF
theorem oK{steps:List bX}{i:Nat}{x:D}(h:(steps.map dS)[i]? = some x):∃ p d r,x=.tup [.int p,.str d,.int r]/\(p,d,r)∈steps/\steps.take (i+1)=steps.take i++[(p,d,r)]:=by
 rw[qV] at h
 cases e:steps[i]? with
 |none=>rw[e] at h;cases h
 |some s =>rw[e] at h;cases h;obtain⟨p,d,r⟩:=s;exact⟨p,d,r,rfl,tI e,by rw[ER,e];rfl⟩
theorem zx{l:List Str}{i:Nat}{x:D}(h:(l.map D.str)[i]? = some x):∃ n,x=.str n/\n∈l/\l.take (i+1)=l.take i++[n]:=by
 rw[qV] at h
 cases e:l[i]? with
 |none=>rw[e] at h;cases h
 |some s =>rw[e] at h;cases h;exact⟨s,rfl,tI e,by rw[ER,e];rfl⟩
theorem bW{n:Str}:(decide (1<=n.length/\n.length<=6) && (sg n).all isLet)=true↔Open n:=by unfold Open lets;simp only[k7,decide_eq_true_eq,GU];exact⟨fun⟨⟨a,b⟩,c⟩=>⟨a,b,c⟩,fun⟨a,b,c⟩=>⟨⟨a,b⟩,c⟩⟩
theorem nP{α β:Type}(f:α->β)(l:List α)(k:Nat)(y:α):ly (l.map f) k (f y)=(ly l k y).map f:=by unfold ly;rw[k6,iF,MY,MZ]
theorem xJ{α:Type}(l:List α)(k:Nat)(y:α):y∈ly l k y:=fe _ eL
theorem Ao{α:Type}{l:List α}{k:Nat}(y:α)(h:k<=l.length):(ly l k y)[k]? = some y:=by unfold ly;rw[CL (by rw[i7];lia),i7,LD h,Nat.sub_self];rfl
theorem wK{α:Type}{l:List α}{k:Nat}(y:α)(h:k<=l.length):(ly l k y).eraseIdx k=l:=by unfold ly;rw[VB (by rw[i7];lia),i7,LD h,Nat.sub_self];exact Lr k l
theorem yW{n:Nat}{l:List Str}(h:∀ x∈l,Open x):eh (n+1) (.list (l.map D.str))=true:=by simp only[eh,List.all_map,GU];intro s hs;have:=x6.ok (.inr (h s hs));cases n<;>simpa[eh] using this
def ox(steps:List bX):List Str:=steps.map (·.2.1)
theorem n5.uniq{a b o1 o2:List bX}(h:∀ s,s∈a↔s∈b)(M1:n5 a o1)(M2:n5 b o2):o1=o2 :=
 M1.one ⟨M2.1,fun s=>(M2.2.1 s).trans (h s).symm,M2.2.2⟩
def si(n:Int)(tg:List Str)(s:bX):List bX:=if s.2.1∈tg then [] else (List.range n.toNat).map fun q:Nat=>(s.1*n+(0+(q:Int)),s.2.1,s.2.2*n+(0+(q:Int)))
def sj(m n:Int)(tg:List Str)(s:bX):List bX:=if s.2.1∈tg then [] else (List.range m.toNat).map fun p:Nat=>((0+(p:Int))*n+s.1,s.2.1,(0+(p:Int))*n+s.2.2)
def toS(n:Int)(tg:List Str)(l2:List bX)(s:bX):List bX:=if s.2.1∈tg then (l2.filter fun t=>decide (t.2.1=s.2.1)).map fun t=>(s.1*n+t.1,s.2.1,s.2.2*n+t.2.2) else []
def mP(m n:Int)(tg:List Str)(l1 l2:List bX):List bX:=l1.flatMap (si n tg)++l2.flatMap (sj m n tg)++l1.flatMap (toS n tg l2)
theorem pK{n:Int}{tg:List Str}{s x:bX}:x∈si n tg s↔s.2.1∉tg/\∃ q:Nat,q<n.toNat/\x=(s.1*n+(0+(q:Int)),s.2.1,s.2.2*n+(0+(q:Int))):=by
 unfold si;split
 ·rename_i h;simp[h]
 ·rename_i h;simp only[de,rg,h,not_false_eq_true,true_and];exact⟨fun⟨q,a,b⟩=>⟨q,a,b.symm⟩,fun⟨q,a,b⟩=>⟨q,a,b.symm⟩⟩
theorem oY{m n:Int}{tg:List Str}{s x:bX}:x∈sj m n tg s↔s.2.1∉tg/\∃ p:Nat,p<m.toNat/\x=((0+(p:Int))*n+s.1,s.2.1,(0+(p:Int))*n+s.2.2):=by
 unfold sj;split
 ·rename_i h;simp[h]
 ·rename_i h;simp only[de,rg,h,not_false_eq_true,true_and];exact⟨fun⟨q,a,b⟩=>⟨q,a,b.symm⟩,fun⟨q,a,b⟩=>⟨q,a,b.symm⟩⟩
theorem pW{n:Int}{tg:List Str}{l2:List bX}{s x:bX}:x∈toS n tg l2 s↔s.2.1∈tg/\∃ t,t∈l2/\t.2.1=s.2.1/\x=(s.1*n+t.1,s.2.1,s.2.2*n+t.2.2):=by
 unfold toS;split
 ·rename_i h;simp only[de,A7,decide_eq_true_eq,h,true_and];exact⟨fun⟨q,a,b⟩=>⟨q,a.1,a.2,b.symm⟩,fun⟨q,a,c,b⟩=>⟨q,⟨a,c⟩,b.symm⟩⟩
 ·rename_i h;simp[h]
theorem qp{m n:Int}{tg:List Str}{l1 l2:List bX}{x:bX}:x∈mP m n tg l1 l2↔(∃ s,s∈l1/\x∈si n tg s)\/(∃ s,s∈l2/\x∈sj m n tg s)\/(∃ s,s∈l1/\x∈toS n tg l2 s):=by unfold mP;simp only[eS,Pw,or_assoc]
theorem yK{l:List bX}{g:bX->List bX}{p:bX->Bool}{k:Nat}(h:∀ s,(g s).length<=if p s then k else 0):(l.flatMap g).length<=(l.filter p).length*k:=by
 induction l with
 |nil=>simp
 |cons s l ih =>
  have:=h s;rw[List.flatMap_cons,kH,Lw]
  cases e:p s with
  |true=>rw[e] at this;simp only[if_true,sA] at *;rw[Nb];lia
  |false=>rw[e] at this;simp only[iX,if_false] at *;lia
theorem gH(l:List Str):(l.map D.str).all eX=true:=by rw[GU];intro x hx;obtain⟨c,_,rfl⟩:=de.mp hx;rfl
theorem nH(x:Str)(l:List Str):inD (.str x) (l.map D.str)=decide (x∈l):=by
 unfold inD;rw[EX,List.any_eq_true,decide_eq_true_iff];constructor
 ·rintro⟨y,hy,e⟩;obtain⟨c,hc,rfl⟩:=de.mp hy;have:=(mJ (.str c) (.str x) rfl rfl).mp e;cases this;exact hc
 ·intro hx;exact⟨.str x,de.mpr ⟨x,hx,rfl⟩,(mJ (.str x) (.str x) rfl rfl).mpr rfl⟩
def iY (steps:List bX) (k:Nat):Prop:=∃ l:List Str,l.Nodup/\(∀ n,n∈l↔n∈ox steps/\n ≠ "*")/\l.length=k
theorem x_{α:Type}[DecidableEq α]{l m:List α}(h1:l.Nodup)(h2:m.Nodup)(h:∀ x,x∈l↔x∈m):l.length=m.length :=
 M8 (TS.aN h1 fun x hx=>(h x).mp hx) (TS.aN h2 fun x hx=>(h x).mpr hx)
theorem iY.uniq{steps:List bX}{j k:Nat}(a:iY steps j)(b:iY steps k):j=k:=by obtain⟨l,n1,m1,rfl⟩:=a;obtain⟨m,n2,m2,rfl⟩:=b;exact x_ n1 n2 fun x=>(m1 x).trans (m2 x).symm
def MG(many:Int)(c k:Nat):Prop:=many<=20/\c<=80/\k<=6
theorem xT{m n:Int}{tg:List Str}{l1 l2:List bX}(n0:0<=n)(m0:0<=m){a b:Int}{d:Str}:((a,d,b):bX)∈mP m n tg l1 l2 ↔ (d∉tg/\∃ p r q,(p,d,r)∈l1/\(0<=q/\q<n)/\a=p*n+q/\b=r*n+q)\/(d∉tg/\∃ p q s,(q,d,s)∈l2/\(0<=p/\p<m)/\a=p*n+q/\b=p*n+s) \/ (d∈tg/\∃ p r q s,(p,d,r)∈l1/\(q,d,s)∈l2/\a=p*n+q/\b=r*n+s):=by
 rw[qp];constructor
 ·rintro(⟨⟨p,e,r⟩,hs,h⟩|⟨⟨q,e,s⟩,hs,h⟩|⟨⟨p,e,r⟩,hs,h⟩)
  ·obtain⟨ht,k,hk,e1⟩:=pK.mp h;simp only[Prod.mk.injEq] at e1;obtain⟨rfl,rfl,rfl⟩:=e1;exact .inl ⟨ht,p,r,k,hs,by lia,by simp,by simp⟩
  ·obtain⟨ht,k,hk,e1⟩:=oY.mp h;simp only[Prod.mk.injEq] at e1;obtain⟨rfl,rfl,rfl⟩:=e1;exact .inr (.inl ⟨ht,k,q,s,hs,by lia,by simp,by simp⟩)
  ·obtain⟨ht,⟨q,e2,s⟩,hu,e3,e1⟩:=pW.mp h;simp only[Prod.mk.injEq] at e1 e3;obtain⟨rfl,rfl,rfl⟩:=e1;subst e3;exact .inr (.inr ⟨ht,p,r,q,s,hs,hu,rfl,rfl⟩)
 ·rintro(⟨ht,p,r,q,hs,hq,rfl,rfl⟩|⟨ht,p,q,s,hs,hp,rfl,rfl⟩|⟨ht,p,r,q,s,h1,h2,rfl,rfl⟩)
  ·exact .inl ⟨_,hs,pK.mpr ⟨ht,q.toNat,by lia,by simp[pT hq.1]⟩⟩
  ·exact .inr (.inl ⟨_,hs,oY.mpr ⟨ht,p.toNat,by lia,by simp[pT hp.1]⟩⟩)
  ·exact .inr (.inr ⟨_,h1,pW.mpr ⟨ht,_,h2,rfl,rfl⟩⟩)
theorem apart{n p q:Int}(h:0<=q/\q<n):(p*n+q) / n=p/\(p*n+q) % n=q:=by
 have hn:n≠0:=by lia
 rw[Int.add_comm,Int.add_mul_ediv_right _ _ hn,Int.ediv_eq_zero_of_lt h.1 h.2,Int.add_mul_emod_self_right,Int.emod_eq_of_lt h.1 h.2];exact⟨by lia,rfl⟩
theorem low{n o q c:Int}(hq:0<=q/\q<n)(hc:0<=c/\c<o):0<=q*o+c/\q*o+c<n*o:=by have h1:0<=q*o:=E3 hq.1 (by lia);have h2:(q+1)*o<=n*o:=Int.mul_le_mul_of_nonneg_right (by lia) (by lia);rw[Int.add_mul,Int.one_mul] at h2;lia
theorem Ds{m n:Int}{tg:List Str}{l1 l2:List bX}(m0:0<=m)(n0:0<=n)(h1:∀ s∈l1,iO m s)(h2:∀ s∈l2,iO n s):∀ s∈mP m n tg l1 l2,iO (m*n) s:=fun s hm=>by
 obtain⟨a,d,b⟩:=s;rcases (xT n0 m0).mp hm with⟨ht,p,r,q,hs,hq,rfl,rfl⟩|⟨ht,p,q,s,hs,hp,rfl,rfl⟩|⟨ht,p,r,q,s,hs,hu,rfl,rfl⟩
 ·have o:=h1 _ hs;have x:=low ⟨o.1,o.2.1⟩ hq;have y:=low ⟨o.2.2.2.1,o.2.2.2.2⟩ hq;exact⟨x.1,x.2,o.2.2.1,y.1,y.2⟩
 ·have o:=h2 _ hs;have x:=low hp ⟨o.1,o.2.1⟩;have y:=low hp ⟨o.2.2.2.1,o.2.2.2.2⟩;exact⟨x.1,x.2,o.2.2.1,y.1,y.2⟩
 ·have o:=h1 _ hs;have o2:=h2 _ hu;have x:=low ⟨o.1,o.2.1⟩ ⟨o2.1,o2.2.1⟩;have y:=low ⟨o.2.2.2.1,o.2.2.2.2⟩ ⟨o2.2.2.2.1,o2.2.2.2.2⟩;exact⟨x.1,x.2,o.2.2.1,y.1,y.2⟩
def wa (l:List Str) (x:Int):Str:=l.getD (x % (l.length:Int)).toNat ""
theorem xq{l:List Str}(x:Int)(h:1<=l.length):wa l x∈l/\gV (l.map D.str) (x % (l.length:Int))=some (.str (wa l x)):=by
 have b1:=tS x (show(l.length:Int)≠0 by lia);have b2:=sC x (show(0:Int)<l.length by lia);have hj:(x % (l.length:Int)).toNat<l.length:=by lia
 have e:wa l x=l[(x % (l.length:Int)).toNat]:=by unfold wa;rw[GN,wm hj];rfl
 refine⟨by rw[e];exact MX _,?_⟩;have:=DV (xs:=l.map D.str) (j:=(x % (l.length:Int)).toNat) (v:=.str (wa l x)) (by rw[qV,wm hj,e];rfl);rwa[pT b1] at this
def dP(k:Int):Nat->Int->Int
 |0,c=>c
 |i+1,c=>dP k i c / k
def Kk(pool:List Str)(c:Int):List Str:=(List.range (c % 7).toNat).map fun i=>wa pool (dP 6 i (c / 7))
def xo(many:Int)(names:List Str)(num:Int):bX:=(num % many,wa names (num / many),num / (many*(names.length:Int)) % many)
def Kx(cells:List Int)(many:Int)(names:List Str):List bX:=(List.range cells.length).map fun i=>xo many names ((cells.getD i 0 % 2147483647+1)*(48271+7*(0+(i:Int))) % 2147483647)
theorem rF{α:Type}(f:Nat->α)(i:Nat):(List.range (i+1)).map f=(List.range i).map f++[f i]:=by rw[Px,k6];rfl
theorem CP{many:Int}{names:List Str}(num:Int)(m1:1<=many)(n1:1<=names.length)(hd:∀ n∈names,x6 n):iO many (xo many names num) :=
 ⟨tS _ (by lia),sC _ (by lia),hd _ (xq _ n1).1,tS _ (by lia),sC _ (by lia)⟩
theorem zp{cells:List Int}{many:Int}{names:List Str}(m1:1<=many)(n1:1<=names.length)(hd:∀ n∈names,x6 n):∀ s∈Kx cells many names,iO many s:=fun s hs=>by obtain⟨i,_,rfl⟩:=de.mp hs;exact CP _ m1 n1 hd
theorem vp(cells:List Int)(many:Int)(names:List Str):(Kx cells many names).length=cells.length:=by simp[Kx]
theorem Dt{pool:List Str}{c:Int}(h:1<=pool.length):∀ n∈Kk pool c,n∈pool:=fun n hn=>by obtain⟨i,_,rfl⟩:=de.mp hn;exact(xq _ h).1
theorem CK(pool:List Str)(c:Int):(Kk pool c).length<=6:=by have:=sC c (show(0:Int)<7 by decide);simp[Kk];lia
def O8(l:List bX):List bX:=open Classical in if h:∃ o,n5 l o then h.choose else []
theorem yZ{l o:List bX}(M:n5 l o):O8 l=o:=by unfold O8;rw[dif_pos ⟨o,M⟩];exact n5.uniq (fun _=>Iff.rfl) (Exists.choose_spec (p:=fun o=>n5 l o) ⟨o,M⟩) M
inductive Res where
 |ok (m:Int) (l:List bX)
 |no (c:Str)
structure Hm(m:Int)(l:List bX):Prop where
 m1:1<=m
 m2:m<=20
 ok:∀ s∈l,iO m s
 len:l.length<=80
 md:n5 l l
def Res.on(Q:Md->D->Prop):Res->Prop
 |.ok m l=>Hm m l->Q (.ow true) (mD m l)
 |.no c=>Q (.ow false) (.str c)
def Vf(l:List bX):Nat:=open Classical in if h:∃ k,iY l k then h.choose else 0
theorem zr{l:List bX}{k:Nat}(h:iY l k):Vf l=k:=by unfold Vf;rw[dif_pos ⟨k,h⟩];exact(Exists.choose_spec (p:=fun k=>iY l k) ⟨k,h⟩).uniq h
open Classical in
def n9(m n:Int)(tg:List Str)(l1 l2:List bX):Res :=
 if ∀ t∈tg,Open t then if m*n<=20 then if MG (m*n) (O8 (mP m n tg l1 l2)).length (Vf (O8 (mP m n tg l1 l2))) then .ok (m*n) (O8 (mP m n tg l1 l2)) else .no "TooBig" else .no "TooBig" else .no "NoDeed"
theorem jr(l:List Int)(lo hi:Option Int):iE (l.map D.int) lo hi=(iE l lo hi).map D.int:=by unfold iE;rw[cK,MY,MZ]
def aY(l:List bX)(s:Int)(d:Str):List Int:=(l.filter fun t=>decide (t.1=s) && decide (t.2.1=d)).map (·.2.2)
theorem bY{l:List bX}{s:Int}{d:Str}{x:Int}:x∈aY l s d↔(s,d,x)∈l:=by
 unfold aY;rw[de];constructor
 ·rintro⟨⟨p,q,r⟩,ht,rfl⟩;obtain⟨h1,e⟩:=A7.mp ht;simp only[k7,decide_eq_true_eq] at e;rw[<- e.1,<- e.2];exact h1
 ·exact fun h=>⟨_,A7.mpr ⟨h,by simp⟩,rfl⟩
theorem gO(l:List bX)(s:Int)(d:Str):(aY l s d).length<=l.length:=by unfold aY;rw[cK];exact MV _ _
def AX(l:List bX)(kvs:Kn):Prop:=∀ s d,fw kvs [.inl s,.inr d]=if aY l s d=[] then none else some (.list ((aY l s d).map .int))
theorem sS(k k':List Key)(x:D):∀ (kvs:Kn),fw (mE kvs k x) k'=if k'=k then some (match fw kvs k with
  |none=>.list [x]
  |some d=>O0 d x) else fw kvs k'
 |[]=>by
  rw[mE,aX];by_cases h:k'=k
  ·rw[if_pos h.symm,if_pos h];rfl
  ·rw[if_neg fun e=>h e.symm,if_neg h]
 |p :: r=>by
  rw[mE];by_cases e:p.1=k
  ·rw[if_pos e,aX];by_cases h:k'=k
   ·rw[if_pos h,h,aX p r k,if_pos e,if_pos e]
   ·rw[if_neg h,aX p r k',if_neg fun z=>h (z.symm.trans e),if_neg fun z=>h (z.symm.trans e)]
  ·rw[if_neg e,aX,sS k k' x r];by_cases h:k'=k
   ·rw[if_pos h,h,aX p r k,if_neg e,if_neg e,if_pos rfl]
   ·rw[if_neg h,aX p r k',if_neg h]
theorem vC(k:List Key)(x:D):∀ (kvs:Kn),(mE kvs k x).length<=kvs.length+1
 |[]=>by simp[mE]
 |p :: r=>by have:=vC k x r;rw[mE];split<;>simp only[sA]<;>lia
theorem AX.nil:AX [] []:=fun s d=>rfl
theorem AX.put{l:List bX}{kvs:Kn}(h:AX l kvs)(p:Int)(n:Str)(r:Int):AX (l++[(p,n,r)]) (mE kvs [.inl p,.inr n] (.int r)):=by
 intro s d;rw[sS];have ee:aY (l++[(p,n,r)]) s d=aY l s d++if p=s/\n=d then [r] else []:=by
  unfold aY;rw[Si,k6];congr 1;by_cases e:p=s/\n=d
  ·simp[e.1,e.2]
  ·rw[if_neg e,List.filter_cons_of_neg (by simpa using e)];rfl
 by_cases e:p=s/\n=d
 ·rw[if_pos e] at ee;obtain⟨rfl,rfl⟩:=e;rw[ee,if_pos rfl,h p n,if_neg (show ¬ aY l p n++[r]=[] by simp)];by_cases z:aY l p n=[]
  ·rw[if_pos z,z];rfl
  ·rw[if_neg z];simp[O0]
 ·rw[if_neg e,kr] at ee;rw[ee,if_neg fun z=>e ?_,h s d];simp only[List.cons.injEq,Sum.inl.injEq,Sum.inr.injEq,and_true] at z;exact⟨z.1.symm,z.2.symm⟩
theorem xg{l:List bX}{kvs:Kn}(h:AX l kvs){s:Int}{d:Str}{n:Md}{Q:Md->D->Prop}(q:∀ m,Q m (.list ((aY l s d).map .int))):FR (fw kvs [.inl s,.inr d]) .sh n (.list []) Q:=by
 rw[h s d];by_cases z:aY l s d=[]
 ·have:=q n;rw[z] at this;rw[if_pos z];exact this
 ·rw[if_neg z];exact q _
def pG:WS :=
 (cw (kF (AK (sd (wB (fP (D6 "str") (av 0)))) (sd (wB (ou Oe Oe (wC (.int 1)) (fP qo (av 0)) (wC (.int 6))))))
 (kN (wC (.bl false)))
 bL)
 (kN (fP UI (eG (yH (av 0)) (gN 0) xD (aC (AO false) (av 0) (wC (.str "abcdefghijklmnopqrstuvwxyz"))) 1 []))))
theorem zT{c:Nat}:BU ⟨#[c]⟩ abc=isLet c:=by
 rw[Bw];have:abc.cps.toList=(List.range 26).map (97 + ·):=l_;rw[this];apply EX.mpr;simp only[decide_eq_true_eq,isLet,de,rg];constructor
 ·rintro⟨i,hi,rfl⟩;lia
 ·intro h;exact⟨c-97,by lia,by lia⟩
def fG:gy:=fun ds Q=>∃ x:Str,ds=[.str x]/\Q .sh (.bl (decide (1<=x.length/\x.length<=6) && (sg x).all isLet))
theorem qR (ds Q) (h:fG ds Q):ds.length=["thing"].length:=by obtain⟨_,rfl,_⟩:=h;rfl
theorem uJ:∀ ds Q,fG ds Q->pG { nx:=fun _=>Q .sh .non,rt:=Q } (aH 1 ds):=by
 rintro ds Q ⟨x,rfl,h⟩;unfold pG;walk_at "q";refine R.F rfl ?_;walk_at "q";refine R.D (fun h1=>?_) fun h1=>?_
 ·walk_at "q";refine R.B (fun h2=>?_) fun h2=>?_;rotate_left
  ·have h2:x.length<=6:=by simp at h2;lia
   walk_at "q"
   refine aO (fun _=>true) (fun d=>match d with
    |.str z=>.bl (BU z abc)
    |d=>d) (fun ρ=>∃ o,ρ=[o]) _ _ _ ⟨_,rfl⟩ ?_ ?_
   ·rintro y hy ρ ⟨o,rfl⟩ N1 N2 _ h2;obtain⟨c,hc,rfl⟩:=de.mp hy;walk_at "q";exact⟨.inl rfl,h2 _ ⟨_,rfl⟩ rfl⟩
   ·rw[bN];refine⟨(sg x).map isLet,?_,?_⟩
    ·unfold Uy;rw[gi,gi];refine Ls fun c _=>?_;show D.bl (BU ⟨#[c]⟩ abc)=_;rw[zT];rfl
    ·rw[decide_eq_true (by lia),Bool.true_and] at h;rw[List.all_map];exact h
  ·have h2:¬ x.length<=6:=by simp at h2;lia
   walk_at "q";rw[decide_eq_false (by lia),PD] at h;exact h
 ·walk_at "q";rw[decide_eq_false (by lia),PD] at h;exact h
def lF:WS :=
 (kN (fP eZ (eG (dR (aC dk (av 0) (wC (.int 1)))) (gN 0) xD (aC dk (av 0) (wC (.int 1))) 1 [])))
def f9:gy:=fun ds Q=>∃ (many:Int) (steps:List bX),ds=[mD many steps]/\steps.length<=2000/\∀ names:List Str,names.Nodup->(∀ n,n∈names↔n∈ox steps)->Q (.ow true) (.list (names.map .str))
theorem oG (ds Q) (h:f9 ds Q):ds.length=["m"].length:=by obtain⟨_,_,rfl,_⟩:=h;rfl
theorem tY:∀ ds Q,f9 ds Q->lF { nx:=fun _=>Q .sh .non,rt:=Q } (aH 1 ds):=by
 rintro ds Q ⟨many,steps,rfl,hz,h⟩;unfold lF mD;walk_at "q"
 refine aO (fun _=>true) (fun d=>match d with
  |.tup [.int p,.str d,.int r]=>.str d
  |d=>d) (fun ρ=>∃ o,ρ=[o]) _ _ _ ⟨_,rfl⟩ ?_ ?_
 ·rintro x hx ρ ⟨o,rfl⟩ N1 N2 _ h2;obtain⟨⟨p,d,r⟩,fF,rfl⟩:=de.mp hx;unfold dS;walk_at "q";exact⟨.inl rfl,h2 _ ⟨_,rfl⟩ rfl⟩
 ·rw[bN];refine⟨(ox steps).map Sum.inr,false,?_,by simp[ox];exact hz,?_,?_⟩
  ·unfold ox;rw[gi,gi,gi];rfl
  ·intro k hk;obtain⟨x,_,rfl⟩:=de.mp hk;rfl
  ·intro ms nd mm pw;have oj:∀ k∈ms,∃ x,k=Sum.inr x/\x∈ox steps:=fun k hk=>by obtain⟨x,hx,rfl⟩:=de.mp ((mm k).mp hk);exact⟨x,rfl,hx⟩
   obtain⟨names,rfl⟩:∃ names:List Str,ms=names.map Sum.inr:=by
    clear nd mm pw
    induction ms with
    |nil=>exact⟨[],rfl⟩
    |cons k ms ih =>obtain⟨x,rfl,_⟩:=oj k eL;obtain⟨l,rfl⟩:=ih fun k hk=>oj k (eI _ hk);exact⟨x :: l,rfl⟩
   have e:(names.map (Sum.inr:Str->Key)).map oq=names.map D.str:=by rw[gi];rfl
   rw[e];refine h names (b_ nd) fun n=>?_;have:=mm (Sum.inr n);simpa using this
def fU:WS :=
 (cw (eK 3 (aC dk (av 1) (wC (.int 0))))
 (cw (eK 4 (nS cy))
 (cw (i5 0 (qq (cX (aC dk (av 0) (wC (.int 1)))) (gT 3 (cO (gN 5) (cO (gN 6) (cO (gN 7) qD))))
 (kF (wB (aC (AO true) (av 6) (av 2)))
 (i5 6 (O1 (sT 4) (eG (eF (av 3)) (gN 0) xD (iA (ak (aC gv (aC oo (av 4) (av 3)) (av 0)) (ak (av 1) (ak (aC gv (aC oo (av 2) (av 3)) (av 0)) cy)))) 1 [6,7,3,5])))
 bL)))
 (iV 4))))
def cG:gy:=fun ds Q=>∃ (m n:Int) (l1 l2:List bX) (tg:List Str),ds=[mD m l1,mD n l2,.list (tg.map .str)]/\1<=n/\n<=20/\l1.length<=80/\(∀ s∈l1,iO 20 s)/\Q (.ow true) (.list ((l1.flatMap (si n tg)).map dS))
theorem i_ (ds Q) (h:cG ds Q):ds.length=["one", "other", "together"].length:=by obtain⟨_,_,_,_,_,rfl,_⟩:=h;rfl
theorem vN(n:Int)(tg:List Str)(s:bX):(si n tg s).length<=n.toNat:=by unfold si;split<;>simp
theorem ir{l:List bX}{g:bX->List bX}{k:Nat}(h:∀ s,(g s).length<=k):(l.flatMap g).length<=l.length*k:=by have:=yK (l:=l) (g:=g) (p:=fun _=>true) (k:=k) (fun s=>by simpa using h s);rwa[bN] at this
theorem j5:∀ ds Q,cG ds Q->fU { nx:=fun _=>Q .sh .non,rt:=Q } (aH 8 ds):=by
 rintro ds Q ⟨m,n,l1,l2,tg,rfl,n1,n2,hz,ok,h⟩;unfold fU mD;walk_at "q";refine bj _ (fun i ρ=>∃ (o5 o6 o7:Option Sl),ρ=[some (.sh (.tup [.int m,.list (l1.map dS)])),some (.sh (.tup [.int n,.list (l2.map dS)])),some (.sh (.list (tg.map .str))),some (.sh (.int n)),some (.ow true (.list (((l1.take i).flatMap (si n tg)).map dS))),o5,o6,o7]) ⟨_,_,_,rfl⟩ ?_ ?_
 ·rintro i x ρ hx ⟨o5,o6,o7,rfl⟩ N hN;have hi:=(lP.mp hx).1;rw[cK] at hi;obtain⟨p,d,r,rfl,ht,et⟩:=oK hx;have hs:=ok _ ht;have hl:=ir (l:=l1.take i) (vN n tg);have y3:(l1.take i).length*n.toNat<=80*80:=M9 (by rw[i7];lia) (by lia);have a1:=hs.1;have a2:=hs.2.1;have a3:=hs.2.2.2.1;have a4:=hs.2.2.2.2;simp only at a1 a2 a3 a4;have b1:0<=p*n:=E3 (by lia) (by lia);have b2:p*n<=20*20:=HG (by lia) (by lia) (by lia) (by lia);have b3:0<=r*n:=E3 (by lia) (by lia);have b4:r*n<=20*20:=HG (by lia) (by lia) (by lia) (by lia);walk_at "q";refine⟨rfl,gH tg,?_⟩;rw[nH];have fin:N [some (.sh (.tup [.int m,.list (l1.map dS)])),some (.sh (.tup [.int n,.list (l2.map dS)])),some (.sh (.list (tg.map .str))),some (.sh (.int n)),some (.ow true (.list (((l1.take i).flatMap (si n tg)).map dS++(si n tg (p,d,r)).map dS))),some (.sh (.int p)),some (.sh (.str d)),some (.sh (.int r))]:=by rw[<- k6,show(l1.take i).flatMap (si n tg)++si n tg (p,d,r)=(l1.take (i+1)).flatMap (si n tg) by rw[et,GO];simp];exact hN _ ⟨_,_,_,rfl⟩
  by_cases hd:d∈tg
  ·refine R.F (by simp[hd]) ?_;walk_at "q";have e0:si n tg (p,d,r)=[]:=if_pos hd;rw[e0,Lz,kr] at fin;exact fin
  ·refine R.T (by simp[hd]) ?_;walk_at "q"
   refine⟨by lia,by lia,aO (fun _=>true) (fun x=>match x with
    |.int q=>.tup [.int (p*n+q),.str d,.int (r*n+q)]
    |x=>x) (fun ρ=>∃ o,ρ=[o,some (.sh (.str d)),some (.sh (.int r)),some (.sh (.int n)),some (.sh (.int p))]) _ _ _ ⟨_,rfl⟩ ?_ ?_⟩
   ·rintro y hy ρ ⟨o,rfl⟩ N1 N2 _ h2;obtain⟨q,hq,rfl⟩:=nF hy;walk_at "q";exact⟨.inl ⟨by lia,by lia⟩,.inl ⟨by lia,by lia⟩,.inl rfl,h2 _ ⟨_,rfl⟩ rfl⟩
   ·rw[bN]
    have e0:(gk 0 n.toNat).map (fun x=>match x with
     |.int q=>D.tup [.int (p*n+q),.str d,.int (r*n+q)]
     |x=>x)=(si n tg (p,d,r)).map dS:=by
     rw[show si n tg (p,d,r)=_ from if_neg hd];unfold gk;rw[gi,gi];rfl
    rw[e0];have:=vN n tg (p,d,r);exact⟨aP _,by rw[cK];lia,fin⟩
 ·rintro ρ ⟨o5,o6,o7,rfl⟩;rw[cK,yi];walk_at "q";exact h
def dJ:WS :=
 (cw (eK 3 (aC dk (av 1) (wC (.int 0))))
 (cw (eK 4 (nS cy))
 (cw (i5 1 (qq (cX (aC dk (av 1) (wC (.int 1)))) (gT 3 (cO (gN 5) (cO (gN 6) (cO (gN 7) qD))))
 (kF (wB (aC (AO true) (av 6) (av 2)))
 (i5 6 (O1 (sT 4) (eG (eF (aC dk (av 0) (wC (.int 0)))) (gN 0) xD (iA (ak (aC gv (aC oo (av 0) (av 3)) (av 4)) (ak (av 1) (ak (aC gv (aC oo (av 0) (av 3)) (av 2)) cy)))) 1 [6,7,3,5])))
 bL)))
 (iV 4))))
def bU:gy:=fun ds Q=>∃ (m n:Int) (l1 l2:List bX) (tg:List Str),ds=[mD m l1,mD n l2,.list (tg.map .str)]/\1<=m/\m<=20/\1<=n/\n<=20/\l2.length<=80/\(∀ s∈l2,iO 20 s)/\Q (.ow true) (.list ((l2.flatMap (sj m n tg)).map dS))
theorem gG (ds Q) (h:bU ds Q):ds.length=["one", "other", "together"].length:=by obtain⟨_,_,_,_,_,rfl,_⟩:=h;rfl
theorem vB(m n:Int)(tg:List Str)(s:bX):(sj m n tg s).length<=m.toNat:=by unfold sj;split<;>simp
theorem iZ:∀ ds Q,bU ds Q->dJ { nx:=fun _=>Q .sh .non,rt:=Q } (aH 8 ds):=by
 rintro ds Q ⟨m,n,l1,l2,tg,rfl,m1,m2,n1,n2,hz,ok,h⟩;unfold dJ mD;walk_at "q";refine bj _ (fun i ρ=>∃ (o5 o6 o7:Option Sl),ρ=[some (.sh (.tup [.int m,.list (l1.map dS)])),some (.sh (.tup [.int n,.list (l2.map dS)])),some (.sh (.list (tg.map .str))),some (.sh (.int n)),some (.ow true (.list (((l2.take i).flatMap (sj m n tg)).map dS))),o5,o6,o7]) ⟨_,_,_,rfl⟩ ?_ ?_
 ·rintro i x ρ hx ⟨o5,o6,o7,rfl⟩ N hN;have hi:=(lP.mp hx).1;rw[cK] at hi;obtain⟨p,d,r,rfl,ht,et⟩:=oK hx;have hs:=ok _ ht;have hl:=ir (l:=l2.take i) (vB m n tg);have y3:(l2.take i).length*m.toNat<=80*80:=M9 (by rw[i7];lia) (by lia);have a1:=hs.1;have a2:=hs.2.1;have a3:=hs.2.2.2.1;have a4:=hs.2.2.2.2;simp only at a1 a2 a3 a4;walk_at "q";refine⟨rfl,gH tg,?_⟩;rw[nH];have fin:N [some (.sh (.tup [.int m,.list (l1.map dS)])),some (.sh (.tup [.int n,.list (l2.map dS)])),some (.sh (.list (tg.map .str))),some (.sh (.int n)),some (.ow true (.list (((l2.take i).flatMap (sj m n tg)).map dS++(sj m n tg (p,d,r)).map dS))),some (.sh (.int p)),some (.sh (.str d)),some (.sh (.int r))]:=by rw[<- k6,show(l2.take i).flatMap (sj m n tg)++sj m n tg (p,d,r)=(l2.take (i+1)).flatMap (sj m n tg) by rw[et,GO];simp];exact hN _ ⟨_,_,_,rfl⟩
  by_cases hd:d∈tg
  ·refine R.F (by simp[hd]) ?_;walk_at "q";have e0:sj m n tg (p,d,r)=[]:=if_pos hd;rw[e0,Lz,kr] at fin;exact fin
  ·refine R.T (by simp[hd]) ?_;walk_at "q"
   refine⟨by lia,by lia,aO (fun _=>true) (fun x=>match x with
    |.int q=>.tup [.int (q*n+p),.str d,.int (q*n+r)]
    |x=>x) (fun ρ=>∃ o,ρ=[o,some (.sh (.str d)),some (.sh (.int r)),some (.sh (.int n)),some (.sh (.int p))]) _ _ _ ⟨_,rfl⟩ ?_ ?_⟩
   ·rintro y hy ρ ⟨o,rfl⟩ N1 N2 _ h2;obtain⟨q,hq,rfl⟩:=nF hy;have b1:0<=(0+(q:Int))*n:=E3 (by lia) (by lia);have b2:(0+(q:Int))*n<=20*20:=HG (by lia) (by lia) (by lia) (by lia);walk_at "q";exact⟨.inl ⟨by lia,by lia⟩,.inl ⟨by lia,by lia⟩,.inl rfl,h2 _ ⟨_,rfl⟩ rfl⟩
   ·rw[bN]
    have e0:(gk 0 m.toNat).map (fun x=>match x with
     |.int q=>D.tup [.int (q*n+p),.str d,.int (q*n+r)]
     |x=>x)=(sj m n tg (p,d,r)).map dS:=by
     rw[show sj m n tg (p,d,r)=_ from if_neg hd];unfold gk;rw[gi,gi];rfl
    rw[e0];have:=vB m n tg (p,d,r);exact⟨aP _,by rw[cK];lia,fin⟩
 ·rintro ρ ⟨o5,o6,o7,rfl⟩;rw[cK,yi];walk_at "q";exact h
def dO:WS :=
 (cw (eK 3 (aC dk (av 1) (wC (.int 0))))
 (cw (eK 4 (nS cy))
 (cw (i5 0 (qq (cX (aC dk (av 0) (wC (.int 1)))) (gT 3 (cO (gN 5) (cO (gN 6) (cO (gN 7) qD))))
 (kF (wB (aC (AO false) (av 6) (av 2)))
 (cw (eK 8 (eG (dR (aC dk (av 1) (wC (.int 1)))) (gN 0) (wB (aC qk (aC dk (av 0) (wC (.int 1))) (av 1))) (av 0) 1 [6]))
 (i5 6 (O1 (sT 4) (eG (dR (av 8)) (gN 0) xD (iA (ak (aC gv (aC oo (av 4) (av 3)) (aC dk (av 0) (wC (.int 0)))) (ak (av 1) (ak (aC gv (aC oo (av 2) (av 3)) (aC dk (av 0) (wC (.int 2)))) cy)))) 1 [6,7,3,5]))))
 bL)))
 (iV 4))))
def bO:gy:=fun ds Q=>∃ (m n:Int) (l1 l2:List bX) (tg:List Str),ds=[mD m l1,mD n l2,.list (tg.map .str)]/\1<=n/\n<=20/\l1.length<=80/\l2.length<=80/\(∀ s∈l1,iO 20 s)/\(∀ s∈l2,iO 20 s)/\Q (.ow true) (.list ((l1.flatMap (toS n tg l2)).map dS))
theorem g_ (ds Q) (h:bO ds Q):ds.length=["one", "other", "together"].length:=by obtain⟨_,_,_,_,_,rfl,_⟩:=h;rfl
theorem uR(n:Int)(tg:List Str)(l2:List bX)(s:bX):(toS n tg l2 s).length<=l2.length:=by
 unfold toS;split
 ·rw[cK];exact MV _ _
 ·simp
theorem jb:∀ ds Q,bO ds Q->dO { nx:=fun _=>Q .sh .non,rt:=Q } (aH 9 ds):=by
 rintro ds Q ⟨m,n,l1,l2,tg,rfl,n1,n2,hz,hz2,ok,MJ,h⟩;unfold dO mD;walk_at "q";refine bj _ (fun i ρ=>∃ (o5 o6 o7 o8:Option Sl),ρ=[some (.sh (.tup [.int m,.list (l1.map dS)])),some (.sh (.tup [.int n,.list (l2.map dS)])),some (.sh (.list (tg.map .str))),some (.sh (.int n)),some (.ow true (.list (((l1.take i).flatMap (toS n tg l2)).map dS))),o5,o6,o7,o8]) ⟨_,_,_,_,rfl⟩ ?_ ?_
 ·rintro i x ρ hx ⟨o5,o6,o7,o8,rfl⟩ N hN;have hi:=(lP.mp hx).1;rw[cK] at hi;obtain⟨p,d,r,rfl,ht,et⟩:=oK hx;have hs:=ok _ ht;have hl:=ir (l:=l1.take i) (uR n tg l2);have y3:(l1.take i).length*l2.length<=80*80:=M9 (by rw[i7];lia) (by lia);have a1:=hs.1;have a2:=hs.2.1;have a3:=hs.2.2.2.1;have a4:=hs.2.2.2.2;simp only at a1 a2 a3 a4;have b1:0<=p*n:=E3 (by lia) (by lia);have b2:p*n<=20*20:=HG (by lia) (by lia) (by lia) (by lia);have b3:0<=r*n:=E3 (by lia) (by lia);have b4:r*n<=20*20:=HG (by lia) (by lia) (by lia) (by lia);walk_at "q";refine⟨rfl,gH tg,?_⟩;rw[nH];have fin:∀ o,N [some (.sh (.tup [.int m,.list (l1.map dS)])),some (.sh (.tup [.int n,.list (l2.map dS)])),some (.sh (.list (tg.map .str))),some (.sh (.int n)),some (.ow true (.list (((l1.take i).flatMap (toS n tg l2)).map dS++(toS n tg l2 (p,d,r)).map dS))),some (.sh (.int p)),some (.sh (.str d)),some (.sh (.int r)),o]:=fun o=>by rw[<- k6,show(l1.take i).flatMap (toS n tg l2)++toS n tg l2 (p,d,r)=(l1.take (i+1)).flatMap (toS n tg l2) by rw[et,GO];simp];exact hN _ ⟨_,_,_,_,rfl⟩
  by_cases hd:d∈tg
  ·refine R.T (by simp[hd]) ?_;walk_at "q"
   refine aO (fun x=>match x with
    |.tup [_,.str e,_]=>decide (e=d)
    |_=>false) (fun x=>x) (fun ρ=>∃ o,ρ=[o,some (.sh (.str d))]) _ _ _ ⟨_,rfl⟩ ?_ ?_
   ·rintro y hy ρ ⟨o,rfl⟩ N1 N2 n1 n2;obtain⟨⟨u,e,v⟩,fF,rfl⟩:=de.mp hy;unfold dS;walk_at "q";by_cases e0:e=d
    ·rw[if_pos (decide_eq_true e0)];exact⟨.inl rfl,n2 _ ⟨_,rfl⟩ (decide_eq_true e0)⟩
    ·rw[if_neg (by simp[e0])];exact n1 _ ⟨_,rfl⟩ (decide_eq_false e0)
   ·rw[List.map_id']
    have e1:(l2.map dS).filter (fun x=>match x with
     |.tup [_,.str e,_]=>decide (e=d)
     |_=>false)=(l2.filter fun t=>decide (t.2.1=d)).map dS:=by
     rw[List.filter_map];rfl
    rw[e1];have ml:=MV (fun t:bX=>decide (t.2.1=d)) l2
    refine aO (fun _=>true) (fun x=>match x with
     |.tup [.int u,e,.int v]=>.tup [.int (p*n+u),.str d,.int (r*n+v)]
     |x=>x) (fun ρ=>∃ o,ρ=[o,some (.sh (.str d)),some (.sh (.int r)),some (.sh (.int n)),some (.sh (.int p))]) _ _ _ ⟨_,rfl⟩ ?_ ?_
    ·rintro y hy ρ ⟨o,rfl⟩ N1 N2 _ h2;obtain⟨⟨u,e,v⟩,fF,rfl⟩:=de.mp hy;unfold dS;walk_at "q";exact⟨.inl ⟨by lia,by lia⟩,.inl ⟨by lia,by lia⟩,.inl rfl,h2 _ ⟨_,rfl⟩ rfl⟩
    ·rw[bN]
     have e0:((l2.filter fun t=>decide (t.2.1=d)).map dS).map (fun x=>match x with
      |.tup [.int u,e,.int v]=>.tup [.int (p*n+u),.str d,.int (r*n+v)]
      |x=>x)=(toS n tg l2 (p,d,r)).map dS:=by
      rw[show toS n tg l2 (p,d,r)=_ from if_pos hd];rw[gi,gi];rfl
     rw[e0];have:=uR n tg l2 (p,d,r);exact⟨aP _,by rw[cK];lia,fin _⟩
  ·refine R.F (by simp[hd]) ?_;walk_at "q";have e0:toS n tg l2 (p,d,r)=[]:=if_neg hd;rw[e0,Lz,kr] at fin;exact fin _
 ·rintro ρ ⟨o5,o6,o7,o8,rfl⟩;rw[cK,yi];walk_at "q";exact h
def fZ:WS :=
 (cw (kF (wB (aC QY (av 1) (fP qo (av 0))))
 (kN (aC dk (av 0) (av 1)))
 bL)
 (kN (wC (.int 0))))
def aD:gy:=fun ds Q=>∃ (ns:List Int) (k:Int),ds=[.list (ns.map .int),.int k]/\0<=k/\Q .sh (.int (ns.getD k.toNat 0))
theorem jg (ds Q) (h:aD ds Q):ds.length=["_law_script", "_law_k"].length:=by obtain⟨_,_,rfl,_⟩:=h;rfl
theorem jY:∀ ds Q,aD ds Q->fZ { nx:=fun _=>Q .sh .non,rt:=Q } (aH 2 ds):=by
 rintro ds Q ⟨ns,k,rfl,hk,h⟩;unfold fZ;walk_at "q";refine R.D (fun hl=>?_) fun hl=>?_
 ·walk_at "q";have hn:k.toNat<ns.length:=by lia
  refine⟨.int ns[k.toNat],?_,?_⟩
  ·have:=DV (xs:=ns.map D.int) (j:=k.toNat) (v:=.int ns[k.toNat]) (by simp[hn]);rwa[pT hk] at this
  ·show Q .sh _;simpa[List.getD,hn] using h
 ·walk_at "q";have:ns.getD k.toNat 0=0:=by
   have:ns.length<=k.toNat:=by lia
   simp[List.getD,EL this]
  rwa[this] at h
def iI:WS :=
 (cw (eK 2 (wC (.str "abcdefghijklmnopqrstuvwxyz")))
 (cw (eK 3 (aC gv (wC (.int 1)) (aC ke (av 0) (wC (.int 6)))))
 (cw (eK 0 (aC nL (av 0) (wC (.int 6))))
 (cw (eK 4 (nS cy))
 (cw (qq (eF (av 3)) (gN 5)
 (cw (B7 (sT 4) (aC ke (av 0) (wC (.int 26))))
 (eK 0 (aC nL (av 0) (wC (.int 26))))))
 (cw (eK 6 (rH (wC (.str "")) (eG (dR (av 4)) (gN 0) xD (aC dk (av 1) (av 0)) 1 [2])))
 (cw (kF (wB (aC qk (aC ke (aC nL (av 1) (wC (.int 6))) (wC (.int 3))) (wC (.int 1))))
 (kN (eG (sV (wC (.int 1)) (wC (.int 7))) (gN 0) xD (D5 (aC yD (wC (.int 6)) (av 1)) d9 (ju (av 0))) 1 [6]))
 bL)
 (cw (eK 7 (aC ke (av 1) (av 3)))
 (cw (eK 8 (nS cy))
 (cw (qq (eF (wC (.int 6))) (gN 5)
 (cw (eK 9 (aC dk (av 2) (aC ke (aC gv (aC dk (av 4) (av 7)) (aC oo (wC (.int 5)) (av 5))) (wC (.int 26)))))
 (B7 (sT 8) (aC gv (aC gv (D5 (av 6) d9 (ju (av 7))) (av 9)) (D5 (av 6) (ju (aC gv (av 7) (wC (.int 1)))) d9)))))
 (iV 8)))))))))))
theorem sG{n d:Nat}{k:Int}(h0:0<=k)(h1:k<=n):HT.cp n d (some k)=k.toNat:=by simp only[HT.cp];rw[if_neg (by lia)];lia
theorem qK{x:Str}{k:Int}(h0:0<=k)(h1:k<=x.length):(kR x none (some k)).length=k.toNat:=by
 unfold kR Str.length at *
 simp only[hG,i7,A6,yk];rw[sG h0 (by simpa using h1)];simp[HT.cp];lia
theorem Bg{x:Str}{k:Int}(h0:0<=k)(h1:k<=x.length):(kR x (some k) none).length=x.length-k.toNat:=by
 unfold kR Str.length at *
 simp only[hG,i7,A6,yk];rw[sG h0 (by simpa using h1)];simp[HT.cp]
theorem yC{n:Int}{z:Str}(h:lets z):lets (uk n z):=fun c hc=>by unfold uk sg at hc;rw[List.toList_toArray] at hc;obtain⟨l,hl,ny⟩:=List.mem_flatten.mp hc;rw[List.eq_of_mem_replicate hl] at ny;exact h c ny
theorem kO:∀ (l:List Str),jQ (l.map D.str)=some l
 |[]=>rfl
 |x :: l=>by simp[jQ,kO l]
theorem vR{p:Int}(h0:0<=p)(h1:p<26):gV (sg abc) p=some (97+p.toNat):=by
 have:gV (sg abc) ((p.toNat:Nat):Int)=some (97+p.toNat):=DV (by
  rw[l_];have:p.toNat<26:=by lia
  simp[this])
 rwa[pT h0] at this
theorem iH:∀ l:List Nat,sg (Str.join "" (l.map fun c=>(⟨#[c]⟩:Str)))=l
 |[]=>by decide +kernel
 |[c]=>rfl
 |c :: d :: l=>by have ih:=iH (d :: l);show sg ((⟨#[c]⟩:Str) ++ "" ++ Str.join "" ((d :: l).map fun c=>(⟨#[c]⟩:Str)))=_;rw[gY,gY,ih,show sg ("" : Str)=[] by decide +kernel];rfl
theorem rP:∀ l:List Nat,(l.map fun _=>1).sum=l.length
 |[]=>rfl
 |x :: l=>by simp[rP l];lia
def cz:gy:=fun ds Q=>∃ c t:Int,ds=[.int c,.int t]/\∀ names:List Str,names.length=6->(∀ n∈names,Open n)->names.Nodup->Q (.ow true) (.list (names.map .str))
theorem j6 (ds Q) (h:cz ds Q):ds.length=["_law_cell", "_law_turn"].length:=by obtain⟨_,_,rfl,_⟩:=h;rfl
theorem oJ:∀ ds Q,cz ds Q->iI { nx:=fun _=>Q .sh .non,rt:=Q } (aH 10 ds):=by
 rintro ds Q ⟨c,t,rfl,h⟩;unfold iI;walk_at "q";have s0:=tS c (show(6:Int)≠0 by decide);have s1:=sC c (show(0:Int)<6 by decide);generalize fz:1+c % 6=size at *
 refine⟨by lia,by lia,?_⟩;refine bj _ (fun i ρ=>∃ (cc:Int) (ps:List Int) (o:Option Sl),ps.length=i/\(∀ p∈ps,0<=p/\p<26)/\ρ=[some (.sh (.int cc)),some (.sh (.int t)),some (.sh (.str abc)),some (.sh (.int size)),some (.ow true (.list (ps.map .int))),o,none,none,none,none]) ⟨_,[],_,rfl,(fun p hp=>nomatch hp),rfl⟩ ?_ ?_
 ·rintro i x ρ hx ⟨cc,ps,o,hl,hp,rfl⟩ N hN;obtain⟨hi,rfl⟩:=gh hx;walk_at "q";refine⟨by lia,?_⟩;rw[ints_app];refine hN _ ⟨_,ps++[cc % 26],_,by simp[hl],fun p gu=>?_,rfl⟩;rcases eS.mp gu with h'|h'
  ·exact hp p h'
  ·rw[vk.mp h'];exact⟨tS _ (by decide),sC _ (by decide)⟩
 rintro ρ ⟨cc,ps,o,hl,hp,rfl⟩;rw[fM] at hl;walk_at "q";have e0:(Str.ofString "").length=0:=by decide
 refine aO (fun _=>true) (fun d=>match d with
  |.int p=>.str ⟨#[97+p.toNat]⟩
  |d=>d) (fun ρ=>∃ o,ρ=[o,some (.sh (.str abc))]) _ _ _ ⟨_,rfl⟩ ?_ ?_
 ·rintro y hy ρ ⟨o,rfl⟩ N1 N2 _ h2;obtain⟨p,gu,rfl⟩:=de.mp hy;walk_at "q";exact⟨_,vR (hp p gu).1 (hp p gu).2,.inl rfl,h2 _ ⟨_,rfl⟩ rfl⟩
 rw[bN];refine⟨(ps.map fun p=>97+p.toNat).map fun c=>⟨#[c]⟩,?_,?_,?_⟩
 ·rw[gi,<- kO,gi,gi];rfl
 ·rw[e0,gi,Nat.mul_zero,LH];show((ps.map fun p=>97+p.toNat).map fun _=>1).sum<=_;rw[rP,cK];lia
 have hw:=iH (ps.map fun p=>97+p.toNat);generalize Str.join "" ((ps.map fun p=>97+p.toNat).map fun c=>(⟨#[c]⟩:Str))=word at hw ⊢;have wl:word.length=size.toNat:=by
  have:(sg word).length=size.toNat:=by rw[hw,cK,hl]
  rw[<- this];unfold sg Str.length;simp
 have Vg:lets word:=fun ch hc=>by rw[hw] at hc;obtain⟨p,gu,rfl⟩:=de.mp hc;have:=hp p gu;simp[isLet];lia
 refine R.D (fun _=>?_) fun _=>?_
 ·walk_at "q"
  refine aO (fun _=>true) (fun d=>match d with
   |.int k=>.str (kR (uk 6 word) none (some k))
   |d=>d) (fun ρ=>∃ o,ρ=[o,some (.sh (.str word))]) _ _ _ ⟨_,rfl⟩ ?_ ?_
  ·rintro y hy ρ ⟨o,rfl⟩ N1 N2 _ h2;obtain⟨i,hi,rfl⟩:=nF hy;walk_at "q";exact⟨by lia,.inl rfl,h2 _ ⟨_,rfl⟩ rfl⟩
  ·rw[bN]
   have e6:(List.map (fun d=>match d with
    |.int k=>D.str (kR (uk 6 word) none (some k))
    |d=>d) (gk 1 6))=((List.range 6).map fun i=>kR (uk 6 word) none (some (1+(i:Nat):Int))).map D.str:=by
    unfold gk;rw[gi,gi];rfl
   rw[e6];have l0:∀ i:Nat,i<6->(kR (uk 6 word) none (some (1+(i:Nat):Int))).length=(1+(i:Int)).toNat:=fun i hi=>qK (by lia) (by rw[nJ,wl];simp;lia);refine h _ (by simp) (fun n hn=>?_) ?_;rotate_left
   ·rw[List.Nodup,wo];refine List.Pairwise.imp_of_mem (fun {a b} ha hb B8 e=>?_) Pu;have ha:=l0 a (by simpa using ha);have hb:=l0 b (by simpa using hb);rw[e] at ha;lia
   obtain⟨i,hi,rfl⟩:=de.mp hn;have hi:i<6:=by simpa using hi
   have l1:(kR (uk 6 word) none (some (1+(i:Nat):Int))).length=(1+(i:Int)).toNat:=qK (by lia) (by rw[nJ,wl];simp;lia);exact⟨by rw[l1];lia,by rw[l1];lia,mq (yC Vg) _ _⟩
 ·walk_at "q";refine⟨by lia,?_⟩;have a0:=tS t (show size≠0 by lia);have a1:=sC t (show 0<size by lia);generalize t % size=at' at *
  have l1:(kR word none (some at')).length=at'.toNat:=qK a0 (by lia);have l2:(kR word (some (at'+1)) none).length=word.length-(at'+1).toNat:=Bg (by lia) (by lia);refine bj _ (fun i ρ=>∃ (names:List Str) (o5 o9:Option Sl),names=(List.range i).map (fun k=>kR word none (some at') ++ ⟨#[97+((ps.getD at'.toNat 0+5*(0+(k:Int))) % 26).toNat]⟩++kR word (some (at'+1)) none)/\(∀ n∈names,Open n)/\ρ=[some (.sh (.int cc)),some (.sh (.int t)),some (.sh (.str abc)),some (.sh (.int size)),some (.ow true (.list (ps.map .int))),o5,some (.sh (.str word)),some (.sh (.int at')),some (.ow true (.list (names.map .str))),o9]) ⟨[],_,_,rfl,(fun n hn=>nomatch hn),rfl⟩ ?_ ?_
  ·rintro i x ρ hx ⟨names,o5,o9,hn,hd,rfl⟩ N hN;obtain⟨hi,rfl⟩:=gh hx;have hi:i<6:=hi;have hnl:names.length=i:=by rw[hn,cK,A5]
   walk_at "q";have hat:at'.toNat<ps.length:=by lia
   refine⟨.int ps[at'.toNat],?_,?_⟩
   ·have:=DV (xs:=ps.map D.int) (j:=at'.toNat) (v:=.int ps[at'.toNat]) (by simp[hat]);rwa[pT a0] at this
   walk_at "q";obtain⟨ch,ec,lc⟩:=z9 (ps[at'.toNat]+5*(0+(i:Int)));have ech:ch=97+((ps.getD at'.toNat 0+5*(0+(i:Int))) % 26).toNat:=by have:=vR (tS (ps[at'.toNat]+5*(0+(i:Int))) (show(26:Int)≠0 by decide)) (sC _ (by decide));rw[this] at ec;rw[show ps.getD at'.toNat 0=ps[at'.toNat] by simp[List.getD,hat]];exact(Option.some.inj ec).symm
   refine⟨.inl ⟨by lia,by lia⟩,ch,ec,?_⟩;refine⟨by rw[l1,fK];lia,by rw[l1,l2,fK];lia,by lia,?_⟩;rw[rQ];refine hN _ ⟨names++[_],_,_,by rw[Px,k6,<- hn,ech,List.map_singleton],fun n LW=>?_,rfl⟩;rcases eS.mp LW with h'|h'
   ·exact hd n h'
   ·obtain rfl:n=_:=by simpa using h'
    refine⟨?_,?_,rG (rG (mq Vg _ _) (yt lc)) (mq Vg _ _)⟩
    ·rw[aW,aW,l1,l2,fK];lia
    ·rw[aW,aW,l1,l2,fK];lia
  ·rintro ρ ⟨names,o5,o9,hn,hd,rfl⟩;rw[fM] at hn;walk_at "q";refine h names (by rw[hn,cK,A5]) hd ?_;rw[hn,List.Nodup,wo];refine List.Pairwise.imp_of_mem (fun {a b} ha hb B8 e=>?_) Pu;have ha:a<6:=by simpa using ha
   have hb:b<6:=by simpa using hb
   have e:=congrArg sg e;rw[gY,gY,gY,gY,List.append_cancel_right_eq,List.append_cancel_left_eq] at e;have e:97+((ps.getD at'.toNat 0+5*(0+(a:Int))) % 26).toNat=97+((ps.getD at'.toNat 0+5*(0+(b:Int))) % 26).toNat:=by simpa[sg] using e
   generalize ps.getD at'.toNat 0=z at e;exact B8 (by lia)
def iG:WS :=
 (cw (eK 3 (nS cy))
 (cw (qq (eF (fP qo (av 0))) (gN 4)
 (cw (eK 5 (aC ke (aC oo (aC gv (aC ke (aC dk (av 0) (av 4)) (wC (.int 2147483647))) (wC (.int 1))) (aC gv (wC (.int 48271)) (aC oo (wC (.int 7)) (av 4)))) (wC (.int 2147483647))))
 (cw (eK 6 (aC dk (av 2) (aC ke (aC nL (av 5) (av 1)) (fP qo (av 2)))))
 (i5 6 (B7 (sT 3) (iA (ak (aC ke (av 5) (av 1)) (ak (av 6) (ak (aC ke (aC nL (av 5) (aC oo (av 1) (fP qo (av 2)))) (av 1)) cy)))))))))
 (iV 3)))
def cu:gy:=fun ds Q=>∃ (cells:List Int) (many:Int) (names:List Str),ds=[.list (cells.map .int),.int many,.list (names.map .str)]/\cells.length<=200/\1<=many/\many<=20/\1<=names.length/\names.length<=20/\Q (.ow true) (.list ((Kx cells many names).map dS))
theorem j_ (ds Q) (h:cu ds Q):ds.length=["_law_cells", "_law_many", "_law_deeds_here"].length:=by obtain⟨_,_,_,rfl,_⟩:=h;rfl
theorem oE:∀ ds Q,cu ds Q->iG { nx:=fun _=>Q .sh .non,rt:=Q } (aH 7 ds):=by
 rintro ds Q ⟨cells,many,names,rfl,hc,m1,m2,n1,n2,h⟩;unfold iG;walk_at "q";refine⟨by lia,by lia,?_⟩;refine bj _ (fun i ρ=>∃ (o4 o5 o6:Option Sl),ρ=[some (.sh (.list (cells.map .int))),some (.sh (.int many)),some (.sh (.list (names.map .str))),some (.ow true (.list (((List.range i).map fun i=>xo many names ((cells.getD i 0 % 2147483647+1)*(48271+7*(0+(i:Int))) % 2147483647)).map dS))),o4,o5,o6]) ⟨_,_,_,rfl⟩ ?_ ?_
 ·rintro i x ρ hx ⟨o4,o5,o6,rfl⟩ N hN;obtain⟨hi,rfl⟩:=gh hx;have hi:i<cells.length:=by lia
  walk_at "q";have eg:cells.getD i 0=cells[i]:=by rw[GN,wm hi];rfl
  have e0:gV (cells.map D.int) (0+(i:Int))=some (.int (cells.getD i 0)):=by have:=DV (xs:=cells.map D.int) (j:=i) (v:=.int (cells.getD i 0)) (by rw[eg];simp[hi]);rwa[DC]
  refine⟨_,e0,?_⟩;walk_at "q";rw[rF] at hN;have c0:=tS (cells.getD i 0) (show(2147483647:Int)≠0 by decide);have c1:=sC (cells.getD i 0) (show(0:Int)<2147483647 by decide);refine⟨.inl ⟨by lia,by lia⟩,.inl ⟨by lia,by lia⟩,⟨by lia,by lia⟩,by lia,?_⟩;generalize (cells.getD i 0 % 2147483647+1)*(48271+7*(0+(i:Int))) % 2147483647=num at hN ⊢;obtain⟨hn,e⟩:=xq (num / many) n1;refine⟨.str (wa names (num / many)),e,?_⟩;walk_at "q";have b5:many*(names.length:Int)<=20*20:=HG m2 (by lia) (by lia) (by lia);have b6:0<many*(names.length:Int):=Int.mul_pos (by lia) (by lia);refine⟨by lia,.inl ⟨by lia,by lia⟩,⟨b6,by lia⟩,by lia,by simp;lia,?_⟩;rw[k6] at hN;exact hN _ ⟨_,_,_,rfl⟩
 ·rintro ρ ⟨o4,o5,o6,rfl⟩;rw[fM];walk_at "q";unfold Kx at h;rwa[show((cells.length:Int)).toNat=cells.length by lia] at *
def jN:WS :=
 (cw (eK 2 (nS cy))
 (cw (eK 3 (aC ke (av 0) (wC (.int 7))))
 (cw (eK 0 (aC nL (av 0) (wC (.int 7))))
 (cw (qq (eF (av 3)) (gN 4)
 (cw (B7 (sT 2) (aC dk (av 1) (aC ke (av 0) (wC (.int 6)))))
 (eK 0 (aC nL (av 0) (wC (.int 6))))))
 (iV 2)))))
def eV:gy:=fun ds Q=>∃ (c:Int) (pool:List Str),ds=[.int c,.list (pool.map .str)]/\pool.length=6/\Q (.ow true) (.list ((Kk pool c).map .str))
theorem mL (ds Q) (h:eV ds Q):ds.length=["_law_cell", "_law_pool"].length:=by obtain⟨_,_,rfl,_⟩:=h;rfl
theorem qi:∀ ds Q,eV ds Q->jN { nx:=fun _=>Q .sh .non,rt:=Q } (aH 5 ds):=by
 rintro ds Q ⟨c,pool,rfl,hp,h⟩;unfold jN;walk_at "q";have s0:=tS c (show(7:Int)≠0 by decide);have s1:=sC c (show(0:Int)<7 by decide);unfold Kk at h;generalize c % 7=size at *
 refine⟨by lia,by lia,?_⟩;refine bj _ (fun i ρ=>∃ (o:Option Sl),ρ=[some (.sh (.int (dP 6 i (c / 7)))),some (.sh (.list (pool.map .str))),some (.ow true (.list (((List.range i).map fun i=>wa pool (dP 6 i (c / 7))).map .str))),some (.sh (.int size)),o]) ⟨_,rfl⟩ ?_ ?_
 ·rintro i x ρ hx ⟨o,rfl⟩ N hN;obtain⟨hi,rfl⟩:=gh hx;walk_at "q";obtain⟨hn,e⟩:=xq (l:=pool) (dP 6 i (c / 7)) (by lia);rw[hp] at e;refine⟨_,e,?_⟩;walk_at "q";refine⟨by simp;lia,?_⟩;rw[rQ,<- rF (fun i=>wa pool (dP 6 i (c / 7)))];exact hN _ ⟨_,rfl⟩
 ·rintro ρ ⟨o,rfl⟩;rw[fM];walk_at "q";exact h
def iM:WS :=
 (kN (qb (fP (D6 "int") (av 0)) (xW (fP (D6 "bool") (av 0)))))
def bF:gy:=fun ds Q=>∃ i:Int,ds=[.int i]/\Q .sh (.bl true)
theorem kh (ds Q) (h:bF ds Q):ds.length=["_law_found"].length:=by obtain⟨_,rfl,_⟩:=h;rfl
theorem oA:∀ ds Q,bF ds Q->iM { nx:=fun _=>Q .sh .non,rt:=Q } (aH 1 ds):=by rintro ds Q ⟨i,rfl,h⟩;unfold iM;walk_at "q";refine R.T rfl ?_;walk_at "q";exact h
def lG:WS :=
 (cw (eK 1 uO)
 (cw (i5 0 (qq (cX (aC dk (av 0) (wC (.int 1)))) (gT 3 (cO (gN 2) (cO (gN 3) (cO (gN 4) qD))))
 (i5 4 (i5 3 (i5 2 (Rt 1 (iA (ak (av 2) (ak (av 3) cy))) (av 4)))))))
 (iV 1)))
structure Gd(m n:Int)(l1 l2:List bX):Prop where
 m1:1<=m
 m2:m<=20
 n1:1<=n
 n2:n<=20
 o1:∀ s∈l1,iO m s
 o2:∀ s∈l2,iO n s
 z:l1.length+l2.length<=56
def di:gy:=fun ds Q=>∃ (many:Int) (l:List bX),ds=[mD many l]/\l.length<=2000/\∀ kvs,AX l kvs->Q (.ow true) (.dT kvs)
theorem oU (ds Q) (h:di ds Q):ds.length=["_law_m"].length:=by obtain⟨_,_,rfl,_⟩:=h;rfl
theorem tV:∀ ds Q,di ds Q->lG { nx:=fun _=>Q .sh .non,rt:=Q } (aH 5 ds):=by
 rintro ds Q ⟨many,l,rfl,hz,h⟩;unfold lG mD;walk_at "q";refine bj _ (fun i ρ=>∃ (kvs:Kn) (o2 o3 o4:Option Sl),AX (l.take i) kvs/\kvs.length<=i/\ρ=[some (.sh (.tup [.int many,.list (l.map dS)])),some (.ow true (.dT kvs)),o2,o3,o4]) ⟨[],_,_,_,AX.nil,by simp,rfl⟩ ?_ ?_
 ·rintro i x ρ hx ⟨kvs,o2,o3,o4,hw,hk,rfl⟩ N hN;have hi:=(lP.mp hx).1;rw[cK] at hi;obtain⟨p,d,r,rfl,hs,et⟩:=oK hx;walk_at "q";refine⟨by lia,?_,hN _ ⟨_,_,_,_,by rw[et];exact hw.put p d r,by have:=vC [.inl p,.inr d] (.int r) kvs;lia,rfl⟩⟩;rw[hw p d];have:=gO (l.take i) p d;rw[i7] at this;split
  ·trivial
  ·show List.length _<_;rw[cK];exact DK (by lia)
 ·rintro ρ ⟨kvs,o2,o3,o4,hw,hk,rfl⟩;rw[cK,yi] at hw;walk_at "q";exact h kvs hw
def jK:WS :=
 (cw (i5 4 (i5 0 (xV 6 (OZ (aC dk (av 2) (wC (.int 0))) (iA (ak (av 0) (ak (av 4) cy))) (nS cy)))))
 (cw (i5 4 (i5 1 (xV 7 (OZ (aC dk (av 2) (wC (.int 1))) (iA (ak (av 1) (ak (av 4) cy))) (nS cy)))))
 (cw (eK 8 (nS cy))
 (cw (kF (wB (aC (AO true) (av 4) (av 5)))
 (kN (aC gv (eG (dR (av 6)) (gN 0) xD (aC gv (aC oo (av 0) (av 1)) (av 2)) 1 [3,1]) (eG (dR (av 7)) (gN 0) xD (aC gv (aC oo (av 2) (av 1)) (av 0)) 1 [3,0])))
 bL)
 (cw (i5 6 (qq (cX (av 6)) (gN 9)
 (i5 7 (qq (cX (av 7)) (gN 10)
 (B7 (sT 8) (aC gv (aC oo (av 9) (av 3)) (av 10)))))))
 (iV 8))))))
def Vh(f:Int->Int):D->D
 |.int r=>.int (f r)
 |d=>d
theorem u9(f:Int->Int)(l:List Int):(l.map D.int).map (Vh f)=(l.map f).map D.int:=by rw[gi,gi];rfl
theorem p7{l:List Int}{i:Nat}{x:D}(h:(l.map D.int)[i]? = some x):∃ c,x=.int c/\c∈l/\l.take (i+1)=l.take i++[c]:=by
 rw[qV] at h
 cases e:l[i]? with
 |none=>rw[e] at h;cases h
 |some s =>rw[e] at h;cases h;exact⟨s,rfl,tI e,by rw[ER,e];rfl⟩
def qP(p q n:Int)(l1 l2:List bX)(tg:List Str)(d:Str):List Int:=if d∈tg then (aY l1 p d).flatMap fun r=>(aY l2 q d).map fun s=>r*n+s else (aY l1 p d).map (fun r=>r*n+q)++(aY l2 q d).map fun s=>p*n+s
theorem jt{α β:Type}{l:List α}{g:α->List β}{k:Nat}(h:∀ x∈l,(g x).length<=k):(l.flatMap g).length<=l.length*k:=by
 induction l with
 |nil=>simp
 |cons x l ih =>have:=h x eL;have:=ih fun y hy=>h y (eI _ hy);rw[List.flatMap_cons,kH,sA,Nb];lia
theorem pq(p q n:Int){l1 l2:List bX}(tg:List Str)(d:Str)(z1:l1.length<=80)(z2:l2.length<=80):(qP p q n l1 l2 tg d).length<=6400:=by
 have e1:=gO l1 p d;have e2:=gO l2 q d;unfold qP;split
 ·have:=jt (l:=aY l1 p d) (g:=fun r=>(aY l2 q d).map fun s=>r*n+s) (k:=80) fun x _=>by rw[cK];lia
  lia
 ·simp;lia
def eO:gy:=fun ds Q=>∃ (p q n:Int) (l1 l2:List bX) (k1 k2:Kn) (tg:List Str) (d:Str),ds=[.int p,.int q,.tup [.dT k1,.dT k2],.int n,.str d,.list (tg.map .str)]/\AX l1 k1/\AX l2 k2/\(0<=p/\p<20)/\(0<=q/\q<20)/\(1<=n/\n<=20)/\(∀ s∈l1,iO 20 s)/\(∀ s∈l2,iO 20 s)/\l1.length<=80/\l2.length<=80/\Q (.ow true) (.list ((qP p q n l1 l2 tg d).map .int))
theorem mK (ds Q) (h:eO ds Q):ds.length=["_law_p", "_law_q", "_law_ways", "_law_n", "_law_deed", "_law_together"].length:=by obtain⟨_,_,_,_,_,_,_,_,_,rfl,_⟩:=h;rfl
theorem p6:∀ ds Q,eO ds Q->jK { nx:=fun _=>Q .sh .non,rt:=Q } (aH 11 ds):=by
 rintro ds Q ⟨p,q,n,l1,l2,k1,k2,tg,d,rfl,h1,h2,hp,hq,hn,o1,o2,z1,z2,h⟩;have e1:=gO l1 p d;have e2:=gO l2 q d;have b1:∀ x∈aY l1 p d,0<=x/\x<20:=fun x hx=>(o1 _ (bY.mp hx)).2.2.2;have b2:∀ x∈aY l2 q d,0<=x/\x<20:=fun x hx=>(o2 _ (bY.mp hx)).2.2.2;unfold qP at h;unfold jK;walk_at "q";refine xg h1 fun m=>?_;walk_at "q";refine xg h2 fun m2=>?_;walk_at "q";refine⟨rfl,gH tg,?_⟩;rw[nH];generalize aY l1 p d=E1 at *
 generalize aY l2 q d=E2 at *
 by_cases hd:d∈tg
 ·rw[if_pos hd] at h;rw[decide_eq_true hd];walk_at "q";have bl:∀ i,((E1.take i).flatMap fun r=>E2.map fun s=>r*n+s).length<=6400:=fun i=>by
   have:=jt (l:=E1.take i) (g:=fun r=>E2.map fun s=>r*n+s) (k:=80) fun x _=>by rw[cK];lia
   rw[i7] at this;lia
  refine bj _ (fun i ρ=>∃ o9 FT:Option Sl,ρ=[some (.sh (.int p)),some (.sh (.int q)),some (.sh (.tup [.dT k1,.dT k2])),some (.sh (.int n)),some (.sh (.str d)),some (.sh (.list (tg.map .str))),some (.sh (.list (E1.map .int))),some (.sh (.list (E2.map .int))),some (.ow true (.list (((E1.take i).flatMap fun r=>E2.map fun s=>r*n+s).map .int))),o9,FT]) ⟨_,_,rfl⟩ ?_ ?_
  ·rintro i x ρ hx ⟨o9,FT,rfl⟩ N hN;obtain⟨r,rfl,hr,et⟩:=p7 hx;have b:=b1 r hr;have bb:=bl i;walk_at "q";refine bj _ (fun j ρ=>∃ FT:Option Sl,ρ=[some (.sh (.int p)),some (.sh (.int q)),some (.sh (.tup [.dT k1,.dT k2])),some (.sh (.int n)),some (.sh (.str d)),some (.sh (.list (tg.map .str))),some (.sh (.list (E1.map .int))),some (.sh (.list (E2.map .int))),some (.ow true (.list ((((E1.take i).flatMap fun r=>E2.map fun s=>r*n+s)++(E2.take j).map fun s=>r*n+s).map .int))),some (.sh (.int r)),FT]) ⟨_,by rw[List.take_zero,Lz,kr]⟩ ?_ ?_
   ·rintro j y ρ hy ⟨FT,rfl⟩ N2 Mb;obtain⟨s,rfl,hs,et2⟩:=p7 hy;walk_at "q";refine⟨.inl ⟨by lia,by lia⟩,by rw[kH,cK,i7];lia,Mb _ ⟨some (.sh (.int s)),?_⟩⟩;simp only[et2,k6,tJ];rfl
   ·rintro ρ ⟨FT,rfl⟩;refine hN _ ⟨some (.sh (.int r)),FT,?_⟩;rw[et,GO,cK,yi];simp
  ·rintro ρ ⟨o9,FT,rfl⟩;rw[cK,yi];walk_at "q";exact h
 ·rw[if_neg hd,k6] at h;rw[decide_eq_false hd];walk_at "q";refine aO (fun _=>true) (Vh fun r=>r*n+q) (fun ρ=>∃ o,ρ=[o,some (.sh (.int n)),some (.sh (.int q))]) _ _ _ ⟨_,rfl⟩ ?_ ?_
  ·rintro y hy ρ ⟨o,rfl⟩ N1 N2 _ h2;obtain⟨r,hr,rfl⟩:=de.mp hy;have:=b1 r hr;walk_at "q";exact⟨.inl ⟨by lia,by lia⟩,.inl rfl,h2 _ ⟨_,rfl⟩ rfl⟩
  ·rw[bN,u9];refine aO (fun _=>true) (Vh fun s=>p*n+s) (fun ρ=>∃ o,ρ=[o,some (.sh (.int n)),some (.sh (.int p))]) _ _ _ ⟨_,rfl⟩ ?_ ?_
   ·rintro y hy ρ ⟨o,rfl⟩ N1 N2 _ h2;obtain⟨r,hr,rfl⟩:=de.mp hy;have:=b2 r hr;walk_at "q";exact⟨.inl ⟨by lia,by lia⟩,.inl rfl,h2 _ ⟨_,rfl⟩ rfl⟩
   ·rw[bN,u9];exact⟨by simp;lia,.inl ⟨cW _,cW _,h⟩⟩
def fV:WS :=
 (cw (eK 2 (nS (ak (wC (.str "*")) (ak (wC (.str "")) (ak (wC (.str "A")) (ak (wC (.str "a b")) (ak (wC (.str "a1")) (ak (wC (.str "abcdefg")) (ak (wC (.str " a")) (ak (wC (.str "a*")) (ak (aC gv (aC dk (av 1) (wC (.int 0))) (wC (.str " "))) (ak (fP wI (aC dk (av 1) (wC (.int 1)))) (ak (aC gv (aC dk (av 1) (wC (.int 2))) (wC (.str "aaaaaa"))) cy)))))))))))))
 (kN (aC dk (av 2) (aC ke (av 0) (wC (.int 11))))))
def cF:gy:=fun ds Q=>∃ (c:Int) (pool:List Str),ds=[.int c,.list (pool.map .str)]/\pool.length=6/\(∀ n∈pool,Open n)/\∀ x:Str,¬ Open x->Q .sh (.str x)
theorem jf (ds Q) (h:cF ds Q):ds.length=["_law_cell", "_law_pool"].length:=by obtain⟨_,_,rfl,_⟩:=h;rfl
theorem Fv:∀ i:_root_.Fin 26,Unicode.upperOf (97+i.val)=[65+i.val]:=by decide +kernel
theorem Fb{x:Str}(h:Open x):¬ Open (Txt.upper x):=by
 intro z;have hl:0<x.cps.size:=h.1;have hc:=h.2.2 x.cps[0] (by unfold sg;exact SD.mpr (Array.getElem_mem hl));have hr:97<=x.cps[0]/\x.cps[0]<=122:=by simpa[isLet] using hc
 have e:Unicode.upperOf x.cps[0]=[65+(x.cps[0]-97)]:=by have:=Fv ⟨x.cps[0]-97,by lia⟩;rwa[show 97+(x.cps[0]-97)=x.cps[0] by lia] at this
 have hm:65+(x.cps[0]-97)∈sg (Txt.upper x):=by unfold sg Txt.upper placed;rw[SD,Array.mem_flatten];refine⟨(Unicode.upperOf x.cps[0]).toArray,?_,by rw[e];simp⟩;exact Array.mem_iff_getElem.mpr ⟨0,by simpa using hl,by simp⟩
 have:=z.2.2 _ hm;simp[isLet] at this;lia
theorem j0:∀ ds Q,cF ds Q->fV { nx:=fun _=>Q .sh .non,rt:=Q } (aH 3 ds):=by
 rintro ds Q ⟨c,pool,rfl,hp,ho,h⟩;unfold fV;walk_at "q"
 match pool,hp with
 |[p0,p1,p2,p3,p4,p5],_ =>
  have o0:=ho p0 (by simp);have o1:=ho p1 (by simp);have o2:=ho p2 (by simp);refine⟨.str p0,rfl,?_⟩;walk_at "q";have l0:=o0.2.1;have l1:=o1.2.1;have l2:=o2.2.1;refine⟨?_,by lia,?_,?_⟩
  ·rw[show(Str.ofString " ").length=1 from by decide +kernel];lia
  ·rw[show(Str.ofString "aaaaaa").length=6 from by decide +kernel];lia
  have h11:=tS c (show(11:Int)≠0 by decide);have iA':=sC c (show(0:Int)<11 by decide);obtain⟨x,hx,e⟩:=uG (names:=["*", "", "A", "a b", "a1", "abcdefg", " a", "a*",p0 ++ " ",Txt.upper p1,p2 ++ "aaaaaa"]) (i:=c % 11) h11 (by simpa using iA');refine⟨.str x,e,h x ?_⟩;simp only[eM,GP,or_false] at hx;rcases hx with rfl|rfl|rfl|rfl|rfl|rfl|rfl|rfl|rfl|rfl|rfl
  ·exact fun z=>absurd (bW.mpr z) (by decide +kernel)
  ·exact fun z=>absurd (bW.mpr z) (by decide +kernel)
  ·exact fun z=>absurd (bW.mpr z) (by decide +kernel)
  ·exact fun z=>absurd (bW.mpr z) (by decide +kernel)
  ·exact fun z=>absurd (bW.mpr z) (by decide +kernel)
  ·exact fun z=>absurd (bW.mpr z) (by decide +kernel)
  ·exact fun z=>absurd (bW.mpr z) (by decide +kernel)
  ·exact fun z=>absurd (bW.mpr z) (by decide +kernel)
  ·intro z;have:=z.2.2 32 (by rw[gY];exact fe _ (by decide +kernel));exact absurd this (by decide)
  ·exact Fb o1
  ·intro z;have:=z.2.1;have:=o2.1;rw[aW,show(Str.ofString "aaaaaa").length=6 from by decide +kernel] at *
   lia
def iC:WS :=
 (cw (kF (wB (aC qk (aC ke (aC nL (av 0) (wC (.int 20))) (wC (.int 4))) (wC (.int 2))))
 (kN (aC dk (nS (ak (iA (ak (wC (.int 20)) (ak (wC (.int 1)) cy))) (ak (iA (ak (wC (.int 1)) (ak (wC (.int 20)) cy))) (ak (iA (ak (wC (.int 10)) (ak (wC (.int 2)) cy))) (ak (iA (ak (wC (.int 2)) (ak (wC (.int 10)) cy))) (ak (iA (ak (wC (.int 6)) (ak (wC (.int 3)) cy))) (ak (iA (ak (wC (.int 3)) (ak (wC (.int 6)) cy))) (ak (iA (ak (wC (.int 7)) (ak (wC (.int 3)) cy))) (ak (iA (ak (wC (.int 1)) (ak (wC (.int 1)) cy))) cy))))))))) (aC ke (aC nL (av 0) (wC (.int 80))) (wC (.int 8)))))
 bL)
 (cw (kF (wB (aC qk (aC ke (aC nL (av 0) (wC (.int 20))) (wC (.int 4))) (wC (.int 3))))
 (kN (iA (ak (aC gv (wC (.int 1)) (aC ke (aC nL (av 0) (wC (.int 80))) (wC (.int 20)))) (ak (aC gv (wC (.int 1)) (aC ke (aC nL (av 0) (wC (.int 1600))) (wC (.int 20)))) cy))))
 bL)
 (kN (iA (ak (aC gv (wC (.int 1)) (aC ke (av 0) (wC (.int 5)))) (ak (aC gv (wC (.int 1)) (aC ke (aC nL (av 0) (wC (.int 5))) (wC (.int 4)))) cy))))))
def dH:gy:=fun ds Q=>∃ c:Int,ds=[.int c]/\∀ m n:Int,(1<=m/\m<=20)->(1<=n/\n<=20)->Q .sh (.tup [.int m,.int n])
theorem j7 (ds Q) (h:dH ds Q):ds.length=["_law_cell"].length:=by obtain⟨_,rfl,_⟩:=h;rfl
theorem oR:∀ ds Q,dH ds Q->iC { nx:=fun _=>Q .sh .non,rt:=Q } (aH 1 ds):=by
 rintro ds Q ⟨c,rfl,h⟩;unfold iC;walk_at "q";refine R.D (fun e1=>?_) fun e1=>?_
 ·walk_at "q";have b:0<=c / 80 % 8/\c / 80 % 8<8:=by lia
  generalize c / 80 % 8=j at b;rcases (show j=0\/j=1\/j=2\/j=3\/j=4\/j=5\/j=6\/j=7 by lia) with rfl|rfl|rfl|rfl|rfl|rfl|rfl|rfl;all_goals exact⟨_,rfl,h _ _ (by decide) (by decide)⟩
 walk_at "q";refine R.D (fun e2=>?_) fun e2=>?_
 ·walk_at "q";exact h _ _ (by lia) (by lia)
 walk_at "q";exact h _ _ (by lia) (by lia)
def fW:WS :=
 (cw (kF (wB (aC FE (aC dk (av 0) (wC (.int 0))) (wC (.int 20))))
 (lD "TooBig" (wC (.str "too many states")))
 bL)
 (cw (kF (wB (aC FE (fP qo (aC dk (av 0) (wC (.int 1)))) (wC (.int 80))))
 (lD "TooBig" (wC (.str "too many different steps")))
 bL)
 (kF (wB (aC FE (fP qo (eG (dR (aR f9 (ak (av 0) cy))) (gN 0) (wB (aR fG (ak (av 0) cy))) (av 0) 1 [])) (wC (.int 6))))
 (lD "TooBig" (wC (.str "too many different open deeds")))
 bL)))
def bJ:gy:=fun ds Q=>∃ (many:Int) (steps:List bX) (k:Nat),ds=[mD many steps]/\steps.length<=2000/\(∀ s∈steps,x6 s.2.1)/\iY steps k/\(MG many steps.length k->Q .sh .non)/\(¬ MG many steps.length k->Q (.ow false) (.str "TooBig"))
theorem iW (ds Q) (h:bJ ds Q):ds.length=["m"].length:=by obtain⟨_,_,_,rfl,_⟩:=h;rfl
theorem oM {n:Str} (h:x6 n):(decide (1<=n.length/\n.length<=6) && (sg n).all isLet)=true↔n ≠ "*" := by
 rcases h with rfl|h
 ·exact⟨fun z=>absurd z (by decide +kernel),fun z=>absurd rfl z⟩
 ·refine⟨fun _ e=>?_,fun _=>?_⟩
  ·subst e;have:=h.2.2 42 (by decide +kernel);exact absurd this (by decide)
  ·simp only[k7,decide_eq_true_eq,GU];exact⟨⟨h.1,h.2.1⟩,h.2.2⟩
theorem kJ:∀ ds Q,bJ ds Q->fW { nx:=fun _=>Q .sh .non,rt:=Q } (aH 1 ds):=by
 rintro ds Q ⟨many,steps,k,rfl,hz,hd,hk,h1,h2⟩;unfold fW mD;walk_at "q";refine R.D (fun a=>?_) fun a=>?_
 ·walk_at "q";exact h2 fun z=>by have:=z.1;lia
 walk_at "q";refine R.D (fun b=>?_) fun b=>?_
 ·walk_at "q";exact h2 fun z=>by have:=z.2.1;lia
 walk_at "q";refine⟨many,steps,rfl,hz,fun names nd mm=>?_⟩;walk_at "q"
 refine aO (fun d=>match d with
  |.str x=>decide (1<=x.length/\x.length<=6) && (sg x).all isLet
  |_=>false) (fun d=>d) (fun ρ=>∃ o,ρ=[o]) _ _ _ ⟨_,rfl⟩ ?_ ?_
 ·rintro x hx ρ ⟨o,rfl⟩ N1 N2 n1 n2;obtain⟨n,hn,rfl⟩:=de.mp hx;walk_at "q";refine⟨_,rfl,?_⟩;walk_at "q";try rw[show mn' (.str n)=(decide (1<=n.length/\n.length<=6) && (sg n).all isLet) from rfl]
  cases e:(decide (1<=n.length/\n.length<=6) && (sg n).all isLet) with
  |true =>rw[if_pos rfl];exact⟨.inl rfl,n2 _ ⟨_,rfl⟩ e⟩
  |false =>rw[if_neg kK];exact n1 _ ⟨_,rfl⟩ e
 ·have e1:(names.map D.str).filter (fun d=>match d with
    |.str x=>decide (1<=x.length/\x.length<=6) && (sg x).all isLet
    |_=>false)=(names.filter fun x=>decide (1<=x.length/\x.length<=6) && (sg x).all isLet).map D.str:=by
   rw[List.filter_map];rfl
  rw[e1,cK,cK];have Fm:∀ x∈names,x6 x:=fun x hx=>by obtain⟨s,fF,e⟩:=de.mp ((mm x).mp hx);rw[<- e];exact hd s fF
  have hl:=hk.uniq ⟨names.filter fun x=>decide (1<=x.length/\x.length<=6) && (sg x).all isLet,nd.filter _,fun n=>by
   rw[A7,<- mm n];exact⟨fun z=>⟨z.1,(oM (Fm n z.1)).mp z.2⟩,fun z=>⟨z.1,(oM (Fm n z.1)).mpr z.2⟩⟩,rfl⟩
  rw[<- hl];refine R.D (fun c=>?_) fun c=>?_
  ·walk_at "q";exact h2 fun z=>by have:=z.2.2;lia
  ·walk_at "q";exact h1 ⟨by lia,by lia,by lia⟩
def iR:WS :=
 (i5 0 (qq (cX (av 0)) (gN 1)
 (kF (sd (wB (aR fG (ak (av 1) cy))))
 (lD "NoDeed" (wC (.str "a deed that is not open")))
 bL)))
def dB:gy:=fun ds Q=>∃ names:List Str,ds=[.list (names.map .str)]/\((∀ n∈names,Open n)->Q .sh .non)/\((∃ n,n∈names/\¬ Open n)->Q (.ow false) (.str "NoDeed"))
theorem j4 (ds Q) (h:dB ds Q):ds.length=["deeds"].length:=by obtain⟨_,rfl,_⟩:=h;rfl
theorem oZ:∀ ds Q,dB ds Q->iR { nx:=fun _=>Q .sh .non,rt:=Q } (aH 2 ds):=by
 rintro ds Q ⟨names,rfl,h1,h2⟩;unfold iR;walk_at "q";refine bj _ (fun i ρ=>∃ o,(∀ n∈names.take i,Open n)/\ρ=[some (.sh (.list (names.map .str))),o]) ⟨_,by simp,rfl⟩ ?_ ?_
 ·rintro i x ρ hx ⟨o,ho,rfl⟩ N hN;obtain⟨n,rfl,hn,et⟩:=zx hx;walk_at "q";refine⟨n,rfl,?_⟩;walk_at "q";by_cases hp:Open n
  ·rw[bW.mpr hp];walk_at "q";refine hN _ ⟨_,fun m hm=>?_,rfl⟩;rw[et] at hm;rcases eS.mp hm with hm|hm
   ·exact ho m hm
   ·have:m=n:=by simpa using hm
    rw[this];exact hp
  ·rw[Bool.eq_false_iff.mpr fun z=>hp (bW.mp z)];walk_at "q";exact h2 ⟨n,hn,hp⟩
 ·rintro ρ ⟨o,ho,rfl⟩;rw[cK,yi] at ho;walk_at "q";exact h1 ho
def cV:WS :=
 (cw (kF (AK (sd (wB (fP (D6 "tuple") (av 0)))) (AK (wB (aC zh (fP qo (av 0)) (wC (.int 2)))) (sd (wB (aR bF (ak (aC dk (av 0) (wC (.int 0))) cy))))))
 (kN (wC (.bl false)))
 bL)
 (cw (kF (sd (wB (fP (D6 "list") (aC dk (av 0) (wC (.int 1))))))
 (kN (wC (.bl false)))
 bL)
 (cw (i5 0 (qq (cX (aC dk (av 0) (wC (.int 1)))) (gN 1)
 (cw (kF (AK (sd (wB (fP (D6 "tuple") (av 1)))) (AK (wB (aC zh (fP qo (av 1)) (wC (.int 3)))) (sd (wB (fP (D6 "str") (aC dk (av 1) (wC (.int 1))))))))
 (kN (wC (.bl false)))
 bL)
 (kF (AK (sd (wB (aR bF (ak (aC dk (av 1) (wC (.int 0))) cy)))) (sd (wB (aR bF (ak (aC dk (av 1) (wC (.int 2))) cy)))))
 (kN (wC (.bl false)))
 bL))))
 (kN (wC (.bl true))))))
def bH:gy:=fun ds Q=>∃ (many:Int) (l:List bX),ds=[mD many l]/\Q .sh (.bl true)
theorem gq (ds Q) (h:bH ds Q):ds.length=["_law_found"].length:=by obtain⟨_,_,rfl,_⟩:=h;rfl
theorem iz:∀ ds Q,bH ds Q->cV { nx:=fun _=>Q .sh .non,rt:=Q } (aH 2 ds):=by
 rintro ds Q ⟨many,l,rfl,h⟩;unfold cV mD;walk_at "q";refine R.F (by decide) ?_;walk_at "q";refine R.F (by decide) ?_;walk_at "q";refine⟨many,rfl,?_⟩;walk_at "q";refine R.F (by decide) ?_;walk_at "q";refine bj _ (fun i ρ=>∃ o:Option Sl,ρ=[some (.sh (.tup [.int many,.list (l.map dS)])),o]) ⟨_,rfl⟩ ?_ ?_
 ·rintro i x ρ hx ⟨o,rfl⟩ N hN;obtain⟨p,d,r,rfl,_,_⟩:=oK hx;walk_at "q";refine R.F (by decide) ?_;walk_at "q";refine R.F (by decide) ?_;walk_at "q";refine R.F (by decide) ?_;walk_at "q";refine⟨p,rfl,?_⟩;walk_at "q";refine⟨r,rfl,?_⟩;walk_at "q";exact hN _ ⟨_,rfl⟩
 ·rintro ρ ⟨o,rfl⟩;walk_at "q";exact h
def lE:WS :=
 (cw (eK 3 (aC dk (av 1) (wC (.int 0))))
 (cw (eK 4 (OX (iA (ak (aR di (ak (av 0) cy)) (ak (aR di (ak (av 1) cy)) cy)))))
 (cw (eK 5 (nS cy))
 (cw (qq (cX (fP eZ (eG (dR (aC gv (aC dk (av 0) (wC (.int 1))) (aC dk (av 1) (wC (.int 1))))) (gN 0) xD (aC dk (av 0) (wC (.int 1))) 1 []))) (gN 6)
 (qq (eF (aC dk (av 0) (wC (.int 0)))) (gN 7)
 (qq (eF (av 3)) (gN 8)
 (qq (cX (aR eO (ak (av 7) (ak (av 8) (ak (av 4) (ak (av 3) (ak (av 6) (ak (av 2) cy)))))))) (gN 9)
 (i5 9 (i5 6 (B7 (sT 5) (iA (ak (aC gv (aC oo (av 7) (av 3)) (av 8)) (ak (av 6) (ak (av 9) cy)))))))))))
 (kN (iA (ak (aC oo (aC dk (av 0) (wC (.int 0))) (av 3)) (ak (fP fj (av 5)) cy))))))))
def G1(n:Int)(l1 l2:List bX)(tg:List Str)(d:Str)(p q:Int):List bX:=(qP p q n l1 l2 tg d).map fun e=>(p*n+q,d,e)
def G2(n:Int)(l1 l2:List bX)(tg:List Str)(d:Str)(p:Int)(b:Nat):List bX:=(List.range b).flatMap fun q:Nat=>G1 n l1 l2 tg d p (0+(q:Int))
def G3(n:Int)(l1 l2:List bX)(tg:List Str)(d:Str)(a:Nat):List bX:=(List.range a).flatMap fun p:Nat=>G2 n l1 l2 tg d (0+(p:Int)) n.toNat
def G4(m n:Int)(l1 l2:List bX)(tg:List Str)(ns:List Str):List bX:=ns.flatMap fun d=>G3 n l1 l2 tg d m.toNat
theorem zf{n:Int}{l1 l2:List bX}(tg:List Str)(d:Str)(p q:Int)(z1:l1.length<=80)(z2:l2.length<=80):(G1 n l1 l2 tg d p q).length<=6400:=by unfold G1;rw[cK];exact pq p q n tg d z1 z2
theorem zj{n:Int}{l1 l2:List bX}(tg:List Str)(d:Str)(p:Int){b:Nat}(z1:l1.length<=80)(z2:l2.length<=80)(hb:b<=20):(G2 n l1 l2 tg d p b).length<=128000:=by have:=jt (l:=List.range b) (g:=fun q:Nat=>G1 n l1 l2 tg d p (0+(q:Int))) fun x _=>zf tg d p _ z1 z2;rw[A5] at this;unfold G2;lia
theorem D_{n:Int}{l1 l2:List bX}(tg:List Str)(d:Str){a:Nat}(z1:l1.length<=80)(z2:l2.length<=80)(hn:n<=20)(ha:a<=20):(G3 n l1 l2 tg d a).length<=2560000:=by have:=jt (l:=List.range a) (g:=fun p:Nat=>G2 n l1 l2 tg d (0+(p:Int)) n.toNat) fun x _=>zj tg d _ z1 z2 (by lia);rw[A5] at this;unfold G3;lia
theorem Eh{m n:Int}{l1 l2:List bX}(tg:List Str)(d:Str)(z1:l1.length<=80)(z2:l2.length<=80)(n1:1<=n)(m1:1<=m)(mn:m*n<=20):(G3 n l1 l2 tg d m.toNat).length<=128000:=by
 have h1:=jt (l:=List.range m.toNat) (g:=fun p:Nat=>G2 n l1 l2 tg d (0+(p:Int)) n.toNat) (k:=n.toNat*6400) fun x _=>by have:=jt (l:=List.range n.toNat) (g:=fun q:Nat=>G1 n l1 l2 tg d (0+(x:Int)) (0+(q:Int))) fun y _=>zf tg d _ _ z1 z2;rwa[A5] at this
 rw[A5,<- He] at h1;have:((m.toNat*n.toNat:Nat):Int)=m*n:=by rw[Int.natCast_mul,pT (by lia),pT (by lia)]
 have:m.toNat*n.toNat<=20:=by lia
 have:=Nat.mul_le_mul_right 6400 this;unfold G3;lia
theorem C_{m n:Int}{l1 l2:List bX}(tg ns:List Str)(z1:l1.length<=80)(z2:l2.length<=80)(n1:1<=n)(m1:1<=m)(mn:m*n<=20):(G4 m n l1 l2 tg ns).length<=ns.length*128000 :=
 jt fun d _=>Eh tg d z1 z2 n1 m1 mn
theorem En{m n:Int}{l1 l2:List bX}{tg ns:List Str}(n1:1<=n)(o1:∀ s∈l1,iO m s)(o2:∀ s∈l2,iO n s)(hn:∀ x,x∈ns↔x∈ox (l1++l2))(s:bX):s∈G4 m n l1 l2 tg ns↔s∈mP m n tg l1 l2:=by
 unfold G4 G3 G2 G1 qP;rw[qp];simp only[Pw,rg,de];constructor
 ·rintro⟨d,hd,a,ha,b,hb,e,he,rfl⟩;by_cases c:d∈tg
  ·rw[if_pos c,Pw] at he;obtain⟨r,hr,he⟩:=he;obtain⟨t,ht,rfl⟩:=de.mp he;exact .inr (.inr ⟨_,bY.mp hr,pW.mpr ⟨c,_,bY.mp ht,rfl,rfl⟩⟩)
  ·rw[if_neg c,eS] at he;rcases he with he|he
   ·obtain⟨r,hr,rfl⟩:=de.mp he;exact .inl ⟨_,bY.mp hr,pK.mpr ⟨c,b,hb,rfl⟩⟩
   ·obtain⟨t,ht,rfl⟩:=de.mp he;exact .inr (.inl ⟨_,bY.mp ht,oY.mpr ⟨c,a,ha,rfl⟩⟩)
 ·have nm1:∀ t∈l1,t.2.1∈ns:=fun t ht=>(hn _).mpr (de.mpr ⟨t,jv _ ht,rfl⟩);have nm2:∀ t∈l2,t.2.1∈ns:=fun t ht=>(hn _).mpr (de.mpr ⟨t,fe _ ht,rfl⟩);rintro(⟨⟨p,d,r⟩,ht,hs⟩|⟨⟨q,d,r⟩,ht,hs⟩|⟨⟨p,d,r⟩,ht,hs⟩)
  ·obtain⟨c,q,hq,rfl⟩:=pK.mp hs;have k:=o1 _ ht;have k1:0<=p:=k.1;have k2:p<m:=k.2.1;refine⟨d,nm1 _ ht,p.toNat,by lia,q,hq,r*n+(0+(q:Int)),?_,?_⟩
   ·rw[if_neg c,eS,pT k1,DC p];exact .inl (de.mpr ⟨r,bY.mpr ht,rfl⟩)
   ·rw[pT k1,DC p]
  ·obtain⟨c,a,ha,rfl⟩:=oY.mp hs;have k:=o2 _ ht;have k1:0<=q:=k.1;have k2:q<n:=k.2.1;refine⟨d,nm2 _ ht,a,ha,q.toNat,by lia,(0+(a:Int))*n+r,?_,?_⟩
   ·rw[if_neg c,eS,pT k1,DC q];exact .inr (de.mpr ⟨r,bY.mpr ht,rfl⟩)
   ·rw[pT k1,DC q]
  ·obtain⟨c,⟨q,d2,t⟩,hu,e,rfl⟩:=pW.mp hs;have e:d2=d:=e;subst e;have k:=o1 _ ht;have k1:0<=p:=k.1;have k2:p<m:=k.2.1;have j:=o2 _ hu;have j1:0<=q:=j.1;have j2:q<n:=j.2.1;refine⟨d2,nm1 _ ht,p.toNat,by lia,q.toNat,by lia,r*n+t,?_,?_⟩
   ·rw[if_pos c,Pw,pT k1,pT j1,DC,DC];exact⟨r,bY.mpr ht,de.mpr ⟨t,bY.mpr hu,rfl⟩⟩
   ·rw[pT k1,pT j1,DC,DC]
def zi(m n:Int)(l1 l2:List bX)(tg:List Str)(k1 k2:Kn)(L:List bX)(os:List (Option Sl)):Env:=[some (.sh (.tup [.int m,.list (l1.map dS)])),some (.sh (.tup [.int n,.list (l2.map dS)])),some (.sh (.list (tg.map .str))),some (.sh (.int n)),some (.sh (.tup [.dT k1,.dT k2])),some (.ow true (.list (L.map dS)))]++os
theorem iO.up'{many:Int}{s:bX}(h:iO many s)(hm:many<=20):iO 20 s:=⟨h.1,Ng h.2.1 hm,h.2.2.1,h.2.2.2.1,Ng h.2.2.2.2 hm⟩
theorem Aj{ps U:List bX}(hu:U.length<=1999)(hp:∀ t∈ps,t∈U){m:Md}{Q:Md->D->Prop}(k:∀ out,n5 ps out->Q (.ow true) (.list (out.map dS))):fj m (.list (ps.map dS)) Q:=by
 refine⟨ps.map tF,U.map tF,[false,true],by rw[gi];rfl,by rw[cK];exact hu,fun k hk=>?_,fun k hk=>?_,fun ms nd mm pw=>?_⟩
 ·obtain⟨t,ht,rfl⟩:=de.mp hk;exact de.mpr ⟨t,hp t ht,rfl⟩
 ·obtain⟨t,ht,rfl⟩:=de.mp hk;rfl
 ·obtain⟨out,rfl,ho⟩:=rA (P:=fun t=>t∈ps) (ks:=ms) fun k hk=>by obtain⟨t,ht,e⟩:=de.mp ((mm k).mp hk);exact⟨t,e.symm,ht⟩
  rw[show(out.map tF).map kM=out.map dS by rw[gi];rfl];refine k out ⟨b_ nd,fun s=>⟨fun hm=>ho s hm,fun hm=>?_⟩,wo.mp pw⟩;obtain⟨s',fF,e⟩:=de.mp ((mm (tF s)).mpr (de.mpr ⟨s,hm,rfl⟩));rw[<- mZ e];exact fF
theorem vz{ms:List Key}(h:∀ k∈ms,∃ x:Str,k=Sum.inr x):∃ ns:List Str,ms=ns.map Sum.inr:=by
 induction ms with
 |nil=>exact⟨[],rfl⟩
 |cons k ms ih =>obtain⟨x,rfl⟩:=h k eL;obtain⟨l,rfl⟩:=ih fun k hk=>h k (eI _ hk);exact⟨x :: l,rfl⟩
def dd:D->D
 |.tup [.int _,.str d,.int _]=>.str d
 |d=>d
theorem vW(l:List bX):(l.map dS).map dd=(ox l).map D.str:=by unfold ox;rw[gi,gi];rfl
def gA:gy:=fun ds Q=>∃ (m n:Int) (l1 l2:List bX) (tg:List Str),ds=[mD m l1,mD n l2,.list (tg.map .str)]/\((1<=m/\m<=20)/\(1<=n/\n<=20)/\(∀ s∈l1,iO m s)/\∀ s∈l2,iO n s)/\m*n<=20/\l1.length+l2.length<=60/\(mP m n tg l1 l2).length<=1999/\(∀ out,n5 (mP m n tg l1 l2) out->Q (.ow true) (mD (m*n) out))
theorem pA (ds Q) (h:gA ds Q):ds.length=["_law_one", "_law_other", "_law_together"].length:=by obtain⟨_,_,_,_,_,rfl,_⟩:=h;rfl
theorem ur:∀ ds Q,gA ds Q->lE { nx:=fun _=>Q .sh .non,rt:=Q } (aH 10 ds):=by
 rintro ds Q ⟨m,n,l1,l2,tg,rfl,⟨hm,hn,o1,o2⟩,mn,zz,bz,h⟩;unfold lE mD;walk_at "q";refine⟨m,l1,rfl,by lia,fun k1 h1=>?_⟩;walk_at "q";refine⟨n,l2,rfl,by lia,fun k2 h2=>?_⟩;walk_at "q";rw[<- k6];refine⟨by lia,.inl ⟨aP _,aP _,?_⟩⟩;refine aO (fun _=>true) dd (fun ρ=>∃ o,ρ=[o]) _ _ _ ⟨_,rfl⟩ ?_ ?_
 ·rintro x hx ρ ⟨o,rfl⟩ N1 N2 _ h2;obtain⟨⟨p,d,r⟩,fF,rfl⟩:=de.mp hx;unfold dS;walk_at "q";exact⟨.inl rfl,h2 _ ⟨_,rfl⟩ rfl⟩
 rw[bN,vW];refine⟨(ox (l1++l2)).map Sum.inr,false,by rw[gi];rfl,by simp[ox];lia,?_,?_⟩
 ·intro k hk;obtain⟨x,_,rfl⟩:=de.mp hk;rfl
 intro ms nd mm pw;obtain⟨ns,rfl⟩:=vz (ms:=ms) fun k hk=>by obtain⟨x,hx,rfl⟩:=de.mp ((mm k).mp hk);exact⟨x,rfl⟩
 rw[show(ns.map (Sum.inr:Str->Key)).map oq=ns.map D.str by rw[gi];rfl];have IC:∀ x,x∈ns↔x∈ox (l1++l2):=fun x=>by simpa using mm (Sum.inr x)
 have nl:ns.length<=60:=by have:=TS.aN (b_ nd) fun x hx=>(IC x).mp hx;unfold ox at this;rw[cK,kH] at this;lia
 have z1:l1.length<=80:=by lia
 have z2:l2.length<=80:=by lia
 have s1:=fun s hs=>iO.up' (o1 s hs) hm.2;have s2:=fun s hs=>iO.up' (o2 s hs) hn.2;refine bj _ (fun i ρ=>∃ o6 o7 o8 o9:Option Sl,ρ=zi m n l1 l2 tg k1 k2 (G4 m n l1 l2 tg (ns.take i)) [o6,o7,o8,o9]) ⟨_,_,_,_,rfl⟩ ?_ ?_
 ·rintro i x ρ hx ⟨o6,o7,o8,o9,rfl⟩ N hN;obtain⟨d,rfl,hd,et⟩:=zx hx;have g4:=C_ (m:=m) (n:=n) (l1:=l1) (l2:=l2) tg (ns.take i) z1 z2 hn.1 hm.1 mn;rw[i7] at g4;have e4:G4 m n l1 l2 tg (ns.take (i+1))=G4 m n l1 l2 tg (ns.take i)++G3 n l1 l2 tg d m.toNat:=by rw[et];unfold G4;rw[GO];simp
  rw[e4] at hN;generalize G4 m n l1 l2 tg (ns.take i)=A4 at *
  unfold zi;walk_at "q";refine⟨by lia,by lia,bj _ (fun a ρ=>∃ o7 o8 o9:Option Sl,ρ=zi m n l1 l2 tg k1 k2 (A4++G3 n l1 l2 tg d a) [some (.sh (.str d)),o7,o8,o9]) ⟨o7,o8,o9,by unfold G3 zi;simp⟩ ?_ ?_⟩
  ·rintro a x ρ hx ⟨o7,o8,o9,rfl⟩ N2 Mb;obtain⟨ha,rfl⟩:=gh hx;have g3:=D_ (n:=n) (l1:=l1) (l2:=l2) tg d (a:=a) z1 z2 hn.2 (by lia);have e3:A4++G3 n l1 l2 tg d (a+1)=(A4++G3 n l1 l2 tg d a)++G2 n l1 l2 tg d (0+(a:Int)) n.toNat:=by unfold G3;rw[Px,GO,tJ];simp
   rw[e3] at Mb;have g34:(A4++G3 n l1 l2 tg d a).length<=11000000:=by rw[kH];lia
   generalize A4++G3 n l1 l2 tg d a=A3 at *
   unfold zi;walk_at "q";refine⟨by lia,by lia,bj _ (fun b ρ=>∃ o8 o9:Option Sl,ρ=zi m n l1 l2 tg k1 k2 (A3++G2 n l1 l2 tg d (0+(a:Int)) b) [some (.sh (.str d)),some (.sh (.int (0+(a:Int)))),o8,o9]) ⟨o8,o9,by unfold G2 zi;simp⟩ ?_ ?_⟩
   ·rintro b x ρ hx ⟨o8,o9,rfl⟩ N3 Vi;obtain⟨hb,rfl⟩:=gh hx;have g2:=zj (n:=n) (l1:=l1) (l2:=l2) tg d (0+(a:Int)) (b:=b) z1 z2 (by lia);have e2:A3++G2 n l1 l2 tg d (0+(a:Int)) (b+1)=(A3++G2 n l1 l2 tg d (0+(a:Int)) b)++G1 n l1 l2 tg d (0+(a:Int)) (0+(b:Int)):=by unfold G2;rw[Px,GO,tJ];simp
    rw[e2] at Vi;have g23:(A3++G2 n l1 l2 tg d (0+(a:Int)) b).length<=12000000:=by rw[kH];lia
    generalize A3++G2 n l1 l2 tg d (0+(a:Int)) b=A2 at *
    unfold zi;walk_at "q";refine⟨0+(a:Int),0+(b:Int),n,l1,l2,k1,k2,tg,d,rfl,h1,h2,⟨by lia,by lia⟩,⟨by lia,by lia⟩,hn,s1,s2,z1,z2,?_⟩;walk_at "q";have el:=pq (0+(a:Int)) (0+(b:Int)) n tg d z1 z2;unfold G1 at Vi;generalize qP (0+(a:Int)) (0+(b:Int)) n l1 l2 tg d=es at *
    refine bj _ (fun c ρ=>∃ o9:Option Sl,ρ=zi m n l1 l2 tg k1 k2 (A2++(es.take c).map fun e=>((0+(a:Int))*n+(0+(b:Int)),d,e)) [some (.sh (.str d)),some (.sh (.int (0+(a:Int)))),some (.sh (.int (0+(b:Int)))),o9]) ⟨o9,by unfold zi;simp⟩ ?_ ?_
    ·rintro c x ρ hx ⟨o9,rfl⟩ N4 hN4;obtain⟨e,rfl,he,et⟩:=p7 hx;unfold zi at *
     walk_at "q";refine⟨.inl ⟨by lia,by lia⟩,by rw[kH,cK,i7];lia,hN4 _ ⟨some (.sh (.int e)),?_⟩⟩;simp only[et,k6,tJ];rfl
    ·rintro ρ ⟨o9,rfl⟩;rw[cK,yi];exact Vi _ ⟨_,_,rfl⟩
   ·rintro ρ ⟨o8,o9,rfl⟩;rw[fM];exact Mb _ ⟨_,_,_,rfl⟩
  ·rintro ρ ⟨o7,o8,o9,rfl⟩;rw[fM];exact hN _ ⟨_,_,_,_,rfl⟩
 ·rintro ρ ⟨o6,o7,o8,o9,rfl⟩;rw[cK,yi];have gm:=En (m:=m) (n:=n) (l1:=l1) (l2:=l2) (tg:=tg) (ns:=ns) hn.1 o1 o2 IC;generalize G4 m n l1 l2 tg ns=L at *
  unfold zi;walk_at "q";exact⟨.inl ⟨by lia,by lia⟩,Aj (m:=.sh) (Q:=fun _ x=>Q (.ow true) (.tup [.int (m*n),x])) bz (fun t ht=>(gm t).mp ht) fun out M=>h out ⟨M.1,fun s=>(M.2.1 s).trans (gm s),M.2.2⟩⟩
def b7:WS :=
 (i5 3 (yU [.inr 8,.inl (iA (ak (av 3) (ak (fP cU (aR cu (ak (D5 (av 5) (ju (av 6)) d9) (ak (av 3) (ak (av 7) cy))))) cy)))]))
def eY:WS :=
 (cw (kF (wB (aC qk (aC ke (av 9) (wC (.int 4))) (wC (.int 1))))
 (eK 7 (aC gv (nS (ak (wC (.str "*")) cy)) (aR cz (ak (aR aD (ak (av 0) (ak (wC (.int 5)) cy))) (ak (aC nL (av 9) (wC (.int 4))) cy)))))
 bL)
 b7)
def dZ:WS :=
 (cw (i5 2 (eK 8 (iA (ak (av 2) (ak (fP cU (aR cu (ak (D5 (av 5) d9 (ju (av 6))) (ak (av 2) (ak (av 7) cy))))) cy)))))
 (cw (eK 9 (aR aD (ak (av 0) (ak (wC (.int 4)) cy))))
 eY))
def d_:WS :=
 (cw (eK 6 (aC ke (aC nL (av 4) (wC (.int 4))) (aC gv (fP qo (av 5)) (wC (.int 1)))))
 (cw (eK 7 (aC gv (nS (ak (wC (.str "*")) cy)) (D5 (av 1) d9 (ju (wC (.int 5))))))
 dZ))
def eU:WS :=
 (cw (eK 5 (D5 (av 0) (ju (wC (.int 8))) (ju (aC gv (wC (.int 8)) (aC dk (nS (ak (wC (.int 4)) (ak (wC (.int 10)) (ak (wC (.int 20)) (ak (wC (.int 56)) cy))))) (aC ke (av 4) (wC (.int 4))))))))
 d_)
def lq:WS :=
 (cw (vf 2 3 (aR dH (ak (aR aD (ak (av 0) (ak (wC (.int 0)) cy))) cy)))
 (cw (eK 4 (aR aD (ak (av 0) (ak (wC (.int 3)) cy))))
 eU))
def gB:gy:=fun ds Q=>∃ (cells:List Int) (pool:List Str),ds=[.list (cells.map .int),.list (pool.map .str)]/\cells.length<=63/\pool.length=6/\(∀ n∈pool,Open n)/\∀ m n l1 l2,Gd m n l1 l2->Q (.ow true) (.tup [mD m l1,mD n l2])
theorem oX (ds Q) (h:gB ds Q):ds.length=["_law_script", "_law_pool"].length:=by obtain⟨_,_,rfl,_⟩:=h;rfl
theorem nZ{Q:Md->D->Prop}{cells cs:List Int}{pool ns:List Str}{m n c few turn:Int}{l1:List bX}(b:0<=c/\c<(cs.length:Int)+1)(cl:cs.length<=56)(hn:1<=n/\n<=20)(H:1<=m/\m<=20/\(∀ s∈l1,iO m s)/\l1.length<=c.toNat)(nd:∀ d∈ns,x6 d)(n1:1<=ns.length)(n2:ns.length<=20)(h:∀ m n l1 l2,Gd m n l1 l2->Q (.ow true) (.tup [mD m l1,mD n l2])) :
  b7 { nx:=fun _=>Q .sh .non,rt:=Q } [some (.sh (.list (cells.map .int))),some (.sh (.list (pool.map .str))),some (.sh (.int m)),some (.sh (.int n)),some (.sh (.int few)),some (.ow true (.list (cs.map .int))),some (.sh (.int c)),some (.ow true (.list (ns.map .str))),some (.ow true (.tup [.int m,.list (l1.map dS)])),some (.sh (.int turn))]:=by
 unfold b7;walk_at "q";rw[jr];have c1:(iE cs (some c) none).length<=cs.length-c.toNat:=by unfold iE;rw[i7];simp only[HT.cp];rw[if_neg (by lia)];lia
 refine .inl ⟨cW cs,iE cs (some c) none,n,ns,rfl,by lia,hn.1,hn.2,n1,n2,?_⟩;have so:=zp (cells:=iE cs (some c) none) (many:=n) (names:=ns) hn.1 n1 nd;have sl:=vp (iE cs (some c) none) n ns;generalize Kx (iE cs (some c) none) n ns=l at *
 walk_at "q";obtain⟨ks,sh,q1,q2,q3,q4⟩:=qZ (l:=l) (fun xs=>∀ ms:List (List Key),ms.map kM=xs->∃ out,n5 l out/\ms.map kM=out.map dS) (by lia) fun out M ms e=>⟨out,M,e⟩
 refine⟨ks,sh,q1,q2,q3,fun O9 Vj mm pw=>?_⟩;obtain⟨l2,M,e'⟩:=q4 O9 Vj mm pw O9 rfl;rw[e'];have ol:=M.len;have:=h m n l1 l2 ⟨H.1,H.2.1,hn.1,hn.2,H.2.2.1,fun s hs=>so s ((M.2.1 s).mp hs),by have:=H.2.2.2;lia⟩;exact this
theorem uf:∀ ds Q,gB ds Q->lq { nx:=fun _=>Q .sh .non,rt:=Q } (aH 10 ds):=by
 rintro ds Q ⟨cells,pool,rfl,hc,hp,ho,h⟩;obtain⟨w2,e2⟩:∃ w,w=eU:=⟨_,rfl⟩
 unfold lq;rw[<- e2];walk_at "q";refine⟨cells,0,rfl,by lia,?_⟩;walk_at "q";refine⟨_,rfl,fun m n hm hn=>?_⟩;walk_at "q";refine⟨cells,3,rfl,by lia,?_⟩;walk_at "q";generalize cells.getD 3 0=few;rw[e2];obtain⟨w3,e3⟩:∃ w,w=d_:=⟨_,rfl⟩
 unfold eU;rw[<- e3];walk_at "q";obtain⟨s,hs,es⟩:∃ s:Int,(4<=s/\s<=56)/\gV [D.int 4,D.int 10,D.int 20,D.int 56] (few % 4)=some (.int s):=by
  have b:0<=few % 4/\few % 4<4:=by lia
  generalize few % 4=j at b;rcases (show j=0\/j=1\/j=2\/j=3 by lia) with rfl|rfl|rfl|rfl
  ·exact⟨4,by decide,rfl⟩
  ·exact⟨10,by decide,rfl⟩
  ·exact⟨20,by decide,rfl⟩
  ·exact⟨56,by decide,rfl⟩
 refine⟨_,es,?_⟩;walk_at "q";rw[jr];refine .inl ⟨cW cells,?_⟩;have cl:(iE cells (some 8) (some (8+s))).length<=56:=by unfold iE;rw[i7];simp only[HT.cp];rw[if_neg (by lia),if_neg (by lia)];lia
 generalize iE cells (some 8) (some (8+s))=cs at *
 rw[e3];obtain⟨w5,e5⟩:∃ w,w=dZ:=⟨_,rfl⟩
 unfold d_;rw[<- e5];walk_at "q";rw[Bx];have pl:=jo pool none (some 5);have pm:=fun x (hx:x∈iE pool none (some 5))=>zX hx;generalize iE pool none (some 5)=KG at *
 refine⟨by lia,.inl ⟨fu pool,by rw[cK];lia,.inl ⟨fu KG,?_⟩⟩⟩;have nd:∀ d∈("*" : Str) :: KG,x6 d:=fun d hd=>by
  rcases eM.mp hd with hd|hd
  ·exact .inl hd
  ·exact .inr (ho d (pm d hd))
 have b1:=tS (few / 4) (show(cs.length:Int)+1≠0 by lia);have b2:=sC (few / 4) (show(0:Int)<(cs.length:Int)+1 by lia);generalize few / 4 % ((cs.length:Int)+1)=c at *
 rw[e5];obtain⟨w7,e7⟩:∃ w,w=eY:=⟨_,rfl⟩
 unfold dZ;rw[<- e7];walk_at "q";rw[jr];have c1:(iE cs none (some c)).length<=c.toNat:=by unfold iE;rw[i7];simp only[HT.cp];rw[if_neg (by lia)];lia
 refine .inl ⟨cW cs,iE cs none (some c),m,("*" : Str) :: KG,rfl,by lia,hm.1,hm.2,by simp,by simp;lia,?_⟩;have so:=zp (cells:=iE cs none (some c)) (many:=m) (names:=("*" : Str) :: KG) hm.1 (by simp) nd;have sl:=vp (iE cs none (some c)) m (("*" : Str) :: KG);generalize Kx (iE cs none (some c)) m (("*" : Str) :: KG)=l at *
 walk_at "q";obtain⟨ks,sh,q1,q2,q3,q4⟩:=qZ (l:=l) (fun xs=>∀ ms:List (List Key),ms.map kM=xs->∃ out,n5 l out/\ms.map kM=out.map dS) (by lia) fun out M ms e=>⟨out,M,e⟩
 refine⟨ks,sh,q1,q2,q3,fun O9 Vj mm pw=>?_⟩;obtain⟨l1,M,e'⟩:=q4 O9 Vj mm pw O9 rfl;rw[e'];have ol:=M.len;have o1:∀ s∈l1,iO m s:=fun s hs=>so s ((M.2.1 s).mp hs);refine⟨cells,4,rfl,by lia,?_⟩;walk_at "q";generalize cells.getD 4 0=turn;have fin:∀ o7:List Str,(∀ d∈o7,x6 d)->1<=o7.length->o7.length<=20->b7 { nx:=fun _=>Q .sh .non,rt:=Q } [some (.sh (.list (cells.map .int))),some (.sh (.list (pool.map .str))),some (.sh (.int m)),some (.sh (.int n)),some (.sh (.int few)),some (.ow true (.list (cs.map .int))),some (.sh (.int c)),some (.ow true (.list (o7.map .str))),some (.ow true (.tup [.int m,.list (l1.map dS)])),some (.sh (.int turn))]:=fun ns IC n1 n2 =>
  nZ ⟨b1,b2⟩ cl hn ⟨hm.1,hm.2,o1,by lia⟩ IC n1 n2 h
 obtain⟨w8,e8⟩:∃ w,w=b7:=⟨_,rfl⟩
 rw[<- e8] at fin;rw[e7];unfold eY;rw[<- e8];walk_at "q";refine R.D (fun e1=>?_) fun e1=>?_
 ·walk_at "q";refine⟨cells,5,rfl,by lia,?_⟩;walk_at "q";refine⟨_,_,rfl,fun ns hl hop _=>?_⟩;walk_at "q";refine⟨by lia,.inl ⟨fu ns,?_⟩⟩;refine fin (("*" : Str) :: ns) (fun d hd=>?_) (by simp) (by simp;lia);rcases eM.mp hd with hd|hd
  ·exact .inl hd
  ·exact .inr (hop d hd)
 ·walk_at "q";exact fin (("*" : Str) :: KG) nd (by simp) (by simp;lia)
def rO:WS :=
 (cw (pX dB (ak (av 2) cy))
 (cw (eK 3 (aC oo (aC dk (av 0) (wC (.int 0))) (aC dk (av 1) (wC (.int 0)))))
 (cw (i5 3 (pX bJ (ak (iA (ak (av 3) (ak (nS cy) cy))) cy)))
 (cw (eK 4 (aC gv (aR cG (ak (av 0) (ak (av 1) (ak (av 2) cy)))) (aR bU (ak (av 0) (ak (av 1) (ak (av 2) cy))))))
 (cw (i5 3 (eK 5 (iA (ak (av 3) (ak (fP cU (aC gv (av 4) (aR bO (ak (av 0) (ak (av 1) (ak (av 2) cy)))))) cy)))))
 (cw (pX bJ (ak (av 5) cy))
 (iV 5)))))))
theorem Ez:∀ l:List Str,∃ m:List Str,m.Nodup/\∀ x,x∈m↔x∈l
 |[]=>⟨[],k9,fun _=>Iff.rfl⟩
 |y :: l=>by
  obtain⟨m,nd,h⟩:=Ez l;by_cases hy:y∈m
  ·refine⟨m,nd,fun x=>(h x).trans ⟨fun z=>eI _ z,fun z=>?_⟩⟩;rcases eM.mp z with rfl|z
   ·exact(h x).mp hy
   ·exact z
  ·exact⟨y :: m,lT.mpr ⟨hy,nd⟩,fun x=>by rw[eM,eM,h]⟩
theorem vK(steps:List bX):∃ k,iY steps k:=by obtain⟨m,nd,h⟩:=Ez ((ox steps).filter fun n=>decide (n≠("*" : Str)));exact⟨_,m,nd,fun n=>(h n).trans (by rw[A7];simp),rfl⟩
structure O_(m n:Int)(l1 l2:List bX):Prop where
 m1:1<=m
 m2:m<=20
 n1:1<=n
 n2:n<=20
 z1:l1.length<=80
 z2:l2.length<=80
 o1:∀ s∈l1,iO m s
 o2:∀ s∈l2,iO n s
theorem iO.up{many:Int}{s:bX}(h:iO many s)(hm:many<=20):iO 20 s:=⟨h.1,Ng h.2.1 hm,h.2.2.1,h.2.2.2.1,Ng h.2.2.2.2 hm⟩
theorem yu{m n:Int}{tg:List Str}{l1 l2:List bX}(T:O_ m n l1 l2):∀ s∈mP m n tg l1 l2,x6 s.2.1:=fun s hs=>by
 rcases qp.mp hs with⟨t,ht,hs⟩|⟨t,ht,hs⟩|⟨t,ht,hs⟩
 ·obtain⟨_,q,_,rfl⟩:=pK.mp hs;exact(T.o1 t ht).2.2.1
 ·obtain⟨_,q,_,rfl⟩:=oY.mp hs;exact(T.o2 t ht).2.2.1
 ·obtain⟨_,u,_,_,rfl⟩:=pW.mp hs;exact(T.o1 t ht).2.2.1
def gZ:gy:=fun ds Q=>∃ (m n:Int) (l1 l2:List bX) (tg:List Str),ds=[mD m l1,mD n l2,.list (tg.map .str)]/\O_ m n l1 l2/\(m*n<=20->(mP m n tg l1 l2).length<=2000) /\ ((∃ t,t∈tg/\¬ Open t)->Q (.ow false) (.str "NoDeed"))/\((∀ t∈tg,Open t)->(¬ m*n<=20->Q (.ow false) (.str "TooBig")) /\ (m*n<=20->∀ out k,n5 (mP m n tg l1 l2) out->iY out k->(MG (m*n) out.length k->Q (.ow true) (mD (m*n) out))/\(¬ MG (m*n) out.length k->Q (.ow false) (.str "TooBig"))))
theorem tX (ds Q) (h:gZ ds Q):ds.length=["one", "other", "together"].length:=by obtain⟨_,_,_,_,_,rfl,_⟩:=h;rfl
theorem xQ:∀ ds Q,gZ ds Q->rO { nx:=fun _=>Q .sh .non,rt:=Q } (aH 6 ds):=by
 rintro ds Q ⟨m,n,l1,l2,tg,rfl,T,hz,h1,h2⟩;have m1:=T.m1;have m2:=T.m2;have n1:=T.n1;have n2:=T.n2;have z1:=T.z1;have z2:=T.z2;have s1:=fun s hs=>(T.o1 s hs).up m2;have s2:=fun s hs=>(T.o2 s hs).up n2;have mnp:0<=m*n:=E3 (by lia) (by lia);have mnq:m*n<=20*20:=HG (by lia) (by lia) (by lia) (by lia);unfold rO mD;walk_at "q";refine⟨tg,rfl,fun ht=>?_,fun ht=>?_⟩;rotate_left
 ·walk_at "q";exact h1 ht
 obtain⟨h3,h4⟩:=h2 ht;walk_at "q";refine⟨.inl ⟨by lia,by lia⟩,m*n,[],0,rfl,by simp,(fun s hs=>nomatch hs),⟨[],k9,fun n=>by simp[ox],rfl⟩,fun sm=>?_,fun sm=>?_⟩;rotate_left
 ·walk_at "q";exact h3 fun z=>sm ⟨z,by simp,by simp⟩
 have mn:=sm.1;have hz:=hz mn;walk_at "q";refine⟨m,n,l1,l2,tg,rfl,n1,n2,by lia,s1,?_⟩;walk_at "q";refine⟨m,n,l1,l2,tg,rfl,m1,m2,n1,n2,by lia,s2,?_⟩;have bl:(l1.flatMap (si n tg)).length+(l2.flatMap (sj m n tg)).length+(l1.flatMap (toS n tg l2)).length<=2000:=by unfold mP at hz;rwa[kH,kH] at hz
 walk_at "q";refine⟨by lia,.inl ⟨aP _,aP _,m,n,l1,l2,tg,rfl,n1,n2,by lia,by lia,s1,s2,?_⟩⟩;walk_at "q";rw[<- k6,<- k6];refine⟨by rw[cK,kH];lia,.inl ⟨aP _,aP _,?_⟩⟩;obtain⟨ks,sh,e1,e2,e3,e4⟩:=qZ (l:=mP m n tg l1 l2) (fun xs=>∀ ms:List (List Key),ms.map kM=xs->∃ out,n5 (mP m n tg l1 l2) out/\ms.map kM=out.map dS) hz fun out M ms e=>⟨out,M,e⟩
 refine⟨ks,sh,e1,e2,e3,fun ms nd mm pw=>?_⟩;obtain⟨out,M,e⟩:=e4 ms nd mm pw ms rfl;rw[e];have ol:out.length<=2000:=ky M.len hz;obtain⟨k,hk⟩:=vK out;obtain⟨h5,h6⟩:=h4 mn out k M hk;refine⟨m*n,out,k,rfl,ol,fun s hs=>yu T s ((M.2.1 s).mp hs),hk,fun sm=>?_,fun sm=>?_⟩
 ·walk_at "q";exact h5 sm
 ·walk_at "q";exact h6 sm
def jU:WS :=
 (cw (eK 3 (iA cy))
 (cw (eK 4 (wC .non))
 (cw (By 5 (Ca 4 (vM gZ (ak (av 0) (ak (av 1) (ak (av 2) cy))))) (fun a n=>(cw (eK 6 (Ki 5 a (decide (n = "NoText") || (decide (n = "NoFrame") || (decide (n = "NoMachine") || (decide (n = "NoState") || false))))))
 (i5 6 (eK 3 (iA (ak (Ki 5 a (decide (n = "NoDeed"))) (ak (Ki 5 a (decide (n = "TooBig"))) (ak (Ki 5 a true) (ak (av 6) cy))))))))))
 (yU [.inr 4,.inr 3]))))
theorem G5{m n:Int}{tg:List Str}{l1 l2:List bX}:(mP m n tg l1 l2).length<=l1.length*n.toNat+l2.length*m.toNat+l1.length*l2.length:=by unfold mP;rw[kH,kH];have a:=ir (l:=l1) (vN n tg);have b:=ir (l:=l2) (vB m n tg);have c:=ir (l:=l1) (uR n tg l2);lia
theorem Hy{m n:Int}{l1 l2:List bX}{tg:List Str}{Q:Md->D->Prop}(two:O_ m n l1 l2)(few:m*n<=20->(mP m n tg l1 l2).length<=2000)(h:(n9 m n tg l1 l2).on Q):gZ [mD m l1,mD n l2,.list (tg.map .str)] Q:=by
 refine⟨m,n,l1,l2,tg,rfl,two,few,fun⟨t,ht,z⟩=>?_,fun ho=>⟨fun z=>?_,fun z out k M hk=>?_⟩⟩
 ·unfold n9 at h;rw[if_neg fun g=>z (g t ht)] at h;exact h
 ·unfold n9 at h;rw[if_pos ho,if_neg z] at h;exact h
 ·unfold n9 at h;rw[if_pos ho,if_pos z,yZ M,zr hk] at h;refine⟨fun sm=>?_,fun sm=>?_⟩
  ·rw[if_pos sm] at h;refine h ⟨Int.mul_pos (by have:=two.m1;lia) (by have:=two.n1;lia),z,fun s hs=>?_,sm.2.1,M.1,fun _=>.rfl,M.2.2⟩;exact Ds (by have:=two.m1;lia) (by have:=two.n1;lia) two.o1 two.o2 s ((M.2.1 s).mp hs)
  ·rw[if_neg sm] at h;exact h
def EE:Res->Md
 |.ok _ _=>.ow true
 |.no _=>.sh
def zk:Res->D
 |.ok m l=>.tup [mD m l,.tup []]
 |.no c=>.tup [.non,.tup [.bl (decide (c = "NoDeed")),.bl (decide (c = "TooBig")),.bl true,.bl false]]
theorem zM {m n:Int} {tg:List Str} {l1 l2:List bX} {c:Str} (h:n9 m n tg l1 l2=.no c):c = "NoDeed"\/c = "TooBig" := by
 unfold n9 at h;split at h
 ·split at h
  ·split at h
   ·cases h
   ·cases h;exact .inr rfl
  ·cases h;exact .inr rfl
 ·cases h;exact .inl rfl
def bB:gy:=fun ds Q=>∃ (m n:Int) (l1 l2:List bX) (tg:List Str),ds=[mD m l1,mD n l2,.list (tg.map .str)]/\O_ m n l1 l2/\(m*n<=20->(mP m n tg l1 l2).length<=2000)/\((∀ M o,n9 m n tg l1 l2=.ok M o->Hm M o)->Q (EE (n9 m n tg l1 l2)) (zk (n9 m n tg l1 l2)))
theorem mX (ds Q) (h:bB ds Q):ds.length=["_law_one", "_law_other", "_law_together"].length:=by obtain⟨_,_,_,_,_,rfl,_⟩:=h;rfl
theorem pZ:∀ ds Q,bB ds Q->jU { nx:=fun _=>Q .sh .non,rt:=Q } (aH 7 ds):=by
 rintro ds Q ⟨m,n,l1,l2,tg,rfl,T,few,h⟩;unfold jU;walk_at "q";refine Hy T few ?_
 cases e:n9 m n tg l1 l2 with
 |ok M o =>
  intro z;rw[e] at h;have q:=h fun M' o' e'=>by cases e';exact z
  unfold zk mD at q;unfold mD;walk_at "q";exact q
 |no c =>
  rw[e] at h;have q:=h fun M' o' e'=>nomatch e';unfold Res.on;walk_at "q";rcases zM e with rfl|rfl
  ·intro a;walk_at "q";exact q
  ·intro a;walk_at "q";exact q
def jy:WS :=
 (cw (vf 3 4 (OX (aR bB (ak (av 0) (ak (av 1) (ak (av 2) cy))))))
 (cw (eK 5 (aC FE (aC oo (aC dk (av 0) (wC (.int 0))) (aC dk (av 1) (wC (.int 0)))) (wC (.int 20))))
 (cw (kF (sd (QX (av 5)))
 (cw (eK 6 (aR gA (ak (av 0) (ak (av 1) (ak (av 2) cy)))))
 (eK 5 (QR (aC FE (fP qo (aC dk (av 6) (wC (.int 1)))) (wC (.int 80))) (aC FE (fP (nU "*") (eG (dR (aC dk (av 6) (wC (.int 1)))) (gN 0) xD (aC dk (av 0) (wC (.int 1))) 1 [])) (wC (.int 6))))))
 bL)
 (cw (kF (QX (av 5))
 (kN (aC qk (av 4) (iA (ak (wC (.bl false)) (ak (wC (.bl true)) (ak (wC (.bl true)) (ak (wC (.bl false)) cy)))))))
 bL)
 (kN (qb (aC qk (av 4) (iA cy)) (qb (aR bH (ak (av 3) cy)) (aC qk (av 3) (av 6)))))))))
open Classical in
theorem zb {m n:Int} {tg:List Str} {l1 l2 out:List bX} {k:Nat} (ho:∀ t∈tg,Open t) (mn:m*n<=20) (M:n5 (mP m n tg l1 l2) out) (hk:iY out k):n9 m n tg l1 l2=if MG (m*n) out.length k then .ok (m*n) out else .no "TooBig" := by unfold n9;rw[if_pos ho,if_pos mn,yZ M,zr hk]
theorem Cj {m n:Int} {tg:List Str} {l1 l2:List bX} (ho:∀ t∈tg,Open t) (mn:¬ m*n<=20):n9 m n tg l1 l2=.no "TooBig" := by unfold n9;rw[if_pos ho,if_neg mn]
theorem vm {out:List bX} {k:Nat} (hk:iY out k) {ms:List Key} (nd:ms.Nodup) (mm:∀ k:Key,k∈ms↔k∈(ox out).map Sum.inr/\k≠Sum.inr ("*" : Str)):ms.length=k:=by
 obtain⟨ns,rfl⟩:=vz (ms:=ms) fun k hk=>by obtain⟨x,hx,rfl⟩:=de.mp ((mm k).mp hk).1;exact⟨x,rfl⟩
 rw[cK];exact iY.uniq ⟨ns,b_ nd,fun x=>by simpa using mm (Sum.inr x),rfl⟩ hk
theorem Gd.T{m n:Int}{l1 l2:List bX}(G:Gd m n l1 l2):O_ m n l1 l2:=by have:=G.z;exact⟨G.m1,G.m2,G.n1,G.n2,by lia,by lia,G.o1,G.o2⟩
theorem Gd.few{m n:Int}{l1 l2:List bX}(G:Gd m n l1 l2)(tg:List Str):(mP m n tg l1 l2).length<=1999:=by
 have b:=G5 (m:=m) (n:=n) (tg:=tg) (l1:=l1) (l2:=l2);have z:=G.z;have h1:l1.length*n.toNat<=l1.length*20:=Ss _ (by have:=G.T.n2;lia);have h2:l2.length*m.toNat<=l2.length*20:=Ss _ (by have:=G.T.m2;lia);have h3:l1.length*l2.length<=l1.length*(56-l1.length):=Ss _ (by lia);have h4:∀ x:Nat,x<=56->x*(56-x)<=784:=by decide
 have:=h4 l1.length (by lia);lia
def bC:gy:=fun ds Q=>∃ (m n:Int) (l1 l2:List bX) (tg:List Str),ds=[mD m l1,mD n l2,.list (tg.map .str)]/\Gd m n l1 l2/\(∀ t∈tg,Open t)/\Q .sh (.bl true)
theorem lO (ds Q) (h:bC ds Q):ds.length=["_law_one", "_law_other", "_law_together"].length:=by obtain⟨_,_,_,_,_,rfl,_⟩:=h;rfl
theorem qW:∀ ds Q,bC ds Q->jy { nx:=fun _=>Q .sh .non,rt:=Q } (aH 7 ds):=by
 rintro ds Q ⟨m,n,l1,l2,tg,rfl,G,ho,h⟩;have T:=G.T;have few:=G.few tg;have b1:=T.m1;have b2:=T.m2;have b3:=T.n1;have b4:=T.n2;unfold jy;walk_at "q";refine⟨m,n,l1,l2,tg,rfl,T,fun _=>by lia,fun hH=>?_⟩;have Rg:∀ out:List bX,(∀ s∈out,iO (m*n) s)->eh 12 (mD (m*n) out)=true:=fun out ok=>O7 9 ok;have mn0:0<=m*n:=E3 (by lia) (by lia);by_cases mn:m*n<=20
 ·cases e:n9 m n tg l1 l2 with
  |ok M o =>
   unfold EE zk mD;walk_at "q";refine⟨.inl ⟨by lia,by lia⟩,?_⟩;rw[decide_eq_false (show ¬ 20<m*n by lia)];walk_at "q";refine⟨m,n,l1,l2,tg,rfl,⟨⟨b1,b2⟩,⟨b3,b4⟩,T.o1,T.o2⟩,mn,by have:=G.z;lia,few,fun out Mo=>?_⟩;obtain⟨k,hk⟩:=vK out;have e2:=zb ho mn Mo hk;rw[e] at e2;have ol:=Mo.len;split at e2
   ·rename_i sm;cases e2;have hH:=hH _ _ e;have ok:=Rg _ hH.ok;unfold mD;walk_at "q";rw[decide_eq_false (show ¬ 80<(o.length:Int) by have:=sm.2.1;lia)];walk_at "q";refine aO (fun _=>true) dd (fun ρ=>∃ o,ρ=[o]) _ _ _ ⟨_,rfl⟩ ?_ ?_
    ·rintro x hx ρ ⟨o,rfl⟩ N1 N2 _ h2;obtain⟨⟨p,d,r⟩,fF,rfl⟩:=de.mp hx;unfold dS;walk_at "q";exact⟨.inl rfl,h2 _ ⟨_,rfl⟩ rfl⟩
    rw[bN,vW];refine⟨(ox o).map Sum.inr,by rw[gi];rfl,by simp[ox];lia,fun ms nd mm=>?_⟩;rw[vm hk nd mm,decide_eq_false (show ¬ 6<(k:Int) by have:=sm.2.2;lia)];walk_at "q";refine⟨by decide +kernel,by decide +kernel,?_⟩;rw[show kE (.tup []) (.tup [])=true from by decide +kernel];walk_at "q";refine⟨m*n,o,rfl,?_⟩;walk_at "q";unfold mD at ok;refine⟨ok,ok,?_⟩;rw[eq_self (show(D.tup [.int (m*n),.list (o.map dS)]).nb=true from RK _ _)];exact h
   ·cases e2
  |no c =>
   unfold EE zk mD;walk_at "q";refine⟨.inl ⟨by lia,by lia⟩,?_⟩;rw[decide_eq_false (show ¬ 20<m*n by lia)];walk_at "q";refine⟨m,n,l1,l2,tg,rfl,⟨⟨b1,b2⟩,⟨b3,b4⟩,T.o1,T.o2⟩,mn,by have:=G.z;lia,few,fun out Mo=>?_⟩;obtain⟨k,hk⟩:=vK out;have e2:=zb ho mn Mo hk;rw[e] at e2;have ol:=Mo.len;split at e2
   ·cases e2
   ·rename_i sm;cases e2;unfold mD;walk_at "q";by_cases h8:80<(out.length:Int)
    ·rw[decide_eq_true h8];walk_at "q";refine⟨by decide +kernel,by decide +kernel,?_⟩;rw[show kE _ _=true from by decide +kernel];exact h
    rw[decide_eq_false h8];walk_at "q";refine aO (fun _=>true) dd (fun ρ=>∃ o,ρ=[o]) _ _ _ ⟨_,rfl⟩ ?_ ?_
    ·rintro x hx ρ ⟨o,rfl⟩ N1 N2 _ h2;obtain⟨⟨p,d,r⟩,fF,rfl⟩:=de.mp hx;unfold dS;walk_at "q";exact⟨.inl rfl,h2 _ ⟨_,rfl⟩ rfl⟩
    rw[bN,vW];refine⟨(ox out).map Sum.inr,by rw[gi];rfl,by simp[ox];lia,fun ms nd mm=>?_⟩;rw[vm hk nd mm,decide_eq_true (show 6<(k:Int) from Int.not_le.mp fun z=>sm ⟨mn,by lia,by lia⟩)];walk_at "q";refine⟨by decide +kernel,by decide +kernel,?_⟩;rw[show kE _ _=true from by decide +kernel];exact h
 ·rw[Cj ho mn];unfold EE zk mD;walk_at "q";refine⟨.inl ⟨by lia,by lia⟩,?_⟩;rw[decide_eq_true (show 20<m*n by lia)];walk_at "q";refine⟨by decide +kernel,by decide +kernel,?_⟩;rw[show kE _ _=true from by decide +kernel];exact h
def jh:WS :=
 (kN (qb (aC qk (aR bB (ak (av 2) (ak (av 3) (ak (av 4) cy)))) (av 9)) (aC qk (aC dk (av 9) (wC (.int 0))) (av 10))))
def jj:WS :=
 (cw (rR (Oo (Oo (sT 6) (wC (.int 0))) (wC (.int 1))))
 (cw (kF (sd (wB (aR bC (ak (aC dk (av 6) (wC (.int 0))) (ak (aC dk (av 6) (wC (.int 1))) (ak (av 4) cy))))))
 (kN (wC (.bl false)))
 bL)
 jh))
def ji:WS :=
 (cw (B7 (sT 7) (aC dk (av 1) (aC ke (aC nL (av 5) (wC (.int 5))) (wC (.int 6)))))
 (cw (kF (AK (sd (wB (aR bC (ak (aC dk (av 6) (wC (.int 0))) (ak (aC dk (av 6) (wC (.int 1))) (ak (av 7) cy)))))) (sd (wB (aR bC (ak (aC dk (av 6) (wC (.int 1))) (ak (aC dk (av 6) (wC (.int 0))) (ak (av 7) cy)))))))
 (kN (wC (.bl false)))
 bL)
 jj))
def jl:WS :=
 (cw (kF (wB (aC Cg (aC dk (av 9) (wC (.int 0))) (wC .non)))
 (eK 10 (iA (ak (aC dk (aC dk (av 9) (wC (.int 0))) (wC (.int 0))) (ak (fP pN (aC dk (aC dk (av 9) (wC (.int 0))) (wC (.int 1)))) cy))))
 bL)
 ji)
def mV:WS :=
 (cw (eK 9 (aR bB (ak (aC dk (av 6) (wC (.int 0))) (ak (aC dk (av 6) (wC (.int 1))) (ak (av 7) cy)))))
 (cw (eK 10 (wC .non))
 jl))
def lX:WS :=
 (cw (i5 3 (i5 2 (kF (AK (sd (wB (aR bC (ak (aC dk (av 6) (wC (.int 0))) (ak (aC dk (av 6) (wC (.int 1))) (ak (av 7) cy)))))) (AK (wB (aC zh (av 6) (nS (ak (av 2) (ak (av 3) cy))))) (wB (aC zh (av 7) (av 4)))))
 (kN (wC (.bl false)))
 bL)))
 mV)
def qu:WS :=
 (cw (kF (wB (aC qk (aC ke (av 5) (wC (.int 5))) (wC (.int 1))))
 (cw (eK 8 (aC ke (aC nL (av 5) (wC (.int 5))) (aC gv (fP qo (av 7)) (wC (.int 1)))))
 (cw (i5 8 (UY (sT 7) (av 8) (aR cF (ak (aC nL (av 5) (wC (.int 35))) (ak (av 1) cy)))))
 (cw (kF (wB (aC zh (aR bB (ak (aC dk (av 6) (wC (.int 0))) (ak (aC dk (av 6) (wC (.int 1))) (ak (av 7) cy)))) (iA (ak (wC .non) (ak (iA (ak (wC (.bl true)) (ak (wC (.bl false)) (ak (wC (.bl true)) (ak (wC (.bl false)) cy))))) cy)))))
 (kN (wC (.bl false)))
 bL)
 (i5 8 (BP (sT 7) (av 8))))))
 bL)
 lX)
def q_:WS :=
 (cw (eK 6 (nS (ak (iA (ak (aC dk (av 2) (wC (.int 0))) (ak (fP pN (aC dk (av 2) (wC (.int 1)))) cy))) (ak (iA (ak (aC dk (av 3) (wC (.int 0))) (ak (fP pN (aC dk (av 3) (wC (.int 1)))) cy))) cy))))
 (cw (eK 7 (fP pN (av 4)))
 qu))
def Dn:WS :=
 (cw (eK 1 (aR cz (ak (aR aD (ak (av 0) (ak (wC (.int 1)) cy))) (ak (aR aD (ak (av 0) (ak (wC (.int 2)) cy))) cy))))
 (cw (vf 2 3 (OX (aR gB (ak (av 0) (ak (av 1) cy)))))
 (cw (eK 4 (aR eV (ak (aR aD (ak (av 0) (ak (wC (.int 6)) cy))) (ak (av 1) cy))))
 (cw (eK 5 (aR aD (ak (av 0) (ak (wC (.int 7)) cy))))
 q_))))
abbrev Pa:gy:=Z1
structure Lx(pool:List Str)(m n:Int)(l1 l2:List bX)(tg:List Str):Prop where
 hp:pool.length=6
 ho:∀ t∈pool,Open t
 G:Gd m n l1 l2
 op:∀ t∈tg,Open t
 tl:tg.length<=6
def zo(ns:List Int)(pool:List Str)(m n:Int)(l1 l2:List bX)(tg:List Str)(turn:Int)(hs:List bX)(th:List Str)(os:List (Option Sl)):Env:=[some (.sh (.list (ns.map .int))),some (.ow true (.list (pool.map .str))),some (.sh (mD m l1)),some (.sh (mD n l2)),some (.ow true (.list (tg.map .str))),some (.sh (.int turn)),some (.ow true (.list [mD m hs,mD n l2])),some (.ow true (.list (th.map .str)))]++os
def KL:Res->Sl
 |.ok m l=>.ow true (.tup [mD m l,.tup []])
 |.no c=>.sh (zk (.no c))
def KP:Res->Sl
 |.ok m l=>.ow true (mD m l)
 |.no _=>.sh .non
theorem Gd.nil{m n:Int}{l1 l2:List bX}(G:Gd m n l1 l2):Gd m n [] l2:=⟨G.m1,G.m2,G.n1,G.n2,(fun s hs=>nomatch hs),G.o2,by have:=G.z;simp;lia⟩
theorem Gd.turn{m n:Int}{l1 l2:List bX}(G:Gd m n l1 l2):Gd n m l2 l1:=⟨G.n1,G.n2,G.m1,G.m2,G.o2,G.o1,by have:=G.z;lia⟩
theorem tR:∀ l:List Str,xt (l.map D.str)=true
 |[]=>rfl
 |x :: l=>by simp[xt,tR l,D.nb]
section
variable {Q:Md->D->Prop}{ns:List Int}{pool:List Str}{m n turn:Int}{l1 l2:List bX}{tg th:List Str}{o8:Option Sl}(L:Lx pool m n l1 l2 tg)(h:∀ m,Q m (.bl true))
include L h
theorem xx{r:Res}(e:r=n9 m n tg l1 l2)(hH:∀ M o,r=.ok M o->Hm M o):jh { nx:=fun _=>Q .sh .non,rt:=Q } (zo ns pool m n l1 l2 tg turn [] th [o8,some (KL r),some (KP r)]):=by
 unfold jh zo mD;walk_at "q";refine⟨m,n,l1,l2,tg,rfl,L.G.T,fun _=>by have:=L.G.few tg;lia,fun _=>?_⟩;rw[<- e]
 cases r with
 |ok M o =>
  have H:=hH M o rfl;have ok:eh 12 (.tup [mD M o,.tup []])=true:=by show(eh 11 (mD M o) && (eh 11 (.tup []) && true))=true;rw[O7 8 H.ok];rfl
  have nb:(D.tup [mD M o,.tup []]).nb=true:=by simp[D.nb,xt,RK]
  have MJ:eh 12 (mD M o)=true:=O7 9 H.ok;have nb2:(mD M o).nb=true:=RK M o;unfold EE zk KL KP;unfold mD at *
  walk_at "q";refine⟨ok,ok,?_⟩;rw[eq_self nb];walk_at "q";refine⟨MJ,MJ,?_⟩;rw[eq_self nb2];exact h _
 |no c =>
  rcases zM e.symm with rfl|rfl;all_goals
   unfold EE zk KL KP zk;walk_at "q";refine⟨by decide +kernel,by decide +kernel,?_⟩;rw[show kE _ _=true from by decide +kernel];walk_at "q";refine⟨by decide +kernel,by decide +kernel,?_⟩;rw[show kE .non .non=true from by decide +kernel];exact h _
theorem ye{r:Res}(e:r=n9 m n tg l1 l2)(hH:∀ M o,r=.ok M o->Hm M o):jj { nx:=fun _=>Q .sh .non,rt:=Q } (zo ns pool m n l1 l2 tg turn l1 th [o8,some (KL r),some (KP r)]):=by
 obtain⟨w15,e15⟩:∃ w,w=jh:=⟨_,rfl⟩
 have q:=xx (ns:=ns) (turn:=turn) (th:=th) (o8:=o8) L h e hH;rw[<- e15] at q;unfold jj;rw[<- e15];unfold zo mD at *
 walk_at "q";refine⟨0,_,rfl,rfl,rfl,?_⟩;walk_at "q";refine⟨1,_,rfl,rfl,rfl,?_⟩;walk_at "q";refine⟨m,n,[],l2,tg,rfl,L.G.nil,L.op,?_⟩;walk_at "q";exact q
theorem xR{r:Res}(e:r=n9 m n tg l1 l2)(hH:∀ M o,r=.ok M o->Hm M o):ji { nx:=fun _=>Q .sh .non,rt:=Q } (zo ns pool m n l1 l2 tg turn l1 tg [o8,some (KL r),some (KP r)]):=by
 obtain⟨w13,e13⟩:∃ w,w=jj:=⟨_,rfl⟩
 obtain⟨hn,ea⟩:=xq (l:=pool) (turn / 5) (by have:=L.hp;lia);rw[L.hp] at ea;have q:=ye (ns:=ns) (turn:=turn) (th:=tg++[wa pool (turn / 5)]) (o8:=o8) L h e hH;have op:∀ t∈tg++[wa pool (turn / 5)],Open t:=fun t ht=>by
  rcases eS.mp ht with ht|ht
  ·exact L.op t ht
  ·rw[vk.mp ht];exact L.ho _ hn
 rw[<- e13] at q;unfold ji;rw[<- e13];unfold zo mD at *
 rw[k6] at q;have tl:=L.tl;walk_at "q";refine⟨_,ea,?_⟩;walk_at "q";refine⟨by lia,m,n,l1,l2,tg++[wa pool (turn / 5)],by rw[k6];rfl,L.G,op,?_⟩;walk_at "q";refine⟨n,m,l2,l1,tg++[wa pool (turn / 5)],by rw[k6];rfl,L.G.turn,op,?_⟩;walk_at "q";exact q
theorem Ab:mV { nx:=fun _=>Q .sh .non,rt:=Q } (zo ns pool m n l1 l2 tg turn l1 tg [o8,none,none]):=by
 obtain⟨w10,Vk⟩:∃ w,w=jl:=⟨_,rfl⟩
 obtain⟨w11,Vl⟩:∃ w,w=ji:=⟨_,rfl⟩
 unfold mV;rw[<- Vk];unfold zo mD;walk_at "q";refine⟨m,n,l1,l2,tg,rfl,L.G.T,fun _=>by have:=L.G.few tg;lia,fun hH=>?_⟩;have q:=xR (ns:=ns) (turn:=turn) (o8:=o8) L h rfl hH;rw[<- Vl] at q
 cases e:n9 m n tg l1 l2 with
 |ok M o =>rw[e] at q;unfold zo KL KP mD at q;unfold EE zk mD;walk_at "q";rw[Vk];unfold jl;rw[<- Vl];walk_at "q";exact .inl ⟨aP _,q⟩
 |no c =>
  rw[e] at q;unfold zo KL KP mD at q;unfold EE;unfold zk at *
  walk_at "q";rw[Vk];unfold jl;rw[<- Vl];walk_at "q";exact q
theorem wH:lX { nx:=fun _=>Q .sh .non,rt:=Q } (zo ns pool m n l1 l2 tg turn l1 tg [o8,none,none]):=by
 obtain⟨w8,e8⟩:∃ w,w=mV:=⟨_,rfl⟩
 have q:=Ab (ns:=ns) (turn:=turn) (o8:=o8) L h;rw[<- e8] at q;unfold lX;rw[<- e8];unfold zo mD at *
 walk_at "q";refine⟨m,n,l1,l2,tg,rfl,L.G,L.op,?_⟩;walk_at "q";have ok:eh 12 (.list [mD m l1,mD n l2])=true:=by show(eh 11 (mD m l1) && (eh 11 (mD n l2) && true))=true;rw[O7 8 L.G.o1,O7 8 L.G.o2];rfl
 have nb:(D.list [mD m l1,mD n l2]).nb=true:=by simp[D.nb,xt,RK]
 unfold mD at *
 refine⟨ok,ok,?_⟩;rw[eq_self nb];walk_at "q";have MJ:=yW (n:=11) L.op;refine⟨MJ,MJ,?_⟩;rw[eq_self (show(D.list (tg.map .str)).nb=true by simp[D.nb,tR])];walk_at "q";exact q
end
theorem Cy (ds Q) (h:Pa ds Q):ds.length=["_law_script"].length:=by obtain⟨_,rfl,_⟩:=h;rfl
theorem Gy:∀ ds Q,Pa ds Q->Dn { nx:=fun _=>Q .sh .non,rt:=Q } (aH 11 ds):=by
 rintro ds Q ⟨ns,rfl,hl,h⟩;obtain⟨w4,e4⟩:∃ w,w=q_:=⟨_,rfl⟩
 unfold Dn;rw[<- e4];walk_at "q";refine⟨ns,1,rfl,by lia,?_⟩;walk_at "q";refine⟨ns,2,rfl,by lia,?_⟩;walk_at "q";refine⟨_,_,rfl,fun pool hp ho _=>?_⟩;walk_at "q";refine⟨ns,pool,rfl,by lia,hp,ho,fun m n l1 l2 G=>?_⟩;unfold mD;walk_at "q";refine⟨ns,6,rfl,by lia,?_⟩;walk_at "q";refine⟨_,pool,rfl,hp,?_⟩;walk_at "q";refine⟨ns,7,rfl,by lia,?_⟩;walk_at "q";have tgo:∀ t∈Kk pool (ns.getD 6 0),Open t:=fun t ht=>ho t (Dt (by lia) t ht);have tgl:=CK pool (ns.getD 6 0);generalize Kk pool (ns.getD 6 0)=tg at *
 generalize ns.getD 7 0=turn;have L:Lx pool m n l1 l2 tg:=⟨hp,ho,G,tgo,tgl⟩
 rw[e4];obtain⟨w6,e6⟩:∃ w,w=qu:=⟨_,rfl⟩
 unfold q_;rw[<- e6];walk_at "q";refine .inl ⟨aP _,.inl ⟨aP _,.inl ⟨fu _,?_⟩⟩⟩;rw[e6];obtain⟨w7,e7⟩:∃ w,w=lX:=⟨_,rfl⟩
 unfold qu;rw[<- e7];walk_at "q";refine R.D (fun e1=>?_) fun e1=>?_
 ·walk_at "q";refine⟨by lia,_,pool,rfl,hp,ho,fun x hx=>?_⟩;walk_at "q";have b1:=tS (turn / 5) (show(tg.length:Int)+1≠0 by lia);have b2:=sC (turn / 5) (show(0:Int)<(tg.length:Int)+1 by lia);generalize turn / 5 % ((tg.length:Int)+1)=at' at *
  refine⟨b1,by lia,by lia,m,n,l1,l2,ly tg at'.toNat x,by rw[nP];rfl,G.T,fun _=>by have:=G.few (ly tg at'.toNat x);lia,fun hH=>?_⟩;have e:n9 m n (ly tg at'.toNat x) l1 l2=.no "NoDeed" := by unfold n9;rw[if_neg fun z=>hx (z x (xJ _ _ _))]
  rw[e];unfold EE zk;walk_at "q";refine⟨by decide +kernel,by decide +kernel,?_⟩;rw[show kE _ _=true from by decide +kernel];walk_at "q";rw[nP];refine⟨.str x,b1,by rw[qV,Ao x (by lia)];rfl,rfl,?_⟩;rw[<- nP,wK (D.str x) (by rw[cK];lia),e7];exact wH L h
 ·walk_at "q";rw[e7];exact wH L h
def top(i:Nat):Stmt:=PySem.Challenge.pw_kinlook_k14_side_by_side.main.body.getD i (.Pass ⟨0,0,0,0⟩)
abbrev qC:Stmt:=top 39
abbrev rn:List Str:=["NoDeed", "TooBig"]
structure Txt(K:aE)(mg:Str->Option ae):Prop where
 Vm:mg "ValueError" = none
 Vn:mg "all" = none
 Vo:mg "bool" = none
 Vp:mg "int" = none
 x8:mg "isinstance" = none
 uS:mg "len" = none
 KS:mg "list" = none
 AY:mg "range" = none
 EF:mg "set" = none
 FU:mg "sorted" = none
 RL:mg "str" = none
 RN:mg "tuple" = none
 Vq:T9 mg "LETTERS" "abcdefghijklmnopqrstuvwxyz"
 Vr:Mi mg "MOST_LETTERS" 6
 Vs:Mi mg "MOST_STATES" 20
 Vt:Mi mg "MOST_STEPS" 80
 Vu:Mi mg "MOST_OPEN_DEEDS" 6
 iH':UU K mg "NoDeed"
 Vv:UU K mg "TooBig"
 iI':Fw K mg rn "KinError"
 iJ':∀ n C,n∈rn->mg n=some (.ref C)->∃ c,mg "NoText" = some (.ref c)/\lI K (.ref C) (.ref c)=some (decide (n = "NoText"))
 iK':∀ n C,n∈rn->mg n=some (.ref C)->∃ c,mg "NoFrame" = some (.ref c)/\lI K (.ref C) (.ref c)=some (decide (n = "NoFrame"))
 iL':∀ n C,n∈rn->mg n=some (.ref C)->∃ c,mg "NoMachine" = some (.ref c)/\lI K (.ref C) (.ref c)=some (decide (n = "NoMachine"))
 iM':∀ n C,n∈rn->mg n=some (.ref C)->∃ c,mg "NoState" = some (.ref c)/\lI K (.ref C) (.ref c)=some (decide (n = "NoState"))
 iN':∀ n C,n∈rn->mg n=some (.ref C)->lI K (.ref C) (.type "ValueError")=some true
 iO':∀ n C,n∈rn->mg n=some (.ref C)->∃ c,mg "TooBig" = some (.ref c)/\lI K (.ref C) (.ref c)=some (decide (n = "TooBig"))
 iP':∀ n C,n∈rn->mg n=some (.ref C)->∃ c,mg "NoDeed" = some (.ref c)/\lI K (.ref C) (.ref c)=some (decide (n = "NoDeed"))
abbrev FA(K:aE)(x:Str)(s:Stmt):Prop:=∃ (f:ag) (oc:ae) (od an:Option ag) (Ap:Array (Option ae)) (kV doc pm dP ct:ae),kG K fT x=some (some (.ref f))/\K.lookup f=some ⟨oc,od,.func (vj x x (y6 s) (rV s) (hZ s) .none kV doc pm an dP ct),Ap⟩/\Lj K dP x=true/\EK K (.ref f)=true
theorem cJ{K:aE}{h:cE}{mg:Str->Option ae}{x:Str}{s:Stmt}(X:K.In h)(G:h.Ns fT mg)(a:FA K x s):∃ f fd,mg x=some (.ref f)/\ui K x x s f fd:=by obtain⟨f,_,_,_,_,_,_,_,_,_,a,l,c,k⟩:=a;exact⟨_,_,vi X G a,W3 l c k⟩
theorem Hi{K:aE}{x:Str}{s:Stmt}{f:ag}{oc:ae}{od an:Option ag}{Ap:Array (Option ae)}{kV doc pm dP ct:ae}(a:kG K fT x=some (some (.ref f)))(l:K.lookup f=some ⟨oc,od,.func (vj x x (y6 s) (rV s) (hZ s) .none kV doc pm an dP ct),Ap⟩)(c:Lj K dP x=true)(k:EK K (.ref f)=true):FA K x s:=⟨_,_,_,_,_,_,_,_,_,_,a,l,c,k⟩
set_option maxHeartbeats 0 in
theorem all_mk {l:R0} {w:dA} {K:aE} {h:cE} {mg:Str->Option ae} {fa:ag} (X:K.In h) (G:h.Ns fT mg) (hfa:mg "law" = some (.ref fa))(a0:FA K "is_open" (top 3))(a1:FA K "check_bounds" (top 16))(a2:FA K "deeds_of" (top 17))(a3:FA K "check_open" (top 19))(a4:FA K "steps_of_one" (top 20))(a5:FA K "steps_of_other" (top 21))(a6:FA K "steps_together" (top 22))(a7:FA K "beside" (top 23))(a8:FA K "_law_cell_at" (top 25))(a9:FA K "_law_deeds" (top 26))(a10:FA K "_law_steps" (top 27))(a11:FA K "_law_some" (top 28))(a12:FA K "_law_whole" (top 29))(a13:FA K "_law_is_machine" (top 30))(a14:FA K "_law_out" (top 31))(a15:FA K "_law_ends" (top 32))(a16:FA K "_law_due" (top 33))(a17:FA K "_law_told" (top 34))(a18:FA K "_law_good" (top 35))(a19:FA K "_law_no_deed" (top 36))(a20:FA K "_law_sizes" (top 37))(a21:FA K "_law_two" (top 38))(a22:kG K fT "law" = some (some (.ref f22))) (Ur:K.lookup f22=some ⟨o22,d22,.func (vj "law" "law" (y6 qC) (rV qC) (hZ qC) .none v22 j22 p22 e22 r22 u22),t22⟩) (c22:Lj K r22 "law" = true) (k22:EK K (.ref f22)=true)(Vm:kG K fT "ValueError" = some none)(Vn:kG K fT "all" = some none)(Vo:kG K fT "bool" = some none)(Vp:kG K fT "int" = some none)(x8:kG K fT "isinstance" = some none)(uS:kG K fT "len" = some none)(KS:kG K fT "list" = some none)(AY:kG K fT "range" = some none)(EF:kG K fT "set" = some none)(FU:kG K fT "sorted" = some none)(RL:kG K fT "str" = some none)(RN:kG K fT "tuple" = some none){jk':Tok} (Vq:kG K fT "LETTERS" = some (some (.str "abcdefghijklmnopqrstuvwxyz" jk'))){jl':Tok} (Vr:kG K fT "MOST_LETTERS" = some (some (.int 6 jl'))){jm':Tok} (Vs:kG K fT "MOST_STATES" = some (some (.int 20 jm'))){jn':Tok} (Vt:kG K fT "MOST_STEPS" = some (some (.int 80 jn'))){jo':Tok} (Vu:kG K fT "MOST_OPEN_DEEDS" = some (some (.int 6 jo'))){EG:ag} (jp':kG K fT "KinError" = some (some (.ref EG))){qA:ag} (jq':kG K fT "NoDeed" = some (some (.ref qA))){Vw:ag} (jr':kG K fT "NoFrame" = some (some (.ref Vw))){Vx:ag} (js':kG K fT "NoMachine" = some (some (.ref Vx))){Vy:ag} (jt':kG K fT "NoState" = some (some (.ref Vy))){Vz:ag} (ju':kG K fT "NoText" = some (some (.ref Vz))){qB:ag} (jv':kG K fT "TooBig" = some (some (.ref qB)))(jw':PySem.W.excIn K EG [.type "ValueError",.type "Exception",.type "BaseException",.type "object"] "ValueError.__new__" = true) (jx':zD K (.ref EG) "__getattr__" = some none) (jy':zD K (.ref EG) "__getattribute__" = some (some (.builtin "BaseException.__getattribute__"))) (jz':zD K (.ref EG) "__class__" = some (some (.builtin "object.__class__"))) (jA':Ln K EG (.type "object")=some true)(jB':PySem.W.excIn K qA [.type "ValueError",.type "Exception",.type "BaseException",.type "object"] "ValueError.__new__" = true) (jC':zD K (.ref qA) "__getattr__" = some none) (jD':zD K (.ref qA) "__getattribute__" = some (some (.builtin "BaseException.__getattribute__"))) (jE':zD K (.ref qA) "__class__" = some (some (.builtin "object.__class__"))) (jF':Ln K qA (.type "object")=some true)(jG':PySem.W.excIn K qB [.type "ValueError",.type "Exception",.type "BaseException",.type "object"] "ValueError.__new__" = true) (jH':zD K (.ref qB) "__getattr__" = some none) (jI':zD K (.ref qB) "__getattribute__" = some (some (.builtin "BaseException.__getattribute__"))) (jJ':zD K (.ref qB) "__class__" = some (some (.builtin "object.__class__"))) (jK':Ln K qB (.type "object")=some true)(jL':Ln K qA (.ref EG)=some true)(jM':lI K (.ref qA) (.ref Vz)=some false)(jN':lI K (.ref qA) (.ref Vw)=some false)(jO':lI K (.ref qA) (.ref Vx)=some false)(jP':lI K (.ref qA) (.ref Vy)=some false)(jQ':lI K (.ref qA) (.type "ValueError")=some true)(jR':lI K (.ref qA) (.ref qB)=some false)(jS':lI K (.ref qA) (.ref qA)=some true)(jT':Ln K qB (.ref EG)=some true)(jU':lI K (.ref qB) (.ref Vz)=some false)(jV':lI K (.ref qB) (.ref Vw)=some false)(jW':lI K (.ref qB) (.ref Vx)=some false)(jX':lI K (.ref qB) (.ref Vy)=some false)(jY':lI K (.ref qB) (.type "ValueError")=some true)(jZ':lI K (.ref qB) (.ref qB)=some true)(ka':lI K (.ref qB) (.ref qA)=some false)
  : ∃ fd:zv,(∀ (s:ay) (v:ae),BindsTo s fd ⟨[v],[]⟩ [("_law_script",v)])/\∀ base:cE,K.In base->base.Ns fT mg->t5 l.prog w K mg base vw 6 fa fd ["_law_script"] (fX K Pa):=by
 have e:=hfa.symm.trans (vi X G a22);cases e;have kb':=vi X G jp';have RP:=vi X G jq';have bb':=vi X G jr';have bc':=vi X G js';have bd':=vi X G jt';have be':=vi X G ju';have RQ:=vi X G jv';have kc':n4 K EG:=⟨jw',jx',jy',jz',jA'⟩
 have bf':n4 K qA:=⟨jB',jC',jD',jE',jF'⟩
 have bg':n4 K qB:=⟨jG',jH',jI',jJ',jK'⟩
 have each:∀ {G:Str->ag->Prop},G "NoDeed" qA->G "TooBig" qB->∀ n C,n∈rn->mg n=some (.ref C)->G n C:=by
  intro G kd' ke' n C hn hm;simp only[rn,eM,GP,or_false] at hn;rcases hn with rfl|rfl
  ·rw[RP] at hm;cases hm;exact kd'
  ·rw[RQ] at hm;cases hm;exact ke'
 have T:Txt K mg:=⟨yb X G Vm,yb X G Vn,yb X G Vo,yb X G Vp,yb X G x8,yb X G uS,yb X G KS,yb X G AY,yb X G EF,yb X G FU,yb X G RL,yb X G RN,⟨_,vi X G Vq⟩,⟨_,vi X G Vr⟩,⟨_,vi X G Vs⟩,⟨_,vi X G Vt⟩,⟨_,vi X G Vu⟩,⟨_,RP,bf'⟩,⟨_,RQ,bg'⟩,⟨_,kb',kc',each ⟨bf',jL'⟩ ⟨bg',jT'⟩⟩,each ⟨_,be',jM'⟩ ⟨_,be',jU'⟩,each ⟨_,bb',jN'⟩ ⟨_,bb',jV'⟩,each ⟨_,bc',jO'⟩ ⟨_,bc',jW'⟩,each ⟨_,bd',jP'⟩ ⟨_,bd',jX'⟩,each jQ' jY',each ⟨_,RQ,jR'⟩ ⟨_,RQ,jZ'⟩,each ⟨_,RP,jS'⟩ ⟨_,RP,ka'⟩⟩
 obtain⟨_,_,m0,F0⟩:=cJ X G a0;obtain⟨_,_,m1,F1⟩:=cJ X G a1;obtain⟨_,_,m2,F2⟩:=cJ X G a2;obtain⟨_,_,m3,F3⟩:=cJ X G a3;obtain⟨_,_,m4,F4⟩:=cJ X G a4;obtain⟨_,_,m5,F5⟩:=cJ X G a5;obtain⟨_,_,m6,F6⟩:=cJ X G a6;obtain⟨_,_,m7,F7⟩:=cJ X G a7;obtain⟨_,_,m8,F8⟩:=cJ X G a8;obtain⟨_,_,m9,F9⟩:=cJ X G a9;obtain⟨_,_,m10,F10⟩:=cJ X G a10;obtain⟨_,_,m11,F11⟩:=cJ X G a11;obtain⟨_,_,m12,F12⟩:=cJ X G a12;obtain⟨_,_,m13,F13⟩:=cJ X G a13;obtain⟨_,_,m14,F14⟩:=cJ X G a14;obtain⟨_,_,m15,F15⟩:=cJ X G a15;obtain⟨_,_,m16,F16⟩:=cJ X G a16;obtain⟨_,_,m17,F17⟩:=cJ X G a17;obtain⟨_,_,m18,F18⟩:=cJ X G a18;obtain⟨_,_,m19,F19⟩:=cJ X G a19;obtain⟨_,_,m20,F20⟩:=cJ X G a20;obtain⟨_,_,m21,F21⟩:=cJ X G a21;have F22:=W3 (st:=qC) Ur c22 k22;refine⟨vj "law" "law" (y6 qC) (rV qC) (hZ qC) .none v22 j22 p22 e22 r22 u22,fun s v=>.of_eq rfl,fun base _ _=>?_⟩;have mk:=@Ux.mk l.prog w K mg base;have mx:=@UT.mk l.prog w K mg base rn;obtain C0:=(mk m0 F0 ["thing"] 1 0 qR uJ (aj (bZ (Mt (nO (cI (cM (qt T.x8 (qv 0) (pB T.RL zA)))) (kW (cI (yh zF zF Er Er ao (bQ aM dN T.uS dg (qv 0)) (QN T.Vr)))))) (au (aU qh))
   aG)
   (au (aU (bQ eS' Di T.Vn Dd (dI (tn:=["sign"]) (cn:=[]) (ix:=[]) (tG (CV (qv 0))) (aB 0) cD (mQ kB wN (qv 0) (fF' T.Vq)))))))).1
 obtain C2:=(mk m2 F2 ["m"] 1 0 oG tY (au (aU (lJ T.FU T.EF (dI (tn:=["step"]) (cn:=[]) (ix:=[]) (dD (dy (qv 0) ao)) (aB 0) cD (dy (qv 0) ao)))))).1;obtain C4:=(mk m4 F4 ["one", "other", "together", "many", "steps", "start", "deed", "end"] 3 0 i_ j5 (aj (aA 3 (dy (qv 1) ao)) (aj (aA 4 (c7 aq)) (aj (aL 0 (cj (cR (dy (qv 0) ao)) (rN (bA (aB 5) (bA (aB 6) (bA (aB 7) lW)))) (au (bZ (bD wV wN (qv 6) (qv 2)) (au (aL 6 (uK (bR (pv 4)) (dI (tn:=["q"]) (cn:=["deed", "end", "many", "start"]) (ix:=[6,7,3,5]) (tG (e_ T.AY (qv 3))) (aB 0) cD (bu (aa (bx (eQ (qv 4) (qv 3)) (qv 0)) (aa (qv 1) (aa (bx (eQ (qv 2) (qv 3)) (qv 0)) aq))))))))
   aG))))
   (au (dh (pv 4))))))).1
 obtain C5:=(mk m5 F5 ["one", "other", "together", "many", "steps", "start", "deed", "end"] 3 0 gG iZ (aj (aA 3 (dy (qv 1) ao)) (aj (aA 4 (c7 aq)) (aj (aL 1 (cj (cR (dy (qv 1) ao)) (rN (bA (aB 5) (bA (aB 6) (bA (aB 7) lW)))) (au (bZ (bD wV wN (qv 6) (qv 2)) (au (aL 6 (uK (bR (pv 4)) (dI (tn:=["p"]) (cn:=["deed", "end", "many", "start"]) (ix:=[6,7,3,5]) (tG (e_ T.AY (dy (qv 0) ao))) (aB 0) cD (bu (aa (bx (eQ (qv 0) (qv 3)) (qv 4)) (aa (qv 1) (aa (bx (eQ (qv 0) (qv 3)) (qv 2)) aq))))))))
   aG))))
   (au (dh (pv 4))))))).1
 obtain C6:=(mk m6 F6 ["one", "other", "together", "many", "steps", "start", "deed", "end", "mates"] 3 0 g_ jb (aj (aA 3 (dy (qv 1) ao)) (aj (aA 4 (c7 aq)) (aj (aL 0 (cj (cR (dy (qv 0) ao)) (rN (bA (aB 5) (bA (aB 6) (bA (aB 7) lW)))) (au (bZ (bD kB wN (qv 6) (qv 2)) (aj (uz 8 (tn:=["step"]) (cn:=["deed"]) (ix:=[6]) (dD (dy (qv 1) ao)) (aB 0) (vo (bD Au jD (dy (qv 0) ao) (qv 1))) (qv 0)) (au (aL 6 (uK (bR (pv 4)) (dI (tn:=["mate"]) (cn:=["deed", "end", "many", "start"]) (ix:=[6,7,3,5]) (dD (qv 8)) (aB 0) cD (bu (aa (bx (eQ (qv 4) (qv 3)) (dy (qv 0) ao)) (aa (qv 1) (aa (bx (eQ (qv 2) (qv 3)) (dy (qv 0) ao)) aq)))))))))
   aG))))
   (au (dh (pv 4))))))).1
 obtain C8:=(mk m8 F8 ["_law_script", "_law_k"] 2 0 jg jY (aj (bZ (bD Dw Gw (qv 1) (bQ aM dN T.uS dg (qv 0))) (au (aU (dy (qv 0) (qv 1))))
   aG)
   (au (aU ao)))).1
 obtain C9:=(mk m9 F9 ["_law_cell", "_law_turn", "_law_letters", "_law_size", "_law_places", "_law_k", "_law_word", "_law_at", "_law_found", "_law_sign"] 2 0 j6 oJ (aj (aA 2 dX) (aj (aA 3 (bx ao (cg (qv 0) ao))) (aj (aA 0 (dW (qv 0) ao)) (aj (aA 4 (c7 aq)) (aj (cj (e_ T.AY (qv 3)) (aB 5) (aj (jJ (bR (pv 4)) (cg (qv 0) ao)) (au (aA 0 (dW (qv 0) ao))))) (aj (aA 6 (CQ dX (dI (tn:=["_law_k"]) (cn:=["_law_letters"]) (ix:=[2]) (dD (qv 4)) (aB 0) cD (dy (qv 1) (qv 0))))) (aj (bZ (bD Au jD (cg (dW (qv 1) ao) ao) ao) (au (aU (dI (tn:=["_law_k"]) (cn:=["_law_word"]) (ix:=[6]) (tG (BK T.AY ao ao)) (aB 0) cD (gj (Dm ao (qv 1)) il (dY (qv 0))))))
   aG)
   (aj (aA 7 (cg (qv 1) (qv 3)))
   (aj (aA 8 (c7 aq))
   (aj (cj (e_ T.AY ao) (aB 5)
   (aj (aA 9 (dy (qv 2) (cg (bx (dy (qv 4) (qv 7)) (eQ ao (qv 5))) ao)))
   (au (jJ (bR (pv 8)) (bx (bx (gj (qv 6) il (dY (qv 7))) (qv 9)) (gj (qv 6) (dY (bx (qv 7) ao)) il))))))
   (au (dh (pv 8)))))))))))))).1
 obtain C10:=(mk m10 F10 ["_law_cells", "_law_many", "_law_deeds_here", "_law_found", "_law_k", "_law_number", "_law_deed"] 3 0 j_ oE (aj (aA 3 (c7 aq)) (aj (cj (e_ T.AY (bQ aM dN T.uS dg (qv 0))) (aB 4) (aj (aA 5 (cg (eQ (bx (cg (dy (qv 0) (qv 4)) ao) ao) (bx ao (eQ ao (qv 4)))) ao)) (aj (aA 6 (dy (qv 2) (cg (dW (qv 5) (qv 1)) (bQ aM dN T.uS dg (qv 2))))) (au (aL 6 (jJ (bR (pv 3)) (bu (aa (cg (qv 5) (qv 1)) (aa (qv 6) (aa (cg (dW (qv 5) (eQ (qv 1) (bQ aM dN T.uS dg (qv 2)))) (qv 1)) aq)))))))))) (au (dh (pv 3)))))).1
 obtain C11:=(mk m11 F11 ["_law_cell", "_law_pool", "_law_found", "_law_size", "_law_k"] 2 0 mL qi (aj (aA 2 (c7 aq)) (aj (aA 3 (cg (qv 0) ao)) (aj (aA 0 (dW (qv 0) ao)) (aj (cj (e_ T.AY (qv 3)) (aB 4) (aj (jJ (bR (pv 2)) (dy (qv 1) (cg (qv 0) ao))) (au (aA 0 (dW (qv 0) ao))))) (au (dh (pv 2)))))))).1
 obtain VA:=(mk m12 F12 ["_law_found"] 1 0 kh oA (au (aU (xu (qt T.x8 (qv 0) (pB T.Vp yX)) (yQ (G9 (qt T.x8 (qv 0) (pB T.Vo z_)))))))).1;obtain C14:=(mk m14 F14 ["_law_m", "_law_found", "_law_p", "_law_deed", "_law_r"] 1 0 oU tV (aj (aA 1 Bo) (aj (aL 0 (cj (cR (dy (qv 0) ao)) (rN (bA (aB 2) (bA (aB 3) (bA (aB 4) lW)))) (au (aL 4 (aL 3 (aL 2 (Gx (pv 1) (bu (aa (qv 2) (aa (qv 3) aq))) (qv 4)))))))) (au (dh (pv 1)))))).1
 obtain C15:=(mk m15 F15 ["_law_p", "_law_q", "_law_ways", "_law_n", "_law_deed", "_law_together", "_law_ones", "_law_others", "_law_ends_here", "_law_r", "_law_s"] 6 0 mK p6 (aj (aL 4 (aL 0 (wL 6 (Dk (dy (qv 2) ao) (bu (aa (qv 0) (aa (qv 4) aq))) (c7 aq))))) (aj (aL 4 (aL 1 (wL 7 (Dk (dy (qv 2) ao) (bu (aa (qv 1) (aa (qv 4) aq))) (c7 aq))))) (aj (aA 8 (c7 aq)) (aj (bZ (bD wV wN (qv 4) (qv 5)) (au (aU (bx (dI (tn:=["_law_r"]) (cn:=["_law_n", "_law_q"]) (ix:=[3,1]) (dD (qv 6)) (aB 0) cD (bx (eQ (qv 0) (qv 1)) (qv 2))) (dI (tn:=["_law_s"]) (cn:=["_law_n", "_law_p"]) (ix:=[3,0]) (dD (qv 7)) (aB 0) cD (bx (eQ (qv 2) (qv 1)) (qv 0))))))
   aG)
   (aj (aL 6 (cj (cR (qv 6)) (aB 9)
   (au (aL 7 (cj (cR (qv 7)) (aB 10)
   (au (jJ (bR (pv 8)) (bx (eQ (qv 9) (qv 3)) (qv 10)))))))))
   (au (dh (pv 8))))))))).1
 obtain C19:=(mk m19 F19 ["_law_cell", "_law_pool", "_law_some_here"] 2 0 jf j0 (by(refine aj ?_ ?_);(with_reducible refine aA 2 ?_ ?_ ?_ ?_ ?_ ?_);(with_reducible refine c7 ?_);(with_reducible refine aa ?_ ?_ ?_);(exact dX);(with_reducible refine aa ?_ ?_ ?_);(exact dX);(with_reducible refine aa ?_ ?_ ?_);(exact dX);(with_reducible refine aa ?_ ?_ ?_);(exact dX);(with_reducible refine aa ?_ ?_ ?_);(exact dX);(with_reducible refine aa ?_ ?_ ?_);(exact dX);(with_reducible refine aa ?_ ?_ ?_);(exact dX);(with_reducible refine aa ?_ ?_ ?_);(exact dX);(with_reducible refine aa ?_ ?_ ?_);(exact(bx (dy (qv 1) ao) dX));(with_reducible refine aa ?_ ?_ ?_);(exact(Bv (dy (qv 1) ao)));(with_reducible refine aa ?_ ?_ ?_);(exact(bx (dy (qv 1) ao) dX));(exact aq);(rfl);(rfl);(rfl);(rfl);(rfl);(rfl);(rfl);(rfl);(rfl);(rfl);(rfl);(rfl);(first|exact .inl rfl|exact .inr rfl);(assumption);(rfl);(exact Or.inl rfl);(exact(au (aU (dy (qv 2) (cg (qv 0) ao))))))).1;obtain C20:=(mk m20 F20 ["_law_cell"] 1 0 j7 oR (aj (bZ (bD Au jD (cg (dW (qv 0) ao) ao) ao) (by(refine au ?_);(refine aU ?_);(with_reducible refine dy ?_ ?_ ?_ ?_ ?_);(with_reducible refine c7 ?_);(with_reducible refine aa ?_ ?_ ?_);(with_reducible refine bu ?_);(with_reducible refine aa ?_ ?_ ?_);(exact ao);(with_reducible refine aa ?_ ?_ ?_);(exact ao);(exact aq);(rfl);(rfl);(with_reducible refine aa ?_ ?_ ?_);(with_reducible refine bu ?_);(with_reducible refine aa ?_ ?_ ?_);(exact ao);(with_reducible refine aa ?_ ?_ ?_);(exact ao);(exact aq);(rfl);(rfl);(with_reducible refine aa ?_ ?_ ?_);(with_reducible refine bu ?_);(with_reducible refine aa ?_ ?_ ?_);(exact ao);(with_reducible refine aa ?_ ?_ ?_);(exact ao);(exact aq);(rfl);(rfl);(with_reducible refine aa ?_ ?_ ?_);(with_reducible refine bu ?_);(with_reducible refine aa ?_ ?_ ?_);(exact ao);(with_reducible refine aa ?_ ?_ ?_);(exact ao);(exact aq);(rfl);(rfl);(with_reducible refine aa ?_ ?_ ?_);(with_reducible refine bu ?_);(with_reducible refine aa ?_ ?_ ?_);(exact ao);(with_reducible refine aa ?_ ?_ ?_);(exact ao);(exact aq);(rfl);(rfl);(with_reducible refine aa ?_ ?_ ?_);(with_reducible refine bu ?_);(with_reducible refine aa ?_ ?_ ?_);(exact ao);(with_reducible refine aa ?_ ?_ ?_);(exact ao);(exact aq);(rfl);(rfl);(with_reducible refine aa ?_ ?_ ?_);(with_reducible refine bu ?_);(with_reducible refine aa ?_ ?_ ?_);(exact ao);(with_reducible refine aa ?_ ?_ ?_);(exact ao);(exact aq);(rfl);(rfl);(with_reducible refine aa ?_ ?_ ?_);(with_reducible refine bu ?_);(with_reducible refine aa ?_ ?_ ?_);(exact ao);(with_reducible refine aa ?_ ?_ ?_);(exact ao);(exact aq);(rfl);(rfl);(exact aq);(rfl);(rfl);(rfl);(rfl);(rfl);(rfl);(rfl);(rfl);(exact(cg (dW (qv 0) ao) ao));(exact fun _ _=>rfl);(rfl);(assumption))
   aG)
   (aj (bZ (bD Au jD (cg (dW (qv 0) ao) ao) ao)
   (au (aU (bu (aa (bx ao (cg (dW (qv 0) ao) ao)) (aa (bx ao (cg (dW (qv 0) ao) ao)) aq)))))
   aG)
   (au (aU (bu (aa (bx ao (cg (qv 0) ao)) (aa (bx ao (cg (dW (qv 0) ao) ao)) aq)))))))).1
 obtain C1:=mx m1 F1 ["m"] 1 1 iW kJ (aj (bZ (bD kZ uc (dy (qv 0) ao) (QN T.Vs)) (au (jm rfl sX T.Vv (.tail _ (.head _)) dX))
   aG)
   (aj (bZ (bD kZ uc (bQ aM dN T.uS dg (dy (qv 0) ao)) (QN T.Vt))
   (au (jm rfl sX T.Vv (.tail _ (.head _)) dX))
   aG)
   (au (bZ (bD kZ uc (bQ aM dN T.uS dg (dI (tn:=["deed"]) (cn:=[]) (ix:=[]) (dD (aV C2 (aa (qv 0) aq))) (aB 0) (vo (cM (aV C0 (aa (qv 0) aq)))) (qv 0))) (QN T.Vu))
   (au (jm rfl sX T.Vv (.tail _ (.head _)) dX))
   aG))))
 obtain C3:=mx m3 F3 ["deeds", "deed"] 1 1 j4 oZ (au (aL 0 (cj (cR (qv 0)) (aB 1) (au (bZ (cI (cM (aV C0 (aa (qv 1) aq)))) (au (jm rfl sX T.iH' (.head _) dX))
   aG)))))
 obtain C13:=(mk m13 F13 ["_law_found", "_law_step"] 1 1 gq iz (aj (bZ (Mt (nO (cI (cM (qt T.x8 (qv 0) (pB T.RN tH)))) (nO (bD NX xn (bQ aM dN T.uS dg (qv 0)) ao) (kW (cI (cM (aV VA (aa (dy (qv 0) ao) aq)))))))) (au (aU qh))
   aG)
   (aj (bZ (cI (cM (qt T.x8 (dy (qv 0) ao) (pB T.KS jT))))
   (au (aU qh))
   aG)
   (aj (aL 0 (cj (cR (dy (qv 0) ao)) (aB 1)
   (aj (bZ (Mt (nO (cI (cM (qt T.x8 (qv 1) (pB T.RN tH)))) (nO (bD NX xn (bQ aM dN T.uS dg (qv 1)) ao) (kW (cI (cM (qt T.x8 (dy (qv 1) ao) (pB T.RL zA))))))))
   (au (aU qh))
   aG)
   (au (bZ (Mt (nO (cI (cM (aV VA (aa (dy (qv 1) ao) aq)))) (kW (cI (cM (aV VA (aa (dy (qv 1) ao) aq)))))))
   (au (aU qh))
   aG)))))
   (au (aU qh)))))).1
 obtain C16:=(mk m16 F16 ["_law_one", "_law_other", "_law_together", "_law_n", "_law_ways", "_law_steps_here", "_law_deed", "_law_p", "_law_q", "_law_end"] 3 1 pA ur (aj (aA 3 (dy (qv 1) ao)) (aj (aA 4 (UW (bu (aa (aV C14 (aa (qv 0) aq)) (aa (aV C14 (aa (qv 1) aq)) aq))))) (aj (aA 5 (c7 aq)) (aj (cj (cR (lJ T.FU T.EF (dI (tn:=["_law_step"]) (cn:=[]) (ix:=[]) (dD (bx (dy (qv 0) ao) (dy (qv 1) ao))) (aB 0) cD (dy (qv 0) ao)))) (aB 6) (au (cj (e_ T.AY (dy (qv 0) ao)) (aB 7) (au (cj (e_ T.AY (qv 3)) (aB 8) (au (cj (cR (aV C15 (aa (qv 7) (aa (qv 8) (aa (qv 4) (aa (qv 3) (aa (qv 6) (aa (qv 2) aq)))))))) (aB 9) (au (aL 9 (aL 6 (jJ (bR (pv 5)) (bu (aa (bx (eQ (qv 7) (qv 3)) (qv 8)) (aa (qv 6) (aa (qv 9) aq))))))))))))))) (au (aU (bu (aa (eQ (dy (qv 0) ao) (qv 3)) (aa (tW T.FU T.EF (qv 5)) aq)))))))))).1
 obtain C21:=(mk m21 F21 ["_law_script", "_law_pool", "_law_many", "_law_n", "_law_few", "_law_cells", "_law_cut", "_law_names", "_law_one", "_law_turn"] 2 1 oX uf (fun {_ _ _ _ _ _ hr hu nd _}=>(aj (qe (i:=2) (j:=3) rfl nd rfl (Or.inl rfl) rfl (Or.inl rfl) (aV C20 (aa (aV C8 (aa (qv 0) (aa ao aq))) aq))) (aj (aA 4 (aV C8 (aa (qv 0) (aa ao aq)))) (aj (aA 5 (gj (qv 0) (dY ao) (dY (bx ao (dy (c7 (aa ao (aa ao (aa ao (aa ao aq))))) (cg (qv 4) ao)))))) (aj (aA 6 (cg (dW (qv 4) ao) (bx (bQ aM dN T.uS dg (qv 5)) ao))) (aj (aA 7 (bx (c7 (aa dX aq)) (gj (qv 1) il (dY ao)))) (aj (aL 2 (aA 8 (bu (aa (qv 2) (aa (iu T.FU T.EF (aV C10 (aa (gj (qv 5) il (dY (qv 6))) (aa (qv 2) (aa (qv 7) aq))))) aq))))) (aj (aA 9 (aV C8 (aa (qv 0) (aa ao aq)))) (aj (bZ (bD Au jD (cg (qv 9) ao) ao) (au (aA 7 (bx (c7 (aa dX aq)) (aV C9 (aa (aV C8 (aa (qv 0) (aa ao aq))) (aa (dW (qv 9) ao) aq))))))
   aG)
   (au (aL 3 (vZ (UE (pv 8) (fX' (bu (aa (qv 3) (aa (iu T.FU T.EF (aV C10 (aa (gj (qv 5) (dY (qv 6)) il) (aa (qv 3) (aa (qv 7) aq))))) aq))) zc))))))))))))))).1
 obtain C7:=mx m7 F7 ["one", "other", "together", "many", "steps", "m"] 3 2 tX xQ (fun {_ _ _ _ _ _ hr hu nd _}=>(aj (nq C3 (hr.mono (by decide)) BX (aa (qv 2) aq)) (aj (aA 3 (eQ (dy (qv 0) ao) (dy (qv 1) ao))) (aj (aL 3 (nq C1 (hr.mono (by decide)) BX (aa (bu (aa (qv 3) (aa (c7 aq) aq))) aq))) (aj (aA 4 (bx (aV C4 (aa (qv 0) (aa (qv 1) (aa (qv 2) aq)))) (aV C5 (aa (qv 0) (aa (qv 1) (aa (qv 2) aq)))))) (aj (aL 3 (aA 5 (bu (aa (qv 3) (aa (iu T.FU T.EF (bx (qv 4) (aV C6 (aa (qv 0) (aa (qv 1) (aa (qv 2) aq)))))) aq))))) (aj (nq C1 (hr.mono (by decide)) BX (aa (qv 5) aq)) (au (dh (pv 5))))))))))
 obtain RT:=(mk m17 F17 ["_law_one", "_law_other", "_law_together", "_law_kinds", "_law_found", "e", "_law_strange"] 3 3 mX pZ (fun {_ _ _ _ _ _ hr hu nd _}=>(aj (aA 3 (bu aq)) (aj (aA 4 xG) (aj (Bk (j:=5) T.iI' nd rfl rfl rfl rfl (fun pn xe E1 sf hx1=>(E_ (i:=4) nd rfl (Or.inl rfl) (Cm C7 (hr.mono (by decide)) hx1 (aa (qv 0) (aa (qv 1) (aa (qv 2) aq)))))) (fun pn a oe n C hn hm xc hp ny=>by
    obtain⟨kO',kP',kQ'⟩:=T.iJ' n C hn hm;obtain⟨kR',kS',kT'⟩:=T.iK' n C hn hm;obtain⟨kU',kV',kW'⟩:=T.iL' n C hn hm;obtain⟨kX',kY',kZ'⟩:=T.iM' n C hn hm;obtain⟨la',lb',lc'⟩:=T.iO' n C hn hm;obtain⟨ld',le',lf'⟩:=T.iP' n C hn hm;exact(aj (aA 6 (Ef (j:=5) (cs:=[kO',kR',kU',kX']) T.x8 hp ny xc (du kQ' (du kT' (du kW' (du kZ' t_)))) (Nat.le_of_ble_eq_true rfl) (pv 5) (jq (E5 rfl kP' rfl) (jq (E5 rfl kS' rfl) (jq (E5 rfl kV' rfl) (jq (E5 rfl kY' rfl) Cp))))))
   (au (aL 6 (aA 3 (bu (aa (Bf (vc:=.ref ld') (j:=5) T.x8 hp ny xc lf' (pv 5) (E5 rfl le' rfl) (fun _ r=>r)) (aa (Bf (vc:=.ref la') (j:=5) T.x8 hp ny xc lc' (pv 5) (E5 rfl lb' rfl) (fun _ r=>r)) (aa (Bf (vc:=.ty "ValueError") (j:=5) T.x8 hp ny xc (T.iN' n C hn hm) (pv 5) (pB T.Vm mR) (fun _ r=>r)) (aa (qv 6) aq)))))))))))
   (au (vZ (UE (pv 4) (UE (pv 3) zc))))))))).1
 obtain RV:=(mk m18 F18 ["_law_one", "_law_other", "_law_together", "_law_found", "_law_kinds", "_law_big", "_law_due_here"] 3 4 lO qW (fun {_ _ _ _ _ _ hr hu nd _}=>(aj (qe (i:=3) (j:=4) rfl nd rfl (Or.inl rfl) rfl (Or.inl rfl) (UW (aV RT (aa (qv 0) (aa (qv 1) (aa (qv 2) aq)))))) (aj (aA 5 (mQ kZ uc (eQ (dy (qv 0) ao) (dy (qv 1) ao)) ao)) (aj (bZ (cI (uM (qv 5))) (aj (aA 6 (aV C16 (aa (qv 0) (aa (qv 1) (aa (qv 2) aq))))) (au (aA 5 (fG' (mQ kZ uc (bQ aM dN T.uS dg (dy (qv 6) ao)) ao) (yQ (mQ kZ uc (yp T.uS T.EF (dI (tn:=["_law_step"]) (cn:=[]) (ix:=[]) (dD (dy (qv 6) ao)) (aB 0) cD (dy (qv 0) ao))) ao))))))
   aG)
   (aj (bZ (uM (qv 5))
   (au (aU (mQ Au jD (qv 4) (bu (aa qh (aa qh (aa qh (aa qh aq))))))))
   aG)
   (au (aU (xu (mQ Au jD (qv 4) (bu aq)) (xu (aV C13 (aa (qv 3) aq)) (yQ (mQ Au jD (qv 3) (qv 6))))))))))))).1
 exact(mk hfa F22 ["_law_script", "_law_pool", "_law_one", "_law_other", "_law_together", "_law_turn", "_law_handed", "_law_told_here", "_law_at", "_law_first", "_law_kept"] 1 5 Cy Gy (fun {_ _ _ _ _ _ hr hu nd _}=>(aj (aA 1 (aV C9 (aa (aV C8 (aa (qv 0) (aa ao aq))) (aa (aV C8 (aa (qv 0) (aa ao aq))) aq)))) (aj (qe (i:=2) (j:=3) rfl nd rfl (Or.inl rfl) rfl (Or.inl rfl) (UW (aV C21 (aa (qv 0) (aa (qv 1) aq))))) (aj (aA 4 (aV C11 (aa (aV C8 (aa (qv 0) (aa ao aq))) (aa (qv 1) aq)))) (aj (aA 5 (aV C8 (aa (qv 0) (aa ao aq)))) (aj (aA 6 (c7 (aa (bu (aa (dy (qv 2) ao) (aa (jn fL m_ T.KS jT (dy (qv 2) ao)) aq))) (aa (bu (aa (dy (qv 3) ao) (aa (jn fL m_ T.KS jT (dy (qv 3) ao)) aq))) aq)))) (aj (aA 7 (jn fL m_ T.KS jT (qv 4))) (aj (bZ (bD Au jD (cg (qv 5) ao) ao) (aj (aA 8 (cg (dW (qv 5) ao) (bx (bQ aM dN T.uS dg (qv 7)) ao))) (aj (aL 8 (Ec (bR (pv 7)) (qv 8) (aV C19 (aa (dW (qv 5) ao) (aa (qv 1) aq))))) (aj (bZ (bD NX xn (aV RT (aa (dy (qv 6) ao) (aa (dy (qv 6) ao) (aa (qv 7) aq)))) (bu (aa xG (aa (bu (aa qh (aa qh (aa qh (aa qh aq))))) aq)))) (au (aU qh))
   aG)
   (au (aL 8 (z8 (bR (pv 7)) (qv 8)))))))
   aG)
   (aj (aL 3 (aL 2 (bZ (Mt (nO (cI (cM (aV RV (aa (dy (qv 6) ao) (aa (dy (qv 6) ao) (aa (qv 7) aq)))))) (nO (bD NX xn (qv 6) (c7 (aa (qv 2) (aa (qv 3) aq)))) (kW (bD NX xn (qv 7) (qv 4))))))
   (au (aU qh))
   aG)))
   (aj (aA 9 (aV RT (aa (dy (qv 6) ao) (aa (dy (qv 6) ao) (aa (qv 7) aq)))))
   (aj (aA 10 xG)
   (aj (bZ (bD cG' Az (dy (qv 9) ao) xG)
   (au (aA 10 (bu (aa (dy (dy (qv 9) ao) ao) (aa (jn fL m_ T.KS jT (dy (dy (qv 9) ao) ao)) aq)))))
   aG)
   (aj (jJ (bR (pv 7)) (dy (qv 1) (cg (dW (qv 5) ao) ao)))
   (aj (bZ (Mt (nO (cI (cM (aV RV (aa (dy (qv 6) ao) (aa (dy (qv 6) ao) (aa (qv 7) aq)))))) (kW (cI (cM (aV RV (aa (dy (qv 6) ao) (aa (dy (qv 6) ao) (aa (qv 7) aq)))))))))
   (au (aU qh))
   aG)
   (aj (yz (Fp (Fp (bR (pv 6)) ao) ao))
   (aj (bZ (cI (cM (aV RV (aa (dy (qv 6) ao) (aa (dy (qv 6) ao) (aa (qv 4) aq))))))
   (au (aU qh))
   aG)
   (au (aU (xu (mQ Au jD (aV RT (aa (qv 2) (aa (qv 3) (aa (qv 4) aq)))) (qv 9)) (yQ (mQ Au jD (dy (qv 9) ao) (qv 10))))))))))))))))))))))).2
theorem walk{l:R0}{q:dr}{loose:List Str}{XP:(Str->Option ae)->cE->Prop}{YP:dA->cE->Prop}{d:DefRec}{K:Params->aE}(hn:l.most=some 63)(NQ:d.params.defaults=[])(hY:∀ (w:dA) (h:cE),YP w h->(K w.params).In h)(F:∀ (w:dA) (mg:Str->Option ae) (fa:ag) (h:cE),(K w.params).In h->h.Ns fT mg->mg d.name=some (.ref fa) ->
   ∃ fd:zv,(∀ (s:ay) (u:ae),BindsTo s fd ⟨[u],[]⟩ [("_law_script",u)])/\∀ base:cE,(K w.params).In base->base.Ns fT mg->t5 l.prog w (K w.params) mg base vw 6 fa fd ["_law_script"] (fX (K w.params) Pa)) :
  PySem.W.WalkO q loose XP YP l.row.toRowW d [] (fun f vs=>PySem.call f vs) :=
 L2.eq' (n:=63) (k:=6) (x := "_law_script") (CX:=fun _=>vw) (sp:=fun w=>fX (K w.params) Pa) hn (by decide) NQ ⟨rfl,by decide,by decide⟩ hY F (fun w H a ns hl hO hS=>xM hl hS) fun _ _ _ _ _ z=>z
end L2.Q.RJ
open PySem PySem.W PyProof.Rows
namespace PySem.W.Fast
def tw10562683930217437287:=0
def tw6150429620263570595:=0
def tw3285194396249681858:=0
def tw11828339853138338339:=0
def tw2926659893402694115:=0
def tw17129664727610703099:=0
def tw4172616460023018930:=0
def tw13917879926117516771:=0
def tw4104916573575784856:=0
def tw17511938800289068365:=0
def tw10160396602623342957:=0
def tw9759498165836663933:=0
def tw7982310362989749795:=0
def tw17908854081171134148:=0
def tw15724514984413413373:=0
def tw2052783238257747373:=0
def tw17696898090347304334:=0
def tw16664864490945843116:=0
def tw334752162166531783:=0
def tw14249291114549552223:=0
def tw439217765668507399:=0
def tw2678492245501389544:=0
def tw153795220815079563:=0
def tw13561096580432314125:=0
def tw2323268507794961539:=0
def tw6901504575239663152:=0
def tw8224530771505960745:=0
def tw8482870367397909853:=0
def tw17385768036915146989:=0
def tw7814527737957915985:=0
def tw4836399541109584882:=0
def tw9751929540468151208:=0
def tw1237331511128742915:=0
def tw3007399387831816341:=0
def tw17756980199093204549:=0
def tw1596036309212512415:=0
def tw11278162742774797078:=0
def tw4839611427760782788:=0
def tw8953032347450301857:=0
def tw14757944163206703759:=0
def tw7072219323116167554:=0
def tw14060141194749028563:=0
def tw13830341444417994418:=0
def tw3642631813640636157:=0
def tw6101706054112263206:=0
def tw15620059241464427345:=0
def tw17304672768990382706:=0
def tw1208143650806802550:=0
def tw6545935745428491435:=0
def tw14749913092413738547:=0
def tw9290207721096445079:=0
def tw11223851567278009983:=0
def tw16402741680587107663:=0
def tw13062162121574130687:=0
def tw14763486992034688121:=0
def tw18424827330320045627:=0
def tw3360819145630028171:=0
def tw1470365779699269213:=0
def tw5873668808994302835:=0
def tw8134526399771236493:=0
def tw2841677192203850827:=0
def tw8449047272270283739:=0
def tw244783636267527630:=0
def tw15655660322198292140:=0
def tw7496406580013211681:=0
def tw11870417216271639170:=0
def tw13151914815829076875:=0
def tw11609660860329804262:=0
def tw708735234457442482:=0
def tw10055563109669618601:=0
def tw6958997769507277476:=0
def tw1476565254851081254:=0
def tw15135044299385186007:=0
def tw11841608309710784256:=0
def tw70509911443541516:=0
def tw6553945138659427930:=0
def tw14969317440582862762:=0
def tw4126492877444622796:=0
def tw3378054807180505575:=0
def tw14165646828583531484:=0
def tw1947982073433184645:=0
def tw9774240709317308367:=0
def tw12314158196199480266:=0
def tw4979705158768634357:=0
def tw5478024606110581386:=0
def tw4547817272151526220:=0
def tw11644588141741036963:=0
def tw12953887044594131667:=0
def tw17966698757111778607:=0
def tw5281327602677209361:=0
def tw139708449947245151:=0
def tw7996596091928256480:=0
def tw9606414965082924976:=0
def tw16804819820015798286:=0
def tw7093073405081815593:=0
def tw10619447115612045435:=0
def tw13432079641352861210:=0
def tw5892575750650001073:=0
def tw10429670881469381112:=0
def tw15059663268995067346:=0
def tw3187590241158295294:=0
def tw3864170472752819340:=0
def tw11998371855319088526:=0
def tw7808816444980739352:=0
def tw3601910852745736365:=0
def tw11692376388866907152:=0
def tw7772526192569714002:=0
def tw938059366682748384:=0
def tw5400441132778664348:=0
def tw13381255341568117688:=0
def tw2666437769492212812:=0
def tw7332179918457589361:=0
def tw10979903818378792731:=0
def tw17510564780380540326:=0
def tw16926748364716476369:=0
def tw14760498478983817329:=0
def tw3391255831889272281:=0
def tw15375388883774848710:=0
def tw15290540232894268244:=0
def tw8862154128195720714:=0
def tw17936103936776036097:=0
def tw2805878345191243033:=0
def tw9335305859340568995:=0
def tw4134921883514755988:=0
def tw15870244745145688076:=0
def tw8464449593404971684:=0
def tw17374856579142049840:=0
def tw15992998209693554546:=0
def tw13038753738036023877:=0
def tw10519320105692802369:=0
def tw9899716921656489767:=0
def tw1566455606450921840:=0
def tw702946592601614799:=0
def tw11344634379799712986:=0
def tw705028101199174865:=0
def tw14825010425659854467:=0
def tw8208341986739826417:=0
def tw14040749602460365939:=0
def tw3793492841963072136:=0
def tw8925898755417676879:=0
def tw6956123230224855614:=0
def tw7041832763367408193:=0
def tw12295512529699674540:=0
def tw12731035755083348056:=0
def tw9482285425920392668:=0
def tw13181473891990303110:=0
def tw2852973464944719906:=0
def tw4316937078313800859:=0
def tw1888945357461833436:=0
def tw11867991422062733543:=0
def tw14161610434836233962:=0
def tw17655858929207026162:=0
def tw3061940776800620661:=0
def tw16483411969672448005:=0
def tw17590691535610628220:=0
def tw1653999426885467230:=0
def tw14675828606881253991:=0
def tw11892505924245867421:=0
def tw4457556658632744080:=0
def tw3634648856091857299:=0
def tw15657396666341831305:=0
def tw16456220231264178389:=0
def tw1736379220172113170:=0
def tw67452686844005353:=0
def tw8819123008052581540:=0
def tw9666652733315940707:=0
def tw14762431900552921599:=0
def tw16131592343238705978:=0
def tw6340718912710664024:=0
def tw3127729914183651425:=0
def tw1317114276340879547:=0
def tw15355586426051778625:=0
def tw16333196354608387433:=0
def tw14632150283406416795:=0
def tw6819285918599507829:=0
def tw986282952789960048:=0
def tw11250027601691061088:=0
def tw6844794461997657907:=0
def tw13800102316336775578:=0
def tw10331495059003246639:=0
def tw8404577830780242615:=0
def tw2762963541845021769:=0
def tw17151047260359493306:=0
def tw18167515498266905791:=0
def tw945374371359677467:=0
def tw16156312382201851292:=0
def tw7192907684438788990:=0
def tw16512321496128863850:=0
def tw10806956984637468180:=0
def tw3151100099675657907:=0
def tw12833569062931663144:=0
def tw3283908824696139660:=0
def tw2837512534633385029:=0
def tw1018821521755891789:=0
def tw10865534727025513393:=0
def tw16743292835004421338:=0
def tw14713171956579353275:=0
def tw9797615282125340300:=0
def tw9916827670047778064:=0
def tw10513020305766700412:=0
def tw985247360434197971:=0
def tw6305538290918239978:=0
def tw16251398887036528932:=0
def tw14580607058459417782:=0
def tw16895258058553775018:=0
def tw12468401548458477203:=0
def tw6143371379053340794:=0
def tw6019299378053366485:=0
def tw4829598006121547146:=0
def tw7090566059115809015:=0
def tw6263112745934740816:=0
def tw17216540428070180710:=0
def tw11383130707072068676:=0
def tw15163338880064085847:=0
def tw8288845904975530632:=0
def tw4884068684926113990:=0
def tw18288229633942155321:=0
def tw17260726452801276305:=0
def tw17988178396378419916:=0
def tw15926300565070587982:=0
def tw16511884723039083911:=0
def tw8287260073951516316:=0
def tw15448145425520056966:=0
def tw13527644567573588542:=0
def tw3810630372514604160:=0
def tw6334750630682873973:=0
def tw8425065101501085393:=0
def tw15118828095229690034:=0
def tw5487071833636128101:=0
def tw11575775507389529296:=0
def tw14759225227417581868:=0
def tw17720065150624739383:=0
def tw4576796071988176361:=0
def tw11705947283882805033:=0
def tw4353604582620253645:=0
def tw7314273762934441861:=0
def tw16408093200580034184:=0
def tw16973027966351164511:=0
def tw1537111745859140536:=0
def tw8181709195597096084:=0
end PySem.W.Fast
set_option maxRecDepth 100000 in
set_option maxHeartbeats 0 in
theorem PySem.Challenge.cw_kinlook_k14_side_by_side_holds : PySem.Challenge.rw_kinlook_k14_side_by_side.Holds := by
 w_on;o_law;k_head;(case hw=>w_witness2)
 k_fill
 refine L2.Q.RJ.walk (l:=PySem.Challenge.rw_kinlook_k14_side_by_side) rfl rfl (fun w h Y=>PySem.W.kIn_of Y) ?F
 case F =>
  intro w mg fa h KX G NR
  refine' L2.Q.RJ.all_mk KX G NR ..
  all_goals first|k_is|k_exc|kit_is|(refine' L2.Q.RJ.Hi ..<;>first|k_is|skip)|skip
