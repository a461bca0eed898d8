import PyProof.Rows.All
import Wide.All
import OpenK.AllK
import Wide.FinOn
import Lean
import PyProof.EqAt
import PyProof.EqKinds
import PyProof.TupleCall
import PyProof.CompUse
import PyProof.NeData
import PyProof.WalksEnum
import PyProof.EnumMake
import PyProof.ZipIter
import PyProof.Rows.EnumRows
import PyProof.Rows.FactsT2
import KE.KDictList
import PyProof.Rows.SortRuns
import PyProof.Rows.SortWalk
import KE.KSortTup
import PyProof.Rows.SortStr
import PyProof.ListRange
import PyProof.StrOps2
import PyProof.StrBlock2
import PyProof.AutoIntG3
import PyProof.ListMulRight
import PyProof.Rows.ListMulArg
import PyProof.Rows.CallKwBuiltin
import PyProof.Rows.StrMul
import KE.KMinBuiltin
import PyProof.TupleKey
import PyProof.SetKind
import PyProof.Rows.SetFrom
import PyProof.DictWalks
import KE.KRevIter
import PyProof.AutoSeq1
import PyProof.P3Eq
import PyProof.MeetsSeq3
import PyProof.FactsAll.list_2
import PyProof.FactsAll.tuple_2
import PyProof.Rows.RowHeap
import PyProof.FactsAll.list_3
import KE.KItem
import PyProof.MeetsSeq
import PyProof.FactsAll.list_4
import PyProof.SliceList
import PySem.Challenge.RW_kinlook_k65_whole_parts_put_in_frames
open PySem renaming wpAny_bind->ax,Value->ae,wpAny_pure->bE,Shared->ay,Addr->ai,sizeLine->bI,model->aI,starEach->df,wpAny->bG,Program->eL,PyData->eC,mainGlobals->kc,Around->fq,compareOp->iE,bootBuiltins->kQ,World->eR,Heap->eh,sizeLine_eq->kU,eval->eI,wpAny_newObj_type->sQ,cLine->fE,wpAny_setState_of->AQ,wpAny_holding->vT,wpAny_Call_Name_kw->Ee,wpAny_call_entry->B9,swapsWith->rV,codeAny_builtin->Cb,sysModules->v3,wpAny_mono->wa,backTo->ny,binaryOp->rX,rawInt->n4,wpAny_truthy_bool->IJ,foldedSetIterable->IL,attributeBase->EA,wpAny_typeNameOfWhole_keyiter->Sn,wpAny_callSpecial?_slot->P8,assignEach->AR,tupleKind_room_in1->MV,wpAny_setField_rec->MX,wpAny_passesOwn->IQ,plainId_quiet->FC,Keyword->wc,wpAny_typeNameOf_keyiter->Sq,wpAny_askSetting->MY,wpAny_rule->EB,NameKind->AU,tupleKind->EC,behindInMarks->MZ,sliceBounds->IU,keywordEach->IX
open PySem.W renaming Frag->aE,nsIn->oD,kia_one->wd,mg_none_of->AV,fnOf->zC,mg_of->FD,keepIn->IY,codeIn->M0,kitx_dict->Sr,kat_kind->Ss,kitx_list->Vf,instObj->Vg,OpenLaw->Vh
open List renaming mem_cons_of_mem->dP,mem_cons_self->dz,length_map->cx,mem_map->cw,getElem?_eq_some_iff->iF,mem_append->fe,mem_append_right->gX,mem_cons->eK,length_append->i6,getElem?_eq_getElem->lh,map_map->fN,sublist_append_right->nE,nodup_append->i7,size_toArray->jI,map_cons->gS,pairwise_map->kC,mem_append_left->mz,mem_of_getElem?->mB,mem_singleton->nI,getElem?_map->nK,length_take->mE,nodup_cons->ly,drop_eq_getElem_cons->xC,pairwise_iff_getElem->xD,map_append->oI,length_cons->qh,mem_range->oP,getElem?_eq_none->xE,getElem?_append_right->Ct,getD_eq_getElem?_getD->CB,nodup_nil->qk,getElem_mem->ui,take_length->uj,append_nil->sR,take_add_one->wm,getElem?_append_left->FE,append_assoc->AW,mem_filter->zD,all_eq_true->AX,length_singleton->FG,replicate_succ->FH,mem_iff_getElem?->IZ,sublist_append_left->Nc,ext_getElem?->FI,length_drop->FK,any_cons->CC,nil_sublist->FP,flatten_cons->I0,all_cons->ED,map_congr_left->Nn,filter_eq_self->Nw,append_eq_nil_iff->P9,zip_cons_cons->NC,take_append_drop->P_,nodup_iff_pairwise_ne->Sv,length_filter_le->Qa,getElem?_set_ne->Qb,pairwise_append->Qc,mem_of_mem_take->Qe,filterMap_cons->Qf,not_mem_nil->ND,length_eq_zero_iff->Sw,find?_cons->NF,take_of_length_le->Sx,length_range->Qg,all_map->Jn,mem_iff_getElem->Sy,mem_of_mem_drop->SD,extract_eq_drop_take->Vi,length_zip->Qh,pairwise_cons->SF,getElem_idxOf->SG,getElem?_set_self->Vj,length_pos_of_mem->Vk,drop_of_length_le->Vl,perm_append_comm->Vm,map_fst_zip->SJ,cons_ne_nil->SK,nodup_range->SN,any_eq_true->SQ,mem_flatMap->SV,length_nil->SW,filter_map->SX,map_nil->Qi,flatMap_append->Vn,mem_filterMap->Vo,filterMap_map->Vp,lookup_cons->Vq,drop_length->Vr,filter_cons->Vs
open PySem.Heap renaming get?_push_of_some->gx,lt_size->fF,get?_push_size->kG,get?_update_self->JA,get?_update_other->Qj,size_update->JJ,get?_push_ne->NH,get?_update_ne->Vt
open Nat renaming le_refl->c9,zero_le->fS,ne_of_lt->hU,le_trans->jS,lt_of_lt_of_le->px,lt_succ_of_lt->xI,le_of_lt->xS,lt_irrefl->wo,not_lt_zero->FR,pow_succ->CD,add_sub_of_le->Qk,le_succ->FT,mul_le_mul->NJ,mul_assoc->NM,zero_add->NR,lt_or_ge->NS,lt_of_succ_lt->Vu,le_of_lt_succ->SY,lt_succ_of_le->S0,ne_of_gt->Ql,add_zero->Qm,min_self->Qn,mod_lt->NV,lt_trans->Vv,le_of_eq->S4,add_comm->S5,mul_comm->S6,succ_pos->S7
open PyProof.Rows renaming wpS_bind->cE,arrOf->bp,wpS_pure->d5,Keyed->bT,SortSt->eB,kindOf->fP,pendingOf->mG,wpS_forRange->sf,SortKind->qo,failedOf->sj,wpS_mono->uk,seqObj->qq,wpS_modify->EE,size_push'->EF
open Bool renaming false_ne_true->kH,and_eq_true->n5,false_eq_true->qA,eq_iff_iff->sT,not_eq_false'->S8,and_true->S9
open Array renaming getElem?_toList->pE,toList_push->qB,getElem?_eq_getElem->CF,getD_eq_getD_getElem?->JY,length_toList->CH,getElem?_eq_some_iff->NW,getElem?_eq_none->NX,size_extract->Kb,eq_empty_of_size_eq_zero->S_,getElem?_extract->Ta,toArray_toList->Tb,perm_iff_toList_perm->Vw,append_assoc->Tc,toList_inj->Td,toList_extract->Vx,append_empty->Vy
open Int renaming le_refl->iS,toNat_of_nonneg->tf,le_trans->x3,toNat_natCast->FU,mul_nonneg->EG,natCast_mul->Ki,le_of_lt->Kj,emod_lt_of_pos->Qo,emod_nonneg->Qp,mul_comm->Qq,zero_add->Te
open Option renaming map_eq_some_iff->N0,isSome_map->Vz,getD_none->VA,getD_some->VB
def bv:Lean.Syntax:=(Lean.Unhygienic.run `(tacticSeq|rfl)).raw
local macro_rules | `(command| def $i:declId $s:optDeclSig $v:declVal)=>`(command| noncomputable def $i:declId $s:optDeclSig $v:declVal)
local macro_rules | `(command| abbrev $i:declId $s:optDeclSig $v:declVal)=>`(command| noncomputable abbrev $i:declId $s:optDeclSig $v:declVal)
set_option compiler.extract_closed false
set_option hygiene false
local macro_rules
|`(tactic|walk_at"a")=>`(tactic|intro Hs H m x v As n y u Bs Qd Qv w rx ry h f)
|`(tactic|walk_at"b")=>`(tactic|intro pins s σ H x y v u Q I rx ry h)
|`(tactic|walk_at"c")=>`(tactic|obtain⟨n1,n2,n3⟩:=i7.mp n)
|`(tactic|walk_at"d")=>`(tactic|refine⟨Hs,ρ,ah,_,sr,h,λv H1 aT m x As g1 r1 f1 q1=>?_⟩)
|`(tactic|walk_at"e")=>`(tactic|intro Hs H m x v As Qd Qv w rx h f)
|`(tactic|walk_at"f")=>`(tactic|intro pins s σ H xs us Q I r h)
|`(tactic|walk_at"g")=>`(tactic|refine wpAny_Assign_Subscript (dQ (hv pins s σ H _ I h) λr s1 dS=>L2.hG dS λv H1 I1 rv q1=>dQ (ho pins s1 σ H1 _ I1 q1) λu s2 dS=>L2.hG dS λx H2 I2 rx q2=>dQ (hi pins s2 σ H2 _ I2 q2) λiv s3 eP=>?_) hs)
|`(tactic|walk_at"h")=>`(tactic|refine Calls.spliced_cons (dQ (he pins s σ H _ I h) λu s1 dS=>L2.hG dS λx H1 I1 r1 q1=>Calls.spliced_nil ?_))
set_option hygiene true
def L2.hG{α β:Type _}{A B C:α->β->Prop}{G:Prop}(x:∃ a b,A a b/\B a b/\C a b)(k:∀ a b,A a b->B a b->C a b->G):G :=
 let ⟨a,b,p,q,r⟩:=x
 k a b p q r
set_option Elab.async false
set_option linter.all false
set_option maxHeartbeats 4000000
set_option maxRecDepth 100000
set_option linter.defProp false
section
open PySem PySem.Spec PyProof.Rows
set_option bootstrap.genMatcherCode false
set_option genSizeOf false
namespace L2
abbrev Key:=Sum Int Str
def FV:Key->ae->Bool
 |.inl k,v=>Value.isInt k v
 |.inr x,v=>Value.isStrOf x v
def dN'(w:eR):Key->Int
 |.inl k=>hashInt k
 |.inr x=>hashStr w x
theorem AY:∀ {k:Key} {v:ae},FV k v=true->(∃ i t,k=Sum.inl i/\v=Value.int i t)\/(∃ x t,k=Sum.inr x/\v=Value.str x t)
 |.inl i,v,h=>by obtain⟨t,e⟩:=Value.isInt_shape h;exact .inl ⟨i,t,rfl,e⟩
 |.inr x,v,h=>by obtain⟨t,e⟩:=Value.isStrOf_shape h;exact .inr ⟨x,t,rfl,e⟩
def VC(i:Int)(t:Tok):FV (.inl i) (.int i t)=true:=by simp[FV,Value.isInt]
def VD(x:Str)(t:Tok):FV (.inr x) (.str x t)=true:=by simp[FV,Value.isStrOf]
def al'(a b:Int):decide ((Sum.inl a:Key)=Sum.inl b)=(a == b):=by
 by_cases e:a=b
 ·subst e;simp
 ·have h:¬ (Sum.inl a:Key)=Sum.inl b:=λq=>e (Sum.inl.inj q);rw[decide_eq_false h];exact(beq_eq_false_iff_ne.mpr e).symm
def am'(a b:Str):decide ((Sum.inr a:Key)=Sum.inr b)=decide (a=b):=by
 by_cases e:a=b
 ·subst e;simp
 ·have h:¬ (Sum.inr a:Key)=Sum.inr b:=λq=>e (Sum.inr.inj q);rw[decide_eq_false h,decide_eq_false e]
def dO'(a:Int)(b:Str):decide ((Sum.inl a:Key)=Sum.inr b)=false:=decide_eq_false (λq=>nomatch q)
def dP'(a:Str)(b:Int):decide ((Sum.inr a:Key)=Sum.inl b)=false:=decide_eq_false (λq=>nomatch q)
def kK(prog:eL)(w:eR):PySem.KeyKind prog w Key where
 is:=FV
 hash:=dN' w
 inj:=λv a b ha hb=>by
  rcases AY ha with⟨i,t,rfl,rfl⟩|⟨x,t,rfl,rfl⟩
  ·rcases AY hb with⟨j,u,rfl,e⟩|⟨y,u,rfl,e⟩
   ·injection e with e1 _;rw[e1]
   ·exact nomatch e
  ·rcases AY hb with⟨j,u,rfl,e⟩|⟨y,u,rfl,e⟩
   ·exact nomatch e
   ·injection e with e1 _;rw[e1]
 byValue:=λk v h=>by rcases AY h with⟨i,t,rfl,rfl⟩|⟨x,t,rfl,rfl⟩<;>rfl
 pyHash:=λhv h=>by
  rcases AY hv with⟨i,t,rfl,rfl⟩|⟨x,t,rfl,rfl⟩
  ·exact wpAny_pyHash_int h
  ·exact wpAny_pyHash_str h
 eqBool:=λhu hv h=>by
  rcases AY hu with⟨i,t,rfl,rfl⟩|⟨x,t,rfl,rfl⟩
  ·rcases AY hv with⟨j,u,rfl,rfl⟩|⟨y,u,rfl,rfl⟩
   ·rw[al'] at h;exact wpAny_eqBool_int h
   ·rw[dO'] at h;exact SeqAt.EqAt.int_str i t y u _ _ _ _ h
  ·rcases AY hv with⟨j,u,rfl,rfl⟩|⟨y,u,rfl,rfl⟩
   ·rw[dP'] at h;exact SeqAt.EqAt.str_int x t j u _ _ _ _ h
   ·rw[am'] at h;exact wpAny_eqBool_str h
 «strs» := λk x t v h=>by
  rcases AY h with⟨i,u,rfl,e⟩|⟨y,u,rfl,e⟩
  ·exact nomatch e
  ·injection e with e1 _;subst e1;cases v<;>rfl
def an'(prog:eL)(w:eR)(k:Key)(v:ae):(kK prog w).is k v=FV k v:=rfl
def dQ'(prog:eL)(w:eR)(i:Int)(t:Tok):(kK prog w).is (.inl i) (.int i t)=true:=VC i t
def dR'(prog:eL)(w:eR)(x:Str)(t:Tok):(kK prog w).is (.inr x) (.str x t)=true:=VD x t
inductive V where
 |non|bl (b:Bool)|int (i:Int)|str (x:Str)|uS (b:Array UInt8)|EH (b:UInt64)|ref (a:ai)|ty (n:String)
 deriving DecidableEq
set_option genInjectivity false
def RelV:V->ae->Prop
 |.non,u=>u=Value.none
 |.bl b,u=>u=Value.bool b
 |.int i,u=>∃ t,u=Value.int i t
 |.str x,u=>∃ t,u=Value.str x t
 |.uS b,u=>∃ t,u=Value.bytes b t
 |.EH b,u=>∃ t,u=Value.float b t
 |.ref a,u=>u=Value.ref a
 |.ty n,u=>u=Value.type n
abbrev Vals:List V->List ae->Prop:=Paired RelV
def Vals.length(r:Vals xs us):xs.length=us.length:=Paired.length r
theorem Vals.get:∀ {xs:List V} {us:List ae} {i:Nat} {x:V},Vals xs us->xs[i]? = some x->∃ u,us[i]? = some u/\RelV x u
 |_,_,_,_,.nil,e=>by simp at e
 |_,_,0,_,.cons r _,e=>by simp at e;subst e;exact⟨_,rfl,r⟩
 |_,_,i+1,x,.cons _ t,e=>by obtain⟨u,h1,h2⟩:=Vals.get t (by simpa using e);exact⟨u,by simpa using h1,h2⟩
theorem Vals.append:∀ {xs ys:List V} {us ws:List ae},Vals xs us->Vals ys ws->Vals (xs++ys) (us++ws)
 |_,_,_,_,.nil,s=>s
 |_,_,_,_,.cons r t,s=>.cons r (Vals.append t s)
theorem Vals.take:∀ {xs:List V} {us:List ae} (n:Nat),Vals xs us->Vals (xs.take n) (us.take n)
 |_,_,0,_=>.nil
 |_,_,_+1,.nil=>.nil
 |_,_,n+1,.cons r t=>.cons r (Vals.take n t)
theorem Vals.drop:∀ {xs:List V} {us:List ae} (n:Nat),Vals xs us->Vals (xs.drop n) (us.drop n)
 |_,_,0,r=>r
 |_,_,_+1,.nil=>.nil
 |_,_,n+1,.cons _ t=>Vals.drop n t
def x5:Option V->Option ae->Prop
 |some v,some u=>RelV v u
 |none,none=>True
 |_,_=>False
def KV{κ:Type}:List (κ × V)->List (κ × ae)->Prop:=Paired λ(p:κ × V) (q:κ × ae)=>p.1=q.1/\RelV p.2 q.2
def kV:Key->V
 |.inl i=>.int i
 |.inr x=>.str x
inductive HO where
 |lst (xs:List V)
 |tup (xs:List V)
 |dK (kvs:List (Key × V))|dT (kvs:List (List Key × V))
 |set (S:Int->Bool) (n:Nat)
 |ins (C dx:ai) (fs:List (Str × V))
 |own (x:ai)
 |xd (fs:List (Str × V))
 |met (f x:ai)
 |VF (lo hi:Int)
 |qE (o:Obj) (u:HO)
 |Kk (ps:Array ae)
 |ext (φ:eh->Prop)
abbrev Hp:=ai->Option HO
def upd(H:Hp)(a:ai)(o:HO):Hp:=λb=>if b=a then some o else H b
def kf:upd H a o a=some o:=by unfold upd;rw[if_pos rfl]
def h9(h:b≠a):upd H a o b=H b:=by unfold upd;rw[if_neg h]
def dS'{H:Hp}{a b:ai}{o u:HO}(h:H a=some o)(h':H b=some u)(d:o≠u):a≠b:=by intro e;subst e;rw[h] at h';exact d (Option.some.inj h')
def FX{H:Hp}{a b:ai}{o:HO}(h:H a=some o)(h':H b=none):a≠b:=by intro e;subst e;rw[h] at h';cases h'
section
variable (P:eL)(w:eR)
def lI(H:Hp)(h:eh)(a:ai):HO->Prop
 |.lst xs=>xs.length<=bI/\∃ (its:List ae) (n:Nat),Vals xs its/\h.get? a=some { cls:=.type "list",data:=.seq its.toArray n }
 |.tup xs=>xs.length<=bI/\∃ its:List ae,Vals xs its/\IsTup h a its.toArray
 |.dK kvs=>kvs.length<=bI/\(a == v3)=false/\∃ vs,KV kvs vs/\h.DictOf (kK P w) a vs
 |.dT kvs=>kvs.length<=bI/\(a == v3)=false/\∃ xs:List (List Key × ai × ae),
   Paired (λ(p:List Key × V) (q:List Key × ai × ae)=>p.1=q.1/\H q.2.1=some (.tup (p.1.map kV))/\RelV p.2 q.2.2) kvs xs /\
   ∃ o es ep,h.get? a=some o/\o.ExactDict/\o.data=.dict es ep/\es.toList=xs.map (entryOfKey (EC (kK P w)))/\(xs.map (·.1)).Nodup
 |.set S n=>h.SetOf (intKind P w) a S n
 |.ins C dx fs=>H dx=some (.own a)/\fs.length<=1000/\dx≠a/\h.get? a=some (Vg C dx) /\
   ∃ mA,h.Ns1 dx mA/\(∀ f,x5 (fs.lookup f) (mA f))/\PySem.Within mA (fs.map (·.1))
 |.own _=>∃ o,h.get? a=some o
 |.xd fs=>∃ mA,h.Ns1 a mA/\∀ f,x5 (fs.lookup f) (mA f)
 |.VF lo hi=>∃ t u v,h.get? a=some { cls:=.type "range",data:=.fields #[.int lo t,.int hi u,.int 1 v] }
 |.qE o u=>h.get? a=some o/\lI H h a u
 |.Kk ps=>h.get? a=some { cls:=.none,data:=.fields ps }
 |.met f x=>h.get? a=some (PySem.W.methodObj (.ref f) (.ref x))
 |.ext φ=>φ h/\(∃ o,h.get? a=some o)/\∀ h1 h2:eh,φ h1->(∀ o,h1.get? a=some o->h2.get? a=some o)->φ h2
def ku(H:Hp)(h:eh):Prop:=∀ a o,H a=some o->lI P w H h a o
end
section
variable {P:eL}{w:eR}{H H':Hp}{h h':eh}{a:ai}{o:HO}
def lI.lt(x:lI P w H h a o):a<h.objs.size:=by
 cases o with
 |lst xs=>obtain⟨_,_,_,_,e⟩:=x;exact fF e
 |tup xs=>obtain⟨_,_,_,p⟩:=x;exact p.lt
 |dK kvs=>obtain⟨_,_,_,_,o,_,_,e,_⟩:=x;exact fF e
 |dT kvs=>obtain⟨_,_,_,_,o,_,_,e,_⟩:=x;exact fF e
 |set S n=>obtain⟨o,_,_,_,e,_⟩:=x;exact fF e
 |ins C dx fs=>obtain⟨_,_,_,e,_⟩:=x;exact fF e
 |own y=>obtain⟨_,e⟩:=x;exact fF e
 |xd fs=>obtain⟨_,⟨_,_,_,e,_⟩,_⟩:=x;exact fF e
 |VF lo hi=>obtain⟨_,_,_,e⟩:=x;exact fF e
 |qE ob u=>obtain⟨e,_⟩:=x;exact fF e
 |Kk ps=>exact fF (x)
 |met f y=>exact fF (x)
 |ext φ=>obtain⟨_,⟨_,e⟩,_⟩:=x;exact fF e
theorem Paired.VG{α β:Type}{F G:α->β->Prop}:∀ {ao':List α} {ap':List β},Paired F ao' ap'->(∀ a b,F a b->G a b)->Paired G ao' ap'
 |_,_,.nil,_=>.nil
 |_,_,.cons r t,f=>.cons (f _ _ r) (Paired.VG t f)
def lI.fT(x:lI P w H h a o)(k:∀ b u,(b=a\/H b=some (.own a))->h.get? b=some u->h'.get? b=some u)(ho:∀ b,H b=some (.own a)->H' b=some (.own a)) (ht:∀ b xs,H b=some (.tup xs)->H' b=some (.tup xs)):lI P w H' h' a o:=by
 induction o with
 |lst xs=>obtain⟨z,its,n,r,e⟩:=x;exact⟨z,its,n,r,k _ _ (.inl rfl) e⟩
 |tup xs=>obtain⟨z,its,r,ob,e,c⟩:=x;exact⟨z,its,r,ob,k _ _ (.inl rfl) e,c⟩
 |dK kvs=>obtain⟨z,y,vs,r,ob,es,ep,e,c⟩:=x;exact⟨z,y,vs,r,ob,es,ep,k _ _ (.inl rfl) e,c⟩
 |dT kvs =>obtain⟨z,y,xs,r,ob,es,ep,e,c⟩:=x;exact⟨z,y,xs,Paired.VG r λp q z=>⟨z.1,ht _ _ z.2.1,z.2.2⟩,ob,es,ep,k _ _ (.inl rfl) e,c⟩
 |set S n=>obtain⟨ob,es,ep,t,e,c⟩:=x;exact⟨ob,es,ep,t,k _ _ (.inl rfl) e,c⟩
 |ins C dx fs =>obtain⟨d,z,ne,e,mA,⟨od,es,ep,e2,c⟩,r⟩:=x;exact⟨ho _ d,z,ne,k _ _ (.inl rfl) e,mA,⟨od,es,ep,k _ _ (.inr d) e2,c⟩,r⟩
 |own y=>obtain⟨ob,e⟩:=x;exact⟨ob,k _ _ (.inl rfl) e⟩
 |xd fs=>obtain⟨mA,⟨od,es,ep,e,c⟩,r⟩:=x;exact⟨mA,⟨od,es,ep,k _ _ (.inl rfl) e,c⟩,r⟩
 |VF lo hi=>obtain⟨t,u,v,e⟩:=x;exact⟨t,u,v,k _ _ (.inl rfl) e⟩
 |qE ob u ih=>obtain⟨e,q⟩:=x;exact⟨k _ _ (.inl rfl) e,ih q⟩
 |Kk ps =>have e:h.get? a=some { cls:=.none,data:=.fields ps }:=x;exact k a _ (.inl rfl) e
 |met f y =>have e:h.get? a=some (PySem.W.methodObj (.ref f) (.ref y)):=x;exact k a _ (.inl rfl) e
 |ext φ=>obtain⟨p,⟨o,e⟩,st⟩:=x;exact⟨st _ _ p λo q=>k _ _ (.inl rfl) q,⟨o,k _ _ (.inl rfl) e⟩,st⟩
def ku.lt(x:ku P w H h)(e:H a=some o):a<h.objs.size:=(x a o e).lt
def ku.fresh(x:ku P w H h)(e:h.objs.size<=a):H a=none:=by
 cases q:H a with
 |none=>rfl
 |some u=>exact absurd (px (x.lt q) e) (wo _)
def ku.kept(x:ku P w H h)(k:∀ b u,h.get? b=some u->h'.get? b=some u):ku P w H h':=λa o e =>
 (x a o e).fT (λb u _ q=>k b u q) (λ_ q=>q) λ_ _ q=>q
def ku.laid(x:ku P w H h)(k:∀ b u,h.get? b=some u->h'.get? b=some u)(hp:h.objs.size<=a)(new:lI P w (upd H a o) h' a o):ku P w (upd H a o) h':=λb u e=>by
 have hn:=x.fresh hp;by_cases hb:b=a
 ·subst hb;rw[kf] at e;cases e;exact new
 ·rw[h9 hb] at e;exact(x b u e).fT (λc v _ q=>k c v q) (λc q=>by rw[h9 (FX q hn)];exact q) λc xs q=>by rw[h9 (FX q hn)];exact q
end
def Rd(H:Hp)(a:ai)(u:HO):Prop:=H a=some u\/∃ o,H a=some (.qE o u)
def Rd.ok{P:eL}(r:Rd H a u)(x:ku P w H h):lI P w H h a u:=by
 rcases r with r|⟨o,r⟩
 ·exact x a u r
 ·obtain⟨_,q⟩:=x a _ r;exact q
def Qr:Option HO->Prop
 |some (.lst _)=>True
 |some (.dK _)=>True
 |some (.dT _)=>True
 |some (.set _ _)=>True
 |some (.ins _ _ _)=>True
 |some (.ext _)=>True
 |_=>False
section
variable {P:eL}{w:eR}{H:Hp}{h h':eh}{x e:ai}{o':HO}
def ku.write(ok:ku P w H h)(mu:Qr (H x))(he:e=x\/H e=some (.own x))(k:∀ b u,b≠e->h.get? b=some u->h'.get? b=some u)(N3:∃ u,h'.get? e=some u)(new:lI P w (upd H x o') h' x o'):ku P w (upd H x o') h':=λb u q=>by
 have aq':∀ c y,H c=some (.own y)->c≠x:=λc y r z=>by subst z;rw[r] at mu;exact mu
 have dT':∀ c xs,H c=some (.tup xs)->c≠x:=λc xs r z=>by subst z;rw[r] at mu;exact mu
 by_cases hb:b=x
 ·subst hb;rw[kf] at q;cases q;exact new
 ·rw[h9 hb] at q;by_cases Kx:b=e
  ·have q':H b=some (.own x):=by
    rcases he with z|z
    ·exact absurd (Kx.trans z) hb
    ·rw[Kx];exact z
   rw[q] at q';cases q';obtain⟨v,hv⟩:=N3;exact⟨v,by rw[Kx];exact hv⟩
  ·refine(ok b u q).fT (λc v hc r=>k c v ?_ r) (λc r=>by rw[h9 (aq' c b r)];exact r) λc xs r=>by rw[h9 (dT' c xs r)];exact r
   rcases hc with rfl|hc
   ·exact Kx
   ·rintro rfl;rcases he with z|z
    ·exact aq' c b hc z
    ·rw[hc] at z;cases z;exact hb rfl
end
structure Un(fs ex:List ai)(H H':Hp)(h h':eh):Prop where
 keep:∀ b o,h.get? b=some o->H b=none->b∉fs->b∉ex->h'.get? b=some o
 slot:∀ b o,h.get? b=some o->H b=none->b∈fs->b∉ex->∃ sl,h'.get? b=some { o with slots:=sl }
 free:∀ b o,h.get? b=some o->H b=none->b∉ex->H' b=none
 there:∀ b o,h.get? b=some o->b∉ex->∃ o',h'.get? b=some o'
 lP:∀ b xs,H b=some (.tup xs)->H' b=some (.tup xs)
 EI:∀ b o u,H b=some (.qE o u)->H' b=some (.qE o u)
 FY:∀ b ps,H b=some (.Kk ps)->∃ more,H' b=some (.Kk (ps++more))
section
variable {fs ex:List ai}{H H1:Hp}{h h1 h':eh}{a x e:ai}{o:HO}
def Un.any(u:Un fs ex H H1 h h1)(q:h.get? b=some ob)(n:H b=none)(hx:b∉ex):∃ sl,h1.get? b=some { ob with slots:=sl }:=by
 by_cases hb:b∈fs
 ·exact u.slot b ob q n hb hx
 ·exact⟨ob.slots,u.keep b ob q n hb hx⟩
def Un.kept(k:∀ b u,h.get? b=some u->h'.get? b=some u):Un fs ex H H h h' :=
 ⟨λb ob q _ _ _=>k b ob q,λb ob q _ _ _=>⟨ob.slots,k b ob q⟩,λ_ _ _ n _=>n,λb ob q _=>⟨ob,k b ob q⟩,λ_ _ q=>q,λ_ _ _ q=>q,λ_ ps q=>⟨#[],by rw[q];simp⟩⟩
def Un.refl:Un fs ex H H h h:=Un.kept λ_ _ q=>q
def Un.laid(k:∀ b u,h.get? b=some u->h'.get? b=some u)(hp:h.objs.size<=a)(hn:H a=none):Un fs ex H (upd H a o) h h' where
 keep:=λb u q _ _ _=>k b u q
 slot:=λb u q _ _ _=>⟨u.slots,k b u q⟩
 free:=λb u q n _=>by rw[h9 (hU (px (fF q) hp))];exact n
 there:=λb u q _=>⟨u,k b u q⟩
 lP:=λb xs q=>by rw[h9 (FX q hn)];exact q
 EI:=λb u xs q=>by rw[h9 (FX q hn)];exact q
 FY:=λb ps q=>⟨#[],by rw[h9 (FX q hn),q];simp⟩
def Un.write(mu:Qr (H x))(he:e=x\/H e=some (.own x))(k:∀ b u,b≠e->h.get? b=some u->h'.get? b=some u)(N3:∃ u,h'.get? e=some u):Un fs ex H (upd H x o) h h':=by
 have hx:∀ b,H b=none->b≠x:=λb n z=>by subst z;rw[n] at mu;exact mu
 have hb:∀ b,H b=none->b≠e:=λb n z=>by
  subst z;rcases he with r|r
  ·exact hx b n r
  ·rw[n] at r;cases r
 have hm:∀ b u,H b=some u->¬ Qr (some u)->b≠x:=λb u q nm z=>by subst z;rw[q] at mu;exact nm mu
 refine⟨λb u q n _ _=>k b u (hb b n) q,λb u q n _ _=>⟨u.slots,k b u (hb b n) q⟩,λb u q n _=>by rw[h9 (hx b n)];exact n,λb u q _=>?_,
  λb xs q=>by rw[h9 (hm b _ q λz=>z)];exact q,λb u xs q=>by rw[h9 (hm b _ q λz=>z)];exact q,λb ps q=>⟨#[],by rw[h9 (hm b _ q λz=>z),q];simp⟩⟩
 by_cases Kx:b=e
 ·subst Kx;exact N3
 ·exact⟨u,k b u Kx q⟩
end
def Tf(h:eh)(H:Hp):List ai:=(List.range h.objs.size).filter λa=>(H a).isSome
def EJ(h:eh)(H:Hp):eh:=PySem.W.hideAll h (Tf h H)
def dU'(h:eh)(H:Hp):(EJ h H).objs.size=h.objs.size:=PySem.W.hideAll_size _ _
def dV'(e:h.get? b=some o)(n:H b=none):(EJ h H).get? b=some o :=
 PySem.W.hideAll_get _ e λhm=>by have q:(H b).isSome=true:=(zD.mp hm).2;rw[n] at q;simp at q
def dW'(e:(EJ h H).get? b=some o):h.get? b=some o/\H b=none:=by
 have e':h.get? b=some o:=PySem.W.of_hideAll (Tf h H) e;refine⟨e',?_⟩
 cases q:H b with
 |none=>rfl
 |some x =>have hm:b∈Tf h H:=zD.mpr ⟨oP.mpr (fF e'),by simp[q]⟩;have z:(EJ h H).get? b=none:=PySem.W.hideAll_none (Tf h H) hm;rw[z] at e;cases e
def dX'(g h:eh)(L:ai):List (ai × Obj):=(List.range h.objs.size).filterMap λa=>if a=L\/(g.get? a).isSome=true then none else (h.get? a).map λo=>(a,o)
def rest(g h:eh)(L d:ai):List (ai × Obj):=(dX' g h L).filter λp=>decide (p.1≠d)
structure Mod(K:aE)(mg:Str->Option ae)(base:eh):Prop where
 wq:K.In base
 glob:base.Ns kc mg
 blt:∃ mb,base.Ns builtinsNs mb/\∀ x:Str,x ≠ "__name__"->mb x=kQ x
 nolimit:base.NoLimit
structure Cx where
 prog:eL
 w:eR
 K:aE
 mg:Str->Option ae
 base:eh
 A:fq
 N:List Str
 kX:ay
 Qs:Hp
 env:Env
 outer:List Env
 stack:List Env
 ex:List ai
 fn:Str->Bool
 calm:Bool
 pn:List (ai × Obj)
 xe:ae->ay->Prop
def AZ(l:List Env):List ai:=l.filterMap (·.frame)
abbrev Cx.fs(X:Cx):List ai:=AZ X.outer
def Tg(sc:Scope)(x:Str):Prop:=sc.names.lookup x=some .local\/sc.names.lookup x=some .cell\/sc.names.lookup x=some .free
def Loc(sc:Scope)(x:Str):Prop:=sc.names.lookup x=some .local\/sc.names.lookup x=some .cell
def Look(env:Env)(h:eh)(m:Str->Option ae)(x:Str)(u:ae):Prop :=
 (env.kindOf x=some .local/\m x=some u)\/((env.kindOf x=some .cell\/env.kindOf x=some .free)/\∃ c,env.cells.lookup x=some c/\h.IsCell c (some u))
structure Cx.Ok(X:Cx):Prop where
 mod:Mod X.K X.mg X.base
 kind:X.env.scope.kind=.function
 glob:X.env.globals=kc
 blt:X.env.builtins=builtinsNs
 above:X.kX.heap.objs.size<=X.env.locals
 inj:∀ x y c,X.env.cells.lookup x=some c->X.env.cells.lookup y=some c->x=y
 has:∀ x,(X.env.kindOf x=some .cell\/X.env.kindOf x=some .free)->∃ c,X.env.cells.lookup x=some c
 Qt:∀ x c,X.fn x=true->X.env.cells.lookup x=some c->X.kX.heap.objs.size<=c
 hd:X.calm=true->X.A.handled=none
 frames:X.A.frames=some X.stack
 Ti:X.stack=X.outer\/(X.stack=X.env :: X.outer/\X.env.frame=some X.env.locals)
 Tj:∀ b∈X.ex,b≠X.env.locals/\∀ x c,X.env.cells.lookup x=some c->c≠b
 bs:∀ b o,X.base.get? b=some o->X.kX.heap.get? b=some o/\X.Qs b=none
 GA:X.base.objs.size<=X.kX.heap.objs.size
 Qu:∀ b o,X.base.get? b=some o->b∉X.ex
 Qw:∀ b∈X.ex,b∉X.fs
 A4:X.kX.heap.FunFrames X.base X.outer
 N4:∀ b∈X.fs,X.Qs b=none
structure Inv(X:Cx)(pins:List (ai × Obj))(σ:List (Option V))(H:Hp)(s:ay):Prop where
 ok:X.Ok
 os:s.os=X.kX.os
 bare:AllBare s.gens
 base:Un X.fs X.ex X.Qs H X.kX.heap s.heap
 loc:∃ m,s.heap.Ns X.env.locals m/\∀ (i:Nat) (x:Str) (v:V),X.N[i]? = some x->σ[i]? = some (some v)->Tg X.env.scope x->∃ u,RelV v u/\Look X.env s.heap m x u
 cell:∀ x c,X.env.cells.lookup x=some c->∃ v,s.heap.IsCell c v
 free:H X.env.locals=none
 A5:∀ x c,X.env.cells.lookup x=some c->H c=none
 pin:∀ p∈X.pn++pins,s.heap.get? p.1=some p.2/\H p.1=none/\p.1≠X.env.locals/\p.1∉X.fs/\∀ v,p.2.data≠.cell v
 cy:ku X.prog X.w H s.heap
 len:σ.length=X.N.length
section
variable {X:Cx}{pins:List (ai × Obj)}{σ:List (Option V)}{H H':Hp}{s:ay}{h':eh}
def Cx.Ok.dY'(ok:X.Ok)(e:X.base.get? b=some o):b∉X.fs:=λhb=>by have:=(ok.A4.mem hb).1;rw[e] at this;cases this
def Inv.bs(I:Inv X pins σ H s):∀ b o,X.base.get? b=some o->s.heap.get? b=some o/\H b=none:=λb o e =>
 ⟨I.base.keep b o (I.ok.bs b o e).1 (I.ok.bs b o e).2 (I.ok.dY' e) (I.ok.Qu b o e),I.base.free b o (I.ok.bs b o e).1 (I.ok.bs b o e).2 (I.ok.Qu b o e)⟩
def Inv.bk(I:Inv X pins σ H s):∀ b o,X.base.get? b=some o->s.heap.get? b=some o:=λb o e=>(I.bs b o e).1
def Inv.mod(I:Inv X pins σ H s):Mod X.K X.mg X.base:=I.ok.mod
def Inv.lS(I:Inv X pins σ H s):X.K.In s.heap:=I.ok.mod.wq.keeps I.bk
def Inv.lt(I:Inv X pins σ H s):X.env.locals<s.heap.objs.size:=let ⟨_,hn,_⟩:=I.loc;hn.lt
def Inv.sz(I:Inv X pins σ H s):X.kX.heap.objs.size<=s.heap.objs.size:=jS I.ok.above (xS I.lt)
def Inv.dZ'(I:Inv X pins σ H s)(h:s.heap.objs.size<=a):a∉X.fs:=λhb=>by obtain⟨_,o,ho,_⟩:=I.ok.A4.mem hb;exact absurd (px (fF ho) (jS I.sz h)) (wo _)
def Inv.KG(I:Inv X pins σ H s):∀ x c,X.env.cells.lookup x=some c->c≠X.env.locals:=λx c e z=>by obtain⟨v,o,ho,hd⟩:=I.cell x c e;obtain⟨m,⟨o',es,ep,oQ,hd',_⟩,_⟩:=I.loc;rw[z,oQ] at ho;cases ho;rw[hd'] at hd;cases hd
def Inv.A4(I:Inv X pins σ H s):s.heap.FunFrames X.base X.outer:=by
 have all:∀ l,(∀ b∈AZ l,b∈X.fs)->X.kX.heap.FunFrames X.base l->s.heap.FunFrames X.base l:=by
  intro l
  induction l with
  |nil=>intro _ _;trivial
  |cons env r ih =>intro hs hl;obtain⟨hk,⟨L,o,hf,hn,ho,hd⟩,hr⟩:=hl;have hL:L∈X.fs:=hs L (by unfold AZ;rw[Qf,hf];exact dz);obtain⟨sl,e⟩:=I.base.slot L o ho (I.ok.N4 L hL) hL λz=>I.ok.Qw L z hL;exact⟨hk,⟨L,_,hf,hn,e,hd⟩,ih (λb hb=>hs b (by unfold AZ;rw[Qf,hf];exact dP _ hb)) hr⟩
 exact all X.outer (λ_ hb=>hb) I.ok.A4
def Inv.stack(I:Inv X pins σ H s):s.heap.FunFrames X.base X.stack:=by
 rcases I.ok.Ti with e|⟨e,hf⟩
 ·rw[e];exact I.A4
 ·rw[e];obtain⟨m,hn,_⟩:=I.loc;refine .cons (by rw[I.ok.kind];decide) hf hn ?_ I.A4;exact Heap.get?_none_of_le (jS I.ok.GA I.ok.above)
def Inv.VH(I:Inv X pins σ H s):∀ b∈AZ X.stack,b∈X.env.locals :: X.fs:=λb hb=>by
 rcases I.ok.Ti with e|⟨e,hf⟩
 ·rw[e] at hb;exact dP _ hb
 ·rw[e] at hb;unfold AZ at hb;rw[Qf,hf] at hb;exact hb
def Inv.ar'(I:Inv X pins σ H s):∀ b∈AZ X.stack,H b=none:=λb hb=>by
 rcases eK.mp (I.VH b hb) with e|hb
 ·rw[e];exact I.free
 ·obtain⟨_,o,ho,_⟩:=I.ok.A4.mem hb;exact I.base.free b o ho (I.ok.N4 b hb) λz=>I.ok.Qw b z hb
def Inv.step{g':Array GenState}{t':Nat}{d':Drawn}{ch:List ai}(I:Inv X pins σ H s)(zI:∀ b∈ch,(b∈X.ex\/X.kX.heap.objs.size<=b)/\b≠X.env.locals/\(∀ x c,X.env.cells.lookup x=some c->c≠b)/\∀ p∈X.pn++pins,p.1≠b)(keep:∀ b o,b≠X.env.locals->b∉X.fs->b∉ch->s.heap.get? b=some o->H b=none->h'.get? b=some o)(slot:∀ b o,b≠X.env.locals->b∈X.fs->b∉ch->s.heap.get? b=some o->H b=none->∃ sl,h'.get? b=some { o with slots:=sl }) (free:∀ b o,b∉ch->s.heap.get? b=some o->H b=none->H' b=none) (there:∀ b o,b∉ch->s.heap.get? b=some o->∃ o',h'.get? b=some o') (lP:∀ b xs,H b=some (.tup xs)->H' b=some (.tup xs)) (EI:∀ b o u,H b=some (.qE o u)->H' b=some (.qE o u)) (FY:∀ b ps,H b=some (.Kk ps)->∃ more,H' b=some (.Kk (ps++more))) (ns:∀ m,s.heap.Ns X.env.locals m->h'.Ns X.env.locals m) (cy:ku X.prog X.w H' h') (hg:AllBare g') :
  Inv X pins σ H' { s with heap:=h',gens:=g',drawn:=d',toks:=t' }:=by
 have neL:∀ b o,X.kX.heap.get? b=some o->b≠X.env.locals:=λb o e=>hU (px (fF e) I.ok.above);have Tn:∀ b o,X.kX.heap.get? b=some o->b∉X.ex->b∉ch:=λb o e hx hb=>by
  rcases (zI b hb).1 with z|z
  ·exact hx z
  ·exact absurd (px (fF e) z) (wo _)
 have cellK:∀ x c,X.env.cells.lookup x=some c->∀ v,s.heap.IsCell c v->h'.IsCell c v:=λx c e v eP=>by
  obtain⟨o,ho,hd⟩:=eP;have Qx:c∉ch:=λz=>(zI c z).2.2.1 x c e rfl;by_cases hc:c∈X.fs
  ·obtain⟨sl,q⟩:=slot c o (I.KG x c e) hc Qx ho (I.A5 x c e);exact⟨_,q,hd⟩
  ·exact⟨o,keep c o (I.KG x c e) hc Qx ho (I.A5 x c e),hd⟩
 refine⟨I.ok,I.os,hg,⟨λb o e n hb hx=>?_,λb o e n hb hx=>?_,λb o e n hx=>?_,λb o e hx=>?_,λb xs e=>lP b xs (I.base.lP b xs e),λb o xs e=>EI b o xs (I.base.EI b o xs e),λb ps e=>?_⟩,?_,λx c e=>?_,?_,λx c e=>?_,λp hp=>?_,cy,I.len⟩
 ·exact keep b o (neL b o e) hb (Tn b o e hx) (I.base.keep b o e n hb hx) (I.base.free b o e n hx)
 ·obtain⟨sl,e1⟩:=I.base.slot b o e n hb hx;obtain⟨sl',e2⟩:=slot b _ (neL b o e) hb (Tn b o e hx) e1 (I.base.free b o e n hx);exact⟨sl',e2⟩
 ·obtain⟨o',e1⟩:=I.base.there b o e hx;exact free b o' (Tn b o e hx) e1 (I.base.free b o e n hx)
 ·obtain⟨o',e1⟩:=I.base.there b o e hx;exact there b o' (Tn b o e hx) e1
 ·obtain⟨m1,e1⟩:=I.base.FY b ps e;obtain⟨m2,e2⟩:=FY b _ e1;exact⟨m1++m2,by rw[e2,Tc]⟩
 ·obtain⟨m,hn,hl⟩:=I.loc;refine⟨m,ns m hn,λi x v e1 e2 e3=>?_⟩;obtain⟨u,r,l⟩:=hl i x v e1 e2 e3;refine⟨u,r,?_⟩;rcases l with l|⟨k,c,e,z⟩
  ·exact .inl l
  ·exact .inr ⟨k,c,e,cellK x c e _ z⟩
 ·obtain⟨v,z⟩:=I.cell x c e;exact⟨v,cellK x c e v z⟩
 ·obtain⟨m,⟨o,_,_,ho,_⟩,_⟩:=I.loc;exact free _ o (λz=>(zI _ z).2.1 rfl) ho I.free
 ·obtain⟨v,o,ho,hd⟩:=I.cell x c e;exact free c o (λz=>(zI c z).2.2.1 x c e rfl) ho (I.A5 x c e)
 ·obtain⟨e,n,ne,nf,d⟩:=I.pin p hp;have Qx:p.1∉ch:=λz=>(zI p.1 z).2.2.2 p hp rfl;exact⟨keep p.1 p.2 ne nf Qx e n,free p.1 p.2 Qx e n,ne,nf,d⟩
def Inv.un{t':Nat}(I:Inv X pins σ H s)(u:Un X.fs [] H H' s.heap h')(cy:ku X.prog X.w H' h'):Inv X pins σ H' { s with heap:=h',toks:=t' }:=by
 obtain⟨m,⟨o,es,ep,ho,r⟩,_⟩:=id I.loc;obtain⟨sl,hL⟩:=u.any ho I.free (by simp);exact I.step (ch:=[]) (λ_ z=>nomatch z) (λb o _ hb _ e n=>u.keep b o e n hb (by simp)) (λb o _ hb _ e n=>u.slot b o e n hb (by simp)) (λb o _ e n=>u.free b o e n (by simp)) (λb o _ e=>u.there b o e (by simp)) u.lP u.EI u.FY (λm' hm=>by
  obtain⟨o',VJ,Qy,oQ,r'⟩:=hm;rw[ho] at oQ;cases oQ;exact⟨_,VJ,Qy,hL,r'⟩) cy I.bare
def Inv.call{g':Array GenState}{t':Nat}{d':Drawn}{ch:List ai}(I:Inv X pins σ H s)(u:Un (AZ X.stack) ch H H' s.heap h')(cy:ku X.prog X.w H' h')(hg:AllBare g')(zI:∀ b∈ch,(b∈X.ex\/X.kX.heap.objs.size<=b)/\b≠X.env.locals/\(∀ x c,X.env.cells.lookup x=some c->c≠b)/\∀ p∈X.pn++pins,p.1≠b) :
  Inv X pins σ H' { s with heap:=h',gens:=g',drawn:=d',toks:=t' }:=by
 obtain⟨m,⟨o,es,ep,ho,r⟩,_⟩:=id I.loc;obtain⟨sl,hL⟩:=u.any ho I.free λz=>(zI _ z).2.1 rfl;exact I.step zI (λb o hL hb hc e n=>u.keep b o e n (λz=>(eK.mp (I.VH b z)).elim hL hb) hc) (λb o _ _ hc e n=>u.any e n hc) (λb o hc e n=>u.free b o e n hc) (λb o hc e=>u.there b o e hc) u.lP u.EI u.FY (λm' hm=>by
  obtain⟨o',VJ,Qy,oQ,r'⟩:=hm;rw[ho] at oQ;cases oQ;exact⟨_,VJ,Qy,hL,r'⟩) cy hg
def Inv.turned{t':Nat}{it:ai}(I:Inv X pins σ H s)(k:∀ b o,b≠it->s.heap.get? b=some o->h'.get? b=some o)(hn:H it=none)(hL:it≠X.env.locals)(h1:it∈X.ex\/X.kX.heap.objs.size<=it) (h2:∀ x c,X.env.cells.lookup x=some c->c≠it) (h3:∀ p∈X.pn++pins,p.1≠it):Inv X pins σ H { s with heap:=h',toks:=t' }:=by
 have nit:∀ b u,H b=some u->b≠it:=λb u e z=>by rw[z,hn] at e;cases e
 refine I.step (ch:=[it]) (λb hb=>?_) (λb o _ _ hc e _=>k b o (λz=>hc (by simp[z])) e) (λb o _ _ hc e _=>⟨o.slots,k b o (λz=>hc (by simp[z])) e⟩) (λ_ _ _ _ n=>n) (λb o hc e=>⟨o,k b o (λz=>hc (by simp[z])) e⟩) (λ_ _ e=>e) (λ_ _ _ e=>e) (λb ps e=>⟨#[],by rw[e];simp⟩) (λm hm=>?_) (λb u e=>?_) I.bare
 ·have e:b=it:=by simpa using hb
  subst e;exact⟨h1,hL,h2,h3⟩
 ·obtain⟨o,es,ep,ho,r⟩:=hm;exact⟨o,es,ep,k _ o (Ne.symm hL) ho,r⟩
 ·refine(I.cy b u e).fT (λc v hc q=>k c v ?_ q) (λ_ q=>q) λ_ _ q=>q;rcases hc with z|z
  ·rw[z];exact nit b u e
  ·exact nit c _ z
def Inv.tok(I:Inv X pins σ H s)(t:Nat):Inv X pins σ H { s with toks:=t }:=I.un Un.refl I.cy
def Inv.kept(I:Inv X pins σ H s)(k:∀ b u,s.heap.get? b=some u->h'.get? b=some u):Inv X pins σ H { s with heap:=h',toks:=t' }:=I.un (Un.kept k) (I.cy.kept k)
def Inv.laid(I:Inv X pins σ H s)(k:∀ b u,s.heap.get? b=some u->h'.get? b=some u)(hp:s.heap.objs.size<=a)(new:lI X.prog X.w (upd H a o) h' a o) :
  Inv X pins σ (upd H a o) { s with heap:=h',toks:=t' }:=I.un (Un.laid k hp (I.cy.fresh hp)) (I.cy.laid k hp new)
def Inv.write(I:Inv X pins σ H s)(mu:Qr (H x))(he:e=x\/H e=some (.own x))(k:∀ b u,b≠e->s.heap.get? b=some u->h'.get? b=some u)(N3:∃ u,h'.get? e=some u)(new:lI X.prog X.w (upd H x o) h' x o):Inv X pins σ (upd H x o) { s with heap:=h',toks:=t' }:=I.un (Un.write mu he k N3) (I.cy.write mu he k N3 new)
def Inv.aw'(I:Inv X pins σ H s)(h:∀ p∈ec',s.heap.get? p.1=some p.2/\H p.1=none/\p.1≠X.env.locals/\p.1∉X.fs/\∀ v,p.2.data≠.cell v):Inv X ec' σ H s :=
 ⟨I.ok,I.os,I.bare,I.base,I.loc,I.cell,I.free,I.A5,λp hp=>(fe.mp hp).elim (λz=>I.pin p (mz _ z)) (h p),I.cy,I.len⟩
def ax'{N:List Str}(hN:N.Nodup){i j:Nat}{x:Str}(a:N[i]? = some x)(b:N[j]? = some x):i=j:=by obtain⟨h1,e1⟩:=iF.mp a;obtain⟨h2,e2⟩:=iF.mp b;exact(List.getElem_inj hN).mp (e1.trans e2.symm)
def ay'{M:Model}{A:fq}{E:ae->ay->Prop}{i:Nat}{x:Str}{v:V}{u:ae}{Q:Unit->ay->Prop}(I:Inv X pins σ H s)(hN:X.N.Nodup)(hi:X.N[i]? = some x)(hx:Loc X.env.scope x)(r:RelV v u)(h:∀ s',Inv X pins (σ.set i (some v)) H s'->(∃ a,Heap.SameBut a s.heap s'.heap/\(a=X.env.locals\/X.env.cells.lookup x=some a))->Q () s') (hf:X.fn x=true\/X.env.scope.names.lookup x=some .local:=by first|exact .inl rfl|exact .inr rfl|assumption):bG M A (storeName X.env x u) Q E s:=by
 obtain⟨m,hn,hl⟩:=id I.loc;have ed':(X.env.scope.kind == .class || (X.env.scope.kind == .module && X.env.locals != X.env.globals))=false:=by rw[I.ok.kind];rfl
 have az':i<σ.length:=by rw[I.len];exact(iF.mp hi).1
 have KG:=I.KG;have tracked:∀ {a:ai} {h':eh},(∃ o,s.heap.get? a=some o/\H a=none)->Heap.SameBut a s.heap h'->ku X.prog X.w H h':=λ{a h'} ha hs b ob e=>by
  obtain⟨_,_,aA'⟩:=ha;refine(I.cy b ob e).fT (λc w' hc q=>(hs.2 c ?_).trans q) (λ_ q=>q) λ_ _ q=>q;rintro rfl;rcases hc with rfl|hc
  ·rw[aA'] at e;cases e
  ·rw[aA'] at hc;cases hc
 rcases hx with hk|hk
 ·refine wpAny_storeName_local hk hn (λh' To hs=>?_) ed';obtain⟨oL,_,_,zS,_⟩:=id hn;refine h _ ⟨I.ok,I.os,I.bare,⟨λb o e n hb hx=>?_,λb o e n hb hx=>?_,I.base.free,λb o e hx=>?_,I.base.lP,I.base.EI,I.base.FY⟩,⟨_,To,λj y v' e1 e2 e3=>?_⟩,λy c e=>?_,I.free,I.A5,λp hp=>?_,tracked ⟨oL,zS,I.free⟩ hs,by simpa using I.len⟩ ⟨_,hs,.inl rfl⟩
  ·exact(hs.2 b (hU (px (fF e) I.ok.above))).trans (I.base.keep b o e n hb hx)
  ·obtain⟨sl,e1⟩:=I.base.slot b o e n hb hx;exact⟨sl,(hs.2 b (hU (px (fF e) I.ok.above))).trans e1⟩
  ·obtain⟨o',e1⟩:=I.base.there b o e hx;exact⟨o',(hs.2 b (hU (px (fF e) I.ok.above))).trans e1⟩
  ·by_cases hj:j=i
   ·subst hj;rw[hi] at e1;cases e1;rw[Vj az'] at e2;cases e2;exact⟨u,r,.inl ⟨hk,by simp⟩⟩
   ·rw[Qb (Ne.symm hj)] at e2;obtain⟨u',r',q⟩:=hl j y v' e1 e2 e3;refine⟨u',r',?_⟩;rcases q with⟨k,e⟩|⟨k,c,e,z⟩
    ·refine .inl ⟨k,?_⟩;have:y≠x:=λe=>hj (ax' hN e1 (e ▸ hi));simp[this,e]
    ·exact .inr ⟨k,c,e,z.sameBut hs (KG y c e)⟩
  ·obtain⟨w',z⟩:=I.cell y c e;exact⟨w',z.sameBut hs (KG y c e)⟩
  ·obtain⟨e,n,ne,nf,d⟩:=I.pin p hp;exact⟨(hs.2 p.1 ne).trans e,n,ne,nf,d⟩
 ·have VL:X.fn x=true:=by
   rcases hf with z|z
   ·exact z
   ·rw[z] at hk;cases hk
  obtain⟨c,hc⟩:=I.ok.has x (.inl hk);obtain⟨w',z⟩:=I.cell x c hc;refine wpAny_storeName_cell I.ok.kind hk hc z (λh' ti hs=>?_);obtain⟨oc,Tp,ee'⟩:=id z;refine h { s with heap:=h' } ⟨I.ok,I.os,I.bare,⟨λb o e n hb hx=>?_,λb o e n hb hx=>?_,I.base.free,λb o e hx=>?_,I.base.lP,I.base.EI,I.base.FY⟩,⟨m,hn.sameBut hs (Ne.symm (KG x c hc)),λj y v' e1 e2 e3=>?_⟩,λy c' e=>?_,I.free,I.A5,λp hp=>?_,tracked ⟨oc,Tp,I.A5 x c hc⟩ hs,by simpa using I.len⟩ ⟨c,hs,.inr hc⟩
  ·exact(hs.2 b (hU (px (fF e) (I.ok.Qt x c VL hc)))).trans (I.base.keep b o e n hb hx)
  ·obtain⟨sl,e1⟩:=I.base.slot b o e n hb hx;exact⟨sl,(hs.2 b (hU (px (fF e) (I.ok.Qt x c VL hc)))).trans e1⟩
  ·obtain⟨o',e1⟩:=I.base.there b o e hx;exact⟨o',(hs.2 b (hU (px (fF e) (I.ok.Qt x c VL hc)))).trans e1⟩
  ·by_cases hj:j=i
   ·subst hj;rw[hi] at e1;cases e1;rw[Vj az'] at e2;cases e2;exact⟨u,r,.inr ⟨.inl hk,c,hc,ti⟩⟩
   ·rw[Qb (Ne.symm hj)] at e2;obtain⟨u',r',q⟩:=hl j y v' e1 e2 e3;refine⟨u',r',?_⟩;rcases q with q|⟨k,c',e,z'⟩
    ·exact .inl q
    ·refine .inr ⟨k,c',e,z'.sameBut hs ?_⟩;rintro rfl;exact hj (ax' hN e1 (I.ok.inj _ _ _ e hc ▸ hi))
  ·by_cases Tq:c'=c
   ·subst Tq;exact⟨_,ti⟩
   ·obtain⟨w2,z2⟩:=I.cell y c' e;exact⟨w2,z2.sameBut hs Tq⟩
  ·obtain⟨e,n,ne,nf,d⟩:=I.pin p hp;refine⟨(hs.2 p.1 ?_).trans e,n,ne,nf,d⟩;intro q;rw[q,Tp] at e;have q':oc=p.2:=Option.some.inj e;exact d w' (by rw[<- q'];exact ee')
def aB'(I:Inv X pins σ H s)(hN:X.N.Nodup)(hi:X.N[i]? = some x)(hx:Loc X.env.scope x)(r:RelV v u)(h:∀ s',Inv X pins (σ.set i (some v)) H s'->Q () s') (hf:X.fn x=true\/X.env.scope.names.lookup x=some .local:=by first|exact .inl rfl|exact .inr rfl|assumption):bG M A (storeName X.env x u) Q E s :=
 ay' I hN hi hx r (λs' I' _=>h s' I') hf
def Inv.ef'(I:Inv X pins σ H s)(ho:s'.os=s.os)(u:Un (AZ X.stack) ch H H' s.heap s'.heap)(cy:ku X.prog X.w H' s'.heap)(hg:AllBare s'.gens)(zI:∀ b∈ch,(b∈X.ex\/X.kX.heap.objs.size<=b)/\b≠X.env.locals/\(∀ x c,X.env.cells.lookup x=some c->c≠b)/\∀ p∈X.pn++pins,p.1≠b):Inv X pins σ H' s':=by
 obtain⟨h',g',d',t',o'⟩:=s';have e:o'=s.os:=ho;subst e;exact I.call u cy hg zI
end
abbrev XK:=ae->Option ai->Hp->Prop
abbrev St:=List (Option V)
abbrev VK:=V->Hp->Prop
abbrev TE:=St->Hp->VK->Prop
abbrev TT:=St->Hp->(Bool->Hp->Prop)->Prop
abbrev TA:=St->Hp->(List V->Hp->Prop)->Prop
structure Ends where
 nx:St->Hp->Prop
 rt:VK
 bk:St->Hp->Prop:=fun _ _=>False
 ct:St->Hp->Prop:=fun _ _=>False
abbrev TS:=Ends->St->Hp->Prop
def EP(X:Cx)(pins:List (ai × Obj))(σ:St)(Q:VK)(u:ae)(s':ay):Prop:=∃ v H',Inv X pins σ H' s'/\RelV v u/\Q v H'
def TP(X:Cx)(pins:List (ai × Obj))(σ:St)(Q:Bool->Hp->Prop)(b:Bool)(s':ay):Prop:=∃ H',Inv X pins σ H' s'/\Q b H'
def AP(X:Cx)(pins:List (ai × Obj))(σ:St)(Q:List V->Hp->Prop)(us:List ae)(s':ay):Prop:=∃ vs H',Inv X pins σ H' s'/\Vals vs us/\Q vs H'
def SP(X:Cx)(pins:List (ai × Obj))(D:Ends)(f:Flow)(s':ay):Prop :=
 match f with
 |.next=>∃ cK H',Inv X pins cK H' s'/\D.nx cK H'
 |.brk=>∃ cK H',Inv X pins cK H' s'/\D.bk cK H'
 |.cont=>∃ cK H',Inv X pins cK H' s'/\D.ct cK H'
 |.ret u=>∃ v cK H',Inv X pins cK H' s'/\RelV v u/\D.rt v H'
def PE(X:Cx)(e:Expr)(t:TE):Prop :=
 ∀ (pins:List (ai × Obj)) (s:ay) (σ:St) (H:Hp) (Q:VK),Inv X pins σ H s->t σ H Q->bG (aI X.prog X.w) X.A (eI e X.env) (EP X pins σ Q) X.xe s
def PT(X:Cx)(e:Expr)(t:TT):Prop :=
 ∀ (pins:List (ai × Obj)) (s:ay) (σ:St) (H:Hp) (Q:Bool->Hp->Prop),Inv X pins σ H s->t σ H Q->bG (aI X.prog X.w) X.A (isTrue e X.env (eI e X.env)) (TP X pins σ Q) X.xe s
def PW(X:Cx)(e:Expr)(t:TT):Prop :=
 ∀ (whole:Sem ae) (pins:List (ai × Obj)) (s:ay) (σ:St) (H:Hp) (Q:Bool->Hp->Prop),Inv X pins σ H s->t σ H Q->bG (aI X.prog X.w) X.A (isTrue e X.env whole) (TP X pins σ Q) X.xe s
def PA(X:Cx)(es:List Expr)(t:TA):Prop :=
 ∀ (pos:Pos) (pins:List (ai × Obj)) (s:ay) (σ:St) (H:Hp) (Q:List V->Hp->Prop),Inv X pins σ H s->t σ H Q->bG (aI X.prog X.w) X.A (spliced (ny pos (df es X.env))) (AP X pins σ Q) X.xe s
def PS(X:Cx)(st:Stmt)(t:TS):Prop :=
 ∀ (pins:List (ai × Obj)) (s:ay) (σ:St) (H:Hp) (D:Ends),Inv X pins σ H s->t D σ H->bG (aI X.prog X.w) X.A (exec st X.env) (SP X pins D) X.xe s
def n9(X:Cx)(st:List Stmt)(t:TS):Prop :=
 ∀ (pins:List (ai × Obj)) (s:ay) (σ:St) (H:Hp) (D:Ends),Inv X pins σ H s->t D σ H->bG (aI X.prog X.w) X.A (execs st X.env) (SP X pins D) X.xe s
def dQ{α:Type}{t:Sem α}{Q Q':α->ay->Prop}{M:Model}{A:fq}{E:ae->ay->Prop}{s:ay}(h:bG M A t Q E s)(hQ:∀ a s,Q a s->Q' a s):bG M A t Q' E s:=wa h hQ λ_ _ x=>x
section
variable {X:Cx}
def GB(i:Nat):TE:=λσ H Q=>∃ v,σ[i]? = some (some v)/\Q v H
def tC(v:V):TE:=λ_ H Q=>Q v H
def aC' (hN:X.N[i]? = some x) (hv:Tg X.env.scope x) (hd:(x == ("__debug__" : Str))=false:=by decide) (u0:(x == ("__classdict__" : Str))=false:=by decide):PE X (.Name x pos) (GB i):=by
 intro pins s σ H Q I h;obtain⟨v,e,h⟩:=h;obtain⟨m,hn,hl⟩:=I.loc;obtain⟨u,r,l⟩:=hl i x v hN e hv;have fin:EP X pins σ Q u s:=⟨v,H,I,r,h⟩
 rcases l with⟨hk,hm⟩|⟨hk,c,hc,aD'⟩
 ·exact wpAny_Name (wpAny_loadName_local I.ok.kind hk hn hm fin) hd
 ·rcases hk with hk|hk
  ·exact wpAny_Name (wpAny_loadName_cell I.ok.kind hk hc aD' fin) hd
  ·exact wpAny_Name (wpAny_loadName_free I.ok.kind hk hc aD' fin u0) hd
def eh'{i j pos}:PE X (.Constant (.int i) j pos) (tC (.int i)):=λ_ _ _ H _ I h=>wpAny_Constant_int ⟨.int i,H,I.tok _,⟨_,rfl⟩,h⟩
def ej'{b j pos}:PE X (.Constant (.bool b) j pos) (tC (.bl b)):=λ_ _ _ H _ I h=>Constant_bool ⟨.bl b,H,I,rfl,h⟩
def ek'{j pos}:PE X (.Constant .none j pos) (tC .non):=λ_ _ _ H _ I h=>Constant_none ⟨.non,H,I,rfl,h⟩
def el'{x j pos}:PE X (.Constant (.str x) j pos) (tC (.str x)):=λ_ _ _ H _ I h=>Calls.Constant_str ⟨.str x,H,I.tok _,⟨_,rfl⟩,h⟩
def Gl(X:Cx)(x:Str):Prop:=X.env.kindOf x=some .globalImplicit
def aE'(I:Inv X pins σ H s)(hg:Gl X x)(hm:X.mg x=some u)(h:Q u s)(hd:(x == ("__debug__" : Str))=false:=by decide):bG (aI X.prog X.w) X.A (eI (.Name x pos) X.env) Q E s :=
 Calls.Name_function_global I.ok.kind hg (Calls.loadGlobal_global (by rw[I.ok.glob];exact I.mod.glob.keeps I.bk) hm h) hd
def CL(I:Inv X pins σ H s)(hg:Gl X x)(hm:X.mg x=none)(hv:kQ x=some u)(h:Q u s)(hn:x ≠ "__name__" := by decide) (hd:(x == ("__debug__" : Str))=false:=by decide):bG (aI X.prog X.w) X.A (eI (.Name x pos) X.env) Q E s:=by
 obtain⟨mb,h1,h2⟩:=I.mod.blt;exact Calls.Name_function_global I.ok.kind hg (Calls.loadGlobal_builtin (by rw[I.ok.glob];exact I.mod.glob.keeps I.bk) hm (by rw[I.ok.blt];exact h1.keeps I.bk) ((h2 x hn).trans hv) h) hd
def aF' (hg:Gl X x) (hm:X.mg x=some u) (r:RelV v u) (hd:(x == ("__debug__" : Str))=false:=by decide):PE X (.Name x pos) (tC v) :=
 λ_ _ _ H _ I h=>aE' I hg hm ⟨v,H,I,r,h⟩ hd
def em' (hg:Gl X x) (hm:X.mg x=none) (hv:kQ x=some u) (r:RelV v u) (hn:x ≠ "__name__" := by decide) (hd:(x == ("__debug__" : Str))=false:=by decide):PE X (.Name x pos) (tC v) :=
 λ_ _ _ H _ I h=>CL I hg hm hv ⟨v,H,I,r,h⟩ hn hd
variable {a b:Expr}{ta tb:TE}{pos:Pos}
def tB(t:TE):TT:=λσ H Q=>t σ H λx H1=>∃ c,x=.bl c/\Q c H1
def en'(h:PE X e t)(he:∀ whole,isTrue e X.env whole=(do let v <- whole;standAt e.pos;holding [v] (truthy v)):=by intro _;rfl):PT X e (tB t):=by intro pins s σ H Q I hw;refine isTrue_plain (dQ (h pins s σ H _ I hw) λv s1 dS=>L2.hG dS λx H1 I1 r1 q1=>?_) (he _);obtain⟨d,rfl,q⟩:=q1;cases r1;exact IJ ⟨H1,I1,q⟩
variable {tA Tr:TT}{rest:List Expr}
def eo'(t u:TT):TT:=λσ H Q=>t σ H λc H1=>if c=true then u σ H1 Q else Q false H1
def tOr(t u:TT):TT:=λσ H Q=>t σ H λc H1=>if c=true then Q true H1 else u σ H1 Q
def er'(t:TT):TT:=λσ H Q=>t σ H λc H1=>Q (!c) H1
def pw_and1(ha:PT X a tA):PW X (.BoolOp .And [a] pos) tA:=by
 intro wh pins s σ H Q I h;refine isTrue_and (dQ (ha pins s σ H Q I h) λc s1 e=>?_)
 cases c with
 |true=>exact isTrue_and_nil e
 |false=>exact e
def pw_or1(ha:PT X a tA):PW X (.BoolOp .Or [a] pos) tA:=by
 intro wh pins s σ H Q I h;refine isTrue_or (dQ (ha pins s σ H Q I h) λc s1 e=>?_)
 cases c with
 |false=>exact isTrue_or_nil e
 |true=>exact e
def pw_and(ha:PT X a tA)(hb:PW X (.BoolOp .And (b :: rest) pos) Tr):PW X (.BoolOp .And (a :: b :: rest) pos) (eo' tA Tr):=by
 intro wh pins s σ H Q I h;refine isTrue_and (dQ (ha pins s σ H _ I h) λc s1 eP=>?_);obtain⟨H1,I1,q1⟩:=eP
 cases c with
 |true=>exact hb wh pins s1 σ H1 Q I1 q1
 |false=>exact⟨H1,I1,q1⟩
def pw_or(ha:PT X a tA)(hb:PW X (.BoolOp .Or (b :: rest) pos) Tr):PW X (.BoolOp .Or (a :: b :: rest) pos) (tOr tA Tr):=by
 intro wh pins s σ H Q I h;refine isTrue_or (dQ (ha pins s σ H _ I h) λc s1 eP=>?_);obtain⟨H1,I1,q1⟩:=eP
 cases c with
 |true=>exact⟨H1,I1,q1⟩
 |false=>exact hb wh pins s1 σ H1 Q I1 q1
def et'(ha:PT X a tA):PT X (.UnaryOp .Not a pos) (er' tA):=by intro pins s σ H Q I h;exact isTrue_not (ha pins s σ H (λc H1=>Q (!c) H1) I h)
def eu'(ta tb:TE):TE:=λσ H Q=>ta σ H λx H1=>∃ c,x=.bl c/\if c=true then tb σ H1 Q else Q (.bl false) H1
def ev'{op}(h:PE X a t):PE X (.BoolOp op [a] pos) t:=λpins s σ H Q I hw=>BoolOp_one (h pins s σ H Q I hw)
def ew'(ha:PE X a ta)(hb:PE X (.BoolOp .And (b :: rest) pos) tb):PE X (.BoolOp .And (a :: b :: rest) pos) (eu' ta tb):=by
 intro pins s σ H Q I h;refine BoolOp_and (dQ (ha pins s σ H _ I h) λv s1 dS=>L2.hG dS λx H1 I1 r1 q1=>?_);obtain⟨c,rfl,q1⟩:=q1;cases r1;refine IJ ?_
 cases c with
 |true=>exact hb pins s1 σ H1 Q I1 q1
 |false=>exact⟨.bl false,H1,I1,rfl,q1⟩
end
def gd(K:aE)(H:Hp)(a:ai)(xs:List V):Prop :=
 Rd H a (.lst xs) \/
  ∃ (o:Obj) (its:Array ae) (n:Nat),K.lookup a=some o/\o.cls=.type "list"/\o.dict=none/\o.data=.seq its n/\its.size<=bI/\Vals xs its.toList
def k5(K:aE)(H:Hp)(a:ai)(xs:List V):Prop :=
 Rd H a (.tup xs) \/
  ∃ (o:Obj) (its:Array ae) (n:Nat),K.lookup a=some o/\o.cls=.type "tuple"/\o.data=.seq its n/\its.size<=bI/\Vals xs its.toList
def ex':ae->Option V
 |.none=>some .non
 |.bool b=>some (.bl b)
 |.int i _=>some (.int i)
 |.str x _=>some (.str x)
 |.bytes b _=>some (.uS b)
 |.float b _=>some (.EH b)
 |.ref a=>some (.ref a)
 |.type n=>some (.ty n)
 |_=>none
def RelV.abs(r:RelV x u):ex' u=some x:=by
 cases x with
 |non=>cases r;rfl
 |bl _=>cases r;rfl
 |int _=>obtain⟨t,rfl⟩:=r;rfl
 |str _=>obtain⟨t,rfl⟩:=r;rfl
 |uS _=>obtain⟨t,rfl⟩:=r;rfl
 |EH _=>obtain⟨t,rfl⟩:=r;rfl
 |ref _=>cases r;rfl
 |ty _=>cases r;rfl
def RelV.inj(r:RelV x u)(q:RelV y u):x=y:=Option.some.inj (r.abs.symm.trans q.abs)
theorem Vals.inj:∀ {xs ys:List V} {us:List ae},Vals xs us->Vals ys us->xs=ys
 |_,_,_,.nil,.nil=>rfl
 |_,_,_,.cons r t,.cons r' t'=>by rw[r.inj r',Vals.inj t t']
section
variable {X:Cx}{pins:List (ai × Obj)}{σ:St}{H:Hp}{s:ay}{a:ai}{xs ys:List V}
def Inv.list(I:Inv X pins σ H s)(h:gd X.K H a xs):∃ its:List ae,Vals xs its/\PlainL s.heap a its.toArray/\xs.length<=bI:=by
 rcases h with h|⟨o,its,n,hk,hc,hd,hs,hz,r⟩
 ·obtain⟨z,its,n,r,e⟩:=h.ok I.cy;exact⟨its,r,⟨_,n,e,rfl,rfl,rfl⟩,z⟩
 ·refine⟨its.toList,r,⟨o,n,I.lS a o hk,hc,hd,by simpa using hs⟩,?_⟩;have e:=r.length;simp only[CH] at e;lia
def Inv.tuple(I:Inv X pins σ H s)(h:k5 X.K H a xs):∃ its:List ae,Vals xs its/\IsTup s.heap a its.toArray/\xs.length<=bI:=by
 rcases h with h|⟨o,its,n,hk,hc,hs,hz,r⟩
 ·obtain⟨z,its,r,p⟩:=h.ok I.cy;exact⟨its,r,p,z⟩
 ·refine⟨its.toList,r,⟨o,I.lS a o hk,hc,n,by simpa using hs⟩,?_⟩;have e:=r.length;simp only[CH] at e;lia
def Inv.ey'(I:Inv X pins σ H s)(h:gd X.K H a xs)(h':gd X.K H a ys):xs=ys:=by
 obtain⟨its,r,⟨o,n,e,_,_,d⟩,_⟩:=I.list h;obtain⟨KL,r',⟨o',n',e',_,_,d'⟩,_⟩:=I.list h';rw[e] at e';cases e';rw[d] at d';injection d' with d1 _;have:its=KL:=by simpa using congrArg Array.toList d1
 subst this;exact r.inj r'
def Inv.ez'(I:Inv X pins σ H s)(h:k5 X.K H a xs)(h':k5 X.K H a ys):xs=ys:=by
 obtain⟨its,r,⟨o,e,_,n,d⟩,_⟩:=I.tuple h;obtain⟨KL,r',⟨o',e',_,n',d'⟩,_⟩:=I.tuple h';rw[e] at e';cases e';rw[d] at d';injection d' with d1 _;have:its=KL:=by simpa using congrArg Array.toList d1
 subst this;exact r.inj r'
end
abbrev Cx.wish(X:Cx)(E:ae->ay->Prop):Cx:={ X with xe:=E }
abbrev Cx.GH(X:Cx):Cx:=X.wish λ_ _=>False
def Cx.Ok.wish{X:Cx}(ok:X.Ok)(E:ae->ay->Prop):(X.wish E).Ok :=
 ⟨ok.mod,ok.kind,ok.glob,ok.blt,ok.above,ok.inj,ok.has,ok.Qt,ok.hd,ok.frames,ok.Ti,ok.Tj,ok.bs,ok.GA,ok.Qu,ok.Qw,ok.A4,ok.N4⟩
def Cx.Ok.GL{X:Cx}(ok:(X.wish E).Ok):X.Ok :=
 ⟨ok.mod,ok.kind,ok.glob,ok.blt,ok.above,ok.inj,ok.has,ok.Qt,ok.hd,ok.frames,ok.Ti,ok.Tj,ok.bs,ok.GA,ok.Qu,ok.Qw,ok.A4,ok.N4⟩
section
variable {X:Cx}{pins:List (ai × Obj)}{σ:St}{H:Hp}{s:ay}{E:ae->ay->Prop}
def Inv.wish(I:Inv X pins σ H s)(E:ae->ay->Prop):Inv (X.wish E) pins σ H s:=⟨I.ok.wish E,I.os,I.bare,I.base,I.loc,I.cell,I.free,I.A5,I.pin,I.cy,I.len⟩
def Inv.GL(I:Inv (X.wish E) pins σ H s):Inv X pins σ H s:=⟨I.ok.GL,I.os,I.bare,I.base,I.loc,I.cell,I.free,I.A5,I.pin,I.cy,I.len⟩
def SP.GL{D:Ends}(h:SP (X.wish E) pins D f s'):SP X pins D f s':=by
 cases f with
 |next=>obtain⟨cK,H',I,q⟩:=h;exact⟨cK,H',I.GL,q⟩
 |brk=>obtain⟨cK,H',I,q⟩:=h;exact⟨cK,H',I.GL,q⟩
 |cont=>obtain⟨cK,H',I,q⟩:=h;exact⟨cK,H',I.GL,q⟩
 |ret u=>obtain⟨v,cK,H',I,r,q⟩:=h;exact⟨v,cK,H',I.GL,r,q⟩
def n9.GH{st:List Stmt}(h:n9 X.GH st t):n9 X st t:=λpins s σ H D I hw =>
 wa (h pins s σ H D (I.wish _) hw) (λ_ _ q=>q.GL) λ_ _ z=>False.elim z
end
section
variable {X:Cx}{st:Stmt}{rest:List Stmt}{t u:TS}{e:Expr}{te:TE}{pos:Pos}
def eA':TS:=λD σ H=>D.nx σ H
def aG'(t u:TS):TS:=λD σ H=>t { D with nx:=u D } σ H
def eB':n9 X [] eA':=λ_ _ σ H _ I h=>wpAny_execs_nil ⟨σ,H,I,h⟩
def aH'(h1:PS X st t)(h2:n9 X rest u):n9 X (st :: rest) (aG' t u):=by
 intro pins s σ H D I h;refine wpAny_execs_cons (dQ (h1 pins s σ H { D with nx:=u D } I h) λf s1 q=>?_)
 cases f with
 |next =>obtain⟨cK,H',I',q⟩:=q;exact h2 pins s1 cK H' D I' q
 |ret v=>exact q
 |brk=>exact q
 |cont=>exact q
def aI'(h1:PS X st t):n9 X [st] t:=by
 intro pins s σ H D I h;refine wpAny_execs_cons (dQ (h1 pins s σ H D I h) λf s1 q=>?_)
 cases f with
 |next=>exact wpAny_execs_nil q
 |ret v=>exact q
 |brk=>exact q
 |cont=>exact q
def Inv.quiet(I:Inv X pins σ H s):interactive X.env=false:=by simp[interactive,I.ok.kind]
def eC'(te:TE):TS:=λD σ H=>te σ H λ_ H1=>D.nx σ H1
def Qz(he:PE X e te)(hs:autoParam (rV e none pos.line X.env=pure false) bv):PS X (.Expr e pos) (eC' te):=by intro pins s σ H D I h;exact wpAny_Expr_any (dQ (he pins s σ H _ I h) λv s1 dS=>L2.hG dS λx H1 I1 r1 q1=>⟨σ,H1,I1,q1⟩) I.quiet hs
def eD'(te:TE):TS:=λD σ H=>te σ H D.rt
def VM(he:PE X e te):PS X (.Return (some e) pos) (eD' te):=by intro pins s σ H D I h;exact wpAny_Return_some (dQ (he pins s σ H _ I h) λv s1 dS=>L2.hG dS λx H1 I1 r1 q1=>⟨x,σ,H1,I1,r1,q1⟩)
def eE'(c:TT)(t u:TS):TS:=λD σ H=>c σ H λb H1=>if b=true then t D σ H1 else u D σ H1
def eF'(hc:PT X c tc)(ha:n9 X a t)(hb:n9 X b u):PS X (.If c a b pos) (eE' tc t u):=by
 intro pins s σ H D I h;refine wpAny_If (dQ (hc pins s σ H _ I h) λd s1 eP=>?_);obtain⟨H1,I1,q1⟩:=eP
 cases d with
 |true=>exact ha pins s1 σ H1 D I1 q1
 |false=>exact hb pins s1 σ H1 D I1 q1
def aJ':TS:=λ_ _ _=>False
def eG':PS X st aJ':=λ_ _ _ _ _ _ h=>h.elim
def eH':n9 X sts aJ':=λ_ _ _ _ _ _ h=>h.elim
end
abbrev TG:=V->St->Hp->(St->Hp->Prop)->Prop
abbrev N9:=List V->St->Hp->(St->Hp->Prop)->Prop
def PG(X:Cx)(target:Expr)(t:TG):Prop :=
 ∀ (pins:List (ai × Obj)) (s:ay) (σ:St) (H:Hp) (v:V) (u:ae) (Q:St->Hp->Prop),Inv X pins σ H s->RelV v u->t v σ H Q ->
  bG (aI X.prog X.w) X.A (assign target X.env u) (λ_ s'=>∃ cK H',Inv X pins cK H' s'/\Q cK H') X.xe s
def CM(X:Cx)(ts:List Expr)(t:N9):Prop :=
 ∀ (pins:List (ai × Obj)) (s:ay) (σ:St) (H:Hp) (vs:List V) (us:List ae) (Q:St->Hp->Prop),Inv X pins σ H s->Vals vs us->t vs σ H Q ->
  bG (aI X.prog X.w) X.A (assignInOrder ((AR ts X.env).map (·.2)) us) (λ_ s'=>∃ cK H',Inv X pins cK H' s'/\Q cK H') X.xe s
section
variable {X:Cx}{pos:Pos}
def VN(i:Nat):TG:=λv σ H Q=>Q (σ.set i (some v)) H
def eI'(hN:X.N.Nodup)(hi:X.N[i]? = some x)(hx:Loc X.env.scope x)(hf:X.fn x=true\/X.env.scope.names.lookup x=some .local:=by first|exact .inl rfl|exact .inr rfl|assumption):PG X (.Name x pos) (VN i):=by intro pins s σ H v u Q I r h;exact wpAny_assign_Name (aB' I hN hi hx r (λs' I'=>⟨_,H,I',h⟩) hf)
def eJ':N9:=λvs σ H Q=>vs=[]/\Q σ H
def eK'(t:TG)(u:N9):N9:=λvs σ H Q=>∃ v r,vs=v :: r/\t v σ H λcK H'=>u r cK H' Q
def eL':CM X [] eJ':=by intro pins s σ H vs us Q I r h;obtain⟨e,h⟩:=h;subst e;cases r;exact assignInOrder_nil ⟨σ,H,I,h⟩
def eM'(h1:PG X e t)(h2:CM X es u)(hs:autoParam ((AR (e :: es) X.env).map (·.2)=assign e X.env :: (AR es X.env).map (·.2)) bv):CM X (e :: es) (eK' t u):=by
 intro pins s σ H vs us Q I r h;obtain⟨v,vr,e1,h⟩:=h;subst e1
 cases r with
 |cons r rr =>rw[hs];refine assignInOrder_cons (dQ (h1 pins s σ H _ _ _ I r h) λ_ s1 eP=>?_);obtain⟨Oy,H1,I1,q1⟩:=eP;exact h2 pins s1 Oy H1 _ _ Q I1 rr q1
def eN'(K:aE)(n:Nat)(t:N9):TG:=λv σ H Q=>∃ a xs,v=.ref a/\k5 K H a xs/\xs.length=n/\t xs σ H Q
def eO'(hc:X.calm=true)(h:CM X es t)(hn:autoParam ((AR es X.env).length=n) bv) (qS:autoParam ((AR es X.env).findIdx? (·.1)=none) bv):PG X (.Tuple es k pos) (eN' X.K n t):=by
 intro pins s σ H v u Q I r hw;obtain⟨a,xs,e1,hq,hl,hw⟩:=hw;subst e1;cases r;obtain⟨its,rv,ht,hz⟩:=I.tuple hq;refine assign_Tuple_tuple (I.ok.hd hc) ht (by simp[hn,<- hl,rv.length]) qS λh' hx=>?_;have I1:Inv X pins σ H { s with heap:=h' }:=I.kept λb o e=>hx b o (hU (fF e)) e;exact h pins _ σ H xs _ Q I1 (by simpa using rv) hw
def VP(te:TE)(g:TG):TS:=λD σ H=>te σ H λx H1=>g x σ H1 D.nx
def eP'(he:PE X e te)(hg:PG X tg g)(hs:autoParam (swapsWithSole [tg] e pos.line X.env=pure false) bv)(hw:autoParam (swappedStores [tg] e X.env=pure none) bv) (h1:autoParam ((AR [tg] X.env).map (·.2)=[assign tg X.env]) bv):PS X (.Assign [tg] e pos) (VP te g):=by
 intro pins s σ H D I h;refine wpAny_Assign_stores (dQ (he pins s σ H _ I h) λv s1 dS=>L2.hG dS λx H1 I1 r1 q1=>?_) hs hw;rw[h1];exact dQ (hg pins s1 σ H1 x v _ I1 r1 q1) λ_ s2 q=>q
def Ts(hN:X.N.Nodup)(hi:X.N[i]? = some x)(hx:Loc X.env.scope x)(he:PE X e te)(hs:autoParam (rV e (some (.Name x pos')) pos.line X.env=pure false) bv)(hf:X.fn x=true\/X.env.scope.names.lookup x=some .local:=by first|exact .inl rfl|exact .inr rfl|assumption) :
  PS X (.Assign [.Name x pos'] e pos) (VP te (VN i)):=by
 intro pins s σ H D I h;refine wpAny_Assign_Name (dQ (he pins s σ H _ I h) λv s1 dS=>L2.hG dS λy H1 I1 r1 q1=>?_) hs;exact aB' I1 hN hi hx r1 (λs2 I2=>⟨_,H1,I2,q1⟩) hf
def eQ'(c:TT)(tb:TS):TS:=λD σ H=>∃ W:Nat->St->Hp->Prop,(∃ m,W m σ H)/\∀ m σ H,W m σ H ->
 c σ H λb H1=>if b=true then ∃ N:St->Hp->Prop,(∀ cK H',N cK H'->∃ m',m'<m/\W m' cK H')/\tb { D with nx:=N,ct:=N,bk:=D.nx } σ H1 else D.nx σ H1
def eR'(hp:PassesOwn (aI X.prog X.w) X.A X.env X.xe)(hc:PT X c tc)(hb:n9 X body tb):PS X (.While c body [] pos) (eQ' tc tb):=by
 intro pins s σ H D I h;obtain⟨W,⟨m0,w0⟩,turn⟩:=h;refine wpAny_While (codeAny_whileLoop (λn s'=>∃ cK H',Inv X pins cK H' s'/\W n cK H') ?_ m0 ⟨σ,H,I,w0⟩);rintro n s1 ⟨Oy,H1,I1,w1⟩;refine IQ hp (dQ (hc pins s1 Oy H1 _ I1 (turn n Oy H1 w1)) λb s2 eP=>?_);obtain⟨H2,I2,q2⟩:=eP
 cases b with
 |true =>
  obtain⟨N,hN,q2⟩:=q2;refine IQ hp (dQ (hb pins s2 Oy H2 _ I2 q2) λf s3 q3=>?_)
  cases f with
  |next =>obtain⟨tj,H3,I3,n3⟩:=q3;obtain⟨m',hm,w3⟩:=hN tj H3 n3;exact⟨m',hm,tj,H3,I3,w3⟩
  |cont =>obtain⟨tj,H3,I3,n3⟩:=q3;obtain⟨m',hm,w3⟩:=hN tj H3 n3;exact⟨m',hm,tj,H3,I3,w3⟩
  |brk=>exact q3
  |ret v=>exact q3
 |false =>exact wpAny_execs_nil ⟨Oy,H2,I2,q2⟩
end
structure It where
 go:Nat->Hp->Prop
 qV:Nat->Hp->V->Hp->Prop
 stop:Nat->Hp->Prop
def A6(X:Cx)(pins:List (ai × Obj))(H:Hp)(b:ai):Prop :=
 H b=none/\b≠X.env.locals/\b∉X.fs/\(b∈X.ex\/X.kX.heap.objs.size<=b)/\(∀ x c,X.env.cells.lookup x=some c->c≠b)/\∀ p∈X.pn++pins,p.1≠b
def Inv.QB{X:Cx}(I:Inv X pins σ H s)(hb:s.heap.objs.size<=b)(hn:H' b=none):A6 X pins H' b:=by
 refine⟨hn,Ql (px I.lt hb),I.dZ' hb,.inr (jS I.sz hb),λx c e z=>?_,λp hp z=>?_⟩
 ·obtain⟨v,q⟩:=I.cell x c e;exact absurd (px q.lt (by rw[z];exact hb)) (wo _)
 ·exact absurd (px (fF (I.pin p hp).1) (by rw[z];exact hb)) (wo _)
structure Turn(P:eL)(w:eR)(K:aE)(tg:Expr)(J:It)(fp:List ai)(it:ai)(tn:Nat->eh->Prop):Prop where
 mem:it∈fp
 obj:∀ i h,tn i h->∀ b∈fp,∃ o,h.get? b=some o/\∀ v,o.data≠.cell v
 keep:∀ i h h',tn i h->(∀ b∈fp,∀ o,h.get? b=some o->h'.get? b=some o)->tn i h'
 item:∀ (X:Cx),X.prog=P->X.w=w->X.K=K->X.calm=true->∀ (i:Nat) (pins:List (ai × Obj)) (s:ay) (σ:St) (H:Hp) (E:ae->ay->Prop),Inv X pins σ H s->(∀ b∈fp,A6 X pins H b)->tn i s.heap->J.go i H ->
  bG (aI P w) X.A (pyNext (.ref it)) (fun r s1=>∃ u,r=some u /\
   bG (aI P w) X.A (letOwnedTupleGo tg (.ref it) u) (fun _ s2=>∃ x H',Inv X pins σ H' s2/\RelV x u/\J.qV i H x H'/\tn (i+1) s2.heap/\∀ b∈fp,H' b=none) E s1) E s
 done:∀ (X:Cx),X.prog=P->X.w=w->X.K=K->X.calm=true->∀ (i:Nat) (pins:List (ai × Obj)) (s:ay) (σ:St) (H:Hp) (E:ae->ay->Prop),Inv X pins σ H s->(∀ b∈fp,A6 X pins H b)->tn i s.heap->J.stop i H ->
  bG (aI P w) X.A (pyNext (.ref it)) (fun r s1=>r=none/\Inv X pins σ H s1) E s
 self:∀ (A:fq) (i:Nat) (s:ay) (Q:ae->ay->Prop) (E:ae->ay->Prop),tn i s.heap->Q (.ref it) s->bG (aI P w) A (pyIter (.ref it)) Q E s
abbrev TI:=St->Hp->(It->Hp->Prop)->Prop
def PIE(X:Cx)(pins:List (ai × Obj))(σ:St)(tg:Expr)(R:It->Hp->Prop)(VQ:ae)(s2:ay):Prop :=
 ∃ (it:ai) (fp:List ai) (tn:Nat->eh->Prop) (J:It) (H':Hp),VQ=.ref it/\Inv X pins σ H' s2/\Turn X.prog X.w X.K tg J fp it tn/\tn 0 s2.heap/\(∀ b∈fp,A6 X pins H' b)/\R J H'
def PI(X:Cx)(tg iter:Expr)(wi:TI):Prop :=
 ∀ (pins:List (ai × Obj)) (s:ay) (σ:St) (H:Hp) (R:It->Hp->Prop),Inv X pins σ H s->wi σ H R ->
  bG (aI X.prog X.w) X.A (eI iter X.env) (λv s1=>bG (aI X.prog X.w) X.A (pyIter v) (PIE X pins σ tg R) X.xe s1) X.xe s
def Tt(ho:s.heap.get? it=some o)(hc:o.cls=.type n)(hd:o.data=.fields vs)(hn:["enumerate", "zip", "dict_itemiterator", "dict_reverseitemiterator", "odict_iterator", "itertools.zip_longest", "itertools.pairwise"].contains n=false) (hQ:Q () s):bG M A (letOwnedTupleGo tg (.ref it) u) Q E s:=by
 cases tg<;>first
  |exact bE hQ
  | (cases u<;>first
     |exact bE hQ
     | (refine ax (wpAny_load ho ?_)
        rw[hc,hd];show bG M A (if (["enumerate", "zip", "dict_itemiterator", "dict_reverseitemiterator", "odict_iterator", "itertools.zip_longest", "itertools.pairwise"].contains n && vs[0]? == some (n4 _))=true then _ else _) Q E s;rw[if_neg (by intro h;rw[hn,Bool.false_and] at h;cases h)];exact bE hQ))
def Tv(K:aE)(a:ai):It :=
 ⟨λi H=>∃ xs x,gd K H a xs/\xs[i]? = some x,λi H x H'=>H'=H/\∀ xs,gd K H a xs->xs[i]? = some x,λi H=>∃ xs,gd K H a xs/\xs.length<=i⟩
def VR(K:aE)(a:ai):It :=
 ⟨λi H=>∃ xs x,k5 K H a xs/\xs[i]? = some x,λi H x H'=>H'=H/\∀ xs,k5 K H a xs->xs[i]? = some x,λi H=>∃ xs,k5 K H a xs/\xs.length<=i⟩
def OB(lo:Int)(n:Nat):It:=⟨λi _=>i<n,λi H x H'=>H'=H/\x=.int (lo+i),λi _=>n<=i⟩
def eS'{P:eL}{K:aE}(a it:ai):Turn P w K tg (Tv K a) [it] it (λi h=>h.IsListIter it a i) where
 mem:=by simp
 obj:=λi h st b hb=>by
  have e:b=it:=by simpa using hb
  subst e;obtain⟨o,e,c,d⟩:=st;exact⟨o,e,λv z=>by rw[d] at z;cases z⟩
 keep:=λi h h' st k=>st.at λo e=>k it (by simp) o e
 item:=by intro X hP hw hK hc i pins s σ H E I hf st hg;subst hP hw hK;obtain⟨xs,x,hq,hx⟩:=hg;obtain⟨its,rv,p,hz⟩:=I.list hq;obtain⟨u,hu,ru⟩:=rv.get hx;obtain⟨f0,f1,f2,f3,f4,f5⟩:=hf it (by simp);refine wpAny_pyNext_list_item st p.isList (x:=u) (by simpa using hu) λh' av sb=>?_;have I1:Inv X pins σ H { s with heap:=h' }:=I.turned (t':=s.toks) (λb o hb e=>(sb.2 b hb).trans e) f0 f1 f3 f4 f5;obtain⟨o,e,c,d⟩:=id av;exact⟨u,rfl,Tt (s:={ s with heap:=h' }) e c d (by decide) ⟨x,H,I1,ru,⟨rfl,λys hy=>by rw[I.ey' hy hq];exact hx⟩,av,λb hb=>(hf b hb).1⟩⟩
 done:=by intro X hP hw hK hc i pins s σ H E I hf st hg;subst hP hw hK;obtain⟨xs,hq,hx⟩:=hg;obtain⟨its,rv,p,hz⟩:=I.list hq;obtain⟨f0,f1,f2,f3,f4,f5⟩:=hf it (by simp);have hl:=rv.length;exact wpAny_pyNext_list_end (I.ok.hd hc) st p.isList (by simp;lia) λh' eb=>⟨rfl,I.turned (t':=s.toks) (λb o hb e=>eb b o hb e) f0 f1 f3 f4 f5⟩
 self:=λ_ _ _ _ _ st h=>wpAny_pyIter_listiter st h
def eT'{P:eL}{K:aE}(a it:ai):Turn P w K tg (VR K a) [it] it (λi h=>h.IsTupleIter it a i) where
 mem:=by simp
 obj:=λi h st b hb=>by
  have e:b=it:=by simpa using hb
  subst e;obtain⟨o,e,c,d⟩:=st;exact⟨o,e,λv z=>by rw[d] at z;cases z⟩
 keep:=λi h h' st k=>st.at λo e=>k it (by simp) o e
 item:=by intro X hP hw hK hc i pins s σ H E I hf st hg;subst hP hw hK;obtain⟨xs,x,hq,hx⟩:=hg;obtain⟨its,rv,p,hz⟩:=I.tuple hq;obtain⟨u,hu,ru⟩:=rv.get hx;obtain⟨f0,f1,f2,f3,f4,f5⟩:=hf it (by simp);refine wpAny_pyNext_tuple_item st (show s.heap.IsTuple a its.toArray from p) (x:=u) (by simpa using hu) λh' av sb=>?_;have I1:Inv X pins σ H { s with heap:=h' }:=I.turned (t':=s.toks) (λb o hb e=>(sb.2 b hb).trans e) f0 f1 f3 f4 f5;obtain⟨o,e,c,d⟩:=id av;exact⟨u,rfl,Tt (s:={ s with heap:=h' }) e c d (by decide) ⟨x,H,I1,ru,⟨rfl,λys hy=>by rw[I.ez' hy hq];exact hx⟩,av,λb hb=>(hf b hb).1⟩⟩
 done:=by intro X hP hw hK hc i pins s σ H E I hf st hg;subst hP hw hK;obtain⟨xs,hq,hx⟩:=hg;obtain⟨its,rv,p,hz⟩:=I.tuple hq;obtain⟨f0,f1,f2,f3,f4,f5⟩:=hf it (by simp);have hl:=rv.length;exact wpAny_pyNext_tuple_end (I.ok.hd hc) st (show s.heap.IsTuple a its.toArray from p) (by simp;lia) λh' eb=>⟨rfl,I.turned (t':=s.toks) (λb o hb e=>eb b o hb e) f0 f1 f3 f4 f5⟩
 self:=λ_ _ _ _ _ st h=>wpAny_pyIter_tupleiter st h
def eU'{P:eL}{K:aE}(it:ai)(lo:Int)(n:Nat):Turn P w K tg (OB lo n) [it] it (λi h=>IsRangeIter h it (lo+(i:Nat)*1) ((n:Int)-(i:Nat)) 1) where
 mem:=by simp
 obj:=λi h st b hb=>by
  have e:b=it:=by simpa using hb
  subst e;exact⟨_,st,λv z=>by
   have z':Data.fields _=Data.cell v:=z;cases z'⟩
 keep:=λi h h' st k=>k it (by simp) _ st
 item:=by intro X hP hw hK hc i pins s σ H E I hf st hg;subst hP hw hK;obtain⟨f0,f1,f2,f3,f4,f5⟩:=hf it (by simp);have W:=Walks.range (prog:=X.prog) (w:=X.w) (I.ok.hd hc) it lo 1 n;refine W.item i s _ _ hg st λv h' tk hv av kk=>?_;obtain⟨t,rfl⟩:=hv;have I1:Inv X pins σ H { s with heap:=h',toks:=tk }:=I.turned (λb o hb e=>kk b o (by simpa using hb) e) f0 f1 f3 f4 f5;refine⟨_,rfl,Tt (s:={ s with heap:=h',toks:=tk }) (n := "range_iterator") av rfl rfl (by decide) ⟨.int (lo+i),H,I1,⟨t,?_⟩,⟨rfl,rfl⟩,av,λb hb=>(hf b hb).1⟩⟩;rw[Int.mul_one]
 done:=by intro X hP hw hK hc i pins s σ H E I hf st hg;subst hP hw hK;obtain⟨f0,f1,f2,f3,f4,f5⟩:=hf it (by simp);exact wpAny_pyNext_range_end (I.ok.hd hc) st (by have:n<=i:=hg;lia) λh' eb=>⟨rfl,I.turned (t':=s.toks) (λb o hb e=>eb b o hb e) f0 f1 f3 f4 f5⟩
 self:=λ_ _ _ _ _ st h=>wpAny_pyIter_rangeiter st h
section
variable {X:Cx}{tg:Expr}
def eV'(K:aE)(tl:TE):TI:=λσ H R=>tl σ H λx H1=>∃ a,x=.ref a/\(∃ xs,gd K H1 a xs)/\R (Tv K a) H1
def eW'(K:aE)(tl:TE):TI:=λσ H R=>tl σ H λx H1=>∃ a,x=.ref a/\(∃ xs,k5 K H1 a xs)/\R (VR K a) H1
def aL'(hl:PE X l tl):PI X tg l (eV' X.K tl):=by
 intro pins s σ H R I h;refine dQ (hl pins s σ H _ I h) λv s1 dS=>L2.hG dS λx H1 I1 r1 q1=>?_;obtain⟨a,e,⟨xs,hq⟩,q⟩:=q1;subst e;cases r1;obtain⟨its,rv,p,hz⟩:=I1.list hq;refine wpAny_pyIter_list p.isList ?_;refine⟨s1.heap.objs.size,[s1.heap.objs.size],_,_,H1,rfl,I1.kept λb o e=>gx _ e,eS' a _,⟨_,kG _ rfl,rfl,rfl⟩,λb hb=>?_,q⟩;have e:b=s1.heap.objs.size:=by simpa using hb
 subst e;exact I1.QB (c9 _) (I1.cy.fresh (c9 _))
def eX'(hl:PE X l tl):PI X tg l (eW' X.K tl):=by
 intro pins s σ H R I h;refine dQ (hl pins s σ H _ I h) λv s1 dS=>L2.hG dS λx H1 I1 r1 q1=>?_;obtain⟨a,e,⟨xs,hq⟩,q⟩:=q1;subst e;cases r1;obtain⟨its,rv,p,hz⟩:=I1.tuple hq;refine wpAny_pyIter_tuple (p) ?_;refine⟨s1.heap.objs.size,[s1.heap.objs.size],_,_,H1,rfl,I1.kept λb o e=>gx _ e,eT' a _,⟨_,kG _ rfl,rfl,rfl⟩,λb hb=>?_,q⟩;have e:b=s1.heap.objs.size:=by simpa using hb
 subst e;exact I1.QB (c9 _) (I1.cy.fresh (c9 _))
def eY'{R:It->Hp->Prop}{lo hi:Int}(I:Inv X pins σ H s)(h1:-(2 ^ 62)<=lo)(h2:lo<2 ^ 62)(h3:-(2 ^ 62)<=hi)(h4:hi<2 ^ 62)(q:R (OB lo (hi-lo).toNat) H):bG (aI X.prog X.w) X.A (pyIter (.ref s.heap.objs.size)) (PIE X pins σ tg R) E { s with heap:=s.heap.push { cls:=.type "range",data:=.fields #[.int lo t,.int hi u,.int 1 v] },toks:=tk }:=by
 refine wpAny_pyIter_range (IsRange.new ..) (small_one h1 h2 h3 h4) ?_;have I1:Inv X pins σ H { s with heap:=s.heap.push { cls:=.type "range",data:=.fields #[.int lo t,.int hi u,.int 1 v] },toks:=tk }:=I.kept λb o e=>gx _ e;refine⟨(s.heap.push { cls:=.type "range",data:=.fields #[.int lo t,.int hi u,.int 1 v] }).objs.size,[(s.heap.push { cls:=.type "range",data:=.fields #[.int lo t,.int hi u,.int 1 v] }).objs.size],_,_,H,rfl,
  I1.kept λb o e=>gx _ e,eU' _ lo (hi-lo).toNat,?_,λb hb=>?_,q⟩
 ·have e1:lo+((0:Nat):Int)*1=lo:=by simp
  have e2:(((hi-lo).toNat:Nat):Int)-((0:Nat):Int)=Builtin.Range.rangeSize lo hi 1:=by rw[rangeSize_one];split<;>lia
  rw[e1,e2];exact kG _ rfl
 ·have e:b=(s.heap.push { cls:=.type "range",data:=.fields #[.int lo t,.int hi u,.int 1 v] }).objs.size:=by simpa using hb
  subst e;exact I1.QB (c9 _) (I1.cy.fresh (c9 _))
def eZ'(ta:TA):TI:=λσ H R=>ta σ H λvs H1=>∃ j:Int,vs=[.int j]/\-(2 ^ 62)<=j/\j<2 ^ 62/\R (OB 0 j.toNat) H1
def fa' (hg:Gl X "range") (hm:X.mg "range" = none) (ha:PA X [a] ta) (hs:autoParam (df [a] X.env=[(false,eI a X.env)]) bv):PI X tg (.Call (.Name "range" p) [a] [] pos) (eZ' ta):=by
 intro pins s σ H R I h;refine Call_ (CL I hg hm boot_range (PyProof.Rows.callWith_type1 (dQ (ha pos pins s σ H _ I h) λus s1 dS=>L2.hG dS λvs H1 I1 r1 q1=>?_) hs rfl));obtain⟨j,e,q1,q2,q⟩:=q1;subst e
 cases r1 with
 |cons r rr =>cases rr;obtain⟨t,rfl⟩:=r;exact call_range_1 (eY' I1 (by lia) (by lia) q1 q2 (by simpa using q))
def fc'(wi:TI)(g:TG)(tb:TS):TS:=λD σ H=>wi σ H λJ H1=>∃ W:Nat->Nat->St->Hp->Prop,(∃ m,W 0 m σ H1)/\∀ i m σ H,W i m σ H -> (J.stop i H/\D.nx σ H)\/(J.go i H/\∃ N:St->Hp->Prop,(∀ cK H',N cK H'->∃ m',m'<m/\W (i+1) m' cK H')/\∀ x H',J.qV i H x H'->g x σ H' λmI H2=>tb { D with nx:=N,ct:=N,bk:=D.nx } mI H2)
def QC(fp:List ai)(h:eh):List (ai × Obj):=fp.filterMap λb=>(h.get? b).map λo=>(b,o)
def Tw(hb:b∈fp)(e:h.get? b=some o):(b,o)∈QC fp h:=Vo.mpr ⟨b,hb,by rw[e];rfl⟩
def fd'(hp:p∈QC fp h):p.1∈fp/\h.get? p.1=some p.2:=by
 obtain⟨b,hb,e⟩:=Vo.mp hp
 cases q:h.get? b with
 |none=>rw[q] at e;cases e
 |some o =>rw[q] at e;have e':(b,o)=p:=Option.some.inj e;subst e';exact⟨hb,q⟩
def Inv.pinned(I:Inv X pins σ H s)(hf:∀ b∈fp,A6 X pins H b)(ho:∀ b∈fp,∃ o,s.heap.get? b=some o/\∀ v,o.data≠.cell v):Inv X (pins++QC fp s.heap) σ H s :=
 I.aw' λp hp=>(fe.mp hp).elim (λz=>I.pin p (gX _ z)) λz=>by obtain⟨hb,e⟩:=fd' z;obtain⟨f0,f1,f2,_⟩:=hf p.1 hb;obtain⟨o,e',d⟩:=ho p.1 hb;rw[e] at e';cases e';exact⟨e,f0,f1,f2,d⟩
def Inv.Tx(I:Inv X (pins++pl) σ H s):Inv X pins σ H s:=I.aw' λp hp=>I.pin p (gX _ (mz _ hp))
def fe'(hp:PassesOwn (aI X.prog X.w) X.A X.env X.xe)(hc:X.calm=true)(hi:PI X tg iter wi)(hg:PG X tg g)(hb:n9 X body tb)(hs:∀ x,IL iter X.env x=pure x:=by intro _;rfl):PS X (.For tg iter body [] pos) (fc' wi g tb):=by
 intro pins s σ H D I h;refine wpAny_For (dQ (hi pins s σ H _ I h) λv s1 h1=>dQ h1 λVQ s2 h2=>?_) hs;obtain⟨it,fp,tn,J,H2,e,I2,T,z0,f2,W,⟨m0,w0⟩,turn⟩:=h2;subst e
 -- what stays true of the iterator's objects through the loop
 have stat:∀ {H':Hp},(∀ b∈fp,H' b=none)->∀ b∈fp,A6 X pins H' b:=λhn b hb=>⟨hn b hb,(f2 b hb).2⟩
 refine codeAny_forLoop_any (λn s'=>∃ i cK H',Inv X pins cK H' s'/\tn i s'.heap/\(∀ b∈fp,H' b=none)/\W i n cK H') ?_ m0 ⟨0,σ,H2,I2,z0,λb hb=>(f2 b hb).1,w0⟩;rintro n s3 ⟨i,tj,H3,I3,z5,fr3,w3⟩;rcases turn i n tj H3 w3 with⟨stop,qn⟩|⟨go,N,hN,step⟩
 ·refine IQ hp (dQ (T.done X rfl rfl rfl hc i pins s3 tj H3 X.xe I3 (stat fr3) z5 stop) λr s4 eP=>?_);obtain⟨hr,I4⟩:=eP;subst hr;exact wpAny_execs_nil ⟨tj,H3,I4,qn⟩
 ·refine IQ hp (dQ (T.item X rfl rfl rfl hc i pins s3 tj H3 X.xe I3 (stat fr3) z5 go) λr s4 eP=>?_);obtain⟨u,hr,h4⟩:=eP;subst hr;refine IQ hp (dQ h4 λ_ s5 eP=>?_);obtain⟨x,H5,I5,r5,y5,KP,Tz⟩:=eP;have I5':=I5.pinned (stat Tz) (T.obj _ _ KP);refine IQ hp (dQ (hg _ s5 tj H5 x u _ I5' r5 (step x H5 y5)) λ_ s6 eP=>?_);obtain⟨σ6,H6,I6,q6⟩:=eP;refine IQ hp (dQ (hb _ s6 σ6 H6 _ I6 q6) λf s7 q7=>?_);have again:∀ {A7:St} {H7:Hp},Inv X (pins++QC fp s5.heap) A7 H7 s7->N A7 H7->∃ m,m<n/\∃ i cK H',Inv X pins cK H' s7/\tn i s7.heap/\(∀ b∈fp,H' b=none)/\W i m cK H':=λ{A7 H7} I7 n7=>by obtain⟨m',hm,w7⟩:=hN A7 H7 n7;refine⟨m',hm,i+1,A7,H7,I7.Tx,T.keep _ _ _ KP λb hb o e=>(I7.pin (b,o) (gX _ (gX _ (Tw hb e)))).1,λb hb=>?_,w7⟩;obtain⟨o,e,d⟩:=T.obj _ _ KP b hb;exact(I7.pin (b,o) (gX _ (gX _ (Tw hb e)))).2.1
  cases f with
  |next=>obtain⟨A7,H7,I7,n7⟩:=q7;exact again I7 n7
  |cont=>obtain⟨A7,H7,I7,n7⟩:=q7;exact again I7 n7
  |brk=>obtain⟨A7,H7,I7,q7⟩:=q7;exact⟨A7,H7,I7.Tx,q7⟩
  |ret v=>obtain⟨x7,A7,H7,I7,r7,q7⟩:=q7;exact⟨x7,A7,H7,I7.Tx,r7,q7⟩
end
abbrev R2:=V->V->Hp->VK->Prop
def fi(X:Cx)(f:ae->ae->Sem ae)(r:R2):Prop :=
 ∀ (pins:List (ai × Obj)) (s:ay) (σ:St) (H:Hp) (x y:V) (v u:ae) (Q:VK),Inv X pins σ H s->RelV x v->RelV y u->r x y H Q ->
  bG (aI X.prog X.w) X.A (f v u) (EP X pins σ Q) X.xe s
def TB(X:Cx)(f:ae->Sem ae)(r:V->Hp->VK->Prop):Prop :=
 ∀ (pins:List (ai × Obj)) (s:ay) (σ:St) (H:Hp) (x:V) (v:ae) (Q:VK),Inv X pins σ H s->RelV x v->r x H Q ->
  bG (aI X.prog X.w) X.A (f v) (EP X pins σ Q) X.xe s
def kL(X:Cx)(f:ae)(r:List V->Hp->VK->Prop):Prop :=
 ∀ (pins:List (ai × Obj)) (s:ay) (σ:St) (H:Hp) (xs:List V) (us:List ae) (Q:VK),Inv X pins σ H s->Vals xs us->r xs H Q ->
  bG (aI X.prog X.w) X.A (call f us) (EP X pins σ Q) X.xe s
def fh'(X:Cx)(r:V->Hp->(Bool->Hp->Prop)->Prop):Prop :=
 ∀ (pins:List (ai × Obj)) (s:ay) (σ:St) (H:Hp) (x:V) (v:ae) (Q:Bool->Hp->Prop),Inv X pins σ H s->RelV x v->r x H Q ->
  bG (aI X.prog X.w) X.A (truthy v) (TP X pins σ Q) X.xe s
def QD(r:R2)(ta tb:TE):TE:=λσ H Q=>ta σ H λx H1=>tb σ H1 λy H2=>r x y H2 Q
def TC(r:V->Hp->VK->Prop)(ta:TE):TE:=λσ H Q=>ta σ H λx H1=>r x H1 Q
def rI(C:Int->Int->Prop)(g:Int->Int->V):R2:=λx y H Q=>∃ i j,x=.int i/\y=.int j/\C i j/\Q (g i j) H
def OG(g:Int->Int->V):R2:=λx y H Q=>∃ i j,x=.int i/\y=.int j/\Q (g i j) H
def rU(g:Int->V):V->Hp->VK->Prop:=λx H Q=>∃ i,x=.int i/\Q (g i) H
section
variable {X:Cx}{a b:Expr}{ta tb:TE}{pos:Pos}
def VS(ha:PE X a ta)(hb:PE X b tb){pins:List (ai × Obj)}{s:ay}{σ:St}{H:Hp}{R:V->V->Hp->Prop}(I:Inv X pins σ H s)(h:ta σ H λx H1=>tb σ H1 λy H2=>R x y H2) {Q:ae->ay->Prop} {f:ae->ae->Sem ae}(hf:∀ v u s2 x y H2,Inv X pins σ H2 s2->RelV x v->RelV y u->R x y H2->bG (aI X.prog X.w) X.A (f v u) Q X.xe s2) :
  bG (aI X.prog X.w) X.A (eI a X.env) (λv gp=>bG (aI X.prog X.w) X.A (eI b X.env) (λu KW=>bG (aI X.prog X.w) X.A (f v u) Q X.xe KW) X.xe gp) X.xe s:=by
 refine dQ (ha pins s σ H _ I h) λv s1 dS=>L2.hG dS λx H1 I1 r1 q1=>?_;refine dQ (hb pins s1 σ H1 _ I1 q1) λu s2 dS=>L2.hG dS λy H2 I2 r2 q2=>?_;exact hf v u s2 x y H2 I2 r1 r2 q2
def fi'{op:Operator}{r:R2}(ho:fi X (rX op) r)(ha:PE X a ta)(hb:PE X b tb):PE X (.BinOp a op b pos) (QD r ta tb):=by intro pins s σ H Q I h;exact wpAny_BinOp (VS ha hb I h λv u s2 x y H2 I2 rx ry q=>ho pins s2 σ H2 x y v u Q I2 rx ry q)
def fj'(ho:TB X (unaryOp op) r)(ha:PE X a ta):PE X (.UnaryOp op a pos) (TC r ta):=by intro pins s σ H Q I h;exact UnaryOp_ (dQ (ha pins s σ H _ I h) λv s1 dS=>L2.hG dS λx H1 I1 r1 q1=>ho pins s1 σ H1 x v Q I1 r1 q1)
def VW{f:ae->ae->Sem ae}{C:Int->Int->Prop}{g:Int->Int->Int}(rule:∀ (i j:Int) (t u:Tok) (s:ay) (Q:ae->ay->Prop) (E:ae->ay->Prop),C i j->Q (.int (g i j) s.toks) { s with toks:=s.toks+1 }->bG (aI X.prog X.w) X.A (f (.int i t) (.int j u)) Q E s) :
  fi X f (rI C λi j=>.int (g i j)):=by
 walk_at"b";obtain⟨i,j,rfl,rfl,hc,q⟩:=h;obtain⟨t,rfl⟩:=rx;obtain⟨t',rfl⟩:=ry;exact rule i j t t' s _ _ hc ⟨.int (g i j),H,I.tok _,⟨_,rfl⟩,q⟩
def fk'{f:ae->ae->Sem ae}{g:Int->Int->Int}(rule:∀ (i j:Int) (t u:Tok) (s:ay) (Q:ae->ay->Prop) (E:ae->ay->Prop),Q (.int (g i j) s.toks) { s with toks:=s.toks+1 }->bG (aI X.prog X.w) X.A (f (.int i t) (.int j u)) Q E s) :
  fi X f (OG λi j=>.int (g i j)):=by
 walk_at"b";obtain⟨i,j,rfl,rfl,q⟩:=h;obtain⟨t,rfl⟩:=rx;obtain⟨t',rfl⟩:=ry;exact rule i j t t' s _ _ ⟨.int (g i j),H,I.tok _,⟨_,rfl⟩,q⟩
def VX{f:ae->ae->Sem ae}{g:Int->Int->Bool}(rule:∀ (i j:Int) (t u:Tok) (s:ay) (Q:ae->ay->Prop) (E:ae->ay->Prop),Q (.bool (g i j)) s->bG (aI X.prog X.w) X.A (f (.int i t) (.int j u)) Q E s) :
  fi X f (OG λi j=>.bl (g i j)):=by
 walk_at"b";obtain⟨i,j,rfl,rfl,q⟩:=h;obtain⟨t,rfl⟩:=rx;obtain⟨t',rfl⟩:=ry;exact rule i j t t' s _ _ ⟨.bl (g i j),H,I,rfl,q⟩
def fm'(i j:Int):Prop:=0<j/\j<1073741824
def OL(i j:Int):Prop:=(-(2 ^ 64)<i/\i<2 ^ 64)\/(-(2 ^ 64)<j/\j<2 ^ 64)
def OL.ok(h:OL i j):IntMulOk i j:=by
 rcases h with⟨h1,h2⟩|⟨h1,h2⟩
 ·exact .of_left (intBits_le_64 h1 h2)
 ·exact .of_right (intBits_le_64 h1 h2)
def fn':fi X (rX .Add) (OG λi j=>.int (i+j)):=fk' λ_ _ _ _ _ _ _ q=>add_int q
def fo':fi X (rX .Mult) (rI OL λi j=>.int (i*j)):=VW λ_ _ _ _ _ _ _ hc q=>mul_int q hc.ok
def fp':fi X (rX .FloorDiv) (rI fm' λi j=>.int (i / j)):=VW λi j _ _ _ _ _ hc q=>by have h1:0<j:=hc.1;have h2:j<1073741824:=hc.2;exact floordiv_int (by lia) (by rw[Int.fdiv_eq_ediv_of_nonneg i (by lia)];exact q) (.inl (PyProof.noPylong_small (by lia)))
def fq':fi X (rX .Mod) (rI (λ_ j=>0<j) λi j=>.int (i % j)):=VW λi j _ _ _ _ _ hc q=>by exact mod_int' (by lia) (by rw[Int.fmod_eq_emod_of_nonneg i (by lia)];exact q)
def unI{f:ae->Sem ae}{g:Int->Int}(rule:∀ (i:Int) (t:Tok) (s:ay) (Q:ae->ay->Prop) (E:ae->ay->Prop),Q (.int (g i) s.toks) { s with toks:=s.toks+1 }->bG (aI X.prog X.w) X.A (f (.int i t)) Q E s) :
  TB X f (rU λi=>.int (g i)):=by
 intro pins s σ H x v Q I rx h;obtain⟨i,rfl,q⟩:=h;obtain⟨t,rfl⟩:=rx;exact rule i t s _ _ ⟨.int (g i),H,I.tok _,⟨_,rfl⟩,q⟩
def fs':TB X (unaryOp .USub) (rU λi=>.int (-i)):=unI λ_ _ _ _ _ q=>neg_int q
end
def aN':V->V->Bool
 |.non,.non=>true|.non,.int _=>true|.int _,.non=>true|.non,.bl _=>true|.bl _,.non=>true|.non,.str _=>true|.str _,.non=>true
 |.int _,.int _=>true|.bl _,.bl _=>true|.str _,.str _=>true|.uS _,.uS _=>true
 |.int _,.str _=>true|.str _,.int _=>true|.bl _,.str _=>true|.str _,.bl _=>true
 |_,_=>false
def rEq:R2:=λx y H Q=>aN' x y=true/\Q (.bl (decide (x=y))) H
def rNe:R2:=λx y H Q=>aN' x y=true/\Q (.bl (!decide (x=y))) H
def aO':decide (V.int i=V.int j)=(i == j):=by rw[sT];simp
def aP':decide (V.bl i=V.bl j)=(i == j):=by rw[sT];simp
def aQ':decide (V.str i=V.str j)=(i == j):=by rw[sT];simp
def aR':decide (V.uS i=V.uS j)=(i.toList == j.toList):=by rw[sT];cases i;cases j;simp
section
variable {X:Cx}{a b c:Expr}{ta tb tc:TE}{pos:Pos}
def i9(I:Inv X pins σ H s)(q:Q (.bl k) H)(e:k=k'):EP X pins σ Q (.bool k') s:=by subst e;exact⟨.bl k,H,I,rfl,q⟩
def fv':fi X (iE .Eq) rEq:=by
 walk_at"b";obtain⟨hs,q⟩:=h
 cases x with
 |non =>
  cases rx
  cases y with
  |non=>cases ry;exact PySem.EqNone.eq_none_none (i9 I q (by simp))
  |bl j=>cases ry;exact PySem.EqNone.eq_none_bool (i9 I q (by simp))
  |int j=>obtain⟨t',rfl⟩:=ry;exact PySem.EqNone.eq_none_int (i9 I q (by simp))
  |str j=>obtain⟨t',rfl⟩:=ry;exact PySem.EqNone.eq_none_str (i9 I q (by simp))
  |_=>exact absurd (hs) kH
 |bl i =>
  cases rx
  cases y with
  |non=>cases ry;exact PySem.EqNone.eq_bool_none (i9 I q (by simp))
  |bl j=>cases ry;exact eq_bool (i9 I q aP')
  |str j=>obtain⟨t',rfl⟩:=ry;exact PySem.EqMixed.eq_bool_str (i9 I q (by simp))
  |_=>exact absurd (hs) kH
 |int i =>
  obtain⟨t,rfl⟩:=rx
  cases y with
  |non=>cases ry;exact PySem.EqNone.eq_int_none (i9 I q (by simp))
  |int j=>obtain⟨t',rfl⟩:=ry;exact eq_int (i9 I q aO')
  |str j=>obtain⟨t',rfl⟩:=ry;exact PySem.EqMixed.eq_int_str (i9 I q (by simp))
  |_=>exact absurd (hs) kH
 |str i =>
  obtain⟨t,rfl⟩:=rx
  cases y with
  |non=>cases ry;exact PySem.EqNone.eq_str_none (i9 I q (by simp))
  |bl j=>cases ry;exact PySem.EqMixed.eq_str_bool (i9 I q (by simp))
  |int j=>obtain⟨t',rfl⟩:=ry;exact PySem.EqMixed.eq_str_int (i9 I q (by simp))
  |str j=>obtain⟨t',rfl⟩:=ry;exact eq_str (i9 I q aQ')
  |_=>exact absurd (hs) kH
 |uS i =>
  obtain⟨t,rfl⟩:=rx
  cases y with
  |uS j=>obtain⟨t',rfl⟩:=ry;exact PySem.W.eq_bytes (i9 I q aR')
  |_=>exact absurd (hs) kH
 |_=>cases y<;>exact absurd (hs) kH
def fw':fi X (iE .NotEq) rNe:=by
 walk_at"b";obtain⟨hs,q⟩:=h
 cases x with
 |non =>
  cases rx
  cases y with
  |non=>cases ry;exact PySem.EqNone.ne_none_none (i9 I q (by simp))
  |bl j=>cases ry;exact PySem.EqNone.ne_none_bool (i9 I q (by simp))
  |int j=>obtain⟨t',rfl⟩:=ry;exact PySem.EqNone.ne_none_int (i9 I q (by simp))
  |str j=>obtain⟨t',rfl⟩:=ry;exact PySem.EqNone.ne_none_str (i9 I q (by simp))
  |_=>exact absurd (hs) kH
 |bl i =>
  cases rx
  cases y with
  |non=>cases ry;exact PySem.EqNone.ne_bool_none (i9 I q (by simp))
  |bl j=>cases ry;exact ne_bool (i9 I q (congrArg not aP'))
  |str j=>obtain⟨t',rfl⟩:=ry;exact PySem.EqMixed.ne_bool_str (i9 I q (by simp))
  |_=>exact absurd (hs) kH
 |int i =>
  obtain⟨t,rfl⟩:=rx
  cases y with
  |non=>cases ry;exact PySem.EqNone.ne_int_none (i9 I q (by simp))
  |int j=>obtain⟨t',rfl⟩:=ry;exact ne_int (i9 I q (congrArg not aO'))
  |str j=>obtain⟨t',rfl⟩:=ry;exact PySem.EqMixed.ne_int_str (i9 I q (by simp))
  |_=>exact absurd (hs) kH
 |str i =>
  obtain⟨t,rfl⟩:=rx
  cases y with
  |non=>cases ry;exact PySem.EqNone.ne_str_none (i9 I q (by simp))
  |bl j=>cases ry;exact PySem.EqMixed.ne_str_bool (i9 I q (by simp))
  |int j=>obtain⟨t',rfl⟩:=ry;exact PySem.EqMixed.ne_str_int (i9 I q (by simp))
  |str j=>obtain⟨t',rfl⟩:=ry;exact ne_str (i9 I q (congrArg not aQ'))
  |_=>exact absurd (hs) kH
 |uS i =>
  obtain⟨t,rfl⟩:=rx
  cases y with
  |uS j=>obtain⟨t',rfl⟩:=ry;exact PySem.W.ne_bytes (i9 I q (congrArg not aR'))
  |_=>exact absurd (hs) kH
 |_=>cases y<;>exact absurd (hs) kH
def fx':fi X (iE .Lt) (OG λi j=>.bl (decide (i<j))):=VX λ_ _ _ _ _ _ _ q=>lt_int q
def fy':fi X (iE .LtE) (OG λi j=>.bl (decide (i<=j))):=VX λ_ _ _ _ _ _ _ q=>le_int q
def fz':fi X (iE .Gt) (OG λi j=>.bl (decide (j<i))):=VX λ_ _ _ _ _ _ _ q=>gt_int q
def fA':fi X (iE .Lt) (λx y H Q=>∃ i j,x=.str i/\y=.str j/\Q (.bl (decide (i.cps.toList<j.cps.toList))) H):=by intro pins s σ H x y v u Q I rx ry h;obtain⟨i,j,rfl,rfl,q⟩:=h;obtain⟨t,rfl⟩:=rx;obtain⟨t',rfl⟩:=ry;exact lt_str (i9 I q rfl)
def fB':fi X (iE .In) (λx y H Q=>∃ i j,x=.str i/\y=.str j/\Q (.bl (!(Builtin.Str.occurrences j i 0 j.length 1).isEmpty)) H):=by intro pins s σ H x y v u Q I rx ry h;obtain⟨i,j,rfl,rfl,q⟩:=h;obtain⟨t,rfl⟩:=rx;obtain⟨t',rfl⟩:=ry;exact in_str (i9 I q rfl)
def aS':fi X (iE .IsNot) (λx y H Q=>y=.non/\Q (.bl (!decide (x=.non))) H):=by
 walk_at"b";obtain⟨rfl,q⟩:=h;cases ry;refine isnot_none_gen (i9 I q ?_);cases x<;>first
  | (cases rx;rfl)
  | (obtain⟨t,rfl⟩:=rx;rfl)
def fC':fi X (iE .NotIn) (λx y H Q=>∃ i j,x=.str i/\y=.str j/\Q (.bl (!(!(Builtin.Str.occurrences j i 0 j.length 1).isEmpty))) H):=by intro pins s σ H x y v u Q I rx ry h;obtain⟨i,j,rfl,rfl,q⟩:=h;obtain⟨t,rfl⟩:=rx;obtain⟨t',rfl⟩:=ry;exact notIn_str (i9 I q rfl)
def fi.or(h:fi X f r)(h':fi X f r'):fi X f (λx y H Q=>r x y H Q\/r' x y H Q):=by
 intro pins s σ H x y v u Q I rx ry q;rcases q with q|q
 ·exact h pins s σ H x y v u Q I rx ry q
 ·exact h' pins s σ H x y v u Q I rx ry q
def aT'(b:Expr)(h:op≠.In:=by decide)(h2:op≠.NotIn:=by decide):MZ op b=false:=by
 have e1:(op == CmpOp.In)=false:=by cases op<;>first|rfl|exact absurd rfl h
 have e2:(op == CmpOp.NotIn)=false:=by cases op<;>first|rfl|exact absurd rfl h2
 cases b<;>simp[MZ,e1,e2]
def fD'{op:CmpOp}{r:R2}(ho:fi X (iE op) r)(ha:PE X a ta)(hb:PE X b tb)(hm:MZ op b=false):PE X (.Compare a [op] [b] pos) (QD r ta tb):=by intro pins s σ H Q I h;exact wpAny_Compare1 (VS ha hb I h λv u s2 x y H2 I2 rx ry q=>ho pins s2 σ H2 x y v u Q I2 rx ry q) hm
def VY(t:TE):TT:=λσ H Q=>t σ H λx H'=>∃ k,x=.bl k/\Q k H'
def fE'(ho:fi X (iE op) r)(ha:PE X a ta)(hb:PE X b tb)(hm:MZ op b=false):PT X (.Compare a [op] [b] pos) (VY (QD r ta tb)):=by
 intro pins s σ H Q I h;refine wpAny_isTrue_Compare1 (dQ (ha pins s σ H _ I h) λv s1 dS=>L2.hG dS λx H1 I1 r1 q1=>dQ (hb pins s1 σ H1 _ I1 q1) λu s2 dS=>L2.hG dS λy H2 I2 r2 q2 =>
  dQ (ho pins s2 σ H2 x y v u _ I2 r1 r2 q2) λc s3 ⟨z,H3,I3,r3,k,e,q3⟩=>?_) hm
 subst e;cases r3;exact IJ ⟨H3,I3,q3⟩
def aU'(r r':R2)(ta tb tc:TE):TE:=λσ H Q=>ta σ H λx H1=>tb σ H1 λy H2=>r x y H2 λz H3=>∃ k,z=.bl k /\ (if k=true then tc σ H3 λw' H4=>r' y w' H4 Q else Q (.bl false) H3)
def fF'(ho:fi X (iE op) r)(oQ:fi X (iE op') r')(ha:PE X a ta)(hb:PE X b tb)(hc:PE X c tc)(hm:lastMarks [op,op'] [b,c]=false:=by with_unfolding_all rfl):PT X (.Compare a [op,op'] [b,c] pos) (VY (aU' r r' ta tb tc)):=by
 intro pins s σ H Q I h;refine isTrue_chain (dQ (ha pins s σ H _ I h) λv s1 dS=>L2.hG dS λx H1 I1 r1 q1=>test_link (dQ (hb pins s1 σ H1 _ I1 q1) λu s2 dS=>L2.hG dS λy H2 I2 r2 q2 =>
  dQ (ho pins s2 σ H2 x y v u _ I2 r1 r2 q2) λd s3 ⟨z,H3,I3,r3,k,e,q3⟩=>?_)) hm
 subst e;cases r3;refine IJ ?_
 cases k with
 |false =>obtain⟨k',e',q'⟩:=q3;cases e';exact ite_ff ⟨H3,I3,q'⟩
 |true =>refine ite_tt (test_last (dQ (hc pins s3 σ H3 _ I3 q3) λw' s4 ⟨z',H4,I4,r4,q4⟩=>dQ (oQ pins s4 σ H4 y z' u w' _ I4 r2 r4 q4) λd' s5 eP=>?_));obtain⟨z2,H5,I5,r5,k2,e2,q5⟩:=eP;subst e2;cases r5;exact IJ ⟨H5,I5,q5⟩
def VZ(K:aE)(x:V)(H:Hp)(k:Bool):Prop :=
 match x with
 |.non=>k=false
 |.bl b=>k=b
 |.int i=>k=(i != 0)
 |.str y=>y.length<=bI/\k=((y.length:Int) != 0)
 |.uS y=>y.size<=bI/\k=((y.size:Int) != 0)
 |.ref p=>(∃ xs,gd K H p xs/\k = !xs.isEmpty)\/(∃ xs,k5 K H p xs/\k = !xs.isEmpty)\/∃ kvs,H p=some (.dK kvs)/\k = !kvs.isEmpty
 |_=>False
def fG'{κ:Type}{kvs:List (κ × V)}{vs:List (κ × ae)}(r:KV kvs vs):(!vs.isEmpty) = !kvs.isEmpty:=by cases r<;>rfl
def aV'(r:Vals xs its):(!its.toArray.isEmpty) = !xs.isEmpty:=by cases r<;>simp
def V0:(bI:Nat)<2 ^ 63:=by rw[kU];decide
def fH':fh' X (λx H Q=>∃ k,VZ X.K x H k/\Q k H):=by
 intro pins s σ H x v Q I rx h;obtain⟨k,e,q⟩:=h;have hs:bI=16777216:=kU
 cases x with
 |non =>cases rx;have e':k=false:=e;subst e';exact truthy_none ⟨H,I,q⟩
 |bl b =>cases rx;have e':k=b:=e;subst e';exact IJ ⟨H,I,q⟩
 |int i =>obtain⟨t,rfl⟩:=rx;have e':k=(i != 0):=e;subst e';exact PySem.P.truthy_int ⟨H,I,q⟩
 |str y =>obtain⟨t,rfl⟩:=rx;obtain⟨hy,e'⟩:y.length<=bI/\k=((y.length:Int) != 0):=e;subst e';exact PySem.P.truthy_str (by lia) ⟨H,I.tok _,q⟩
 |uS y =>obtain⟨t,rfl⟩:=rx;obtain⟨hy,e'⟩:y.size<=bI/\k=((y.size:Int) != 0):=e;subst e';exact PySem.W.truthy_bytes (by lia) ⟨H,I.tok _,q⟩
 |ref p =>
  cases rx;have e':(∃ xs,gd X.K H p xs/\k = !xs.isEmpty)\/(∃ xs,k5 X.K H p xs/\k = !xs.isEmpty)\/∃ kvs,H p=some (.dK kvs)/\k = !kvs.isEmpty:=e;rcases e' with⟨xs,hx,e'⟩|⟨xs,hx,e'⟩|⟨kvs,hx,e'⟩
  ·subst e';obtain⟨its,r,pl,hz⟩:=I.list hx;have hlen:=r.length;exact wpAny_truthy_list pl.isList (by simp only[jI];lia) ⟨H,I.tok _,by rw[aV' r];exact q⟩
  ·subst e';obtain⟨its,r,pl,hz⟩:=I.tuple hx;have hlen:=r.length;exact truthy_tuple pl (by simp only[jI];lia) ⟨H,I.tok _,by rw[aV' r];exact q⟩
  ·subst e';obtain⟨hz,hS,vs,r,m⟩:kvs.length<=bI/\(p == v3)=false/\∃ vs,KV kvs vs/\s.heap.DictOf (kK X.prog X.w) p vs:=I.cy p _ hx;have hlen:kvs.length=vs.length:=Paired.length r;exact wpAny_truthy_dict hS m (by lia) ⟨H,I.tok _,by rw[fG' r];exact q⟩
 |_=>exact(e).elim
def fI'(ha:PE X a ta)(he:∀ whole,isTrue a X.env whole=(do let v <- whole;standAt a.pos;holding [v] (truthy v))) :
  PT X a (λσ H Q=>ta σ H λx H'=>∃ k,VZ X.K x H' k/\Q k H'):=by
 intro pins s σ H Q I h;exact isTrue_plain (dQ (ha pins s σ H _ I h) λv s1 dS=>L2.hG dS λx H1 I1 r1 q1=>fH' pins s1 σ H1 x v Q I1 r1 q1) (he _)
def fJ':fi X (rX .Add) (λx y H Q=>∃ i j,x=.str i/\y=.str j/\i.length+j.length<=bI/\Q (.str (i++j)) H):=by intro pins s σ H x y v u Q I rx ry h;obtain⟨i,j,rfl,rfl,hz,q⟩:=h;obtain⟨t,rfl⟩:=rx;obtain⟨t',rfl⟩:=ry;exact add_str (λt' tk=>⟨.str (i++j),H,I.tok _,⟨_,rfl⟩,q⟩) hz
def vals1(r:Vals [x] us):∃ u,us=[u]/\RelV x u:=by
 cases r with
 |cons r1 r2=>cases r2;exact⟨_,rfl,r1⟩
def vals2(r:Vals [x,y] us):∃ u w',us=[u,w']/\RelV x u/\RelV y w':=by
 cases r with
 |cons r1 r2 =>
  cases r2 with
  |cons r3 r4=>cases r4;exact⟨_,_,rfl,r1,r3⟩
def fK' (hc:X.calm=true):kL X (.builtin "max") (λxs H Q=>∃ i j,xs=[.int i,.int j]/\Q (.int (if j>i then j else i)) H):=by
 walk_at"f";obtain⟨i,j,rfl,q⟩:=h;obtain⟨u,w',rfl,⟨t,rfl⟩,⟨t',rfl⟩⟩:=vals2 r;refine max_two_ints (I.ok.hd hc) λh' tk k=>⟨_,H,I.kept k,?_,q⟩
 by_cases hj:j>i
 ·rw[if_pos hj,if_pos hj];exact⟨_,rfl⟩
 ·rw[if_neg hj,if_neg hj];exact⟨_,rfl⟩
def fL':kL X (.type "int") (λxs H Q=>(∃ i,xs=[.int i]/\Q (.int i) H)\/∃ k,xs=[.bl k]/\Q (.int (if k then 1 else 0)) H):=by
 walk_at"f";rcases h with⟨i,rfl,q⟩|⟨k,rfl,q⟩
 ·obtain⟨u,rfl,t,rfl⟩:=vals1 r;exact call_int_int ⟨.int i,H,I,⟨_,rfl⟩,q⟩
 ·obtain⟨u,rfl,r1⟩:=vals1 r;cases r1;exact call_int_bool ⟨.int (if k then 1 else 0),H,I.tok _,⟨_,rfl⟩,q⟩
def fM'(K:aE)(x:V)(H:Hp)(n:Nat):Prop :=
 match x with
 |.str y=>y.length<=bI/\n=y.length
 |.uS y=>y.size<=bI/\n=y.size
 |.ref p=>(∃ xs,gd K H p xs/\n=xs.length)\/∃ xs,k5 K H p xs/\n=xs.length
 |_=>False
def V1:kL X (.builtin "len") (λxs H Q=>∃ x n,xs=[x]/\fM' X.K x H n/\Q (.int n) H):=by
 walk_at"f";obtain⟨x,n,rfl,e,q⟩:=h;obtain⟨u,rfl,rx⟩:=vals1 r;have hs:bI=16777216:=kU
 cases x with
 |str y =>obtain⟨t,rfl⟩:=rx;obtain⟨hy,e'⟩:y.length<=bI/\n=y.length:=e;subst e';exact len_str (by lia) ⟨.int _,H,I.tok _,⟨_,rfl⟩,q⟩
 |uS y =>obtain⟨t,rfl⟩:=rx;obtain⟨hy,e'⟩:y.size<=bI/\n=y.size:=e;subst e';exact PySem.W.len_bytes (by lia) ⟨.int _,H,I.tok _,⟨_,rfl⟩,q⟩
 |ref p =>
  cases rx;have e':(∃ xs,gd X.K H p xs/\n=xs.length)\/∃ xs,k5 X.K H p xs/\n=xs.length:=e;rcases e' with⟨xs,hx,e'⟩|⟨xs,hx,e'⟩
  ·subst e';obtain⟨its,r',pl,hz⟩:=I.list hx;have hlen:=r'.length;exact Calls.call_len_list pl.isList (by simp only[jI];lia) ⟨.int xs.length,H,I.tok _,⟨_,by simp only[jI];rw[hlen]⟩,q⟩
  ·subst e';obtain⟨its,r',pl,hz⟩:=I.tuple hx;have hlen:=r'.length;exact len_tuple pl (by simp only[jI];lia) ⟨.int xs.length,H,I.tok _,⟨_,by simp only[jI];rw[hlen]⟩,q⟩
 |_=>exact(e).elim
end
structure V2(h:eh)(x dx C:ai)(mA:Str->Option ae):Prop where
 obj:h.get? x=some (Vg C dx)
 ns:h.Ns1 dx mA
 ne:dx≠x
def lookIn_ns{h:eh}{dx:ai}{mA:Str->Option ae}(n:h.Ns1 dx mA):∃ od,h.get? dx=some od/\∀ name,PySem.W.lookIn name od=some (mA name):=by
 obtain⟨o,es,ep,ho,hd,hk,_,hm⟩:=n;refine⟨o,ho,λname=>?_⟩;have e:=hm name;unfold nsFind findBy at e;rw[<- Array.find?_toList] at e;unfold PySem.W.lookIn;rw[hd];dsimp only;split
 ·rename_i y q;rw[q] at e;exact congrArg some e
 ·rename_i q;rw[q] at e;have a:es.toList.any (·.refKey)=false:=by rw[List.any_eq_false];intro y hy;obtain⟨z,t,fN'⟩:=hk y (Array.mem_toList_iff.mp hy);simp[DictEntry.refKey,fN']
  have a':¬ es.toList.any (·.refKey)=true:=by rw[a];exact kH
  rw[if_neg a'];exact congrArg some e
def V2.look(I:V2 h x dx C mA):∃ od,PySem.W.InstAt h x (Vg C dx) C (some od)/\∀ name,PySem.W.lookIn name od=some (mA name) :=
 let ⟨od,ho,hl⟩:=lookIn_ns I.ns
 ⟨od,⟨I.obj,rfl,rfl,ho⟩,hl⟩
def x5.some_of(r:x5 (some v) o):∃ u,o=some u/\RelV v u:=by
 cases o with
 |none=>exact(r).elim
 |some u=>exact⟨u,rfl,r⟩
section
variable {P:eL}{w:eR}{H:Hp}{h:eh}{a C dx:ai}{fs:List (Str × V)}
def TF(cy:ku P w H h)(e:H a=some (.ins C dx fs)):∃ mA,V2 h a dx C mA/\(∀ f,x5 (fs.lookup f) (mA f))/\PySem.Within mA (fs.map (·.1))/\fs.length<=1000/\H dx=some (.own a):=by
 obtain⟨d,z,ne,ob,mA,n,r,q⟩:=(cy a _ e)
 exact⟨mA,⟨ob,n,ne⟩,r,q,z,d⟩
end
structure V3(K:aE)(C:ai):Prop where
 pg:PySem.W.plainGet K C Str.empty=true
 hd:PySem.W.hasDictIn K C=true
 po:PySem.W.plainOver K C=true
 sa:PySem.W.findIn K (.ref C) "__setattr__" = some (some (.builtin "object.__setattr__"))
def V3.get{K:aE}(c:V3 K C)(f:Str):PySem.W.plainGet K C f=true:=c.pg
section
variable {X:Cx}{pins:List (ai × Obj)}{σ:St}{H:Hp}{s:ay}{A:fq}{E:ae->ay->Prop}{Q:ae->ay->Prop}{c:ae}{b:Bool}
inductive An(K:aE)(H:Hp):V->ae->Prop where
 |non:An K H .non (.type "NoneType")
 |bl (x:Bool):An K H (.bl x) (.type "bool")
 |int (i:Int):An K H (.int i) (.type "int")
 |str (x:Str):An K H (.str x) (.type "str")
 |EH (x:UInt64):An K H (.EH x) (.type "float")
 |lst {a:ai} {xs:List V} (e:H a=some (.lst xs)):An K H (.ref a) (.type "list")
 |qE {a:ai} {o:Obj} {xs:List V} (e:H a=some (.qE o (.lst xs))):An K H (.ref a) (.type "list")
 |tup {a:ai} {xs:List V} (e:H a=some (.tup xs)):An K H (.ref a) (.type "tuple")
 |dK {a:ai} {kvs:List (Key × V)} (e:H a=some (.dK kvs)):An K H (.ref a) (.type "dict")
 |dT {a:ai} {kvs:List (List Key × V)} (e:H a=some (.dT kvs)):An K H (.ref a) (.type "dict")
 |ins {a C dx:ai} {fs:List (Str × V)} (e:H a=some (.ins C dx fs)) (cl:V3 K C) (ha:PySem.W.findIn K (.ref C) "__class__" = some (some (.builtin "object.__class__")))
   (hn:PySem.W.specialIn K (.builtin "object.__class__") "__get__" = some (some (.builtin "getset_descriptor.__get__"))) (htk:PySem.W.takesIn K (.builtin "object.__class__")=some true)
   (hm:PySem.W.mroIn K C (.type "object")=some true):An K H (.ref a) (.ref C)
def QF(I:Inv X pins σ H s)(rx:RelV x u)(ty:An X.K H x t)(e:PySem.W.kitOne X.K t c=some b)(h:∀ tk,Q (.bool b) { s with toks:=tk }) :
  bG (aI X.prog X.w) A (call (.builtin "isinstance") [u,c]) Q E s:=by
 cases ty with
 |non=>cases (show u=Value.none from rx);exact wd PySem.W.kitx_none I.lS True.intro e (λz=>nomatch z) h
 |bl y=>cases (show u=Value.bool y from rx);exact wd PySem.W.kitx_bool I.lS True.intro e (λz=>nomatch z) h
 |int i=>obtain⟨t,q⟩:=(rx);cases q;exact wd PySem.W.kitx_int I.lS True.intro e (λz=>nomatch z) h
 |str y=>obtain⟨t,q⟩:=(show ∃ t,u=Value.str y t from rx);cases q;exact wd PySem.W.kitx_str I.lS True.intro e (λz=>nomatch z) h
 |EH y=>obtain⟨t,q⟩:=(rx);cases q;exact wd PySem.W.kitx_float I.lS True.intro e (λz=>nomatch z) h
 |@lst a xs ea =>
  cases (show u=Value.ref a from rx);obtain⟨_,_,n,_,h1⟩:=(I.cy a _ ea)
  exact wd Vf I.lS ⟨_,h1,rfl⟩ e (λz=>nomatch z) h
 |@qE a ob xs ea =>
  cases (show u=Value.ref a from rx);obtain⟨_,_,_,n,_,h1⟩:=(I.cy a _ ea)
  exact wd Vf I.lS ⟨_,h1,rfl⟩ e (λz=>nomatch z) h
 |@tup a xs ea =>
  cases (show u=Value.ref a from rx);obtain⟨_,_,_,p⟩:=(I.cy a _ ea)
  obtain⟨o,h1,h2,_⟩:=p;exact wd PySem.W.kitx_tuple I.lS ⟨o,h1,h2⟩ e (λz=>nomatch z) h
 |@dK a kvs ea =>
  cases (show u=Value.ref a from rx);obtain⟨_,_,vs,_,p⟩:=(I.cy a _ ea)
  obtain⟨o,es,ep,h1,h2,_⟩:=p;exact wd Sr I.lS ⟨o,h1,h2.1⟩ e (λz=>nomatch z) h
 |@dT a kvs ea =>
  cases (show u=Value.ref a from rx);obtain⟨_,_,xs,_,o,es,ep,h1,h2,_⟩:=(I.cy a _ ea)
  exact wd Sr I.lS ⟨o,h1,h2.1⟩ e (λz=>nomatch z) h
 |@ins a C dx fs ea cl ha hn htk hm =>cases (show u=Value.ref a from rx);obtain⟨mA,O,_⟩:=TF I.cy ea;obtain⟨od,J,_⟩:=O.look;exact wd (PySem.W.kitx_own (cl.get _) cl.hd ha hn htk hm) I.lS J e (λz=>nomatch z) h
end
structure oa(k:Nat)(A:fq):Prop where
 hd:A.handled=none
 dp:A.depth+3*k+5<recursionLimit
 un:A.units+16*k+200<fE
def oa.mono(r:oa k A)(h:j<=k):oa j A:=⟨r.hd,by have:=r.dp;lia,by have:=r.un;lia⟩
def oa.deeper(r:oa (k+1) A)(env:Env):oa k (A.deeper env) :=
 ⟨r.hd,by have:=r.dp;show A.depth+1+3*k+5<_;lia,by have:=r.un;show A.units+3+16*k+200<_;lia⟩
def oa.depth(r:oa k A):A.depth<recursionLimit:=by have:=r.dp;lia
def oa.units(r:oa k A):A.units+64<fE:=by have:=r.un;lia
def aX':TA:=λ_ H Q=>Q [] H
def aY'(ta:TE)(tr:TA):TA:=λσ H Q=>ta σ H λx H1=>tr σ H1 λxs H2=>Q (x :: xs) H2
section
variable {X:Cx}{e:Expr}{es:List Expr}{te:TE}{t:TA}{pos:Pos}
def A8:PA X [] aX':=λ_ _ _ _ H Q I h=>Calls.spliced_nil ⟨[],H,I,.nil,h⟩
def wt(ha:PE X e te)(hr:PA X es t)(hs:autoParam (df (e :: es) X.env=(false,eI e X.env) :: df es X.env) bv):PA X (e :: es) (aY' te t):=by intro pos pins s σ H Q I h;rw[hs];refine Calls.spliced_cons (dQ (ha pins s σ H _ I h) λu s1 dS=>L2.hG dS λx H1 I1 r1 q1=>?_);exact dQ (hr pos pins s1 σ H1 _ I1 q1) λus s2 dS=>L2.hG dS λxs H2 I2 r2 q2=>⟨x :: xs,H2,I2,.cons r1 r2,q2⟩
def fO'(t:TA):TE:=λσ H Q=>t σ H λxs H1=>xs.length<=bI/\∀ p,H1 p=none->Q (.ref p) (upd H1 p (.tup xs))
def fP'(t:TA):TE:=λσ H Q=>t σ H λxs H1=>xs.length<=bI/\∀ p,H1 p=none->Q (.ref p) (upd H1 p (.lst xs))
def aZ'{x1}(h:PA X es t):PE X (.Tuple es x1 pos) (fO' t):=by intro pins s σ H Q I hq;refine wpAny_Tuple_spliced (dQ (h pos pins s σ H _ I hq) λus s1 ⟨xs,H1,I1,r,z,q⟩=>⟨by rw[<- r.length];exact z,?_⟩);have hf:H1 s1.heap.objs.size=none:=I1.cy.fresh (c9 _);refine⟨.ref s1.heap.objs.size,upd H1 s1.heap.objs.size (.tup xs),I1.laid (λb u e=>gx _ e) (c9 _) ?_,rfl,q _ hf⟩;exact⟨z,us,r,⟨_,kG _ rfl,rfl,_,rfl⟩⟩
def fQ'(h:PA X es t):PE X (.List es pos) (fP' t):=by intro pins s σ H Q I hq;refine wpAny_List_spliced (dQ (h pos pins s σ H _ I hq) λus s1 ⟨xs,H1,I1,r,z,q⟩=>⟨by rw[<- r.length];exact z,?_⟩);have hf:H1 s1.heap.objs.size=none:=I1.cy.fresh (c9 _);refine⟨.ref s1.heap.objs.size,upd H1 s1.heap.objs.size (.lst xs),I1.laid (λb u e=>gx _ e) (c9 _) ?_,rfl,q _ hf⟩;exact⟨z,us,0,r,kG _ rfl⟩
end
abbrev Sp:=List V->Hp->VK->XK->Prop
abbrev GN:=List Env->Hp->ay->XK->ae->ay->Prop
structure TH(P:eL)(w:eR)(K:aE)(mg:Str->Option ae)(base:eh)(A:fq)(outer:List Env)(s:ay)(H:Hp):Prop where
 frames:A.frames=some outer
 mod:Mod K mg base
 bs:∀ b o,base.get? b=some o->s.heap.get? b=some o/\H b=none
 GA:base.objs.size<=s.heap.objs.size
 A4:s.heap.FunFrames base outer
 N4:∀ b∈AZ outer,H b=none
 cy:ku P w H s.heap
 bare:AllBare s.gens
def CE(outer:List Env)(P:eL)(w:eR)(H:Hp)(s:ay)(Q:VK)(u:ae)(s':ay):Prop :=
 ∃ v H',s'.os=s.os/\AllBare s'.gens/\Un (AZ outer) [] H H' s.heap s'.heap/\ku P w H' s'.heap/\RelV v u/\Q v H'
def CR(CX:GN)(outer:List Env)(P:eL)(w:eR)(H:Hp)(s:ay)(Q:VK)(E:XK)(r:Result)(s':ay):Prop :=
 match r with
 |.ok (.ret u)=>CE outer P w H s Q u s'
 |.ok _=>False
 |.error e=>CX outer H s E e s'
structure Ap(P:eL)(w:eR)(K:aE)(mg:Str->Option ae)(base:eh)(CX:GN)(k:Nat)(f:ai)(fd:FuncData)(ps:List Str)(sp:Sp):Prop where
 len:∀ vs H Q E,sp vs H Q E->vs.length=ps.length
 run:∀ (A:fq) (outer:List Env) (s:ay) (H:Hp) (args:Args) (us:List ae) (vs:List V) (Q:VK) (E:XK),oa k A->TH P w K mg base A outer s H->BindsTo s fd args (ps.zip us)->Vals vs us->sp vs H Q E ->
  codeAny (aI P w) A (.call (.ref f) args) (CR CX outer P w H s Q E) s
section
variable {X:Cx}{pins:List (ai × Obj)}{σ:St}{H:Hp}{s s':ay}
def Inv.fR'(I:Inv X pins σ H s):TH X.prog X.w X.K X.mg X.base X.A X.stack s H :=
 ⟨I.ok.frames,I.ok.mod,I.bs,jS I.ok.GA I.sz,I.stack,I.ar',I.cy,I.bare⟩
def Inv.after(I:Inv X pins σ H s)(h:CE X.stack X.prog X.w H s Q u s'):EP X pins σ Q u s':=by obtain⟨v,H',os,bare,un,cy,r,q⟩:=h;obtain⟨hh,g,d,t,os'⟩:=s';obtain rfl:os'=s.os:=os;exact⟨v,H',I.call un cy bare (λb z=>absurd z (by simp)),r,q⟩
end
def V4(sp:Sp)(GO:List V)(E:XK)(t:TA):TE:=λσ H Q=>t σ H λvs H1=>sp (vs++GO) H1 Q E
def Binds(K:aE)(fd:FuncData)(ps:List Str)(ds:List ae):Prop :=
 ∀ (s:ay) (us:List ae),K.In s.heap->(us++ds).length=ps.length->BindsTo s fd ⟨us,[]⟩ (ps.zip (us++ds))
def Binds.all{K:aE}{ps:List Str}(h:∀ us:List ae,us.length=ps.length->bindArgs fd ⟨us,[]⟩=pure (ps.zip us)):Binds K fd ps []:=λs us _ hl=>by rw[sR] at hl ⊢;exact .of_eq (h us hl)
def Passes(CX:GN)(X:Cx)(E:XK):Prop:=∀ (pins:List (ai × Obj)) (σ:St) (H:Hp) (s:ay) (e:ae) (s':ay),Inv X pins σ H s->CX X.stack H s E e s'->X.xe e s'
section
variable {X:Cx}{CX:GN}{k:Nat}{f:ai}{fd:FuncData}{ps:List Str}{sp:Sp}{GO:List V}{ds:List ae}{E:XK}{x:Str}{p pos:Pos}{e:Expr}{es:List Expr}{t:TA}
def fT'(F:Ap X.prog X.w X.K X.mg X.base CX k f fd ps sp)(hr:oa k X.A)(hb:Binds X.K fd ps ds)(hd:Vals GO ds)(hx:Passes CX X E)(I:Inv X pins σ H s) (r:Vals vs us) (h:sp (vs++GO) H Q E):bG (aI X.prog X.w) X.A (call (.ref f) us) (EP X pins σ Q) X.xe s:=by
 have r2:Vals (vs++GO) (us++ds):=r.append hd;have hl:(us++ds).length=ps.length:=by rw[<- r2.length];exact F.len _ _ _ _ h
 refine wpAny_call (codeAny_mono (F.run X.A X.stack s H ⟨us,[]⟩ (us++ds) (vs++GO) Q E hr I.fR' (hb s us I.lS hl) r2 h) λr s' hq=>?_)
 cases r with
 |error e=>exact hx pins σ H s e s' I hq
 |ok fl =>
  cases fl with
  |ret u=>exact I.after hq
  |next=>exact False.elim hq
  |brk=>exact False.elim hq
  |cont=>exact False.elim hq
def fU'(F:Ap X.prog X.w X.K X.mg X.base CX k f fd ps sp)(hr:oa k X.A)(hg:Gl X x)(hm:X.mg x=some (.ref f))(hk:IY X.K (.ref f)=true)(hb:Binds X.K fd ps ds)(hd:Vals GO ds)(hx:Passes CX X E)(ha:PA X (e :: es) t) (ve:(x == ("__debug__" : Str))=false:=by decide) (he:autoParam (df (e :: es) X.env=(false,eI e X.env) :: df es X.env) bv) (rh:autoParam ((ny pos (df es X.env)).any (·.1)=false) bv) :
  PE X (.Call (.Name x p) (e :: es) [] pos) (V4 sp GO E t):=by
 intro pins s σ H Q I h;refine Ee (aE' I hg hm ?_ ve);refine PySem.W.callWith_K I.ok.mod.wq hk (dQ (ha pos pins s σ H _ I h) λus s1 dS=>L2.hG dS λvs H1 I1 r q=>⟨I1.lS,?_⟩) he rh;exact fT' F hr hb hd hx I1 r q
end
structure QH(N P:List Str)(sc:Scope):Prop where
 kind:sc.kind=.function
 co:sc.isCoroutine=false
 gen:sc.isGenerator=false
 nd:N.Nodup
 pre:N.take P.length=P
 par:∀ x∈P,sc.names.lookup x=some .local\/sc.names.lookup x=some .cell
 fV':∀ y∈sc.names,y.2≠.free
theorem ba'{fP:Str->Option AU}:∀ {binds:List (Str × ae)} {m:Str->Option ae},(∀ v,(x,v)∉binds)->bindL fP binds m x=m x
 |[],_,_=>rfl
 | (n,v) :: r,m,h=>by
  unfold bindL;rw[ba' λw hw=>h w (dP _ hw)];split
  ·have:x≠n:=by rintro rfl;exact h v dz
   simp[this]
  ·rfl
theorem bb'{fP:Str->Option AU}:∀ {binds:List (Str × ae)} {m:Str->Option ae},(∀ v,(x,v)∉binds)->bindC fP binds m x=m x
 |[],_,_=>rfl
 | (n,v) :: r,m,h=>by
  unfold bindC;rw[bb' λw hw=>h w (dP _ hw)];split
  ·rfl
  ·have:x≠n:=by rintro rfl;exact h v dz
   simp[this]
def bc'{fP:Str->Option AU}:∀ {P:List Str} {vs:List ae} {i:Nat} {m:Str->Option ae},P.Nodup->P[i]? = some x->vs[i]? = some v->fP x=some .local ->
  bindL fP (P.zip vs) m x=some v
 |[],_,_,_,_,h,_,_=>by simp at h
 |_ :: _,[],_,_,_,_,h,_=>by simp at h
 |p :: P,w :: vs,0,m,nd,h1,h2,hk=>by simp at h1 h2;subst h1;subst h2;show bindL fP ((p,w) :: P.zip vs) m p=_;unfold bindL;rw[ba' λv hv=>(ly.mp nd).1 (List.of_mem_zip hv).1,if_pos hk];simp
 |p :: P,w :: vs,i+1,m,nd,h1,h2,hk=>by unfold bindL;exact bc' (ly.mp nd).2 (by simpa using h1) (by simpa using h2) hk
def bd'{fP:Str->Option AU}:∀ {P:List Str} {vs:List ae} {i:Nat} {m:Str->Option ae},P.Nodup->P[i]? = some x->vs[i]? = some v->fP x≠some .local ->
  bindC fP (P.zip vs) m x=some v
 |[],_,_,_,_,h,_,_=>by simp at h
 |_ :: _,[],_,_,_,_,h,_=>by simp at h
 |p :: P,w :: vs,0,m,nd,h1,h2,hk=>by simp at h1 h2;subst h1;subst h2;show bindC fP ((p,w) :: P.zip vs) m p=_;unfold bindC;rw[bb' λv hv=>(ly.mp nd).1 (List.of_mem_zip hv).1,if_neg hk];simp
 |p :: P,w :: vs,i+1,m,nd,h1,h2,hk=>by unfold bindC;exact bd' (ly.mp nd).2 (by simpa using h1) (by simpa using h2) hk
def start(N:List Str)(vs:List V):St:=vs.map some++List.replicate (N.length-vs.length) none
def CY(CX:GN)(P:eL)(w:eR)(K:aE)(mg:Str->Option ae)(base:eh)(N:List Str)(qual:Str)(scope:Scope)(f:ai)(cd:ae)(A:fq)(outer:List Env)(s:ay)(H:Hp)(E:XK):Cx where
 prog:=P
 w:=w
 K:=K
 mg:=mg
 base:=base
 A:=A.deeper (envOfC qual scope s.heap.objs.size f cd)
 N:=N
 kX:=s
 Qs:=H
 env:=envOfC qual scope s.heap.objs.size f cd
 outer:=outer
 stack:=envOfC qual scope s.heap.objs.size f cd :: outer
 ex:=[]
 calm:=true
 fn:=λ_=>true
 pn:=[]
 xe:=λe s'=>bG (aI P w) (A.deeper (envOfC qual scope s.heap.objs.size f cd)) (leaving (envOfC qual scope s.heap.objs.size f cd) e) (λ_ GP=>CX outer H s E e GP) (λe' GP=>CX outer H s E e' GP) s'
def be'{sc:Scope}{n:Nat}{x:Str}(h:sc.names.lookup x=some .cell):∃ c,(cellsFrom n sc.names []).lookup x=some c:=by have q:=PySem.W.cellsFrom_some sc.names n [] (.inl h);exact Option.isSome_iff_exists.mp q
def fW'{CX:GN}{P:eL}{w:eR}{K:aE}{mg:Str->Option ae}{base:eh}{N ps:List Str}{qual:Str}{scope:Scope}{f:ai}{cd:ae}{A:fq}{outer:List Env}{s s1:ay}{H:Hp}{E:XK}{us:List ae}{vs:List V}(S:QH N ps scope) (hd:A.handled=none) (e0:TH P w K mg base A outer s H) (hl:vs.length=ps.length) (r:Vals vs us)(x:InCallC s s.heap.objs.size (bindL (envOfC qual scope s.heap.objs.size f cd).kindOf (ps.zip us) λ_=>none) (cellsFrom (s.heap.objs.size+1) scope.names []) (bindC (envOfC qual scope s.heap.objs.size f cd).kindOf (ps.zip us) λ_=>none) s1) :
  Inv (CY CX P w K mg base N qual scope f cd A outer s H E) [] (start N vs) H s1:=by
 have rh:ps.length<=N.length:=by have:=congrArg List.length S.pre;rw[mE] at this;lia
 obtain⟨h1,tk,rfl,hk⟩:=x.done;have QJ:∀ b:ai,b∉(CY CX P w K mg base N qual scope f cd A outer s H E).ex:=λb z=>absurd (show b∈([]:List ai) from z) (by simp);refine⟨⟨e0.mod,S.kind,rfl,rfl,c9 _,λy z c h1 h2=>?_,λy hy=>?_,λy c _ h=>?_,λ_=>hd,Around.frames_deeper e0.frames,.inr ⟨rfl,rfl⟩,λb z=>absurd z (QJ b),e0.bs,e0.GA,λb _ _=>QJ b,λb z=>absurd z (QJ b),e0.A4,e0.N4⟩,
  rfl,e0.bare,Un.kept hk,⟨_,x.toInCall.ns,λi y v h1 h2 h3=>?_⟩,λy c h=>⟨_,x.cell y c h⟩,e0.cy.fresh (c9 _),λy c h=>?_,λp hp=>absurd (show p∈([]:List (ai × Obj)) from hp) (by simp),e0.cy.kept hk,?_⟩
 ·exact name_of_addr x.apart (PySem.mem_of_lookup h1) (PySem.mem_of_lookup h2)
 ·have hy:scope.names.lookup y=some .cell\/scope.names.lookup y=some .free:=hy;rcases hy with hy|hy
  ·exact be' hy
  ·exact absurd rfl (S.fV' _ (PySem.mem_of_lookup hy))
 ·exact xS (x.above y c (PySem.mem_of_lookup h))
 ·have hi:i<vs.length:=by
   unfold start at h2;by_cases hi:i<vs.length
   ·exact hi
   ·rw[Ct (by simpa using hi)] at h2;rw[List.getElem?_replicate] at h2;split at h2<;>cases h2
  have ha:vs[i]? = some v:=by
   unfold start at h2;rw[FE (by simpa using hi),nK] at h2
   cases e:vs[i]? with
   |none=>rw[e] at h2;cases h2
   |some a=>rw[e] at h2;cases h2;rfl
  obtain⟨u,hu,rv⟩:=r.get ha;have hp:ps[i]? = some y:=by rw[<- S.pre,List.getElem?_take_of_lt (by lia)];exact h1
  have ndP:ps.Nodup:=by rw[<- S.pre];exact S.nd.sublist (List.take_sublist _ _)
  refine⟨u,rv,?_⟩;rcases S.par y (mB hp) with k|k
  ·exact .inl ⟨k,bc' ndP hp hu k⟩
  ·obtain⟨c,e⟩:=be' k;refine .inr ⟨.inl k,c,e,?_⟩;have q:=x.cell y c e;rw[bd' ndP hp hu (by show scope.names.lookup y≠_;rw[k];decide)] at q;exact q
 ·exact e0.cy.fresh (xS (x.above y c (PySem.mem_of_lookup h)))
 ·unfold start;show _=N.length;rw[i6,cx,List.length_replicate];lia
def fX'{P:eL}{K:aE}{dV kV doc pm gI ct oc:ae}{N ps:List Str} (lk:K.lookup f=some ⟨oc,od,.func (zC name qual params body scope dV kV doc pm an gI ct),Dp⟩) (u0:M0 K gI qual=true) (S:QH N ps scope)(len:∀ vs H Q E,sp vs H Q E->vs.length=ps.length)(QK:∀ (A:fq) (outer:List Env) (s:ay) (H:Hp) (vs:List V) (Q:VK) (E:XK),oa k (A.deeper (envOfC qual scope s.heap.objs.size f gI))->sp vs H Q E ->
   ∃ t,n9 (CY CX P w K mg base N qual scope f gI A outer s H E) body t/\t { nx:=λ_ H'=>Q .non H',rt:=Q } (start N vs) H) :
  Ap P w K mg base CX (k+1) f (zC name qual params body scope dV kV doc pm an gI ct) ps sp:=by
 refine⟨len,λA outer s H args us vs Q E hr e0 hb r GU=>?_⟩;have hl:=len _ _ _ _ GU;have KX:K.In s.heap:=e0.mod.wq.keeps λb o e=>(e0.bs b o e).1;have lim:s.heap.NoLimit:=e0.mod.nolimit.keeps λb o e=>(e0.bs b o e).1;have fY':∀ y∈ps.zip us,scope.names.lookup y.1=some .local\/(scope.names.lookup y.1=some .cell/\((cellsFrom (s.heap.objs.size+1) scope.names []).lookup y.1).isSome=true):=λ⟨n,v⟩ hy=>by
  rcases S.par n (List.of_mem_zip hy).1 with q|q
  ·exact .inl q
  ·exact .inr ⟨q,PySem.W.cellsFrom_some _ _ _ (.inl q)⟩
 refine codeAny_call_function hr.depth (KX _ _ lk) rfl S.co S.gen rfl (PySem.W.codeRec_of KX u0) (hb _ _ _ _ ?_);refine wpAny_newFunctionEnv_cells S.kind fY' λenv he s1 x=>?_;subst he;refine⟨lim.keeps x.toInCall.keep,codeAny_func ?_⟩;obtain⟨t,ht,hq⟩:=QK A outer s H vs Q E (hr.deeper _) GU;have I:Inv (CY CX P w K mg base N qual scope f gI A outer s H E) [] (start N vs) H s1:=fW' S hr.hd e0 hl r x;refine wa (ht [] s1 (start N vs) H _ I hq) (λfl s' hs=>?_) λe s' hs=>hs;have fin:∀ {cK:St} {H':Hp} {v:V} {u:ae},Inv (CY CX P w K mg base N qual scope f gI A outer s H E) [] cK H' s'->RelV v u->Q v H'->CE outer P w H s Q u s' :=
  λ{cK H' v u} J rv q=>⟨v,H',J.os,J.bare,J.base,J.cy,rv,q⟩
 cases fl with
 |ret u =>obtain⟨v,cK,H',J,rv,q⟩:=hs;exact fin J rv q
 |next =>obtain⟨cK,H',J,q⟩:=hs;exact fin (v:=V.non) J rfl q
 |brk =>obtain⟨_,_,_,q⟩:=hs;exact False.elim q
 |cont =>obtain⟨_,_,_,q⟩:=hs;exact False.elim q
section
variable {X:Cx}{x:Str}{p pos:Pos}{e:Expr}{es:List Expr}{t:TA}{id T:String}{r:List V->Hp->VK->Prop}
def V5(r:List V->Hp->VK->Prop)(t:TA):TE:=λσ H Q=>t σ H λvs H1=>r vs H1 Q
def V6 (hc:kL X (.builtin id) r) (hg:Gl X x) (hm:X.mg x=none) (hv:kQ x=some (.builtin id)) (ha:PA X (e :: es) t) (hn:x ≠ "__name__" := by decide) (ve:(x == ("__debug__" : Str))=false:=by decide) (he:autoParam (df (e :: es) X.env=(false,eI e X.env) :: df es X.env) bv) (rh:autoParam ((ny pos (df es X.env)).any (·.1)=false) bv):PE X (.Call (.Name x p) (e :: es) [] pos) (V5 r t):=by
 intro pins s σ H Q I h;refine Ee (CL I hg hm hv ?_ hn ve);exact PyProof.Rows.callWith_builtin1 (dQ (ha pos pins s σ H _ I h) λus s1 dS=>L2.hG dS λvs H1 I1 r1 q1=>hc pins s1 σ H1 vs us Q I1 r1 q1) he rh
def fZ' (hc:kL X (.type T) r) (hg:Gl X x) (hm:X.mg x=none) (hv:kQ x=some (.type T)) (ha:PA X (e :: es) t) (hn:x ≠ "__name__" := by decide) (ve:(x == ("__debug__" : Str))=false:=by decide) (he:autoParam (df (e :: es) X.env=(false,eI e X.env) :: df es X.env) bv) (rh:autoParam ((ny pos (df es X.env)).any (·.1)=false) bv):PE X (.Call (.Name x p) (e :: es) [] pos) (V5 r t):=by
 intro pins s σ H Q I h;refine Ee (CL I hg hm hv ?_ hn ve);exact PyProof.Rows.callWith_type1 (dQ (ha pos pins s σ H _ I h) λus s1 dS=>L2.hG dS λvs H1 I1 r1 q1=>hc pins s1 σ H1 vs us Q I1 r1 q1) he rh
end
end L2
end
namespace HT
open PySem PyProof.Rows
section
open PySem.SeqAt
open PySem.AutoSeq1 (wpAny_loadPart')
open PySem.MeetsSeq PySem.MeetsSeq2 PySem.MeetsSeq3
end
section
variable {prog:eL}{w:eR}{A:fq}{E:ae->ay->Prop}{s:ay}
def ga'(ht:IsTup s.heap t vs.toArray)(hb:IsTup s.heap b ws.toArray)(hv:vs≠[])(h1:ws=[]->Q (.ref t) s) (h2:ws≠[]->Q (.ref s.heap.objs.size) { s with heap:=s.heap.push { cls:=.type "tuple",data:=.seq (vs++ws).toArray } }) (gL:vs.length+ws.length<=bI):bG (aI prog w) A (rX .Add (.ref t) (.ref b)) Q E s:=by
 obtain⟨⟨cls,dd,data,sl⟩,ho,hc,n,hd⟩:=id ht;obtain⟨⟨V7,vi,data2,vj⟩,sq,EK,n2,hd2⟩:=id hb;subst hc hd EK hd2;have e:vs.toArray++ws.toArray=(vs++ws).toArray:=by simp
 by_cases hw:ws=[]
 ·exact concat_meets ⟨_,ho,rfl⟩ ⟨_,sq,rfl⟩ noFill_tuple_add seq_tuple_add PySem.F.slot_tuple_add PySem.F.entry_tuple_add (PySem.F.args_tuple_add_2 _ _) (tuple_addW1 t b vs.toArray ws.toArray n n2 dd vi sl vj (by simpa using hv) (by simp[hw])) ⟨ho,sq,h1 hw⟩
 ·refine concat_meets ⟨_,ho,rfl⟩ ⟨_,sq,rfl⟩ noFill_tuple_add seq_tuple_add PySem.F.slot_tuple_add PySem.F.entry_tuple_add (PySem.F.args_tuple_add_2 _ _) (tuple_addW2 t b vs.toArray ws.toArray n n2 dd vi sl vj (by simpa using hv) (by simpa using hw) (by rw[jI,jI];exact gL)) ⟨ho,sq,?_⟩
  rw[e];exact h2 hw
def dr(n d:Nat):Option Int->Nat
 |none=>d
 |some v=>if v<0 then (v+(n:Int)).toNat else min v.toNat n
def bg'(v:Int)(n d:Nat):(if v<0 then max (v+(n:Int)) 0 else min v (n:Int))=((dr n d (some v):Nat):Int):=by
 show(if v<0 then max (v+n) 0 else min v n)=(((if v<0 then (v+n).toNat else min v.toNat n):Nat):Int)
 by_cases hv:v<0
 ·simp only[if_pos hv];lia
 ·simp only[if_neg hv];lia
def gb'(lo hi:Option Int)(n:Nat):Builtin.Slice.sliceAdjust lo hi 1 (n:Int)=(((dr n 0 lo:Nat):Int),((dr n n hi:Nat):Int)):=by
 refine Prod.ext ?_ ?_
 ·cases lo with
  |none=>rfl
  |some v=>exact bg' v n 0
 ·cases hi with
  |none=>rfl
  |some v=>exact bg' v n n
def gc'(i j:Nat):Builtin.Slice.slicePlaces (i:Int) (j:Int) 1=j-i:=by unfold Builtin.Slice.slicePlaces;split<;>lia
def bh'(p:IsPart v o)(h:Q o s):bG (aI prog w) A (Builtin.Slice.slicePartIndex v) Q E s:=by
 cases p with
 |none=>exact slicePart_none h
 |int i t=>exact slicePart_int h
def gd'{sl:ai}{vl vu:ae}{lo hi:Option Int}{n:Nat}{Q:Int × Int × Nat->ay->Prop}(hs:s.heap.IsSliceOf sl vl vu .none)(pl:IsPart vl lo)(pu:IsPart vu hi)(h:Q (((dr n 0 lo:Nat):Int),1,dr n n hi-dr n 0 lo) s):bG (aI prog w) A (Builtin.Slice.sliceApplied (.ref sl) (pure (n:Int))) Q E s:=by
 obtain⟨os,QL,Au,TJ⟩:=id hs;refine ax (ax (wpAny_field QL TJ rfl (ax (wpAny_field QL TJ rfl (ax (wpAny_field QL TJ rfl (bE ?_)))))));refine ax (slicePart_none ?_);refine ax (bh' pl (ax (bh' pu (ax (bE ?_)))));show bG _ _ (match Builtin.Slice.sliceAdjust lo hi 1 n with|(lo,hi)=>pure (lo,(1:Int),Builtin.Slice.slicePlaces lo hi 1)) _ _ s;rw[gb' lo hi n];show bG _ _ (pure (((dr n 0 lo:Nat):Int),1,Builtin.Slice.slicePlaces ((dr n 0 lo:Nat):Int) ((dr n n hi:Nat):Int) 1)) _ _ s;rw[gc'];exact bE h
def ge'(xs:Array ae)(i k:Nat):((List.range k).filterMap λ(m:Nat)=>xs[((i:Int)+(m:Int)*1).toNat]?).toArray=((xs.toList.drop i).take k).toArray:=by
 have e:(λ(m:Nat)=>xs[(i+(m:Int)*1).toNat]?)=λm=>xs[i+m]? := by
  funext m;have:(i+(m:Int)*1).toNat=i+m:=by lia
  rw[this]
 rw[e];have:=pick_run xs i k;rw[Vp] at this;have e2:((λx=>xs[x]?) ∘ λx=>i+x)=λm=>xs[i+m]? := rfl;rw[e2] at this;rw[this]
def gf'{lo hi:Option Int}(ht:IsTup s.heap t items)(hs:s.heap.IsSliceOf sl vl vu .none)(pl:IsPart vl lo)(pu:IsPart vu hi)(hw:¬ (dr items.size 0 lo=0/\dr items.size items.size hi=items.size))(h:Q (.ref s.heap.objs.size) { s with heap:=s.heap.push { cls:=.type "tuple",data:=.seq ((items.toList.drop (dr items.size 0 lo)).take (dr items.size items.size hi-dr items.size 0 lo)).toArray } }) (gL:items.size<=bI):bG (aI prog w) A (getItem (.ref t) (.ref sl)) Q E s:=by
 have TK:sizeOk (.seq ((items.toList.drop (dr items.size 0 lo)).take (dr items.size items.size hi-dr items.size 0 lo)).toArray):=by show((items.toList.drop (dr items.size 0 lo)).take (dr items.size items.size hi-dr items.size 0 lo)).toArray.size<=bI;rw[jI,mE,FK,CH];lia
 obtain⟨os,QL,Au,TJ⟩:=id hs;have hTs:s.TypeIs (.ref sl) "slice" := ⟨os,QL,Au⟩
 unfold getItem;try with_reducible refine vT ?_
 first|refine ax (bE ?_)|skip
 refine ax (wpAny_sequenceKey ht.typeIs (by decide) ?_);refine ax (P8 ht.typeIs PyProof.Rows.slot_tuple_getitem (B9 PyProof.Rows.slot_tuple_getitem ht.typeIs entry_tuple_getitem ?_ (args_tuple_getitem _ _)))
 show bG _ _ (Builtin.Tuple.tupleItemsOf (.ref t) >>= _) _ _ s;refine ax (tupleItemsOf_ ht ?_);refine ax (wpAny_typeOf hTs ?_);refine ax (gd' hs pl pu ?_);have GV:¬ ((((dr items.size 0 lo:Nat):Int) == 0 && (1:Int) == 1 && (dr items.size items.size hi-dr items.size 0 lo) == items.size)=true):=by intro q;rw[n5,n5] at q;have q1:((dr items.size 0 lo:Nat):Int)=0:=eq_of_beq q.1.1;have q2:dr items.size items.size hi-dr items.size 0 lo=items.size:=eq_of_beq q.2;exact hw ⟨by lia,by lia⟩
 show bG _ _ (if (((dr items.size 0 lo:Nat):Int) == 0 && 1 == 1 && (dr items.size items.size hi-dr items.size 0 lo) == items.size)=true then _ else _) _ _ s;rw[if_neg GV,ge'];first
  |exact ax (sQ (bE ⟨_,rfl,bE h⟩) TK)
  |exact ax (sQ (ax (bE (bE ⟨_,rfl,bE h⟩))) TK)
  |exact ax (ax (sQ (bE (bE ⟨_,rfl,bE h⟩)) TK))
  |exact ax (ax (sQ (bE ⟨_,rfl,bE h⟩) TK))
end
end HT
section
open PySem PySem.Spec PyProof.Rows
namespace L2
abbrev TO:=St->Hp->(Option Int->Hp->Prop)->Prop
def PO(X:Cx)(e:Option Expr)(t:TO):Prop :=
 ∀ (pins:List (ai × Obj)) (s:ay) (σ:St) (H:Hp) (Q:Option Int->Hp->Prop),Inv X pins σ H s->t σ H Q ->
  bG (aI X.prog X.w) X.A (evalPart e X.env) (λu s'=>∃ o H',Inv X pins σ H' s'/\IsPart u o/\Q o H') X.xe s
def gh':TO:=λ_ H Q=>Q none H
def gi'(t:TE):TO:=λσ H Q=>t σ H λx H1=>∃ i,x=.int i/\Q (some i) H1
section
variable {X:Cx}{e:Expr}{te:TE}{lo hi:Option Expr}{tl th:TO}{pos p2:Pos}
def gj':PO X none gh':=by intro pins s σ H Q I h;exact bE ⟨none,H,I,.none,h⟩
def gk'(h:PE X e te):PO X (some e) (gi' te):=by intro pins s σ H Q I hw;refine dQ (h pins s σ H _ I hw) λu s1 dS=>L2.hG dS λx H1 I1 r1 q1=>?_;obtain⟨i,rfl,q⟩:=q1;obtain⟨t,rfl⟩:=r1;exact⟨some i,H1,I1,.int i t,q⟩
def OO(X:Cx)(r:V->Option Int->Option Int->Hp->VK->Prop):Prop :=
 ∀ (pins:List (ai × Obj)) (s:ay) (σ:St) (H:Hp) (x:V) (v vl vu:ae) (lo hi:Option Int) (sl:ai) (Q:VK),Inv X pins σ H s->RelV x v->s.heap.IsSliceOf sl vl vu .none->IsPart vl lo->IsPart vu hi->r x lo hi H Q ->
  ∃ T id,typeLookup (.type T) "__getitem__" = pure (some (.builtin id))/\s.TypeIs v T/\bG (aI X.prog X.w) X.A (getItem v (.ref sl)) (EP X pins σ Q) X.xe s
def tSl(r:V->Option Int->Option Int->Hp->VK->Prop)(te:TE)(tl th:TO):TE:=λσ H Q=>te σ H λx H1=>tl σ H1 λl H2=>th σ H2 λu H3=>r x l u H3 Q
def gm'(hr:OO X r)(he:PE X e te)(hl:PO X lo tl)(hu:PO X hi th):PE X (.Subscript e (.Slice lo hi none p2) pos) (tSl r te tl th):=by intro pins s σ H Q I h;refine Subscript_ (dQ (he pins s σ H _ I h) λv s1 dS=>L2.hG dS λx H1 I1 r1 q1=>?_);refine wpAny_Slice (dQ (hl pins s1 σ H1 _ I1 q1) λvl s2 dS=>L2.hG dS λl H2 I2 pl q2=>dQ (hu pins s2 σ H2 _ I2 q2) λvu s3 dS=>L2.hG dS λu H3 I3 pu q3=>?_);refine bE ?_;have I4:Inv X pins σ H3 { s3 with heap:=s3.heap.push { cls:=.type "slice",data:=.fields #[vl,vu,.none] } }:=I3.kept λb ob q=>gx _ q;obtain⟨T,id,hT,ht,hg⟩:=hr pins { s3 with heap:=s3.heap.push { cls:=.type "slice",data:=.fields #[vl,vu,.none] } } σ H3 x v vl vu l u s3.heap.objs.size Q I4 r1 (Heap.IsSliceOf.new ..) pl pu q3;exact tail_any ht hT hg (by with_unfolding_all rfl)
def K0(xs:List V)(lo hi:Option Int):List V:=(xs.drop (HT.dr xs.length 0 lo)).take (HT.dr xs.length xs.length hi-HT.dr xs.length 0 lo)
def bi'(xs:List V)(lo hi:Option Int):(K0 xs lo hi).length<=xs.length:=by unfold K0;rw[mE,FK];lia
def bj'(K:aE):V->Option Int->Option Int->Hp->VK->Prop:=λx lo hi H Q=>∃ a xs,x=.ref a/\k5 K H a xs /\
 ¬ (HT.dr xs.length 0 lo=0/\HT.dr xs.length xs.length hi=xs.length)/\∀ p,H p=none->Q (.ref p) (upd H p (.tup (K0 xs lo hi)))
def gn':OO X (bj' X.K):=by
 intro pins s σ H x v vl vu lo hi sl Q I rx hs pl pu h;obtain⟨a,xs,rfl,hx,hw,q⟩:=h;cases rx;obtain⟨its,r,ht,hz⟩:=I.tuple hx;have hlen:its.toArray.size=xs.length:=by rw[jI];exact r.length.symm
 refine⟨"tuple",_,PyProof.Rows.slot_tuple_getitem.lookup,ht.typeIs,?_⟩;refine HT.gf' ht hs pl pu (by rw[hlen];exact hw) ?_ (by rw[hlen];exact hz);rw[hlen];refine⟨.ref s.heap.objs.size,_,I.laid (λb ob q=>gx _ q) (c9 _) ?_,rfl,q _ (I.cy.fresh (c9 _))⟩;exact⟨jS (bi' xs lo hi) hz,_,(r.drop (HT.dr xs.length 0 lo)).take (HT.dr xs.length xs.length hi-HT.dr xs.length 0 lo),IsTup.new _ _⟩
def V8(K:aE):R2:=λx y H Q=>∃ a b xs ys,x=.ref a/\y=.ref b/\k5 K H a xs/\k5 K H b ys/\xs≠[]/\xs.length+ys.length<=bI /\ (ys=[]->Q (.ref a) H)/\(ys≠[]->∀ p,H p=none->Q (.ref p) (upd H p (.tup (xs++ys))))
def Vals.V9(r:Vals xs us):us=[]↔xs=[]:=by
 cases r with
 |nil=>simp
 |cons _ _=>simp
def gp':fi X (rX .Add) (V8 X.K):=by intro pins s σ H x y v u Q I rx ry h;obtain⟨a,b,xs,ys,rfl,rfl,ha,hb,hx,hz,q1,q2⟩:=h;cases rx;cases ry;obtain⟨its,r1,p1,_⟩:=I.tuple ha;obtain⟨GW,r2,p2,_⟩:=I.tuple hb;refine HT.ga' p1 p2 (λz=>hx (r1.V9.mp z)) (λz=>⟨.ref a,H,I,rfl,q1 (r2.V9.mp z)⟩) (λz=>?_) (by rw[<- r1.length,<- r2.length];exact hz);refine⟨.ref s.heap.objs.size,_,I.laid (λb ob q=>gx _ q) (c9 _) ?_,rfl,q2 (λw=>z (r2.V9.mpr w)) _ (I.cy.fresh (c9 _))⟩;exact⟨by rw[i6];exact hz,_,r1.append r2,IsTup.new _ _⟩
end
def oS(n:Nat)(i:Int):Option Nat:=if 0<=i then (if i<n then some i.toNat else none) else if -(n:Int)<=i then some (i+n).toNat else none
def gi{α:Type}(xs:List α)(i:Int):Option α:=(oS xs.length i).bind λj=>xs[j]?
def gq'(h:oS n i=some j):seqIndex? i n=some j/\j<n/\-(n:Int)<=i/\i<n:=by
 unfold oS at h;by_cases h0:0<=i
 ·rw[if_pos h0] at h;by_cases h1:i<n
  ·rw[if_pos h1] at h;have e:i.toNat=j:=Option.some.inj h;exact⟨by rw[seqIndex_of h0 h1,e],by lia,by lia,h1⟩
  ·rw[if_neg h1] at h;cases h
 ·rw[if_neg h0] at h;by_cases h1:-n<=i
  ·rw[if_pos h1] at h;have e:(i+n).toNat=j:=Option.some.inj h;exact⟨by rw[seqIndex_neg (by lia) h1,e],by lia,h1,by lia⟩
  ·rw[if_neg h1] at h;cases h
def V_{α:Type}{xs:List α}{i:Int}{v:α}(h:gi xs i=some v):∃ j,seqIndex? i xs.length=some j/\xs[j]? = some v/\j<xs.length/\-(xs.length:Int)<=i/\i<xs.length:=by
 unfold gi at h
 cases e:oS xs.length i with
 |none=>rw[e] at h;cases h
 |some j =>rw[e] at h;obtain⟨h1,h2,h3,h4⟩:=gq' e;exact⟨j,h1,h,h2,h3,h4⟩
def GY{α:Type}{xs:List α}{j:Nat}{v:α}(h:xs[j]? = some v):gi xs (j:Int)=some v:=by
 have hj:j<xs.length:=(iF.mp h).1;have e:oS xs.length j=some j:=by unfold oS;rw[if_pos (by lia),if_pos (by lia)];simp
 unfold gi;rw[e];exact h
def gr'{α:Type}(xs:List α)(v:α):gi (xs++[v]) (-1)=some v:=by
 have hl:(xs++[v]).length=xs.length+1:=by simp
 have e:oS (xs++[v]).length (-1)=some xs.length:=by unfold oS;rw[hl,if_neg (by decide),if_pos (by lia)];congr 1;lia
 unfold gi;rw[e];simp
def TL(b:Expr):Prop:=∀ o i,subscripted b false o i=operate [o,i] (getItem o i)
def x6(X:Cx)(r:R2):Prop :=
 ∀ (value slice:Expr) (pins:List (ai × Obj)) (s:ay) (σ:St) (H:Hp) (x y:V) (v u:ae) (Q:VK),Inv X pins σ H s->RelV x v->RelV y u->r x y H Q ->
  subscripted slice false v u=operate [v,u] (getItem v u)->bG (aI X.prog X.w) X.A (subscriptTail value slice v u) (EP X pins σ Q) X.xe s
def Wa(X:Cx)(id:String)(r:V->List V->Hp->VK->Prop):Prop :=
 ∀ (pins:List (ai × Obj)) (s:ay) (σ:St) (H:Hp) (x:V) (xs:List V) (v:ae) (us:List ae) (Q:VK),Inv X pins σ H s->RelV x v->Vals xs us->r x xs H Q ->
  bG (aI X.prog X.w) X.A (call (.builtin id) (v :: us)) (EP X pins σ Q) X.xe s
section
variable {X:Cx}{a b:Expr}{ta tb:TE}{pos:Pos}
def x6.or(h:x6 X r)(h':x6 X r'):x6 X (λx y H Q=>r x y H Q\/r' x y H Q):=by
 intro value slice pins s σ H x y v u Q I rx ry q hs;rcases q with q|q
 ·exact h value slice pins s σ H x y v u Q I rx ry q hs
 ·exact h' value slice pins s σ H x y v u Q I rx ry q hs
def Wb{r:R2}(hr:x6 X r)(ha:PE X a ta)(hb:PE X b tb)(hs:TL b):PE X (.Subscript a b pos) (QD r ta tb):=by intro pins s σ H Q I h;exact Subscript_ (VS ha hb I h λv u s2 x y H2 I2 rx ry q=>hr a b pins s2 σ H2 x y v u Q I2 rx ry q (hs _ _))
def bk'(K:aE):R2:=λx y H Q=>∃ p xs i v,x=.ref p/\y=.int i/\gd K H p xs/\gi xs i=some v/\Q v H
def bl'(K:aE):R2:=λx y H Q=>∃ p xs i v,x=.ref p/\y=.int i/\k5 K H p xs/\gi xs i=some v/\Q v H
def bm':R2:=λx y H Q=>∃ z i c,x=.str z/\y=.int i/\z.length<=bI/\gi z.cps.toList i=some c/\Q (.str ⟨#[c]⟩) H
def gs':x6 X (bk' X.K):=by
 intro value slice pins s σ H x y v u Q I rx ry h hs;obtain⟨p,xs,i,z,rfl,rfl,hq,he,q⟩:=h;cases rx;obtain⟨t,rfl⟩:=ry;obtain⟨its,r,pl,hz⟩:=I.list hq;obtain⟨j,h1,h2,h3,h4,h5⟩:=V_ he;obtain⟨w,ew,mN⟩:=r.get h2;have hl:=r.length;have hn:=V0;have fin:EP X pins σ Q w s:=⟨z,H,I,mN,q⟩
 by_cases h0:0<=i
 ·have hj:i.toNat=j:=by rw[seqIndex_of h0 h5] at h1;exact Option.some.inj h1
  exact item_listR pl.isList h0 (by lia) (by rw[hj];simpa using ew) fin hs
 ·have hj:(i+its.toArray.size).toNat=j:=by rw[seqIndex_neg (by lia) h4] at h1;rw[jI,<- hl];exact Option.some.inj h1
  exact subscriptTail_builtinR pl.isList.typeIs slot_list_getitem.lookup (wpAny_getItem_list_neg pl.isList (by lia) (by rw[jI]<;>lia) (by lia) (by rw[hj];simpa using ew) ⟨rfl,fin⟩) hs
def gt':x6 X (bl' X.K):=by
 intro value slice pins s σ H x y v u Q I rx ry h hs;obtain⟨p,xs,i,z,rfl,rfl,hq,he,q⟩:=h;cases rx;obtain⟨t,rfl⟩:=ry;obtain⟨its,r,pl,hz⟩:=I.tuple hq;obtain⟨j,h1,h2,h3,h4,h5⟩:=V_ he;obtain⟨w,ew,mN⟩:=r.get h2;have hl:=r.length;have hn:=V0;have fin:EP X pins σ Q w s:=⟨z,H,I,mN,q⟩
 exact subscriptTail_builtinR pl.typeIs slot_tuple_getitem.lookup (getItem_tuple pl (by lia) (by lia) (by rw[jI,<- hl];exact h1) (by simpa using ew) ⟨rfl,fin⟩) hs
def gu':x6 X bm':=by
 intro value slice pins s σ H x y v u Q I rx ry h hs;obtain⟨z,i,c,rfl,rfl,hz,he,q⟩:=h;obtain⟨t,rfl⟩:=rx;obtain⟨t',rfl⟩:=ry;obtain⟨j,h1,h2,h3,h4,h5⟩:=V_ he;have hl:z.cps.toList.length=z.length:=by simp[Str.length]
 rw[hl] at h1 h4 h5;have hn:=V0;exact tail_any (typeIs_str s z t) slot_str_getitem.lookup (getItem_str (by
  have e1:decide (i < -(2 ^ 63:Int))=false:=decide_eq_false (by lia);have e2:decide (i >= 2 ^ 63)=false:=decide_eq_false (by lia);rw[e1,e2,Bool.or_false]) (by rw[h1];simpa using h2) ⟨.str ⟨#[c]⟩,H,I.tok _,⟨_,rfl⟩,q⟩) hs
def rIx(K:aE):R2:=λx y H Q=>bk' K x y H Q\/bl' K x y H Q\/bm' x y H Q
def gw':x6 X (rIx X.K):=gs'.or (gt'.or gu')
def gx'(lo hi:Option Int)(n:Nat):(IU lo hi none n).1=((HT.dr n 0 lo:Nat):Int)/\(IU lo hi none n).2.1=((HT.dr n n hi:Nat):Int)/\(IU lo hi none n).2.2=1:=by
 refine⟨?_,?_,rfl⟩
 ·cases lo with
  |none=>simp[IU,HT.dr]
  |some i =>
   simp only[IU,HT.dr,VA,show 1>0 by decide,if_true];by_cases h:i<0
   ·simp only[h,if_true]<;>lia
   ·simp only[h,if_false]<;>lia
 ·cases hi with
  |none=>simp[IU,HT.dr]
  |some i =>
   simp only[IU,HT.dr,VA,show 1>0 by decide,if_true];by_cases h:i<0
   ·simp only[h,if_true]<;>lia
   ·simp only[h,if_false]<;>lia
def gy'(its:List ae)(lo hi:Option Int):slicePick its.toArray lo hi none=((its.drop (HT.dr its.length 0 lo)).take (HT.dr its.length its.length hi-HT.dr its.length 0 lo)).toArray:=by obtain⟨h1,h2,h3⟩:=gx' lo hi its.toArray.size;unfold slicePick;rw[h1,h2,h3];simp only[sliceRange_one,pick_run,jI]<;>rfl
def gz'(K:aE):V->Option Int->Option Int->Hp->VK->Prop:=λx lo hi H Q=>∃ a xs,x=.ref a/\gd K H a xs/\∀ p,H p=none->Q (.ref p) (upd H p (.lst (K0 xs lo hi)))
def gA':OO X (gz' X.K):=by intro pins s σ H x v vl vu lo hi sl Q I rx hs pl pu h;obtain⟨a,xs,rfl,hx,q⟩:=h;cases rx;obtain⟨its,r,ht,hz⟩:=I.list hx;have hlen:=r.length;refine⟨"list",_,slot_list_getitem.lookup,ht.isList.typeIs,?_⟩;refine wpAny_getItem_list_slice ht.isList hs pl pu .none (by simp) ?_ (by rw[jI]<;>lia);rw[gy',<- hlen];refine⟨.ref s.heap.objs.size,_,I.laid (λb ob q=>gx _ q) (c9 _) ?_,rfl,q _ (I.cy.fresh (c9 _))⟩;exact⟨jS (bi' xs lo hi) hz,_,0,(r.drop (HT.dr xs.length 0 lo)).take (HT.dr xs.length xs.length hi-HT.dr xs.length 0 lo),kG _ rfl⟩
def Dx:V->Bool
 |.non=>true
 |.bl _=>true
 |.int _=>true
 |.str _=>true
 |_=>false
def EL:V->V->Bool
 |.non,.non=>true
 |.bl a,.bl b=>a == b
 |.bl a,.int b=>(if a then 1 else 0) == b
 |.int a,.bl b=>a == (if b then 1 else 0)
 |.int a,.int b=>a == b
 |.str a,.str b=>a == b
 |_,_=>false
def gB'(ry:RelV y u)(rx:RelV x v)(fy:Dx y=true)(fx:Dx x=true):SeqAt.EqAt A s u v (EL y x):=by
 cases y with
 |non =>
  cases ry
  cases x with
  |non=>cases rx;exact SeqAt.EqAt.same _
  |bl b=>cases rx;exact SeqAt.EqAt.none_bool b
  |int b=>obtain⟨t,rfl⟩:=rx;exact SeqAt.EqAt.none_int b t
  |str b=>obtain⟨t,rfl⟩:=rx;exact SeqAt.EqAt.none_str b t
  |_=>exact absurd (fx) kH
 |bl a =>
  cases ry
  cases x with
  |non=>cases rx;exact SeqAt.EqAt.bool_none a
  |bl b=>cases rx;exact SeqAt.EqAt.bool_bool a b
  |int b=>obtain⟨t,rfl⟩:=rx;exact SeqAt.EqAt.bool_int a b t
  |str b=>obtain⟨t,rfl⟩:=rx;exact SeqAt.EqAt.bool_str a b t
  |_=>exact absurd (fx) kH
 |int a =>
  obtain⟨t',rfl⟩:=ry
  cases x with
  |non=>cases rx;exact SeqAt.EqAt.int_none a t'
  |bl b=>cases rx;exact SeqAt.EqAt.int_bool a t' b
  |int b=>obtain⟨t,rfl⟩:=rx;exact SeqAt.EqAt.int_int a t' b t
  |str b=>obtain⟨t,rfl⟩:=rx;exact SeqAt.EqAt.int_str a t' b t
  |_=>exact absurd (fx) kH
 |str a =>
  obtain⟨t',rfl⟩:=ry
  cases x with
  |non=>cases rx;exact SeqAt.EqAt.str_none a t'
  |bl b=>cases rx;exact SeqAt.EqAt.str_bool a t' b
  |int b=>obtain⟨t,rfl⟩:=rx;exact SeqAt.EqAt.str_int a t' b t
  |str b=>obtain⟨t,rfl⟩:=rx;exact SeqAt.EqAt.str_str a t' b t
  |_=>exact absurd (fx) kH
 |_=>exact absurd (fy) kH
def vk(x:V)(u:ae):Bool:=match u with
 |.none=>EL .non x
 |.bool b=>EL (.bl b) x
 |.int i _=>EL (.int i) x
 |.str z _=>EL (.str z) x
 |_=>false
def bn'(r:RelV y u)(f:Dx y=true):vk x u=EL y x:=by
 cases y with
 |non=>cases r;rfl
 |bl b=>cases r;rfl
 |int i=>obtain⟨t,rfl⟩:=r;rfl
 |str z=>obtain⟨t,rfl⟩:=r;rfl
 |_=>exact absurd (f) kH
theorem QN:∀ {xs:List V} {us:List ae},Vals xs us->xs.all Dx=true->us.any (vk x)=xs.any λy=>EL y x
 |_,_,.nil,_=>rfl
 |y :: xs,u :: us,.cons r t,f=>by rw[ED,n5] at f;rw[CC,CC,bn' r f.1,QN t f.2]
theorem QQ(rx:RelV x v)(fx:Dx x=true):∀ {xs:List V} {us:List ae},Vals xs us->xs.all Dx=true->∀ u∈us,SeqAt.EqAt A s u v (vk x u)
 |_,_,.nil,_=>λu hu=>by cases hu
 |y :: xs,u :: us,.cons r t,f=>λu' hu=>by
  rw[ED,n5] at f;rcases eK.mp hu with rfl|hu
  ·rw[bn' r f.1];exact gB' r rx f.1 fx
  ·exact QQ rx fx t f.2 u' hu
def TN(x:V)(xs:List V):Bool:=xs.any λy=>EL y x
def QR(K:aE)(neg:Bool):R2:=λx y H Q=>∃ p xs,y=.ref p/\(gd K H p xs\/k5 K H p xs)/\Dx x=true/\xs.all Dx=true/\Q (.bl (if neg then !TN x xs else TN x xs)) H
def gC':fi X (iE .In) (QR X.K false):=by
 walk_at"b";obtain⟨p,xs,rfl,hq,fx,fs,q⟩:=h;cases ry;rcases hq with hq|hq
 ·obtain⟨its,r,pl,hz⟩:=I.list hq;refine SeqAt.in_listAt (vk x) pl.isList (λw hw=>QQ rx fx r fs w (by simpa using hw)) ⟨.bl _,H,I,rfl,?_⟩;rw[show its.toArray.any (vk x)=its.any (vk x) by simp,QN r fs];exact q
 ·obtain⟨its,r,pl,hz⟩:=I.tuple hq;refine SeqAt.in_tupleAt (vk x) pl (λw hw=>QQ rx fx r fs w (by simpa using hw)) ⟨.bl _,H,I,rfl,?_⟩;rw[show its.toArray.any (vk x)=its.any (vk x) by simp,QN r fs];exact q
def gD':fi X (iE .NotIn) (QR X.K true):=by
 walk_at"b";obtain⟨p,xs,rfl,hq,fx,fs,q⟩:=h;cases ry;rcases hq with hq|hq
 ·obtain⟨its,r,pl,hz⟩:=I.list hq;refine SeqAt.notIn_listAt (vk x) pl.isList (λw hw=>QQ rx fx r fs w (by simpa using hw)) ⟨.bl _,H,I,rfl,?_⟩;rw[show its.toArray.any (vk x)=its.any (vk x) by simp,QN r fs];exact q
 ·obtain⟨its,r,pl,hz⟩:=I.tuple hq;refine SeqAt.notIn_tupleAt (vk x) pl (λw hw=>QQ rx fx r fs w (by simpa using hw)) ⟨.bl _,H,I,rfl,?_⟩;rw[show its.toArray.any (vk x)=its.any (vk x) by simp,QN r fs];exact q
def kL.or(h:kL X f r)(h':kL X f r'):kL X f (λxs H Q=>r xs H Q\/r' xs H Q):=by
 intro pins s σ H xs us Q I rs q;rcases q with q|q
 ·exact h pins s σ H xs us Q I rs q
 ·exact h' pins s σ H xs us Q I rs q
def gE':kL X (.type "list") (λxs H Q=>∃ p ys,xs=[.ref p]/\(gd X.K H p ys\/k5 X.K H p ys)/\∀ l,H l=none->Q (.ref l) (upd H l (.lst ys))):=by
 walk_at"f";obtain⟨p,ys,rfl,hq,q⟩:=h;obtain⟨u,rfl,rx⟩:=vals1 r;cases rx;have fin:∀ its,Vals ys its->ys.length<=bI->∀ h' c',(∀ b o',s.heap.get? b=some o'->h'.get? b=some o') ->
   h'.get? s.heap.objs.size=some { cls:=.type "list",dict:=none,data:=.seq its.toArray c',slots:=#[] }->EP X pins σ Q (.ref s.heap.objs.size) { s with heap:=h' }:=λits r' hz h' c' kp e =>
  ⟨.ref s.heap.objs.size,_,I.laid kp (c9 _) (show lI X.prog X.w _ h' _ (.lst ys) from⟨hz,its,c',r',e⟩),rfl,q _ (I.cy.fresh (c9 _))⟩
 rcases hq with hq|hq
 ·obtain⟨its,r',pl,hz⟩:=I.list hq;have hlen:=r'.length;obtain⟨o,ho,hc,n,hd⟩:=pl.isList;exact call_list_seq p (.inl rfl) ho hc hd (λh' c' kp e=>fin its r' hz h' c' kp e) (by simp only[jI]<;>lia)
 ·obtain⟨its,r',pl,hz⟩:=I.tuple hq;have hlen:=r'.length;obtain⟨o,ho,hc,n,hd⟩:=pl;exact call_list_seq p (.inr rfl) ho hc hd (λh' c' kp e=>fin its r' hz h' c' kp e) (by simp only[jI]<;>lia)
def Wc(K:aE)(T:String)(x:V)(H:Hp):Prop:=match x with
 |.str _=>T = "str"
 |.int _=>T = "int"
 |.ref p=>(T = "list"/\∃ xs,gd K H p xs)\/(T = "tuple"/\∃ o,K.lookup p=some o/\o.cls=.type "tuple"/\o.dict=none) \/
   (T = "dict"/\((∃ kvs,H p=some (.dK kvs))\/∃ kvs,H p=some (.dT kvs)))\/(T = "set"/\∃ S n,H p=some (.set S n))
 |_=>False
def bo'{T:String}(I:Inv X pins σ H s)(r:RelV x v)(ty:Wc X.K T x H) :
  s.TypeIs v T/\∀ a,v=.ref a->∃ ob,s.heap.get? a=some ob/\ob.dict=none:=by
 cases x with
 |str z =>obtain⟨t,rfl⟩:=r;cases (ty);exact⟨typeIs_str s z t,λ_ e=>nomatch e⟩
 |int i =>obtain⟨t,rfl⟩:=r;cases (ty);exact⟨typeIs_int s i t,λ_ e=>nomatch e⟩
 |ref p =>
  cases r;rcases ty with⟨rfl,xs,hq⟩|⟨rfl,o,hk,hc,hd⟩|⟨rfl,hk⟩|⟨rfl,S,n,hk⟩
  ·obtain⟨its,_,pl,_⟩:=I.list hq;refine⟨pl.isList.typeIs,λa e=>?_⟩;cases e;obtain⟨o,n,e,c,hd,_⟩:=pl;exact⟨o,e,hd⟩
  ·refine⟨⟨o,I.lS p o hk,hc⟩,λa e=>?_⟩;cases e;exact⟨o,I.lS _ o hk,hd⟩
  ·have z:∃ o,s.heap.get? p=some o/\o.ExactDict:=by
    rcases hk with⟨kvs,hk⟩|⟨kvs,hk⟩
    ·obtain⟨_,_,_,_,o,_,_,e,ex,_⟩:=I.cy p _ hk;exact⟨o,e,ex⟩
    ·obtain⟨_,_,_,_,o,_,_,e,ex,_⟩:=I.cy p _ hk;exact⟨o,e,ex⟩
   obtain⟨o,e,ex⟩:=z;refine⟨⟨o,e,ex.1⟩,λa e2=>?_⟩;cases e2;exact⟨o,e,ex.2.1⟩
  ·obtain⟨o,_,_,_,e,ex,_⟩:=I.cy p _ hk;refine⟨⟨o,e,ex.1⟩,λa e2=>?_⟩;cases e2;exact⟨o,e,ex.2.1⟩
 |_=>exact False.elim ty
def gF'(K:aE)(T:String)(r:V->List V->Hp->VK->Prop)(to:TE):TE:=λσ H Q=>to σ H λx H1=>Wc K T x H1/\r x [] H1 Q
def tBM(K:aE)(T:String)(r:V->List V->Hp->VK->Prop)(to:TE)(t:TA):TE:=λσ H Q=>to σ H λx H1=>Wc K T x H1/\t σ H1 λxs H2=>r x xs H2 Q
variable {o e:Expr}{es:List Expr}{to:TE}{t:TA}{name:Str}{apos fm:Pos}{T id:String}{r:V->List V->Hp->VK->Prop}
def gH' (pa:PlainAttrs T) (slot:Slot T name id) (G0:typeOf (.builtin id)=pure (.type "method_descriptor")) (hm:Wa X id r) (ho:PE X o to)(A9:autoParam (EA o name X.env (eI o X.env)=eI o X.env) bv) (hline:autoParam ((apos.endLine == fm.line)=true) bv):PE X (.Call (.Attribute o name apos) [] [] fm) (gF' X.K T r to):=by
 intro pins s σ H Q I h;refine wpAny_Call_method0_late A9 hline (dQ (ho pins s σ H _ I h) λv s1 eP=>?_);obtain⟨x,H1,I1,r1,ty,q1⟩:=eP;obtain⟨h1,h2⟩:=bo' I1 r1 ty;exact⟨T,id,pa,slot,G0,h1,h2,Calls.callWith_builtin rfl (PySem.evalArgs_none (hm pins s1 σ H1 x [] v [] Q I1 r1 .nil q1))⟩
def TQ (pa:PlainAttrs T) (slot:Slot T name id) (G0:typeOf (.builtin id)=pure (.type "method_descriptor")) (hm:Wa X id r) (ho:PE X o to) (ha:PA X (e :: es) t)(A9:autoParam (EA o name X.env (eI o X.env)=eI o X.env) bv) (Bi:autoParam (((ny fm (df (e :: es) X.env)).all (λx=>!x.1) && (backToKw fm (IX [] X.env)).all (λx=>x.1.isSome)
   && decide ((e :: es).length+([]:List wc).length+(if ([]:List wc).isEmpty then 0 else 1)<30))=true) bv)
  (hline:autoParam ((apos.endLine == fm.line)=true) bv) (hs:autoParam (df (e :: es) X.env=(false,eI e X.env) :: df es X.env) bv) (Lc:autoParam ((ny fm (df es X.env)).any (·.1)=false) bv) :
  PE X (.Call (.Attribute o name apos) (e :: es) [] fm) (tBM X.K T r to t):=by
 intro pins s σ H Q I h;refine wpAny_Call_method_late A9 Bi hline rfl (dQ (ho pins s σ H _ I h) λv s1 eP=>?_);obtain⟨x,H1,I1,r1,ty,q1⟩:=eP;obtain⟨h1,h2⟩:=bo' I1 r1 ty;refine⟨T,id,pa,slot,G0,h1,h2,?_⟩;have hA:=ha fm pins s1 σ H1 _ I1 q1;rw[hs] at hA ⊢;refine Calls.callWith_builtin (by show(false || (ny fm (df es X.env)).any (·.1))=false;rw[Lc]<;>rfl) (Calls.evalArgs_plain ?_);exact dQ hA λus s2 dS=>L2.hG dS λvs H2 I2 r2 q2=>hm pins s2 σ H2 x vs v us Q I2 r1 r2 q2
end
def Wd(X:Cx)(id:String)(r:V->List V->Hp->VK->Prop):Prop :=
 ∀ (pins:List (ai × Obj)) (s:ay) (σ:St) (H:Hp) (x:V) (xs:List V) (v:ae) (us:List ae) (Q:VK),Inv X pins σ H s->RelV x v->Vals xs us->r x xs H Q ->
  bG (aI X.prog X.w) X.A (call (.builtin id) (v :: us)) (EP X pins σ Q) X.xe s
def Vals.one{x:V}{us:List ae}(h:Vals [x] us):∃ u,us=[u]/\RelV x u:=by cases h;rename_i r h;cases h;exact⟨_,rfl,‹_›⟩
def Vals.two{x y:V}{us:List ae}(h:Vals [x,y] us):∃ u v,us=[u,v]/\RelV x u/\RelV y v:=by cases h;rename_i r h;cases h;rename_i q h;cases h;exact⟨_,_,rfl,‹_›,‹_›⟩
theorem Vals.zero:∀ {us:List ae},Vals [] us->us=[]
 |_,.nil=>rfl
def Vals.dropLast(h:Vals xs us):Vals xs.dropLast us.dropLast:=by
 induction h with
 |nil=>exact .nil
 |cons r t ih =>
  cases t with
  |nil=>exact .nil
  |cons q t'=>exact .cons r ih
def gI'{α:Type}(l:List α):l.eraseIdx (l.length-1)=l.dropLast:=by
 induction l with
 |nil=>rfl
 |cons a r ih =>
  cases r with
  |nil=>rfl
  |cons b r =>
   have e:(a :: b :: r).length-1=((b :: r).length-1)+1:=by have h1:(a :: b :: r).length=r.length+2:=rfl;have h2:(b :: r).length=r.length+1:=rfl;lia
   rw[e,List.eraseIdx_cons_succ,ih];all_goals rfl
section
variable {X:Cx}{pins:List (ai × Obj)}{σ:St}{H:Hp}{s:ay}{l:ai}{xs ys:List V}
def Inv.TR{its KL:List ae}{n:Nat}{f:Array ae->Array ae}{t':Nat}(I:Inv X pins σ H s)(hH:H l=some (.lst xs))(e:s.heap.get? l=some { cls:=.type "list",data:=.seq its.toArray n }) (hf:f its.toArray=KL.toArray) (hv:Vals ys KL) (hz:ys.length<=bI) :
  Inv X pins σ (upd H l (.lst ys)) { s with heap:=s.heap.update l (Obj.mapSeq f),toks:=t' }:=by
 have q:=PySem.IsL.update e f;rw[hf] at q;refine I.write (by rw[hH];exact trivial) (.inl rfl) (λb' u hb hu=>(Qj s.heap (Obj.mapSeq f) (Ne.symm hb)).trans hu) ⟨_,q⟩ ?_;exact⟨hz,KL,_,hv,q⟩
def Inv.Wg(I:Inv X pins σ H s)(hv:Vals ys its)(hz:ys.length<=bI) :
  Inv X pins σ (upd H s.heap.objs.size (.lst ys)) { s with heap:=s.heap.push { cls:=.type "list",data:=.seq its.toArray },toks:=t' } :=
 I.laid (λ_ _ q=>gx _ q) (c9 _) ⟨hz,its,0,hv,kG _ rfl⟩
def Inv.fresh(I:Inv X pins σ H s):H s.heap.objs.size=none:=I.cy.fresh (c9 _)
def Inv.QV (I:Inv X pins σ H s) (hH:H l=some (.lst xs)):xs.length<=bI/\∃ (its:List ae) (n:Nat),Vals xs its/\xs.length=its.length/\s.heap.get? l=some { cls:=.type "list",data:=.seq its.toArray n }:=by obtain⟨z,its,n,r,e⟩:=I.cy l _ hH;exact⟨z,its,n,r,r.length,e⟩
def gJ'(h:n<=bI):Builtin.List.listTooLong n=false:=by exact decide_eq_false (by lia)
end
section
variable {X:Cx}
def gK':V->List V->Hp->VK->Prop:=λx vs H Q=>∃ l xs y,x=.ref l/\vs=[y]/\H l=some (.lst xs)/\xs.length<bI/\Q .non (upd H l (.lst (xs++[y])))
def Wh:Wd X "list.append" gK':=by intro pins s σ H x vs v us Q I rx rv h;obtain⟨l,xs,y,rfl,rfl,hH,hz,q⟩:=h;cases rx;obtain⟨u,rfl,ru⟩:=rv.one;obtain⟨z,its,n,r,hl,e⟩:=I.QV hH;refine call_meets F.slot_list_append ⟨_,e,rfl⟩ F.entry_list_append (F.args_list_append_2 _ _) (PySem.list_append l its.toArray n u (by rw[jI];lia)) ⟨e,?_⟩;refine⟨.non,_,I.TR hH e (by simp) (r.append (.cons ru .nil)) ?_,rfl,q⟩;rw[i6,FG];lia
def gL':V->List V->Hp->VK->Prop:=λx vs H Q=>∃ l b xs zs,x=.ref l/\vs=[.ref b]/\H l=some (.lst xs)/\H b=some (.lst zs)/\xs.length+zs.length<=bI/\Q .non (upd H l (.lst (xs++zs)))
def gM':Wd X "list.extend" gL':=by
 intro pins s σ H x vs v us Q I rx rv h;obtain⟨l,b,xs,zs,rfl,rfl,hH,hB,hz,q⟩:=h;cases rx;obtain⟨u,rfl,ru⟩:=rv.one;cases ru;obtain⟨z,its,n,r,hl,e⟩:=I.QV hH;obtain⟨z2,GW,n2,r2,tq,e2⟩:=I.QV hB;have gL:its.toArray.size+GW.toArray.size<=bI:=by rw[jI,jI];lia
 have gN':¬ (!its.toArray.isEmpty && Builtin.List.listTooLong (its.toArray.size+GW.toArray.size))=true:=by rw[gJ' gL,Bool.and_false];exact kH
 refine call_meets F.slot_list_extend ⟨_,e,rfl⟩ F.entry_list_extend (F.args_list_extend_2 _ _) (AutoSeq1.list_extend_list_list_0 l its.toArray n b GW.toArray n2 gN' (by rw[jI];lia) (by lia)) ⟨e,e2,?_⟩
 refine⟨.non,_,I.TR hH e (by simp) (r.append r2) ?_,rfl,q⟩;rw[i6];lia
def gO':V->List V->Hp->VK->Prop:=λx vs H Q=>∃ l xs y,x=.ref l/\vs=[]/\H l=some (.lst xs)/\xs[xs.length-1]? = some y/\Q y (upd H l (.lst xs.dropLast))
def gP':Wd X "list.pop" gO':=by
 intro pins s σ H x vs v us Q I rx rv h;obtain⟨l,xs,y,rfl,rfl,hH,hy,q⟩:=h;cases rx;have hus:=rv.zero;subst hus;obtain⟨z,its,n,r,hl,e⟩:=I.QV hH;obtain⟨u,hu,ru⟩:=r.get hy;have Wi:its.toArray[its.toArray.size-1]? = some u:=by show its.toArray[its.length-1]? = some u;rw[<- pE,<- hl];exact hu
 refine call_meets F.slot_list_pop ⟨_,e,rfl⟩ F.entry_list_pop (F.args_list_pop_1 _) (MeetsSeq.list_pop_last l its.toArray n u Wi (by rw[jI];lia)) ⟨e,?_⟩;refine⟨y,_,I.TR hH e ?_ r.dropLast ?_,ru,q⟩
 ·show its.toArray.eraseIdxIfInBounds (its.toArray.size-1)=its.dropLast.toArray;rw[jI,List.eraseIdxIfInBounds_toArray,gI']
 ·rw[List.length_dropLast];lia
end
section
set_option maxRecDepth 100000 in
end
section
variable {κ:Type}[DecidableEq κ]
def mP(kvs:List (κ × V))(k:κ):Option V:=(kvs.find? λkv=>decide (kv.1=k)).map (·.2)
def putK(kvs:List (κ × V))(k:κ)(v:V):List (κ × V) :=
 if (kvs.any λkv=>decide (kv.1=k))=true then kvs.map (λkv=>if kv.1=k then (kv.1,v) else kv) else kvs++[(k,v)]
def mV'(kvs:List (κ × V))(k:κ):List (κ × V):=kvs.filter λkv=>decide (kv.1≠k)
def TV{p:κ × V}{r:List (κ × V)}{k:κ}(e:p.1=k):mP (p :: r) k=some p.2:=by simp[mP,NF,e]
def TX{p:κ × V}{r:List (κ × V)}{k:κ}(e:¬ p.1=k):mP (p :: r) k=mP r k:=by simp[mP,NF,e]
theorem bp'(k:κ):∀ kvs:List (κ × V),(kvs.any λkv=>decide (kv.1=k))=(mP kvs k).isSome
 |[]=>rfl
 |p :: r=>by
  rw[CC];by_cases e:p.1=k
  ·simp only[TV e,decide_eq_true e,Bool.true_or,Option.isSome_some]
  ·rw[TX e,decide_eq_false e,Bool.false_or];exact bp' k r
def TY(kvs:List (κ × V))(k:κ)(v:V):(putK kvs k v).length<=kvs.length+1:=by
 unfold putK;split
 ·rw[cx];exact Nat.le_add_right _ _
 ·rw[i6,qh,SW];exact c9 _
def x5.QX(r:x5 o u):o.isSome=u.isSome:=by
 cases o with
 |none=>cases u with
  |none=>rfl
  |some _=>exact(r).elim
 |some _=>cases u with
  |none=>exact(r).elim
  |some _=>rfl
def x5.getD(r:x5 o u)(rd:RelV d d'):RelV (o.getD d) (u.getD d'):=by
 cases o with
 |none=>cases u with
  |none=>exact rd
  |some _=>exact(r).elim
 |some _=>cases u with
  |none=>exact(r).elim
  |some _=>exact r
def KV.val{kvs:List (κ × V)}{vs:List (κ × ae)}(r:KV kvs vs)(k:κ):x5 (mP kvs k) (valueAt vs k):=by
 induction r with
 |nil=>exact True.intro
 |@cons p q ps qs h t ih =>
  obtain⟨h1,h2⟩:=h;by_cases e:p.1=k
  ·have e':q.1=k:=h1.symm.trans e;have b:valueAt (q :: qs) k=some q.2:=by simp[valueAt,NF,e']
   rw[TV e,b];exact h2
  ·have e':¬ q.1=k:=λz=>e (h1.trans z);have b:valueAt (q :: qs) k=valueAt qs k:=by simp[valueAt,NF,e']
   rw[TX e,b];exact ih
def KV.any(r:KV kvs vs)(k:κ):(kvs.any λkv=>decide (kv.1=k))=vs.any λkv=>decide (kv.1=k):=by
 induction r with
 |nil=>rfl
 |cons h t ih=>rw[CC,CC,ih,h.1]
def KV.repl(r:KV kvs vs)(k:κ)(ry:RelV y u) :
  KV (kvs.map λkv=>if kv.1=k then (kv.1,y) else kv) (vs.map λkv=>if kv.1=k then (kv.1,u) else kv):=by
 induction r with
 |nil=>exact .nil
 |@cons p q ps qs h t ih =>
  rw[gS,gS];refine .cons ?_ ih;obtain⟨h1,h2⟩:=h;by_cases e:p.1=k
  ·rw[if_pos e,if_pos (h1.symm.trans e)];exact⟨h1,ry⟩
  ·rw[if_neg e,if_neg (λz=>e (h1.trans z))];exact⟨h1,h2⟩
def KV.put(r:KV kvs vs)(k:κ)(ry:RelV y u):KV (putK kvs k y) (stored vs k u):=by
 unfold putK stored;rw[r.any k];by_cases e:(vs.any λkv=>decide (kv.1=k))=true
 ·rw[if_pos e,if_pos e];exact r.repl k ry
 ·rw[if_neg e,if_neg e];exact Paired.snoc r ⟨rfl,ry⟩
def KV.length(r:KV kvs vs):kvs.length=vs.length:=Paired.length r
end
def ER{P:eL}(r:RelV (kV k) u):(kK P w).is k u=true:=by
 cases k with
 |inl i=>obtain⟨t,e⟩:=(r);subst e;exact dQ' P w i t
 |inr x=>obtain⟨t,e⟩:=(r);subst e;exact dR' P w x t
theorem Wj{P:eL}:∀ {ks:List Key} {us:List ae},Vals (ks.map kV) us->ItemsAre (kK P w) ks us
 |[],_,r=>by rw[Qi] at r;cases r;exact .nil
 |k :: ks,_,r=>by
  cases r with
  |cons h t=>exact .cons (ER h) (Wj t)
abbrev KT(H:Hp):List (List Key × V)->List (List Key × ai × ae)->Prop:=Paired λp q=>p.1=q.1/\H q.2.1=some (.tup (p.1.map kV))/\RelV p.2 q.2.2
def KT.val{H:Hp}{kvs:List (List Key × V)}{xs:List (List Key × ai × ae)}(r:KT H kvs xs)(k:List Key):x5 (mP kvs k) ((atKey xs k).map (·.2)):=by
 induction r with
 |nil=>exact True.intro
 |@cons p q ps qs h t ih =>
  obtain⟨h1,_,h2⟩:=h;by_cases e:p.1=k
  ·have e':q.1=k:=h1.symm.trans e;have b:atKey (q :: qs) k=some q.2:=by simp[atKey,NF,e']
   rw[TV e,b];exact h2
  ·have e':¬ q.1=k:=λz=>e (h1.trans z);have b:atKey (q :: qs) k=atKey qs k:=by simp[atKey,NF,e']
   rw[TX e,b];exact ih
def KT.repl(r:KT H kvs xs)(k:List Key)(ry:RelV y u) :
  KT H (kvs.map λkv=>if kv.1=k then (kv.1,y) else kv) (xs.map (putAt k u)):=by
 induction r with
 |nil=>exact .nil
 |@cons p q ps qs h t ih =>
  rw[gS,gS];refine .cons ?_ ih;obtain⟨h1,h2,h3⟩:=h;unfold putAt;by_cases e:p.1=k
  ·rw[if_pos e,if_pos (h1.symm.trans e)];exact⟨h1,h2,ry⟩
  ·rw[if_neg e,if_neg (λz=>e (h1.trans z))];exact⟨h1,h2,h3⟩
def KT.put(r:KT H kvs xs)(k:List Key)(hb:H b=some (.tup (k.map kV)))(ry:RelV y u) :
  KT H (putK kvs k y) (storedH xs k b u):=by
 have e:(kvs.any λkv=>decide (kv.1=k))=(atKey xs k).isSome:=by rw[bp',(r.val k).QX,Vz]
 unfold putK storedH;rw[e];by_cases q:(atKey xs k).isSome=true
 ·rw[if_pos q,if_pos q];exact r.repl k ry
 ·rw[if_neg q,if_neg q];exact Paired.snoc r ⟨rfl,hb,ry⟩
def KT.keeps(r:KT H kvs xs)(ht:∀ b ys,H b=some (.tup ys)->H' b=some (.tup ys)):KT H' kvs xs :=
 Paired.VG r λ_ _ z=>⟨z.1,ht _ _ z.2.1,z.2.2⟩
section
variable {P:eL}{w:eR}{H:Hp}{h:eh}{a:ai}
def bq'(ok:ku P w H h)(e:Rd H a u):lI P w H h a u:=e.ok ok
def EV(ok:ku P w H h)(e:Rd H a (.dK kvs)):kvs.length<=bI/\(a == v3)=false/\∃ vs,KV kvs vs/\h.DictOf (kK P w) a vs :=
 show lI P w H h a (.dK kvs) from bq' ok e
def Wk(ok:ku P w H h)(e:H a=some (.dK kvs)):kvs.length<=bI/\(a == v3)=false/\∃ vs,KV kvs vs/\h.DictOf (kK P w) a vs:=EV ok (.inl e)
def Lv(ok:ku P w H h)(e:H a=some (.tup (ks.map kV))):(EC (kK P w)).is h ks a:=by
 obtain⟨_,its,r,o,h1,h2,n,h3⟩:=(ok a _ e)
 exact⟨o,its.toArray,n,h1,h2,h3,by simpa using Wj r⟩
def He(ok:ku P w H h)(e:Rd H a (.dT kvs)):kvs.length<=bI/\(a == v3)=false /\
  ∃ xs,KT H kvs xs/\h.DictOfH (EC (kK P w)) a xs:=by
 obtain⟨z,y,xs,r,o,es,ep,h1,h2,h3,h4,h5⟩:=(bq' ok e)
 refine⟨z,y,xs,r,o,es,ep,h1,h2,h3,h4,λx hx=>?_,h5⟩;have all:∀ {l:List (List Key × V)} {m:List (List Key × ai × ae)},KT H l m->∀ x∈m,(EC (kK P w)).is h x.1 x.2.1:=by
  intro l m q
  induction q with
  |nil=>intro x hx;exact nomatch hx
  |@cons p q ps qs hq t ih =>
   intro x hx;rcases eK.mp hx with e|hx
   ·subst e;exact Lv ok (by rw[<- hq.1];exact hq.2.1)
   ·exact ih x hx
 exact all r x hx
def gR'(ok:ku P w H h)(e:H a=some (.dT kvs)):kvs.length<=bI/\(a == v3)=false /\
  ∃ xs,KT H kvs xs/\h.DictOfH (EC (kK P w)) a xs:=He ok (.inl e)
end
def lT(H:Hp)(a:ai)(y:V)(r:Option V):Prop :=
 (∃ kvs k,Rd H a (.dK kvs)/\y=kV k/\r=mP kvs k)\/∃ kvs k b,Rd H a (.dT kvs)/\y=.ref b/\H b=some (.tup (k.map kV))/\r=mP kvs k
def HC(H:Hp)(a:ai)(y v:V)(H':Hp):Prop :=
 (∃ kvs k,H a=some (.dK kvs)/\y=kV k/\kvs.length<bI/\H'=upd H a (.dK (putK kvs k v))) \/
 ∃ kvs k b,H a=some (.dT kvs)/\y=.ref b/\H b=some (.tup (k.map kV))/\kvs.length<bI/\H'=upd H a (.dT (putK kvs k v))
def lT.k{H:Hp}{a:ai}{kvs:List (Key × V)}{k:Key}(e:H a=some (.dK kvs)):lT H a (kV k) (mP kvs k):=.inl ⟨kvs,k,.inl e,rfl,rfl⟩
def lT.t{H:Hp}{a b:ai}{kvs:List (List Key × V)}{k:List Key}(e:H a=some (.dT kvs))(eb:H b=some (.tup (k.map kV))):lT H a (.ref b) (mP kvs k):=.inr ⟨kvs,k,b,.inl e,rfl,eb,rfl⟩
def HC.k{H:Hp}{a:ai}{kvs:List (Key × V)}{k:Key}{v:V}(e:H a=some (.dK kvs))(hl:kvs.length<bI):HC H a (kV k) v (upd H a (.dK (putK kvs k v))):=.inl ⟨kvs,k,e,rfl,hl,rfl⟩
def HC.t{H:Hp}{a b:ai}{kvs:List (List Key × V)}{k:List Key}{v:V}(e:H a=some (.dT kvs))(eb:H b=some (.tup (k.map kV)))(hl:kvs.length<bI) :
  HC H a (.ref b) v (upd H a (.dT (putK kvs k v))):=.inr ⟨kvs,k,b,e,rfl,eb,hl,rfl⟩
section
variable {X:Cx}{pins:List (ai × Obj)}{σ:St}{H:Hp}{s:ay}{a:ai}{y v:V}{u r:ae}{o:Option V}{A:fq}{E:ae->ay->Prop}
def Inv.big(I:Inv X pins σ H s):v3<s.heap.objs.size:=by have h:kc<s.heap.objs.size:=(I.mod.glob.keeps I.bk).lt;exact Vv (by decide) h
def gS'(hu:A.units+1<fE)(I:Inv X pins σ H s)(g:lT H a y (some v))(ry:RelV y u)(h:∀ w' s',Inv X pins σ H s'->RelV v w'->Q w' s') :
  bG (aI X.prog X.w) A (getItem (.ref a) u) Q E s:=by
 rcases g with⟨kvs,k,e,ey,l⟩|⟨kvs,k,b,e,ey,eb,l⟩
 ·subst ey;obtain⟨z,hd,vs,rel,dd⟩:=EV I.cy e;obtain⟨w',hw,mN⟩:=x5.some_of (by rw[l];exact rel.val k);exact wpAny_getItem_of (ER ry) dd.mapOf hw (h w' _ (I.tok _) mN)
 ·subst ey;cases (ry);obtain⟨z,hd,xs,rel,dd⟩:=He I.cy e;obtain⟨w',hw,mN⟩:=x5.some_of (by rw[l];exact rel.val k);obtain⟨p,hp,hp2⟩:=N0.mp hw;refine wpAny_getItem_heap (MV hu) (Lv I.cy eb) dd hp ?_;rw[hp2];exact h w' _ (I.tok _) mN
def gU'(hu:A.units+1<fE)(I:Inv X pins σ H s)(g:lT H a y o)(ry:RelV y u)(h:∀ s',Inv X pins σ H s'->Q (.bool o.isSome) s') :
  bG (aI X.prog X.w) A (iE .In u (.ref a)) Q E s:=by
 rcases g with⟨kvs,k,e,ey,l⟩|⟨kvs,k,b,e,ey,eb,l⟩
 ·subst ey;obtain⟨z,hd,vs,rel,dd⟩:=EV I.cy e;refine wpAny_in_of (ER ry) hd dd.mapOf ?_;rw[<- (rel.val k).QX,<- l];exact h _ (I.tok _)
 ·subst ey;cases (ry);obtain⟨z,hd,xs,rel,dd⟩:=He I.cy e;refine wpAny_in_heap (MV hu) (Lv I.cy eb) hd dd ?_;have q:=(rel.val k).QX;rw[Vz] at q;rw[<- q,<- l];exact h _ (I.tok _)
def gV'(hu:A.units+1<fE)(I:Inv X pins σ H s)(g:lT H a y o)(ry:RelV y u)(h:∀ s',Inv X pins σ H s'->Q (.bool (!o.isSome)) s') :
  bG (aI X.prog X.w) A (iE .NotIn u (.ref a)) Q E s:=by
 rcases g with⟨kvs,k,e,ey,l⟩|⟨kvs,k,b,e,ey,eb,l⟩
 ·subst ey;obtain⟨z,hd,vs,rel,dd⟩:=EV I.cy e;refine wpAny_notIn_of (ER ry) hd dd.mapOf ?_;rw[<- (rel.val k).QX,<- l];exact h _ (I.tok _)
 ·subst ey;cases (ry);obtain⟨z,hd,xs,rel,dd⟩:=He I.cy e;refine wpAny_notIn_heap (MV hu) (Lv I.cy eb) hd dd ?_;have q:=(rel.val k).QX;rw[Vz] at q;rw[<- q,<- l];exact h _ (I.tok _)
def T1(I:Inv X pins σ H s)(mu:Qr (H a))(hs:Heap.SameBut a s.heap h')(he:∃ q,h'.get? a=some q)(new:lI X.prog X.w (upd H a ob) h' a ob) :
  Inv X pins σ (upd H a ob) { s with heap:=h',toks:=t' } :=
 I.write mu (.inl rfl) (λb q hb z=>(hs.2 b hb).trans z) he new
def Wl{P:eL}(z:kvs.length<=bI)(hd:(a == v3)=false)(rel:KV kvs vs)(dd:h'.DictOf (kK P w) a vs) :
  lI P w H' h' a (.dK kvs):=⟨z,hd,vs,rel,dd⟩
def gW'(hu:A.units+1<fE)(I:Inv X pins σ H s)(g:HC H a y v H')(ry:RelV y u)(rv:RelV v r)(h:∀ s',Inv X pins σ H' s'->Q () s') :
  bG (aI X.prog X.w) A (setItem (.ref a) u r) Q E s:=by
 rcases g with⟨kvs,k,e,ey,l,eH⟩|⟨kvs,k,b,e,ey,eb,l,eH⟩
 ·subst ey eH;obtain⟨z,hd,vs,rel,dd⟩:=Wk I.cy e;have hz:vs.length<=bI:=by rw[<- rel.length];exact z
  have hl:(putK kvs k v).length<=bI:=by have:=TY kvs k v;lia
  refine wpAny_setItem_pairs (ER ry) dd λh' DB hs=>h _ ?_;have he:∃ q,h'.get? a=some q:=let ⟨q,_,_,hq,_⟩:=DB;⟨q,hq⟩
  exact T1 I (by rw[e];exact True.intro) hs he (Wl hl hd (rel.put k rv) DB)
 ·subst ey eH;cases (ry);obtain⟨z,hd,xs,rel,dd⟩:=gR' I.cy e;have hz:xs.length<=bI:=by rw[<- Paired.length rel];exact z
  have hl:(putK kvs k v).length<=bI:=by have:=TY kvs k v;lia
  refine wpAny_setItem_heap (MV hu) (Lv I.cy eb) dd λh' DB hs=>h _ ?_;obtain⟨q,es,ep,hq,h2,h3,h4,_,h5⟩:=DB;refine T1 I (by rw[e];exact True.intro) hs ⟨q,hq⟩ ⟨hl,hd,_,(rel.put k eb rv).keeps λc ys ec=>?_,q,es,ep,hq,h2,h3,h4,h5⟩;rw[h9 (dS' ec e (λz=>nomatch z))];exact ec
end
section
variable {X:Cx}{pins:List (ai × Obj)}{σ:St}{H:Hp}{s:ay}{a:ai}{kvs:List (Key × V)}{A:fq}{E:ae->ay->Prop}
def gX' (I:Inv X pins σ H s) (e:Rd H a (.dK kvs)) (h:∀ t s',Inv X pins σ H s'->Q (.int kvs.length t) s'):bG (aI X.prog X.w) A (call (.builtin "len") [.ref a]) Q E s:=by obtain⟨z,hd,vs,rel,dd⟩:=EV I.cy e;refine call_len_dict hd dd (by rw[<- rel.length];rw[kU] at z;lia) ?_;rw[<- rel.length];exact h _ _ (I.tok _)
end
def gY' {X:Cx} (I:Inv X pins σ H s) (g:lT H a y o):s.TypeIs (.ref a) "dict" := by
 rcases g with⟨kvs,k,e,_,_⟩|⟨kvs,k,b,e,_,_,_⟩
 ·obtain⟨_,_,vs,_,dd⟩:=EV I.cy e;exact dd.typeIs
 ·obtain⟨_,_,xs,_,dd⟩:=He I.cy e;exact dd.typeIs
def gZ'(td ty tv:TE):TS:=λD σ H=>tv σ H λv H1=>td σ H1 λx H2=>ty σ H2 λy H3=>∃ a H4,x=.ref a/\HC H3 a y v H4/\D.nx σ H4
section
variable {X:Cx}{o i value:Expr}{pos pos':Pos}{td ty tv:TE}
def ha'(hu:X.A.units+1<fE)(ho:PE X o td)(hi:PE X i ty)(hv:PE X value tv)(hs:rV value (some (.Subscript o i pos')) pos.line X.env=pure false) :
  PS X (.Assign [.Subscript o i pos'] value pos) (gZ' td ty tv):=by
 intro pins s σ H D I h;walk_at"g";obtain⟨y,H3,I3,ry,a,H4,ex,g,q3⟩:=eP;subst ex;obtain rfl:u=Value.ref a:=rx;exact gW' hu I3 g ry rv λs4 I4=>⟨σ,H4,I4,q3⟩
end
def bs' {P:eL} (h:eh) (hb:v3<h.objs.size):lI P w H (h.push { cls:=.type "dict",data:=.dict #[] }) h.objs.size (.dK []) :=
 ⟨fS _,beq_eq_false_iff_ne.mpr (Ne.symm (hU hb)),[],.nil,Heap.DictOf.new h⟩
def hf':TE:=λ_ H Q=>∀ p,H p=none->Q (.ref p) (upd H p (.dK []))
section
variable {X:Cx}{pos:Pos}
def hh':PE X (.Dict [] [] pos) hf':=λpins s σ H Q I h =>
 wpAny_Dict_empty ⟨.ref s.heap.objs.size,_,I.laid (λ_ _ q=>gx _ q) (c9 _) (bs' s.heap I.big),rfl,h _ (I.cy.fresh (c9 _))⟩
end
def Wm:List (TE × TE)->St->Hp->(List (V × V)->Hp->Prop)->Prop
 |[],_,H,Q=>Q [] H
 | (tk,tv) :: r,σ,H,Q=>tk σ H λx H1=>tv σ H1 λy H2=>Wm r σ H2 λps H3=>Q ((x,y) :: ps) H3
abbrev VV:List (V × V)->List (ae × ae)->Prop:=Paired λp q=>RelV p.1 q.1/\RelV p.2 q.2
def T3(X:Cx)(pos:Pos)(keys:List (Option Expr))(values:List Expr)(LB:List (TE × TE)):Prop :=
 ∀ (pins:List (ai × Obj)) (s:ay) (σ:St) (H:Hp) (Q:List (V × V)->Hp->Prop),Inv X pins σ H s->Wm LB σ H Q ->
  bG (aI X.prog X.w) X.A (evalPairs (pairTrees keys values X.env pos)) (λvs s'=>∃ ps H',Inv X pins σ H' s'/\VV ps vs/\Q ps H') X.xe s
def hq'{X:Cx}:T3 X pos [] [] []:=λpins s σ H Q I h=>pairTrees_nil_walk ⟨[],H,I,.nil,h⟩
def hr'{X:Cx}(hk:PE X k tk)(hv:PE X v tv)(hr:T3 X pos ks vs LB) :
  T3 X pos (some k :: ks) (v :: vs) ((tk,tv) :: LB):=λpins s σ H Q I h =>
 pairTrees_cons_walk (dQ (hk pins s σ H _ I h) λu s1 dS=>L2.hG dS λx H1 I1 rx q1=>dQ (hv pins s1 σ H1 _ I1 q1) λw2 s2 dS=>L2.hG dS λy H2 I2 ry q2 =>
  dQ (hr pins s2 σ H2 _ I2 q2) λws s3 dS=>L2.hG dS λps H3 I3 rel q3=>⟨(x,y) :: ps,H3,I3,.cons ⟨rx,ry⟩ rel,q3⟩)
def QY(kvs more:List (Key × V)):List (Key × V):=more.foldl (λacc kv=>putK acc kv.1 kv.2) kvs
def KV.merge:∀ {more:List (Key × V)} {rs:List (Key × ae)} {kvs:List (Key × V)} {vs:List (Key × ae)},KV more rs->KV kvs vs->KV (QY kvs more) (merged vs rs):=by
 intro more rs kvs vs r
 induction r generalizing kvs vs with
 |nil=>intro q;exact q
 |@cons p q ps qs h t ih =>
  intro r0;have e:KV (putK kvs p.1 p.2) (stored vs q.1 q.2):=by have:=r0.put p.1 h.2;rw[<- h.1];exact this
  exact ih e
theorem bt':∀ (more kvs:List (Key × V)),(QY kvs more).length<=kvs.length+more.length
 |[],kvs=>by show kvs.length<=kvs.length+0;lia
 |p :: r,kvs=>by have h1:=bt' r (putK kvs p.1 p.2);have h2:=TY kvs p.1 p.2;show(QY (putK kvs p.1 p.2) r).length<=_;rw[qh];lia
theorem bu'{P:eL}:∀ {kvs:List (Key × V)} {ws:List (ae × ae)},VV (kvs.map λkv=>(kV kv.1,kv.2)) ws->∃ rs,Carries (kK P w) ws rs/\KV kvs rs
 |[],_,r=>by rw[Qi] at r;cases r;exact⟨[],True.intro,.nil⟩
 |p :: kvs,_,r=>by
  cases r with
  |@cons a b as bs h t =>obtain⟨rs,c,q⟩:=bu' t;obtain⟨b1,b2⟩:=b;exact⟨(p.1,b2) :: rs,⟨ER h.1,rfl,c⟩,.cons ⟨rfl,h.2⟩ q⟩
def hw'(LB:List (TE × TE)):TE:=λσ H Q=>∀ p,H p=none->Wm LB σ (upd H p (.dK [])) λps H2=>H2 p=some (.dK [])/\∃ kvs:List (Key × V),ps=kvs.map (λkv=>(kV kv.1,kv.2))/\kvs.length<=15/\Q (.ref p) (upd H2 p (.dK (QY [] kvs)))
def hA'{X:Cx}(h:T3 X pos keys values LB)(og:keys.all (·.isSome)=true)(hl:keys.length=values.length)(h0:keys≠[])(h15:keys.length<=15):PE X (.Dict keys values pos) (hw' LB):=by
 intro pins s σ H Q I q;have hn:=I.cy.fresh (c9 s.heap.objs.size);have I1:=I.laid (t':=s.toks) (λ_ _ q=>gx _ q) (c9 _) (bs' s.heap I.big);refine wpAny_Dict_walk (knd:=kK X.prog X.w) og hl h0 h15 (dQ (h pins _ σ _ _ I1 (q _ hn)) λws s2 eP=>?_);obtain⟨ps,H2,I2,rel,e,kvs,ep,lk,q2⟩:=eP;subst ep;obtain⟨rs,c,rk⟩:=bu' (P:=X.prog) (w:=X.w) rel;obtain⟨z,hd,vs0,r0,dd⟩:=Wk I2.cy e;cases r0;refine⟨rs,c,dd,λh' DB hs=>⟨.ref s.heap.objs.size,_,?_,rfl,q2⟩⟩;have hz:(QY [] kvs).length<=bI:=by have h1:=bt' kvs [];rw[SW] at h1;rw[kU];lia
 have he:∃ q,h'.get? s.heap.objs.size=some q:=let ⟨q,_,_,hq,_⟩:=DB;⟨q,hq⟩
 exact T1 I2 (by rw[e];exact True.intro) hs he (Wl hz hd (rk.merge .nil) DB)
structure M1(X:Cx)(o:Expr)(m:Str)(apos:Pos)(e:Expr)(fm:Pos):Prop where
 base:EA o m X.env (eI o X.env)=eI o X.env
 few:((ny fm (df [e] X.env)).all (fun x=>!x.1) && (backToKw fm (IX [] X.env)).all (fun x=>x.1.isSome)
  && decide (([e]:List Expr).length+([]:List wc).length+(if ([]:List wc).isEmpty then 0 else 1)<30))=true
 line:(apos.endLine == fm.line)=true
 trees:ny fm (df [e] X.env)=[(false,eI e X.env)]
structure M2(X:Cx)(o:Expr)(m:Str)(apos:Pos)(e f:Expr)(fm:Pos):Prop where
 base:EA o m X.env (eI o X.env)=eI o X.env
 few:((ny fm (df [e,f] X.env)).all (fun x=>!x.1) && (backToKw fm (IX [] X.env)).all (fun x=>x.1.isSome)
  && decide (([e,f]:List Expr).length+([]:List wc).length+(if ([]:List wc).isEmpty then 0 else 1)<30))=true
 line:(apos.endLine == fm.line)=true
 trees:ny fm (df [e,f] X.env)=[(false,eI e X.env),(false,eI f X.env)]
def QZ(H:Hp)(a:ai):Prop:=(∃ kvs,Rd H a (.dK kvs))\/∃ kvs,Rd H a (.dT kvs)
def Wn{X:Cx}(I:Inv X pins σ H s)(d:QZ H a) :
  s.TypeIs (.ref a) "dict"/\(∀ b,Value.ref a=.ref b->∃ ob,s.heap.get? b=some ob/\ob.dict=none)/\(a == v3)=false:=by
 rcases d with⟨kvs,e⟩|⟨kvs,e⟩
 ·obtain⟨_,hd,vs,_,dd⟩:=EV I.cy e;refine⟨dd.typeIs,λb q=>?_,hd⟩;cases q;obtain⟨ob,_,_,h1,h2,_⟩:=dd;exact⟨ob,h1,h2.2.1⟩
 ·obtain⟨_,hd,xs,_,dd⟩:=He I.cy e;refine⟨dd.typeIs,λb q=>?_,hd⟩;cases q;obtain⟨ob,_,_,h1,h2,_⟩:=dd;exact⟨ob,h1,h2.2.1⟩
section
variable {X:Cx}{pins:List (ai × Obj)}{σ:St}{H:Hp}{s:ay}{a:ai}{y d:V}{u r:ae}{o:Option V}{A:fq}{E:ae->ay->Prop}
def hE'(hu:A.units+1<fE)(I:Inv X pins σ H s)(g:lT H a y o)(ry:RelV y u)(h:∀ w' s',Inv X pins σ H s'->RelV (o.getD .non) w'->Q w' s') :
  bG (aI X.prog X.w) A (call (.builtin "dict.get") [.ref a,u]) Q E s:=by
 rcases g with⟨kvs,k,e,ey,l⟩|⟨kvs,k,b,e,ey,eb,l⟩
 ·subst ey;obtain⟨z,hd,vs,rel,dd⟩:=EV I.cy e;refine call_meetsIn PySem.F.slot_dict_get dd.typeIs PySem.F.entry_dict_get (PySem.F.args_dict_get_2 _ _) (meets_dict_get (kK X.prog X.w) a (ER ry) hd) ⟨_,dd.mapOf,h _ _ (I.tok _) ?_⟩;rw[l];exact(rel.val k).getD rfl
 ·subst ey;cases (ry);obtain⟨z,hd,xs,rel,dd⟩:=He I.cy e;refine call_meetsIn PySem.F.slot_dict_get dd.typeIs PySem.F.entry_dict_get (PySem.F.args_dict_get_2 _ _) (meetsH_dict_get (EC (kK X.prog X.w)) a b hd) ⟨MV hu,k,xs,Lv I.cy eb,dd,h _ _ (I.tok _) ?_⟩;rw[l];exact(rel.val k).getD rfl
def hF'(hu:A.units+1<fE)(I:Inv X pins σ H s)(g:lT H a y o)(ry:RelV y u)(rd:RelV d r)(h:∀ w' s',Inv X pins σ H s'->RelV (o.getD d) w'->Q w' s') :
  bG (aI X.prog X.w) A (call (.builtin "dict.get") [.ref a,u,r]) Q E s:=by
 rcases g with⟨kvs,k,e,ey,l⟩|⟨kvs,k,b,e,ey,eb,l⟩
 ·subst ey;obtain⟨z,hd,vs,rel,dd⟩:=EV I.cy e;refine call_meetsIn PySem.F.slot_dict_get dd.typeIs PySem.F.entry_dict_get (PySem.F.args_dict_get_3 _ _ _) (meets_dict_get_default (kK X.prog X.w) a (ER ry) hd r) ⟨_,dd.mapOf,h _ _ (I.tok _) ?_⟩;rw[l];exact(rel.val k).getD rd
 ·subst ey;cases (ry);obtain⟨z,hd,xs,rel,dd⟩:=He I.cy e;refine call_meetsIn PySem.F.slot_dict_get dd.typeIs PySem.F.entry_dict_get (PySem.F.args_dict_get_3 _ _ _) (meetsH_dict_get_default (EC (kK X.prog X.w)) a b hd r) ⟨MV hu,k,xs,Lv I.cy eb,dd,h _ _ (I.tok _) ?_⟩;rw[l];exact(rel.val k).getD rd
end
def hG'(td ty:TE):TE:=λσ H Q=>td σ H λx H1=>∃ a,x=.ref a/\QZ H1 a/\ty σ H1 λy H2=>∃ o,lT H2 a y o/\Q (o.getD .non) H2
def bv'(td ty tx:TE):TE:=λσ H Q=>td σ H λx H1=>∃ a,x=.ref a/\QZ H1 a/\ty σ H1 λy H2=>tx σ H2 λz H3=>∃ o,lT H3 a y o/\Q (o.getD z) H3
section
variable {X:Cx}{o e f:Expr}{apos fm:Pos}{td ty tx:TE}
def hH' (hu:X.A.units+1<fE) (ho:PE X o td) (he:PE X e ty) (m:M1 X o "get" apos e fm):PE X (.Call (.Attribute o "get" apos) [e] [] fm) (hG' td ty):=by intro pins s σ H Q I h;refine wpAny_Call_method m.base m.few m.line PySem.F.plainAttrs_dict PySem.F.slot_dict_get PySem.F.type_dict_get (dQ (ho pins s σ H _ I h) λu s1 eP=>?_);obtain⟨x,H1,I1,rx,a,ex,d,q1⟩:=eP;subst ex;obtain rfl:u=Value.ref a:=rx;obtain⟨t1,t2,_⟩:=Wn I1 d;refine⟨t1,t2,?_⟩;rw[m.trees];refine Calls.callWith_builtin rfl (Calls.evalArgs_plain (Calls.spliced_cons (dQ (he pins s1 σ H1 _ I1 q1) λiv s2 ⟨y,H2,I2,ry,ov,g,q2⟩=>Calls.spliced_nil ?_)));exact hE' hu I2 g ry λw' s3 I3 mN=>⟨_,H2,I3,mN,q2⟩
def hI' (hu:X.A.units+1<fE) (ho:PE X o td) (he:PE X e ty) (hf:PE X f tx) (m:M2 X o "get" apos e f fm):PE X (.Call (.Attribute o "get" apos) [e,f] [] fm) (bv' td ty tx):=by
 intro pins s σ H Q I h;refine wpAny_Call_method m.base m.few m.line PySem.F.plainAttrs_dict PySem.F.slot_dict_get PySem.F.type_dict_get (dQ (ho pins s σ H _ I h) λu s1 eP=>?_);obtain⟨x,H1,I1,rx,a,ex,d,q1⟩:=eP;subst ex;obtain rfl:u=Value.ref a:=rx;obtain⟨t1,t2,_⟩:=Wn I1 d;refine⟨t1,t2,?_⟩;rw[m.trees];refine Calls.callWith_builtin rfl (Calls.evalArgs_plain (Calls.spliced_cons (dQ (he pins s1 σ H1 _ I1 q1) λiv s2 dS=>L2.hG dS λy H2 I2 ry q2 =>
  Calls.spliced_cons (dQ (hf pins s2 σ H2 _ I2 q2) λfv s3 ⟨z,H3,I3,rz,ov,g,q3⟩=>Calls.spliced_nil ?_))))
 exact hF' hu I3 g ry rz λw' s4 I4 mN=>⟨_,H3,I4,mN,q3⟩
end
end L2
end
namespace Att
open PySem PySem.W PySem.Calls PyProof.Rows
def hJ'{P:Params}:∀ (ns:List Int) (vs:List ae),WellAll P h vs (ns.map WData.int)->IntsAre vs ns:=by
 intro ns
 induction ns with
 |nil =>intro vs w;cases w;exact .nil
 |cons n ns ih =>
  intro vs w
  cases w with
  |cons a b =>cases a;exact .cons _ _ (ih _ b)
def hK'{l:OpenLaw}{n:Nat}(hn:l.most=some n){P:Params}{h:eh}{args:List WData}{vals:List ae}(HG:l.row.toRowW.claim.pre args=true) (EW:WellAll P h vals args) :
  ∃ a vs ns,vals=[Value.ref a]/\args=[WData.list (ns.map WData.int)]/\h.get? a=some { cls:=.type "list",data:=.seq vs.toArray }/\IntsAre vs ns/\ns.length<=n:=by
 have OQ:WShape.hasAll [] args [.list .int]=true:=(pre_splitW HG).1;have hc:l.pre.holds [] { args:=args }=true:=(pre_splitW HG).2;obtain⟨d,r,rfl,h1,h2⟩:=hasAllW_cons OQ;obtain rfl:=hasAllW_nil h2;obtain⟨xs,rfl,h3⟩:=hasW_list h1;obtain⟨ns,rfl⟩:=items_int h3;have hlen:ns.length<=n:=by
  have h4:(WTm.not (.lt (.lit (.int n)) (.len (.arg 0)))).holds [] { args:=[.list (ns.map .int)] }=true:=by have h4:=(holds_andW hc).1;rw[hn] at h4;exact h4
  have h5:=condW_of h4 (w_not (w_lt w_lit (w_len_list (w_arg rfl))));refine Nat.le_of_not_lt λq=>?_;first
   | (rw[decide_eq_true q'] at h5;exact absurd h5 (by decide))
   | (simp at h5;lia)
 cases EW with
 |cons w1 w2 =>
  cases w2
  cases w1 with
  |list ho og=>exact⟨_,_,ns,rfl,rfl,ho,hJ' ns _ og,hlen⟩
def hL'(l:OpenLaw)(args:List WData):l.row.toRowW.claim.post args (.bool true) args=true :=
 postW_of (by first|rfl|decide|simp[WShape.has,WShape.arms,WShape.armsAll]) (w_eq_bool (w_res rfl) w_lit) rfl
def hN'{l:OpenLaw}{n:Nat}{q:eL}{loose:List Str}{XP:(Str->Option ae)->eh->Prop}{YP:eR->eh->Prop}{d:DefRec}(hn:l.most=some n) (Q0:d.params.defaults=[])(call:∀ (w:eR) (kX gp:ay) (mg mb:Str->Option ae) (fa:ai) (o:Obj) (pm cd doc:ae) (a:ai) (vs:List ae) (ns:List Int),
   Ground q loose [] XP w kX mg mb gp.heap->YP w gp.heap ->
   gp.heap.get? fa=some o->o.data=.func (docDef d.name d.params d.body d.scope pm cd doc)->gp.heap.CodeRec cd d.name->mg d.name=some (.ref fa) ->
   gp.heap.get? a=some { cls:=.type "list",data:=.seq vs.toArray }->IntsAre vs ns->ns.length<=n->gp.gens = #[] ->
   codeAny (aI l.prog w) callerA (.call (.ref fa) ⟨[.ref a],[]⟩) (λr s'=>r=.ok (.ret (.bool true))/\OldK gp.heap s'.heap/\s'.os=gp.os/\AllBare s'.gens) gp) :
  WalkO q loose XP YP l.row.toRowW d [] (λf vs=>PySem.call f vs):=by
 intro w kX gp mg mb G Y fa o pm cd doc dV kV ho hd u0 hD Q5 hg args vals as HG hlay hrd EW HK;obtain rfl:dV=.none:=Dflts.none hD Q0;obtain rfl:kV=.none:=Dflts.noKw hD;obtain⟨a,vs,ns,rfl,rfl,Wo,hints,hlen⟩:=hK' hn HG EW;refine enter_call (codeAny_mono (call w kX gp mg mb fa o pm cd doc a vs ns G Y ho (fd_plain hd) u0 Q5 Wo hints hlen hg) λr s' hq=>?_);obtain⟨rfl,h2,h3,h4⟩:=hq;exact⟨.inl ⟨.bool true,.bool true,[],rfl,λ_=>rfl,.bool true,hL' l _,λ_=>⟨List.Pairwise.nil,λ_ hm=>(nomatch hm)⟩⟩,h2,h3,h4⟩
end Att
section
open PySem PySem.Spec PyProof.Rows
namespace L2
theorem bx':∀ {vs:List ae} {ns:List Int},IntsAre vs ns->Vals (ns.map V.int) vs
 |_,_,.nil=>.nil
 |_,_,.cons n t h=>.cons ⟨t,rfl⟩ (bx' h)
def Only(H:Hp):Prop:=∀ b,H b=none\/∃ o xs,H b=some (.qE o (.lst xs))
def hO'{P:eL}{K:aE}(KX:K.In gp.heap) (hns:gp.heap.Ns kc mg) (hb:gp.heap.Ns builtinsNs mb) (hbb:∀ x:Str,x ≠ "__name__"->mb x=kQ x) (hR':gp.heap.NoLimit) (hg:gp.gens = #[])(ha:gp.heap.get? a=some { cls:=.type "list",data:=.seq vs.toArray }) (hi:IntsAre vs ns) (hl:ns.length<=bI) (hr:oa k callerA) (F:∀ base:eh,K.In base->base.Ns kc mg->Ap P w K mg base CX k fa fd [x] sp) (hT':∀ (s:ay) (u:ae),BindsTo s fd ⟨[u],[]⟩ [(x,u)]) (GU:∀ H:Hp,Only H->gd K H a (ns.map V.int)->sp [.ref a] H (λv _=>v=.bl true) λ_ _ _=>False) (Wq:∀ H e s',CX [] H gp (λ_ _ _=>False) e s'->False) :
  codeAny (aI P w) callerA (.call (.ref fa) ⟨[.ref a],[]⟩) (λr s'=>r=.ok (.ret (.bool true))/\OldK gp.heap s'.heap/\s'.os=gp.os/\AllBare s'.gens) gp:=by
 have rv:=bx' hi;have hU':=hi.length
 -- from an abstract heap in which nothing but the script may be tracked
 have core:∀ H:Hp,Only H->gd K H a (ns.map V.int)->ku P w H gp.heap->(∀ b,H b≠none->b=a)->(H a≠none->K.lookup a=none) ->
   codeAny (aI P w) callerA (.call (.ref fa) ⟨[.ref a],[]⟩) (λr s'=>r=.ok (.ret (.bool true))/\OldK gp.heap s'.heap/\s'.os=gp.os/\AllBare s'.gens) gp:=by
  intro H hO hS cy hA hK;have bz':∀ {b:ai} {o:Obj},gp.heap.get? b=some o->H b=none->(EJ gp.heap H).get? b=some o:=λe n=>dV' e n;have QJ:∀ {b:ai} {o:Obj} {es:Array DictEntry} {ep:Nat},gp.heap.get? b=some o->o.data=.dict es ep->H b=none:=λ{b o es ep} e d=>by
   cases q:H b with
   |none=>rfl
   |some u =>have e':b=a:=hA b (by rw[q];simp);subst e';rw[ha] at e;cases e;have d':Data.seq vs.toArray _=Data.dict es ep:=d;cases d'
  have T4:∀ {b:ai} {m:Str->Option ae},gp.heap.Ns b m->(EJ gp.heap H).Ns b m:=λ{b m} ⟨o,es,ep,e,d,r⟩=>⟨o,es,ep,bz' e (QJ e d),d,r⟩
  have hKb:K.In (EJ gp.heap H):=λb o e=>bz' (KX b o e) (by
   cases q:H b with
   |none=>rfl
   |some u =>
    have e':b=a:=hA b (by rw[q];simp);subst e';rw[hK (by rw[q];simp)] at e;cases e)
  have hM:Mod K mg (EJ gp.heap H):=⟨hKb,T4 hns,⟨mb,T4 hb,hbb⟩,let ⟨mc,h1,h2⟩:=hR';⟨mc,T4 h1,h2⟩⟩
  have e0:TH P w K mg (EJ gp.heap H) callerA [] gp H:=⟨rfl,hM,λb o e=>dW' e,S4 (dU' _ _),trivial,λb hb=>absurd (show b∈([]:List ai) from hb) (by simp),cy,.of_eq hg⟩
  refine codeAny_mono ((F _ hKb (T4 hns)).run callerA [] gp H ⟨[.ref a],[]⟩ [.ref a] [.ref a] _ _ hr e0 (hT' gp (.ref a)) (.cons rfl .nil) (GU H hO hS)) λr s' h=>?_
  cases r with
  |error e=>exact(Wq H e s' h).elim
  |ok fl =>
   cases fl with
   |next=>exact False.elim h
   |brk=>exact False.elim h
   |cont=>exact False.elim h
   |ret u =>
    obtain⟨v,H',os,bare,un,hV',r',q⟩:=h;have q':v=.bl true:=q;subst q';obtain rfl:u=Value.bool true:=r';refine⟨rfl,OldK.of_keep λb o e=>?_,os,bare⟩
    cases q:H b with
    |none=>exact un.keep b o e q (by intro z;exact absurd (show b∈([]:List ai) from z) (by simp)) (by simp)
    |some u =>
     rcases hO b with z|⟨ob,xs,z⟩
     ·rw[q] at z;cases z
     ·have z2:=un.EI b ob _ z;obtain⟨e1,_⟩:=cy b _ z;obtain⟨e2,_⟩:=hV' b _ z2;rw[e] at e1;cases e1;exact e2
 cases hk:K.lookup a with
 |some o =>
  -- the script is one of the module's own objects
  have e:=KX a o hk;rw[ha] at e;cases e;refine core (λ_=>none) (λ_=>.inl rfl) (.inr ⟨_,vs.toArray,_,hk,rfl,rfl,rfl,by rw[jI,hU'];exact hl,by simpa using rv⟩) (λb u z=>by have z':none=some u:=z;cases z') (λb z=>absurd rfl z) λz=>absurd rfl z
 |none =>
  refine core (λb=>if b=a then some (.qE { cls:=.type "list",data:=.seq vs.toArray } (.lst (ns.map V.int))) else none) (λb=>?_) (.inl (.inr ⟨{ cls:=.type "list",data:=.seq vs.toArray },if_pos rfl⟩)) (λb u z=>?_) (λb z=>?_) λ_=>hk
  ·by_cases hb:b=a
   ·exact .inr ⟨_,_,if_pos hb⟩
   ·exact .inl (if_neg hb)
  ·by_cases hb:b=a
   ·have z':=(if_pos hb).symm.trans z;cases z';subst hb;exact⟨ha,by rw[cx];exact hl,vs,_,rv,ha⟩
   ·have z':=(if_neg hb).symm.trans z;cases z'
  ·by_cases hb:b=a
   ·exact hb
   ·exact absurd (if_neg hb) z
def hW'{l:Vh}{n k:Nat}{q:eL}{loose:List Str}{XP:(Str->Option ae)->eh->Prop}{YP:eR->eh->Prop}{d:DefRec}{K:Params->aE}{CX:eR->GN}{sp:eR->Sp}{x:Str}(hn:l.most=some n) (LD:n<=bI) (Q0:d.params.defaults=[]) (hr:oa k callerA)(hY:∀ (w:eR) (h:eh),YP w h->(K w.params).In h)(F:∀ (w:eR) (mg:Str->Option ae) (fa:ai) (h:eh),(K w.params).In h->h.Ns kc mg->mg d.name=some (.ref fa) ->
   ∃ fd:FuncData,(∀ (s:ay) (u:ae),BindsTo s fd ⟨[u],[]⟩ [(x,u)]) /\
    ∀ base:eh,(K w.params).In base->base.Ns kc mg->Ap l.prog w (K w.params) mg base (CX w) k fa fd [x] (sp w))
  (GU:∀ (w:eR) (H:Hp) (a:ai) (ns:List Int),ns.length<=n->Only H->gd (K w.params) H a (ns.map V.int)->sp w [.ref a] H (λv _=>v=.bl true) λ_ _ _=>False)
  (Wq:∀ (w:eR) (H:Hp) (s:ay) (e:ae) (s':ay),CX w [] H s (λ_ _ _=>False) e s'->False) :
  PySem.W.WalkO q loose XP YP l.row.toRowW d [] (λf vs=>PySem.call f vs):=by
 refine Att.hN' hn Q0 λw kX gp mg mb fa o pm cd doc a vs ns G Y ho hd u0 Q5 Wo hints hlen hg=>?_;have KX:=hY w _ Y;obtain⟨fd,hb,hF⟩:=F w mg fa _ KX G.T.g Q5;exact hO' KX G.T.g G.T.b G.T.builtins G.T.nolimit hg Wo hints (jS hlen LD) hr hF hb (λH hO hS=>GU w H a ns hlen hO hS) λH e s'=>Wq w H gp e s'
def DC(s:Stmt):Arguments:=match s with
 |.FunctionDef _ a _ _ _ _ _ _ _ _=>a
 |_=>{ posonlyargs:=[],args:=[],vararg:=none,kwonlyargs:=[],kw_defaults:=[],kwarg:=none,defaults:=[] }
def x8(s:Stmt):List Stmt:=match s with
 |.FunctionDef _ _ b _ _ _ _ _ _ _=>b
 |_=>[]
def nL(s:Stmt):Scope:=match s with
 |.FunctionDef _ _ _ _ _ _ sc _ _ _=>sc
 |_=>{ kind:=.function,names:=[],isGenerator:=false,isCoroutine:=false }
abbrev wx:GN:=λ_ _ _ _ _ _=>False
abbrev E0:XK:=λ_ _ _=>False
def hX'{X:Cx}:Passes wx X E0:=λ_ _ _ _ _ _ _ h=>h.elim
structure DE(K:aE)(x qual:Str)(st:Stmt)(f:ai)(fd:FuncData):Prop where
 ex:∃ (oc:ae) (od:Option ai) (kV doc pm:ae) (an:Option ai) (gI ct:ae) (Dp:Array (Option ae)),
  fd=zC x qual (DC st) (x8 st) (nL st) .none kV doc pm an gI ct/\K.lookup f=some ⟨oc,od,.func fd,Dp⟩/\M0 K gI qual=true
 kp:IY K (.ref f)=true
section
variable {P:eL}{w:eR}{K:aE}{mg:Str->Option ae}{base:eh}
def DE.ok{st:Stmt}{N ps:List Str}(F:DE K x qual st f fd)(S:QH N ps (nL st))(len:∀ vs H Q E,sp vs H Q E->vs.length=ps.length)(QK:∀ (gI:ae) (A:fq) (outer:List Env) (s:ay) (H:Hp) (vs:List V) (Q:VK) (E:XK),oa k (A.deeper (envOfC qual (nL st) s.heap.objs.size f gI))->sp vs H Q E ->
   ∃ t,n9 (CY wx P w K mg base N qual (nL st) f gI A outer s H E).GH (x8 st) t/\t { nx:=λ_ H'=>Q .non H',rt:=Q } (start N vs) H):Ap P w K mg base wx (k+1) f fd ps sp:=by
 obtain⟨oc,od,kV,doc,pm,an,gI,ct,Dp,rfl,lk,u0⟩:=F.ex;refine fX' lk u0 S len λA outer s H vs Q E hr GU=>?_;obtain⟨t,h,q⟩:=QK gI A outer s H vs Q E hr GU;exact⟨t,h.GH,q⟩
def DE.binds{st:Stmt}{ps:List Str}(F:DE K x qual st f fd)(h:∀ (kV doc pm:ae) (an:Option ai) (gI ct:ae) (us:List ae),us.length=ps.length->bindArgs (zC x qual (DC st) (x8 st) (nL st) .none kV doc pm an gI ct) ⟨us,[]⟩=pure (ps.zip us)):Binds K fd ps []:=by
 obtain⟨oc,od,kV,doc,pm,an,gI,ct,Dp,rfl,lk,u0⟩:=F.ex;exact .all (h kV doc pm an gI ct)
def bB'{st:Stmt}{kV doc pm gI ct:ae}(l:K.lookup f=some ⟨oc,od,.func (zC x qual (DC st) (x8 st) (nL st) .none kV doc pm an gI ct),Dp⟩)(c:M0 K gI qual=true) (k:IY K (.ref f)=true):DE K x qual st f (zC x qual (DC st) (x8 st) (nL st) .none kV doc pm an gI ct):=⟨⟨oc,od,kV,doc,pm,an,gI,ct,Dp,rfl,l,c⟩,k⟩
end
section
variable {X:Cx}
def pv (i:Nat) (hN:autoParam (X.N[i]? = some x) bv) (hv:Tg X.env.scope x:=by first|exact Or.inl rfl|exact Or.inr (Or.inl rfl)|exact Or.inr (Or.inr rfl)) (hd:(x == ("__debug__" : Str))=false:=by decide) (u0:(x == ("__classdict__" : Str))=false:=by decide):PE X (.Name x pos) (GB i):=aC' hN hv hd u0
end
def bP(H H':Hp):Prop:=∀ b o,H b=some o->H' b=some o
def bP.refl(H:Hp):bP H H:=λ_ _ h=>h
def bP.trans(a:bP H H1)(b:bP H1 H2):bP H H2:=λc o h=>b c o (a c o h)
def bP.free(e:bP H H')(h:H' l=Option.none):H l=Option.none:=by
 cases q:H l with
 |none=>rfl
 |some o =>rw[e l o q] at h;cases h
def bP.seq{K:aE}(e:bP H H')(h:gd K H a xs):gd K H' a xs:=by
 rcases h with(h|⟨o,h⟩)|h
 ·exact .inl (.inl (e _ _ h))
 ·exact .inl (.inr ⟨o,e _ _ h⟩)
 ·exact .inr h
end L2
namespace L2
def vn(env:Env):List (Str × AU)->List (Str × ai)->List (Str × ai)
 |[],cs=>cs
 | (n,k) :: r,cs=>vn env r (if k == NameKind.free then (n,(env.cells.lookup n).getD 0) :: cs else cs)
def iB(env:Env):∀ (names:List (Str × AU)) (cs:List (Str × ai)),(∀ y∈names,y.2=.free->∃ c,env.cells.lookup y.1=some c) -> (forIn names cs λx r=>match x with
   | (name,kind)=>if (kind == NameKind.free)=true then do let a <- cellOf env name;pure (ForInStep.yield ((name,a) :: r)) else pure (ForInStep.yield r):Sem (List (Str × ai)))=pure (vn env names cs)
 |[],cs,_=>rfl
 | (n,k) :: r,cs,h=>by
  rw[List.forIn_cons];have ih:=iB env r;by_cases hk:k=.free
  ·subst hk;obtain⟨c,e⟩:=h (n,.free) dz rfl;have e2:cellOf env n=pure c:=by unfold cellOf;rw[e]
   have e3:vn env ((n,.free) :: r) cs=vn env r ((n,c) :: cs):=by show vn env r (if (NameKind.free == NameKind.free)=true then (n,(env.cells.lookup n).getD 0) :: cs else cs)=_;rw[e];rfl
   rw[e3,<- ih ((n,c) :: cs) λy hy=>h y (dP _ hy)];simp only[beq_self_eq_true,if_true,e2];rfl
  ·have hb:(k == NameKind.free)=false:=by simpa using hk
   have e3:vn env ((n,k) :: r) cs=vn env r cs:=by show vn env r (if (k == NameKind.free)=true then _ else cs)=_;rw[hb];rfl
   rw[e3,<- ih cs λy hy=>h y (dP _ hy)];simp only[hb,qA,if_false];rfl
def nY(h:∀ y∈scope.names,y.2=.free->∃ c,env.cells.lookup y.1=some c):closureFor scope env=pure (vn env scope.names []):=by have:=iB env scope.names [] h;rw[<- bind_pure (forIn scope.names [] _)] at this;exact this
theorem pF:∀ {names:List (Str × AU)} {cs:List (Str × ai)},(∀ y∈names,y.2=.free->∃ c,env.cells.lookup y.1=some c)->(∀ y d,cs.lookup y=some d->env.cells.lookup y=some d) -> (vn env names cs).lookup x=some c->env.cells.lookup x=some c
 |[],cs,_,h,e=>h x c e
 | (n,k) :: r,cs,hf,h,e=>by
  refine pF (λy hy=>hf y (dP _ hy)) ?_ e;intro y d hd;by_cases hk:k=.free
  ·subst hk;obtain⟨c',e'⟩:=hf (n,.free) dz rfl;simp only[beq_self_eq_true,if_true,e',VB,Vq] at hd
   cases hb:y == n with
   |true=>rw[hb] at hd;have:y=n:=eq_of_beq hb;subst this;rw[e'];exact hd
   |false=>rw[hb] at hd;exact h y d hd
  ·have hb:(k == NameKind.free)=false:=by simpa using hk
   simp only[hb,qA,if_false] at hd;exact h y d hd
theorem kO:∀ {names:List (Str × AU)} {cs:List (Str × ai)},((x,NameKind.free)∈names\/∃ c,cs.lookup x=some c)->∃ c,(vn env names cs).lookup x=some c
 |[],cs,h=>by
  rcases h with h|h
  ·exact nomatch h
  ·exact h
 | (n,k) :: r,cs,h=>by
  refine kO (names:=r) ?_;rcases h with h|⟨c,h⟩
  ·rcases eK.mp h with e|h
   ·cases e;refine .inr ⟨(env.cells.lookup x).getD 0,?_⟩;simp only[beq_self_eq_true,if_true,Vq]
   ·exact .inl h
  ·refine .inr ?_;by_cases hk:(k == NameKind.free)=true
   ·simp only[hk,if_true,Vq]
    cases hb:x == n with
    |true=>exact⟨_,rfl⟩
    |false=>exact⟨c,h⟩
   ·simp only[hk,if_false];exact⟨c,h⟩
def aZ(X:Cx)(scope:Scope)(C:ai)(N:List Str)(fp:List ai)(i5:ay)(kg:Hp):Cx :=
 { X with N:=N,kX:=i5,Qs:=kg,env:=compEnvC scope (vn X.env scope.names []) C X.env,outer:=X.stack,stack:=X.stack,ex:=fp,fn:=λ_=>false,pn:=[],xe:=λ_ _=>False }
def DF(X:Cx)(ifs:List Expr)(t:TT):Prop :=
 ∀ (pins:List (ai × Obj)) (s:ay) (σ:St) (H:Hp) (Q:Bool->Hp->Prop),Inv X pins σ H s->t σ H Q ->
  bG (aI X.prog X.w) X.A (forIn ifs true λc r=>if r=true then do let ok <- isTrue c X.env (eI c X.env);pure (ForInStep.yield ok) else pure (ForInStep.yield r)) (TP X pins σ Q) X.xe s
def hY':TT:=λ_ H Q=>Q true H
def Gj{X:Cx}:DF X [] hY':=λ_ _ _ H _ I h=>wpAny_tests_nil ⟨H,I,h⟩
def Gp{X:Cx}(h:PT X c t):DF X [c] t:=λpins s σ H Q I hw=>wpAny_tests_one (h pins s σ H Q I hw)
def gm{R:Result->ay->Prop}(I:Nat->ay->Prop)(E:ae->ay->Prop)(turn:∀ n s,I n s->bG (aI prog w) A (pyNext it) (λr gp=>match r with
   |none=>R (.ok .next) gp
   |some v=>bG (aI prog w) A (letOwnedTupleGo target it v) (λ_ kX=>bG (aI prog w) A (assign target env v) (λ_ KW =>
     bG (aI prog w) A (forIn ifs true λc r=>if r=true then do let ok <- isTrue c env (eI c env);pure (ForInStep.yield ok) else pure (ForInStep.yield r)) (λok i5 =>
      if ok=true then bG (aI prog w) A (eI elt env) (λx bC' =>
       bG (aI prog w) A (call (.builtin "list.append") [acc,x]) (λ_ bD'=>∃ m,m<n/\I m bD') E bC') E i5
      else ∃ m,m<n/\I m i5) E KW) E kX) E gp) E s)
  (hE:∀ e s',E e s'->notedBy (aI prog w) A env (λe s'=>R (.error e) s') e s')
  (n:Nat) (h:I n s) :
  codeAny (aI prog w) A (.compLoop (.ListComp elt [⟨target,iter,ifs,0⟩] scope pos) 0 it acc env) R s:=by
 refine codeAny_loop rfl I (λn s hI=>?_) n h;refine wpAny_noted ?_;refine wa ?_ (λ_ _ q=>q) hE;refine ax (wpAny_standAt (ax (wa (turn n s hI) (λr gp Q6=>?_) λ_ _ h'=>h')))
 cases r with
 |none=>exact bE Q6
 |some v =>
  refine ax (wa Q6 (λ_ kX h₀=>?_) λ_ _ h'=>h');refine ax (wa h₀ (λ_ KW hZ'=>ax (wa hZ' (λok i5 bE'=>?_) λ_ _ h'=>h')) λ_ _ h'=>h')
  cases ok with
  |false=>exact bE ⟨rfl,bE'⟩
  |true =>exact ax (ax (wa bE' (λx bC' ic'=>ax (wa ic' (λ_ bD' ie'=>bE (bE ⟨rfl,ie'⟩)) λ_ _ h'=>h')) λ_ _ h'=>h'))
def rD(tn:Nat)(ix:List Nat)(σ:St):St:=List.replicate tn none++ix.map λj=>(σ[j]?).join
def Ak(wi:TI)(g:TG)(tc:TT)(te:TE)(tn:Nat)(ix:List Nat):TE:=λσ H Q=>wi σ H λJ H1=>∀ D,H1 D=none ->
 ∃ W:Nat->Nat->St->Hp->Prop,(∃ m,W 0 m (rD tn ix σ) (upd H1 D (.lst [])))/\∀ i m τ H,W i m τ H -> (J.stop i H/\Q (.ref D) H)\/(J.go i H/\∃ (N1:St->V->Hp->Prop) (N2:St->Hp->Prop), (∀ DH v H4,N1 DH v H4->∃ ys m',H4 D=some (.lst ys)/\ys.length<bI/\m'<m/\W (i+1) m' DH (upd H4 D (.lst (ys++[v])))) /\ (∀ DH H3,N2 DH H3->∃ m',m'<m/\W (i+1) m' DH H3) /\
   ∀ x H',J.qV i H x H'->g x τ H' λDH H2=>tc DH H2 λb H3=>if b=true then te DH H3 (N1 DH) else N2 DH H3)
section
variable {X:Cx}{tg iter elt:Expr}{ifs:List Expr}{scope:Scope}{pos:Pos}{wi:TI}{g:TG}{tc:TT}{te:TE}{tn cn:List Str}{ix:List Nat}
structure eZ(X:Cx)(scope:Scope)(tn cn:List Str)(ix:List Nat):Prop where
 kind:scope.kind=.function
 ig':∀ y∈scope.names,y.2≠.cell
 free:∀ y∈scope.names,y.2=.free->X.env.scope.names.lookup y.1=some .cell\/X.env.scope.names.lookup y.1=some .free
 names:∀ y∈scope.names,y.2=.local->scope.names.lookup y.1=some .local
 len:ix.length=cn.length
 cap:∀ (k j:Nat),ix[k]? = some j->∃ y,cn[k]? = some y/\X.N[j]? = some y/\(X.env.scope.names.lookup y=some .cell\/X.env.scope.names.lookup y=some .free)/\(y,NameKind.free)∈scope.names /\
  ((relabel scope X.env).names.lookup y=some .cell\/(relabel scope X.env).names.lookup y=some .free)
 all:∀ x,(relabel scope X.env).names.lookup x=some .cell\/(relabel scope X.env).names.lookup x=some .free->(x,NameKind.free)∈scope.names
def yG(O:eZ X scope tn cn ix)(I:Inv X pins σ H s)(hf:∀ b∈fp,A6 X pins H b)(Wr:∀ b∈fp,b<s.heap.objs.size)(hC:s.heap.objs.size<=C) : (aZ X scope C (tn++cn) fp s H).Ok:=by
 have tF:∀ y∈scope.names,y.2=.free->∃ c,X.env.cells.lookup y.1=some c:=λy hy hk=>I.ok.has y.1 (O.free y hy hk);have sub:∀ x c,(vn X.env scope.names []).lookup x=some c->X.env.cells.lookup x=some c:=λx c e=>pF tF (λy d h=>by simp at h) e;refine⟨I.ok.mod,O.kind,I.ok.glob,I.ok.blt,hC,λx y c h1 h2=>I.ok.inj x y c (sub x c h1) (sub y c h2),λx hx=>kO (.inl (O.all x hx)),(λx c h _=>nomatch h),I.ok.hd,I.ok.frames,.inl rfl,λb hb=>⟨?_,λx c e=>?_⟩,
  I.bs,jS I.ok.GA I.sz,λb o e hb=>?_,λb hb=>?_,I.stack,I.ar'⟩
 ·exact hU (px (Wr b hb) hC)
 ·exact(hf b hb).2.2.2.2.1 x c (sub x c e)
 ·rcases (hf b hb).2.2.2.1 with z|z
  ·exact I.ok.Qu b o e z
  ·exact absurd (px (fF e) (jS I.ok.GA z)) (wo _)
 ·intro hz;rcases eK.mp (I.VH b hz) with e|e
  ·exact(hf b hb).2.1 e
  ·exact(hf b hb).2.2.1 e
def uC{P:ae->ay->Prop}(hc:X.calm=true)(hi:PI X tg iter wi)(O:eZ X scope tn cn ix)(hg:∀ C fp i5 kg,PG (aZ X scope C (tn++cn) fp i5 kg) tg g) (Au:∀ C fp i5 kg,DF (aZ X scope C (tn++cn) fp i5 kg) ifs tc) (he:∀ C fp i5 kg,PE (aZ X scope C (tn++cn) fp i5 kg) elt te)(hs:∀ x,IL iter X.env x=pure x) (I:Inv X pins σ H s) (h:Ak wi g tc te tn.length ix σ H Q)(fin:∀ (C D:ai) (m:Str->Option ae) (H5:Hp) (s6:ay) (r:Flow),Inv X pins σ H5 s6->s6.heap.Ns C m->H5 C=none->A6 X pins H5 C->Q (.ref D) H5->compPost (aI X.prog X.w) X.A X.xe use P (.ref D) C (.ok r) s6) :
  bG (aI X.prog X.w) X.A (comprehension (.ListComp elt [⟨tg,iter,ifs,0⟩] scope pos) scope X.env mX' (newList []) false (eI iter X.env) use) P X.xe s:=by
 have tF:∀ y∈scope.names,y.2=.free->∃ c,X.env.cells.lookup y.1=some c:=λy hy hk=>I.ok.has y.1 (O.free y hy hk);have sub:∀ x c,(vn X.env scope.names []).lookup x=some c->X.env.cells.lookup x=some c:=λx c e=>pF tF (λy d h=>by simp at h) e;refine wpAny_comprehension_free rfl hs (nY tF) O.kind O.names (dQ (hi pins s σ H _ I h) λv s1 h1=>dQ h1 λVQ s2 h2=>?_);obtain⟨it,fp,T5,J,H2,e,I2,T,z0,f2,h2⟩:=h2;subst e;obtain⟨W,⟨m0,w0⟩,turn⟩:=h2 s2.heap.objs.size (I2.cy.fresh (c9 _));refine sQ ?_;have I3:Inv X pins σ (upd H2 s2.heap.objs.size (.lst [])) { s2 with heap:=s2.heap.push { cls:=.type "list",data:=.seq ([]:List ae).toArray } }:=I2.Wg .nil (fS _);generalize hD:s2.heap.objs.size=D at *
 generalize hs3:({ s2 with heap:=s2.heap.push { cls:=.type "list",data:=.seq ([]:List ae).toArray } }:ay)=s3 at *
 have k23:∀ b o,s2.heap.get? b=some o->s3.heap.get? b=some o:=λb o e=>by rw[<- hs3];exact gx _ e
 have f3:∀ b∈fp,A6 X pins (upd H2 D (.lst [])) b:=λb hb=>by obtain⟨f0,fr⟩:=f2 b hb;obtain⟨o,ho,_⟩:=T.obj _ _ z0 b hb;refine⟨?_,fr⟩;rw[h9 (hU (by rw[<- hD];exact fF ho))];exact f0
 have z5:T5 0 s3.heap:=T.keep _ _ _ z0 λb hb o e=>k23 b o e;have lt3:∀ b∈fp,b<s3.heap.objs.size:=λb hb=>by obtain⟨o,ho,_⟩:=T.obj _ _ z5 b hb;exact fF ho
 refine wpAny_newFunctionEnv O.ig' (by intro y hy;simp at hy) (λQ6 ik' il'=>?_) O.kind;have LG:∀ b o,s3.heap.get? b=some o->Q6.get? b=some o:=λb o e=>il'.extBut b o (hU (fF e)) (gx _ e)
 -- the block's context
 have T6:=yG O I3 f3 lt3 (c9 _);have I4:Inv (aZ X scope s3.heap.objs.size (tn++cn) fp s3 (upd H2 D (.lst []))) [] (rD tn.length ix σ) (upd H2 D (.lst [])) { s3 with heap:=Q6,toks:=s3.toks+([]:List (Str × ae)).length }:=by
  refine⟨T6,rfl,I3.bare,Un.kept LG,⟨_,ik',λi x v e1 e2 e3=>?_⟩,λx c e=>?_,I3.cy.fresh (c9 _),λx c e=>I3.A5 x c (sub x c e),λp hp=>absurd hp (by simp[aZ]),I3.cy.kept LG,?_⟩
  ·have kz:tn.length<=i:=by
    by_cases q:i<tn.length
    ·unfold rD at e2;rw[FE (by simpa using q),List.getElem?_replicate] at e2;simp[q] at e2
    ·lia
   unfold rD at e2;rw[Ct (by simpa using kz),List.length_replicate,nK] at e2;have e1:(tn++cn)[i]? = some x:=e1;rw[Ct kz] at e1
   cases q:ix[i-tn.length]? with
   |none=>rw[q] at e2;cases e2
   |some j =>
    rw[q] at e2;obtain⟨y,c1,c2,c3,c4,c5⟩:=O.cap _ _ q;rw[c1] at e1;cases e1;have e2:σ[j]?.join=some v:=Option.some.inj e2;have ej:σ[j]? = some (some v):=by
     cases z:σ[j]? with
     |none=>rw[z] at e2;cases e2
     |some o=>rw[z] at e2;exact congrArg some e2
    obtain⟨m,hn,hl⟩:=I3.loc;obtain⟨u,r,l⟩:=hl j x v c2 ej (c3.elim (λz=>.inr (.inl z)) λz=>.inr (.inr z));refine⟨u,r,.inr ⟨c5,?_⟩⟩;rcases l with⟨hk,_⟩|⟨hk,c,Tq,hce⟩
    ·have hk:X.env.scope.names.lookup x=some .local:=hk;rcases c3 with z|z
     ·rw[z] at hk;cases hk
     ·rw[z] at hk;cases hk
    ·obtain⟨c',ti⟩:=kO (Or.inl c4);have:=sub x c' ti;rw[Tq] at this;cases this;obtain⟨o,ho,hd⟩:=hce;exact⟨c,ti,o,LG _ _ ho,hd⟩
  ·obtain⟨v,o,ho,hd⟩:=I3.cell x c (sub x c e);exact⟨v,o,LG _ _ ho,hd⟩
  ·show(rD tn.length ix σ).length=(tn++cn).length;unfold rD;simp[O.len]
 -- from the block back to the body
 have back:∀ {τ:St} {H':Hp} {s':ay},Inv (aZ X scope s3.heap.objs.size (tn++cn) fp s3 (upd H2 D (.lst []))) [] τ H' s'->Inv X pins σ H' s':=λ{τ H' s'} I' =>
  Inv.ef' I3 I'.os I'.base I'.cy I'.bare λb hb=>by obtain⟨_,f1,_,f3',f4,f5⟩:=f3 b hb;exact⟨f3',f1,f4,f5⟩
 have Ws:∀ {H':Hp},(∀ b∈fp,H' b=none)->∀ b∈fp,A6 (aZ X scope s3.heap.objs.size (tn++cn) fp s3 (upd H2 D (.lst []))) [] H' b:=λhn b hb =>
  ⟨hn b hb,(T6.Tj b hb).1,T6.Qw b hb,.inl hb,(T6.Tj b hb).2,λp hp=>absurd hp (by simp[aZ])⟩
 have loop:∀ s4:ay,Inv (aZ X scope s3.heap.objs.size (tn++cn) fp s3 (upd H2 D (.lst []))) [] (rD tn.length ix σ) (upd H2 D (.lst [])) s4->T5 0 s4.heap ->
   codeAny (aI X.prog X.w) X.A (.compLoop (.ListComp elt [⟨tg,iter,ifs,0⟩] scope pos) 0 (.ref it) (.ref D) (compEnvC scope (vn X.env scope.names []) s3.heap.objs.size X.env)) (compPost (aI X.prog X.w) X.A X.xe use P (.ref D) s3.heap.objs.size) s4:=by
  intro s4 I4 Bn;refine gm (λn s'=>∃ i τ H',Inv (aZ X scope s3.heap.objs.size (tn++cn) fp s3 (upd H2 D (.lst []))) [] τ H' s'/\T5 i s'.heap/\(∀ b∈fp,H' b=none)/\W i n τ H') (λ_ _=>False) ?_ (λ_ _ z=>z.elim) m0 ⟨0,_,_,I4,Bn,λb hb=>(f3 b hb).1,w0⟩
  rintro n s5 ⟨i,τ,H5,I5,KP,Tz,w5⟩;rcases turn i n τ H5 w5 with⟨stop,qn⟩|⟨go,N1,N2,hN1,Q7,step⟩
  ·refine dQ (T.done (aZ X scope s3.heap.objs.size (tn++cn) fp s3 (upd H2 D (.lst []))) rfl rfl rfl hc i [] s5 τ H5 (λ_ _=>False) I5 (Ws Tz) KP stop) λr s6 eP=>?_;obtain⟨hr,I6⟩:=eP;subst hr;have J6:=back I6;obtain⟨m,hn,_⟩:=I6.loc;exact fin _ D m H5 s6 _ J6 hn I6.free (I3.QB (c9 _) I6.free) qn
  ·refine dQ (T.item (aZ X scope s3.heap.objs.size (tn++cn) fp s3 (upd H2 D (.lst []))) rfl rfl rfl hc i [] s5 τ H5 (λ_ _=>False) I5 (Ws Tz) KP go) λr s6 eP=>?_;obtain⟨u,hr,h6⟩:=eP;subst hr;refine dQ h6 λ_ s7 eP=>?_;obtain⟨x,H7,I7,r7,y7,Wt,fr7⟩:=eP;have I7':=I7.pinned (Ws fr7) (T.obj _ _ Wt);refine dQ (hg _ _ _ _ _ s7 τ H7 x u _ I7' r7 (step x H7 y7)) λ_ s8 eP=>?_;obtain⟨OS,H8,I8,q8⟩:=eP;refine dQ (Au _ _ _ _ _ s8 OS H8 _ I8 q8) λok s9 eP=>?_;obtain⟨H9,I9,q9⟩:=eP;have again:∀ {s':ay} {H':Hp} {m':Nat},Inv (aZ X scope s3.heap.objs.size (tn++cn) fp s3 (upd H2 D (.lst []))) ([]++QC fp s7.heap) OS H' s'->m'<n->W (i+1) m' OS H' ->
     ∃ m,m<n/\∃ i τ H',Inv (aZ X scope s3.heap.objs.size (tn++cn) fp s3 (upd H2 D (.lst []))) [] τ H' s'/\T5 i s'.heap/\(∀ b∈fp,H' b=none)/\W i m τ H':=λ{s' H' m'} J hm w'=>by
    refine⟨m',hm,i+1,OS,H',J.Tx,T.keep _ _ _ Wt λb hb o e=>(J.pin (b,o) (gX _ (gX _ (Tw hb e)))).1,λb hb=>?_,w'⟩;obtain⟨o,e,d⟩:=T.obj _ _ Wt b hb;exact(J.pin (b,o) (gX _ (gX _ (Tw hb e)))).2.1
   cases ok with
   |false =>obtain⟨m',hm,w'⟩:=Q7 _ _ q9;exact again I9 hm w'
   |true =>refine dQ (he _ _ _ _ _ s9 OS H9 _ I9 q9) λx9 s10 dS=>L2.hG dS λv10 H10 I10 r10 q10=>?_;obtain⟨ys,m',hH,hz,hm,w'⟩:=hN1 _ _ _ q10;refine dQ (Wh _ s10 OS H10 (.ref D) [v10] (.ref D) [x9] (λ_ H'=>H'=upd H10 D (.lst (ys++[v10]))) I10 rfl (.cons r10 .nil) ⟨D,ys,v10,rfl,rfl,hH,hz,rfl⟩) λ_ s11 dS=>L2.hG dS λ_ H11 I11 _ q11=>?_;subst q11;exact again I11 hm w'
 exact codeAny_compStart_list (loop _ I4 (T.keep _ _ _ z5 λb hb o e=>LG b o e)) (T.self _ 0 _ _ _ (T.keep _ _ _ z5 λb hb o e=>LG b o e) (loop _ I4 (T.keep _ _ _ z5 λb hb o e=>LG b o e)))
def Es(hc:X.calm=true)(hi:PI X tg iter wi)(O:eZ X scope tn cn ix)(hg:∀ C fp i5 kg,PG (aZ X scope C (tn++cn) fp i5 kg) tg g) (Au:∀ C fp i5 kg,DF (aZ X scope C (tn++cn) fp i5 kg) ifs tc) (he:∀ C fp i5 kg,PE (aZ X scope C (tn++cn) fp i5 kg) elt te)(hs:∀ x,IL iter X.env x=pure x:=by intro _;rfl):PE X (.ListComp elt [⟨tg,iter,ifs,0⟩] scope pos) (Ak wi g tc te tn.length ix):=by
 intro pins s σ H Q I h;exact uC hc hi O hg Au he hs I h λC D m H5 s6 r J6 hn hf ⟨_,g1,_,g3,g4,g5⟩ qn=>⟨m,hn,λh' T7=>⟨.ref D,H5,J6.turned (λb o hb e=>T7.extBut b o hb e) hf g1 g3 g4 g5,rfl,qn⟩⟩
def vJ{i:Nat}{x:Str}{pos' T8:Pos}(hN:X.N.Nodup)(ya:X.N[i]? = some x)(hx:Loc X.env.scope x)(hc:X.calm=true)(hi:PI X tg iter wi)(O:eZ X scope tn cn ix)(hg:∀ C fp i5 kg,PG (aZ X scope C (tn++cn) fp i5 kg) tg g) (Au:∀ C fp i5 kg,DF (aZ X scope C (tn++cn) fp i5 kg) ifs tc) (he:∀ C fp i5 kg,PE (aZ X scope C (tn++cn) fp i5 kg) elt te)(Wu:rV (.ListComp elt [⟨tg,iter,ifs,0⟩] scope pos) (some (.Name x pos')) T8.line X.env=pure true)(hs:∀ x,IL iter X.env x=pure x:=by intro _;rfl) (hf:X.fn x=true\/X.env.scope.names.lookup x=some .local:=by first|exact .inl rfl|exact .inr rfl|assumption) :
  PS X (.Assign [.Name x pos'] (.ListComp elt [⟨tg,iter,ifs,0⟩] scope pos) T8) (VP (Ak wi g tc te tn.length ix) (VN i)):=by
 intro pins s σ H D0 I h;rw[exec_Assign_Name_used _ _ _ _ Wu];refine ax (wpAny_standAt (ax ?_));show bG _ _ (do let _ <- comprehension (.ListComp elt [⟨tg,iter,ifs,0⟩] scope pos) scope X.env _ (newList []) false (eI iter X.env) (some (assign (.Name x pos') X.env))) _ _ s;refine ax (wa (uC (use:=some (assign (.Name x pos') X.env)) (P:=λ_ s'=>SP X pins D0 .next s') hc hi O hg Au he hs I h λC D m H5 s6 r J6 hn HL ⟨_,g1,_,g3,g4,g5⟩ qn=>?_) (λ_ s' hq=>bE (bE hq)) λ_ _ e=>e);refine(show bG _ _ (assign (.Name x pos') X.env (.ref D)) _ _ s6 from wpAny_assign_Name (ay' J6 hN ya hx (v:=.ref D) rfl (λs7 I7 eP=>?_) hf));obtain⟨a,sb,ha⟩:=eP;have hCa:C≠a:=by
  rcases ha with rfl|ha
  ·exact g1
  ·exact Ne.symm (g4 _ a ha)
 refine⟨m,hn.sameBut sb hCa,λh' T7=>⟨_,H5,?_,qn⟩⟩;exact I7.turned (t':=s7.toks) (λb o hb e=>T7.extBut b o hb e) HL g1 g3 g4 g5
end
def OU (a b:String):Bool:=a == b || (a == "bool" && b == "int")
def Wv (b:String):Bool:=["str", "int", "bool", "list", "tuple", "dict"].contains b
def jm (K:aE) (a b:String) (ha:a∈["NoneType", "bool", "int", "str", "list", "tuple", "dict"]) (hb:b∈["str", "int", "bool", "list", "tuple", "dict"]):PySem.W.kitOne K (.type a) (.type b)=some (OU a b):=by simp only[eK,ND,or_false] at ha hb;rcases ha with rfl|rfl|rfl|rfl|rfl|rfl|rfl<;>rcases hb with rfl|rfl|rfl|rfl|rfl|rfl<;>kernel_rfl
section
variable {X:Cx}
def fi.imp(h:fi X f r)(hi:∀ x y H Q,r' x y H Q->r x y H Q):fi X f r' :=
 λpins s σ H x y v u Q I rx ry q=>h pins s σ H x y v u Q I rx ry (hi x y H Q q)
def Kf(K:aE):R2:=λx y H Q=>∃ l b xs zs,x=.ref l/\y=.ref b/\gd K H l xs/\gd K H b zs/\xs.length+zs.length<=bI/\∀ p,H p=none->Q (.ref p) (upd H p (.lst (xs++zs)))
def Fv:fi X (rX .Add) (Kf X.K):=by
 walk_at"b";obtain⟨l,b,xs,zs,rfl,rfl,hH,hB,hz,q⟩:=h;cases rx;cases ry;obtain⟨its,r,pl,z⟩:=I.list hH;obtain⟨GW,r2,pl2,z2⟩:=I.list hB;have hl:=r.length;have tq:=r2.length;obtain⟨⟨cls,dd,data,sl⟩,ho,hc,n,hd⟩:=id pl.isList;obtain⟨⟨V7,vi,data2,vj⟩,sq,EK,n2,hd2⟩:=id pl2.isList;subst hc hd EK hd2;have ea:its.toArray++GW.toArray=(its++GW).toArray:=by simp
 refine concat_meets ⟨_,ho,rfl⟩ ⟨_,sq,rfl⟩ noFill_list_add seq_list_add PySem.F.slot_list_add PySem.F.entry_list_add (PySem.F.args_list_add_2 _ _) (list_addW l b its.toArray GW.toArray n n2 dd vi sl vj (by simp only[jI];lia)) ⟨ho,sq,?_⟩;rw[ea];exact⟨.ref _,_,I.Wg (r.append r2) (by rw[i6];lia),rfl,q _ I.fresh⟩
def Cp(K:aE):R2:=λx y H Q=>match x,y with
 |.int i,.int j=>Q (.int (i+j)) H
 |.str i,.str j=>i.length+j.length<=bI/\Q (.str (i++j)) H
 |.ref a,.ref b=>∃ xs zs,gd K H a xs/\gd K H b zs/\xs.length+zs.length<=bI/\∀ p,H p=none->Q (.ref p) (upd H p (.lst (xs++zs)))
 |_,_=>False
def Gg:fi X (rX .Add) (Cp X.K):=by
 refine(fn'.or (fJ'.or Fv)).imp λx y H Q h=>?_;unfold Cp at h;split at h
 ·exact .inl ⟨_,_,rfl,rfl,h⟩
 ·exact .inr (.inl ⟨_,_,rfl,rfl,h.1,h.2⟩)
 ·obtain⟨xs,zs,h1,h2,h3,h4⟩:=h;exact .inr (.inr ⟨_,_,xs,zs,rfl,rfl,h1,h2,h3,h4⟩)
 ·exact h.elim
def Eg:R2:=λx y H Q=>match x,y with
 |.int i,.int j=>OL i j/\Q (.int (i*j)) H
 |_,_=>False
def Gi:fi X (rX .Mult) Eg:=fo'.imp λx y H Q h=>by
 unfold Eg at h;split at h
 ·exact⟨_,_,rfl,rfl,h.1,h.2⟩
 ·exact h.elim
def GR:R2:=λx y H Q=>match x,y with
 |.int i,.int j=>(0<j/\j<1073741824)/\Q (.int (i / j)) H
 |_,_=>False
def GJ:fi X (rX .FloorDiv) GR:=fp'.imp λx y H Q h=>by
 unfold GR at h;split at h
 ·exact⟨_,_,rfl,rfl,h.1,h.2⟩
 ·exact h.elim
def Gv:R2:=λx y H Q=>match x,y with
 |.int i,.int j=>0<j/\Q (.int (i % j)) H
 |_,_=>False
def Gd:fi X (rX .Mod) Gv:=fq'.imp λx y H Q h=>by
 unfold Gv at h;split at h
 ·exact⟨_,_,rfl,rfl,h.1,h.2⟩
 ·exact h.elim
def tI(x y:Str):Bool:=decide (x.cps.toList<y.cps.toList)
def Ww:R2:=λx y H Q=>match x,y with
 |.int i,.int j=>Q (.bl (decide (i<j))) H
 |.str i,.str j=>Q (.bl (tI i j)) H
 |_,_=>False
def Dg:fi X (iE .Lt) Ww:=(fx'.or fA').imp λx y H Q h=>by
 unfold Ww at h;split at h
 ·exact .inl ⟨_,_,rfl,rfl,h⟩
 ·exact .inr ⟨_,_,rfl,rfl,h⟩
 ·exact h.elim
def yP:fi X (iE .LtE) (λx y H Q=>∃ i j,x=.str i/\y=.str j/\Q (.bl (!tI j i)) H):=by intro pins s σ H x y v u Q I rx ry h;obtain⟨i,j,rfl,rfl,q⟩:=h;obtain⟨t,rfl⟩:=rx;obtain⟨t',rfl⟩:=ry;exact PySem.P.le_str ⟨.bl _,H,I,rfl,q⟩
def Wx:R2:=λx y H Q=>match x,y with
 |.int i,.int j=>Q (.bl (decide (i<=j))) H
 |.str i,.str j=>Q (.bl (!tI j i)) H
 |_,_=>False
def vp:fi X (iE .LtE) Wx:=(fy'.or yP).imp λx y H Q h=>by
 unfold Wx at h;split at h
 ·exact .inl ⟨_,_,rfl,rfl,h⟩
 ·exact .inr ⟨_,_,rfl,rfl,h⟩
 ·exact h.elim
def Wy:R2:=λx y H Q=>match x,y with
 |.int i,.int j=>Q (.bl (decide (j<i))) H
 |_,_=>False
def qx:fi X (iE .Gt) Wy:=fz'.imp λx y H Q h=>by
 unfold Wy at h;split at h
 ·exact⟨_,_,rfl,rfl,h⟩
 ·exact h.elim
def Inv.rd(I:Inv X pins σ H s)(e:Rd H a u):lI X.prog X.w H s.heap a u:=e.elim (I.cy a _) λ⟨o,e⟩=>(I.cy a _ e).2
def T9(K:aE):List V->Hp->VK->Prop:=λxs H Q=>match xs with
 |[.str y]=>y.length<=bI/\Q (.int y.length) H
 |[.ref p]=>(∃ ys,gd K H p ys/\Q (.int ys.length) H)\/(∃ ys,k5 K H p ys/\Q (.int ys.length) H)\/∃ kvs,Rd H p (.dK kvs)/\Q (.int kvs.length) H
 |_=>False
def yR:kL X (.builtin "len") (T9 X.K):=by
 walk_at"f";unfold T9 at h;split at h
 ·exact V1 pins s σ H _ us Q I r ⟨_,_,rfl,⟨h.1,rfl⟩,h.2⟩
 ·rcases h with⟨ys,h1,h2⟩|⟨ys,h1,h2⟩|⟨kvs,h1,h2⟩
  ·exact V1 pins s σ H _ us Q I r ⟨_,_,rfl,.inl ⟨ys,h1,rfl⟩,h2⟩
  ·exact V1 pins s σ H _ us Q I r ⟨_,_,rfl,.inr ⟨ys,h1,rfl⟩,h2⟩
  ·obtain⟨u,rfl,ru⟩:=vals1 r;cases ru;exact gX' I h1 λt s' I'=>⟨.int kvs.length,H,I',⟨t,rfl⟩,h2⟩
 ·exact h.elim
def T_(K:aE):R2:=λx y H Q=>match x,y with
 |.ref p,.int i=>(∃ xs v,gd K H p xs/\gi xs i=some v/\Q v H)\/∃ xs v,k5 K H p xs/\gi xs i=some v/\Q v H
 |.str z,.int i=>z.length<=bI/\∃ c,gi z.cps.toList i=some c/\Q (.str ⟨#[c]⟩) H
 |_,_=>False
def Dr:x6 X (T_ X.K):=by
 intro value slice pins s σ H x y v u Q I rx ry h hs;refine gw' value slice pins s σ H x y v u Q I rx ry ?_ hs;unfold T_ at h;split at h
 ·rcases h with⟨xs,w,h1,h2,h3⟩|⟨xs,w,h1,h2,h3⟩
  ·exact .inl ⟨_,xs,_,w,rfl,rfl,h1,h2,h3⟩
  ·exact .inr (.inl ⟨_,xs,_,w,rfl,rfl,h1,h2,h3⟩)
 ·obtain⟨h1,c,h2,h3⟩:=h;exact .inr (.inr ⟨_,_,c,rfl,rfl,h1,h2,h3⟩)
 ·exact h.elim
def pS(z:Str)(lo hi:Option Int):Str:=⟨((z.cps.toList.drop (HT.dr z.length 0 lo)).take (HT.dr z.length z.length hi-HT.dr z.length 0 lo)).toArray⟩
end
def yf(l:List Nat)(lo hi:Option Int)(h:((l.drop (HT.dr l.length 0 lo)).take (HT.dr l.length l.length hi-HT.dr l.length 0 lo)).length=l.length) : (l.drop (HT.dr l.length 0 lo)).take (HT.dr l.length l.length hi-HT.dr l.length 0 lo)=l:=by
 generalize HT.dr l.length 0 lo=a at *
 by_cases hl:l.length=0
 ·have:l=[]:=Sw.mp hl;subst this;simp
 ·rw[mE,FK] at h;have h1:a=0:=by lia
  subst h1;rw[List.drop_zero];exact Sx (by lia)
def wY(lo hi:Option Int)(n:Nat):Builtin.Str.strSliceIndices lo hi 1 n=(List.range (HT.dr n n hi-HT.dr n 0 lo)).map (HT.dr n 0 lo + ·):=by
 have e1:(match lo with|none=>0|some i=>max 0 (min (if i<0 then i+n else i) n))=((HT.dr n 0 lo:Nat):Int):=by
  cases lo with
  |none=>simp[HT.dr]
  |some i =>
   simp only[HT.dr];by_cases h:i<0
   ·simp only[h,if_true]<;>lia
   ·simp only[h,if_false]<;>lia
 have e2:(match hi with|none=>n|some i=>max 0 (min (if i<0 then i+n else i) n))=((HT.dr n n hi:Nat):Int):=by
  cases hi with
  |none=>simp[HT.dr]
  |some i =>
   simp only[HT.dr];by_cases h:i<0
   ·simp only[h,if_true]<;>lia
   ·simp only[h,if_false]<;>lia
 rw[<- sliceRange_one,<- e1,<- e2];cases lo<;>cases hi<;>rfl
section
variable {X:Cx}
def part_of(h:IsPart v o):∃ p:Option (Int × Tok),v=partValue p/\p.map (·.1)=o:=by
 cases h with
 |none=>exact⟨none,rfl,rfl⟩
 |int i t=>exact⟨some (i,t),rfl,rfl⟩
def Wz(K:aE):V->Option Int->Option Int->Hp->VK->Prop:=λx lo hi H Q=>match x with
 |.str z=>z.length<=bI/\Q (.str (pS z lo hi)) H
 |.ref a=>∃ xs,gd K H a xs/\∀ p,H p=none->Q (.ref p) (upd H p (.lst (K0 xs lo hi)))
 |_=>False
def HF:OO X (λx lo hi H Q=>∃ z,x=.str z/\z.length<=bI/\Q (.str (pS z lo hi)) H):=by
 intro pins s σ H x v vl vu lo hi sl Q I rx hs pl pu h;obtain⟨z,rfl,hz,q⟩:=h;obtain⟨t,rfl⟩:=rx;obtain⟨p1,rfl,e1⟩:=part_of pl;obtain⟨p2,rfl,e2⟩:=part_of pu;refine⟨"str",_,F.slot_str_getitem.lookup,typeIs_str s z t,wpAny_getItem_str_slice (st:=none) hs rfl ?_⟩;have hl:z.cps.toList.length=z.length:=by simp[Str.length]
 have ep:slicePicked z p1 p2 none=(List.range (HT.dr z.length z.length hi-HT.dr z.length 0 lo)).map (HT.dr z.length 0 lo + ·):=by unfold slicePicked;rw[e1,e2];exact wY lo hi z.length
 have ef:(slicePicked z p1 p2 none).filterMap (z.cps[·]?)=(z.cps.toList.drop (HT.dr z.length 0 lo)).take (HT.dr z.length z.length hi-HT.dr z.length 0 lo):=by rw[ep];exact pick_run z.cps _ _
 unfold sliceMade;split
 ·rename_i hc;have hw:(slicePicked z p1 p2 none).length=z.length:=by simpa using hc
  have:pS z lo hi=z:=by
   unfold pS;have e3:((z.cps.toList.drop (HT.dr z.cps.toList.length 0 lo)).take (HT.dr z.cps.toList.length z.cps.toList.length hi-HT.dr z.cps.toList.length 0 lo)).length=z.cps.toList.length:=by
    rw[hl,mE,FK,hl];rw[ep,cx,Qg] at hw;have h1:HT.dr z.length z.length hi<=z.length:=by
     cases hi with
     |none=>simp[HT.dr]
     |some i=>simp only[HT.dr];split<;>lia
    lia
   have:=yf z.cps.toList lo hi e3;rw[hl] at this;rw[this]
  rw[this] at q;exact⟨.str z,H,I,⟨t,rfl⟩,q⟩
 ·rw[ef];exact⟨by
   show(pS z lo hi).length<=bI;unfold pS Str.length;simp only[jI,mE,FK,hl];lia,⟨.str (pS z lo hi),H,I.tok _,⟨_,rfl⟩,q⟩⟩
def Jw:OO X (Wz X.K):=by
 intro pins s σ H x v vl vu lo hi sl Q I rx hs pl pu h;unfold Wz at h;split at h
 ·exact HF pins s σ H _ v vl vu lo hi sl Q I rx hs pl pu ⟨_,rfl,h.1,h.2⟩
 ·obtain⟨xs,h1,h2⟩:=h;exact gA' pins s σ H _ v vl vu lo hi sl Q I rx hs pl pu ⟨_,xs,rfl,h1,h2⟩
 ·exact h.elim
def Q8(z:Str):It:=⟨λi _=>i<z.cps.size,λi H x H'=>H'=H/\∃ c,z.cps[i]? = some c/\x=.str ⟨#[c]⟩,λi _=>z.cps.size<=i⟩
def vm {P:eL} {K:aE} (G0:ty = "str_ascii_iterator"\/ty = "str_iterator") :
  Turn P w K tg (Q8 z) [it] it (λi h=>h.IsStrIter it ty z t i/\i<=z.cps.size) where
 mem:=by simp
 obj:=λi h st b hb=>by
  have e:b=it:=by simpa using hb
  subst e;obtain⟨⟨o,e,c,d⟩,_⟩:=st;exact⟨o,e,λv z=>by rw[d] at z;cases z⟩
 keep:=λi h h' st k=>let ⟨⟨o,e,c,d⟩,l⟩:=st;⟨⟨o,k it (by simp) o e,c,d⟩,l⟩
 item:=by
  intro X hP hw hK hc i pins s σ H E I hf st hg;subst hP hw hK;obtain⟨f0,f1,f2,f3,f4,f5⟩:=hf it (by simp);obtain⟨st,_⟩:=st;have hg:i<z.cps.size:=hg;have W:Walks X.prog X.w X.A it [it] [it] z.cps.size (SignAt z) (λi h=>h.IsStrIter it ty z t i):=by
   rcases G0 with rfl|rfl
   ·exact Walks.strAscii (I.ok.hd hc) it z t
   ·exact Walks.strWide (I.ok.hd hc) it z t
  refine W.item i s _ _ hg st λv h' tk hv av kk=>?_;obtain⟨c,u,ec,rfl⟩:=hv;have I1:Inv X pins σ H { s with heap:=h',toks:=tk }:=I.turned (λb o hb e=>kk b o (by simpa using hb) e) f0 f1 f3 f4 f5;obtain⟨o,e,c',d⟩:=id av;exact⟨_,rfl,Tt (s:={ s with heap:=h',toks:=tk }) e c' d (by rcases G0 with rfl|rfl<;>decide) ⟨.str ⟨#[c]⟩,H,I1,⟨u,rfl⟩,⟨rfl,c,ec,rfl⟩,⟨av,hg⟩,λb hb=>(hf b hb).1⟩⟩
 done:=by
  intro X hP hw hK hc i pins s σ H E I hf st hg;subst hP hw hK;obtain⟨f0,f1,f2,f3,f4,f5⟩:=hf it (by simp);obtain⟨st,hle⟩:=st;have hg:z.cps.size<=i:=hg;have e:i=z.cps.size:=Nat.le_antisymm hle hg;subst e;have W:Walks X.prog X.w X.A it [it] [it] z.cps.size (SignAt z) (λi h=>h.IsStrIter it ty z t i):=by
   rcases G0 with rfl|rfl
   ·exact Walks.strAscii (I.ok.hd hc) it z t
   ·exact Walks.strWide (I.ok.hd hc) it z t
  exact W.done s _ _ st λh' tk kk=>⟨rfl,I.turned (λb o hb e=>kk b o (by simpa using hb) e) f0 f1 f3 f4 f5⟩
 self:=λA i s Q E st h=>by
  rcases G0 with rfl|rfl
  ·exact wpAny_pyIter_striter_ascii st.1 h
  ·exact wpAny_pyIter_striter_wide st.1 h
def JD(hl:PE X l tl):PI X tg l (λσ H R=>tl σ H λx H1=>∃ z,x=.str z/\R (Q8 z) H1):=by
 intro pins s σ H R I h;refine dQ (hl pins s σ H _ I h) λv s1 dS=>L2.hG dS λx H1 I1 r1 q1=>?_;obtain⟨z,rfl,q⟩:=q1;obtain⟨t,rfl⟩:=r1;have fp:∀ b∈[s1.heap.objs.size],A6 X pins H1 b:=λb hb=>by
  have e:b=s1.heap.objs.size:=by simpa using hb
  subst e;exact I1.QB (c9 _) (I1.cy.fresh (c9 _))
 cases ha:z.cps.all (· < 128)
 ·exact wpAny_pyIter_wide ha ⟨s1.heap.objs.size,[s1.heap.objs.size],_,_,H1,rfl,I1.kept λb o e=>gx _ e,vm (.inr rfl),⟨⟨_,kG _ rfl,rfl,rfl⟩,fS _⟩,fp,q⟩
 ·exact wpAny_pyIter_ascii ha ⟨s1.heap.objs.size,[s1.heap.objs.size],_,_,H1,rfl,I1.kept λb o e=>gx _ e,vm (.inl rfl),⟨⟨_,kG _ rfl,rfl,rfl⟩,fS _⟩,fp,q⟩
end
structure jG(J:It)(its:List V)(cond:Hp->Prop):Prop where
 go:∀ i H,cond H->i<its.length->J.go i H
 qV:∀ i H x H',cond H->i<its.length->J.qV i H x H'->H'=H/\its[i]? = some x
 stop:∀ H,cond H->J.stop its.length H
def Ua(z:Str):List V:=z.cps.toList.map λc=>.str ⟨#[c]⟩
def Gx(z:Str):jG (Q8 z) (Ua z) (λ_=>True) where
 go:=λi H _ h=>by simpa[Ua,Q8] using h
 qV:=λi H x H' _ _ h=>by obtain⟨rfl,c,e,rfl⟩:=h;refine⟨rfl,?_⟩;unfold Ua;rw[nK,pE,e];rfl
 stop:=λH _=>by simp[Ua,Q8]
def Br(K:aE)(a:ai)(xs:List V):jG (Tv K a) xs (λH=>gd K H a xs) where
 go:=λi H h hi=>⟨xs,xs[i],h,by simp[hi]⟩
 qV:=λi H x H' h _ y=>⟨y.1,y.2 xs h⟩
 stop:=λH h=>⟨xs,h,c9 _⟩
def G4(K:aE)(a:ai)(xs:List V):jG (VR K a) xs (λH=>k5 K H a xs) where
 go:=λi H h hi=>⟨xs,xs[i],h,by simp[hi]⟩
 qV:=λi H x H' h _ y=>⟨y.1,y.2 xs h⟩
 stop:=λH h=>⟨xs,h,c9 _⟩
def wO(lo:Int)(n:Nat):List V:=(List.range n).map λi=>.int (lo+(i:Nat))
def DP(lo:Int)(n:Nat):jG (OB lo n) (wO lo n) (λ_=>True) where
 go:=λi H _ h=>by simpa[wO,OB] using h
 qV:=λi H x H' _ hi h=>by
  have hi:i<n:=by simpa[wO] using hi
  obtain⟨rfl,rfl⟩:=h;refine⟨rfl,?_⟩;simp[wO,hi]
 stop:=λH _=>by simp[wO,OB]
mutual
inductive Rep(K:aE)(H:Hp):eC->V->Prop
 |none:Rep K H .none .non
 |bool (b:Bool):Rep K H (.bool b) (.bl b)
 |int (i:Int):Rep K H (.int i) (.int i)
 |str (x:Str):Rep K H (.str x) (.str x)
 |list {a:ai} {vs:List V} {ds:List eC}:gd K H a vs->b5 K H ds vs->Rep K H (.list ds) (.ref a)
 |tuple {a:ai} {vs:List V} {ds:List eC}:k5 K H a vs->b5 K H ds vs->Rep K H (.tuple ds) (.ref a)
inductive b5(K:aE)(H:Hp):List eC->List V->Prop
 |nil:b5 K H [] []
 |cons {d:eC} {v:V} {ds:List eC} {vs:List V}:Rep K H d v->b5 K H ds vs->b5 K H (d :: ds) (v :: vs)
end
section
variable {X:Cx}{pins:List (ai × Obj)}{σ:St}{H:Hp}{s:ay}
mutual
theorem Rep.reads(I:Inv X pins σ H s):∀ {d:eC} {v:V} {u:ae},Rep X.K H d v->RelV v u->∃ as,Reads s.heap u d as
 |_,_,_,.none,r=>by cases (r);exact⟨_,.none⟩
 |_,_,_,.bool b,r=>by cases (r);exact⟨_,.bool b⟩
 |_,_,_,.int i,r=>by obtain⟨t,e⟩:=r;subst e;exact⟨_,.int i t⟩
 |_,_,_,.str x,r=>by obtain⟨t,e⟩:=r;subst e;exact⟨_,.str x t⟩
 |_,_,_,.list h hs,r=>by cases r;obtain⟨its,rv,pl,_⟩:=I.list h;obtain⟨o,e,c,n,d⟩:=pl.isList;obtain⟨as,q⟩:=b5.reads I hs rv;exact⟨_,.list e c d q⟩
 |_,_,_,.tuple h hs,r=>by cases r;obtain⟨its,rv,⟨o,e,c,n,d⟩,_⟩:=I.tuple h;obtain⟨as,q⟩:=b5.reads I hs rv;exact⟨_,.tuple e c d q⟩
theorem b5.reads(I:Inv X pins σ H s):∀ {ds:List eC} {vs:List V} {us:List ae},b5 X.K H ds vs->Vals vs us->∃ as,ReadsAll s.heap us ds as
 |_,_,_,.nil,.nil=>⟨_,.nil⟩
 |_,_,_,.cons h hs,.cons r rs=>by obtain⟨as,q⟩:=Rep.reads I h r;obtain⟨bs,q'⟩:=b5.reads I hs rs;exact⟨_,.cons q q'⟩
end
def WB(K:aE):R2:=λx y H Q=>∃ d e,Rep K H d x/\Rep K H e y/\d.canLay0=true/\e.canLay0=true/\d.depth<=60/\Q (.bl (PyData.eqv d e)) H
def WC(K:aE):R2:=λx y H Q=>∃ d e,Rep K H d x/\Rep K H e y/\d.canLay0=true/\e.canLay0=true/\d.depth<=60/\Q (.bl (!PyData.eqv d e)) H
def Iw(hu:X.A.units+64<fE):fi X (iE .Eq) (WB X.K):=by intro pins s σ H x y v u Q I rx ry h;obtain⟨d,e,h1,h2,h3,h4,h5,q⟩:=h;obtain⟨as,r1⟩:=h1.reads I rx;obtain⟨bs,r2⟩:=h2.reads I ry;exact PySem.SeqAt.rcAt_reads r1 r2 h3 h4 (by lia) X.prog X.w X.xe _ ⟨.bl _,H,I,rfl,q⟩
def HW(hu:X.A.units+64<fE):fi X (iE .NotEq) (WC X.K):=by intro pins s σ H x y v u Q I rx ry h;obtain⟨d,e,h1,h2,h3,h4,h5,q⟩:=h;obtain⟨as,r1⟩:=h1.reads I rx;obtain⟨bs,r2⟩:=h2.reads I ry;exact PySem.SeqAt.rcNeAt_reads r1 r2 h3 h4 (by lia) X.prog X.w X.xe _ ⟨.bl _,H,I,rfl,q⟩
def Ub(K:aE):R2:=λx y H Q=>match x,y with
 |.int i,.int j=>Q (.bl (decide (i=j))) H
 |.str i,.str j=>Q (.bl (decide (i=j))) H
 |.bl i,.bl j=>Q (.bl (decide (i=j))) H
 |_,_=>WB K x y H Q
def JC(hu:X.A.units+64<fE):fi X (iE .Eq) (Ub X.K):=(fv'.or (Iw hu)).imp λx y H Q h=>by
 unfold Ub at h;split at h
 ·refine .inl ⟨rfl,?_⟩;simpa using h
 ·refine .inl ⟨rfl,?_⟩;simpa using h
 ·refine .inl ⟨rfl,?_⟩;simpa using h
 ·exact .inr h
def Uc(K:aE):R2:=λx y H Q=>match x,y with
 |.int i,.int j=>Q (.bl (!decide (i=j))) H
 |.str i,.str j=>Q (.bl (!decide (i=j))) H
 |.bl i,.bl j=>Q (.bl (!decide (i=j))) H
 |_,_=>WC K x y H Q
def JX(hu:X.A.units+64<fE):fi X (iE .NotEq) (Uc X.K):=(fw'.or (HW hu)).imp λx y H Q h=>by
 unfold Uc at h;split at h
 ·refine .inl ⟨rfl,?_⟩;simpa using h
 ·refine .inl ⟨rfl,?_⟩;simpa using h
 ·refine .inl ⟨rfl,?_⟩;simpa using h
 ·exact .inr h
def Ud(K:aE):List V->Hp->VK->Prop:=λxs H Q=>match xs with
 |[.ref a]=>∃ bs:List Bool,gd K H a (bs.map V.bl)/\Q (.bl (bs.all id)) H
 |_=>False
def yc (hc:X.calm=true):kL X (.builtin "all") (Ud X.K):=by
 walk_at"f";unfold Ud at h;split at h
 ·rename_i a;obtain⟨bs,e,q⟩:=h;obtain⟨u,rfl,ru⟩:=Vals.one r;cases ru;obtain⟨its,rv,pl,hz⟩:=I.list e;have hl:s.heap.IsList a its.toArray:=pl.isList;obtain⟨o,ho,Tp,n,LH⟩:=id hl;have hlen:=rv.length;rw[cx] at hlen;refine call_all_walk (wpAny_pyIter_list hl ?_);have ke:a≠s.heap.objs.size:=hU (fF ho);have EX:X.A.in1.handled=none:=I.ok.hd hc;refine⟨s.heap.objs.size,_,_,_,_,_,λi=>bs.getD i true,rfl,Walks.list EX s.heap.objs.size a ke its.toArray,⟨⟨_,kG _ rfl,rfl,rfl⟩,⟨_,gx _ ho,Tp,n,LH⟩⟩,?_,λh' tk hk=>?_⟩
  ·intro i v s' Q' E' hv hq;have w4:its[i]? = some v:=by simpa using hv
   have hi:i<bs.length:=by have:=(iF.mp w4).1;lia
   obtain⟨w',e1,r1⟩:=rv.get (i:=i) (x:=V.bl bs[i]) (by simp[hi]);rw[w4] at e1;cases e1;cases (r1);have e2:bs.getD i true=bs[i]:=by simp[List.getD,hi]
   have hq:Q' (bs.getD i true) s':=hq;rw[e2] at hq;exact IJ hq
  ·have e3:((List.range its.toArray.size).all λi=>bs.getD i true)=bs.all id:=by
    rw[jI,<- hlen];apply sT.mpr;simp only[AX,oP,id];constructor
    ·intro h b hb;obtain⟨i,hi,rfl⟩:=Sy.mp hb;have:=h i hi;simpa[List.getD,hi] using this
    ·intro h i hi;have:=h bs[i] (ui hi);simpa[List.getD,hi] using this
   rw[e3];exact⟨.bl (bs.all id),H,I.kept λb o e=>hk b o (by simp;exact hU (fF e)) (gx _ e),rfl,q⟩
 ·exact h.elim
end
end L2
namespace L2
def Ue(sc:Scope)(names:List (Str × AU)):List (Str × AU):=names.map λy=>if (y.2 == NameKind.free && sc.kind == .function && sc.names.lookup y.1 == some .cell)=true then (y.1,NameKind.cell) else (y.1,y.2)
def Q9(o:Option AU):Bool:=o == some .cell || o == some .free
def Gr(sc scope:Scope)(N cn:List Str)(ix:List Nat):Bool :=
 scope.kind == .function && scope.names.all (λy=>y.2 != .cell) && scope.names.all (λy=>y.2 != .free || Q9 (sc.names.lookup y.1)) && scope.names.all (λy=>y.2 != .local || scope.names.lookup y.1 == some .local) &&
 ix.length == cn.length && (List.range ix.length).all (λk=>match ix[k]?,cn[k]? with
  |some j,some y=>N[j]? == some y && Q9 (sc.names.lookup y) && scope.names.contains (y,NameKind.free) && Q9 ((Ue sc scope.names).lookup y)
  |_,_=>false) &&
 (Ue sc scope.names).all (λy=>!(y.2 == .cell || y.2 == .free) || scope.names.contains (y.1,NameKind.free))
def rT(h:Q9 o=true):o=some .cell\/o=some .free:=by unfold Q9 at h;simpa using h
def eZ.of{X:Cx}(vt:X.env.scope=sc)(hN:X.N=N)(h:Gr sc scope N cn ix=true):eZ X scope tn cn ix:=by
 unfold Gr at h;simp only[n5] at h;obtain⟨⟨⟨⟨⟨⟨h1,h2⟩,h3⟩,h4⟩,h5⟩,h6⟩,h7⟩:=h;rw[AX] at h2 h3 h4 h6 h7;have erl:(relabel scope X.env).names=Ue sc scope.names:=by rw[<- vt];rfl
 refine⟨by simpa using h1,λy hy=>by simpa using h2 y hy,λy hy hk=>?_,λy hy hk=>?_,by simpa using h5,λk j hk=>?_,λx hx=>?_⟩
 ·have:=h3 y hy;rw[hk] at this;rw[vt];exact rT (by simpa using this)
 ·have:=h4 y hy;rw[hk] at this;simpa using this
 ·have kR:k<ix.length:=(iF.mp hk).1;have:=h6 k (oP.mpr kR);rw[hk] at this
  cases e:cn[k]? with
  |none=>rw[e] at this;cases this
  |some y =>rw[e] at this;simp only[n5] at this;obtain⟨⟨⟨a1,a2⟩,a3⟩,a4⟩:=this;refine⟨y,rfl,by rw[hN];simpa using a1,by rw[vt];exact rT a2,by simpa using a3,by rw[erl];exact rT a4⟩
 ·rw[erl] at hx;have mem:∃ k,(x,k)∈Ue sc scope.names/\(k=.cell\/k=.free):=by
   rcases hx with hx|hx
   ·exact⟨_,PySem.mem_of_lookup hx,.inl rfl⟩
   ·exact⟨_,PySem.mem_of_lookup hx,.inr rfl⟩
  obtain⟨k,hm,hk⟩:=mem;have:=h7 _ hm;rcases hk with rfl|rfl<;>simpa using this
def eZ.by{X:Cx}(c:X.env.scope=sc/\X.N=N)(h:Gr sc scope N cn ix=true):eZ X scope tn cn ix:=.of c.1 c.2 h
structure Ug(P:eL)(w:eR)(K:aE)(mg:Str->Option ae)(base:eh)(k:Nat)(x:Str)(ps:List Str)(sp:Sp):Prop where
 ex:∃ (g:ai) (fd:FuncData),mg x=some (.ref g)/\IY K (.ref g)=true/\Binds K fd ps []/\Ap P w K mg base wx k g fd ps sp
section
variable {X:Cx}{k:Nat}{x:Str}{ps:List Str}{sp:Sp}{p pos:Pos}{e:Expr}{es:List Expr}{t:TA}
def Im (C:Ug X.prog X.w X.K X.mg X.base k x ps sp) (hr:oa k X.A) (ha:PA X (e :: es) t) (hg:autoParam (Gl X x) bv) (ve:(x == ("__debug__" : Str))=false:=by decide) (he:autoParam (df (e :: es) X.env=(false,eI e X.env) :: df es X.env) bv) (rh:autoParam ((ny pos (df es X.env)).any (·.1)=false) bv):PE X (.Call (.Name x p) (e :: es) [] pos) (V4 sp [] E0 t):=by
 obtain⟨g,fd,hm,hk,hb,F⟩:=C.ex;exact fU' F hr hg hm hk hb .nil hX' ha ve he rh
end
def DE.cal{P:eL}{K:aE}{st:Stmt}{ps:List Str}(F:DE K x qual st f fd)(hm:mg x=some (.ref f))(G:Ap P w K mg base wx k f fd ps sp)(h:∀ (kV doc pm:ae) (an:Option ai) (gI ct:ae) (us:List ae),us.length=ps.length->bindArgs (zC x qual (DC st) (x8 st) (nL st) .none kV doc pm an gI ct) ⟨us,[]⟩=pure (ps.zip us)):Ug P w K mg base k x ps sp :=
 ⟨f,fd,hm,F.kp,F.binds h,G⟩
def Uh(mg:Str->Option ae)(x:Str)(z:Str):Prop:=∃ t,mg x=some (.str z t)
def OV(mg:Str->Option ae)(x:Str)(i:Int):Prop:=∃ t,mg x=some (.int i t)
def KY {X:Cx} (h:Uh X.mg x z) (hg:autoParam (Gl X x) bv) (hd:(x == ("__debug__" : Str))=false:=by decide):PE X (.Name x pos) (tC (.str z)):=by obtain⟨t,e⟩:=h;exact aF' hg e ⟨t,rfl⟩ hd
def KQ {X:Cx} (h:OV X.mg x i) (hg:autoParam (Gl X x) bv) (hd:(x == ("__debug__" : Str))=false:=by decide):PE X (.Name x pos) (tC (.int i)):=by obtain⟨t,e⟩:=h;exact aF' hg e ⟨t,rfl⟩ hd
def Ju:kQ "str" = some (.type "str"):=by decide +kernel
def CJ:kQ "int" = some (.type "int"):=by decide +kernel
def d_:kQ "list" = some (.type "list"):=by decide +kernel
def Ck:kQ "tuple" = some (.type "tuple"):=by decide +kernel
def oZ:kQ "isinstance" = some (.builtin "isinstance"):=by decide +kernel
def JG:kQ "all" = some (.builtin "all"):=by decide +kernel
def dD:kQ "len" = some (.builtin "len"):=by decide +kernel
def GF {X:Cx} {T:String} (hm:X.mg x=none) (hv:kQ x=some (.type T)) (hg:autoParam (Gl X x) bv) (hn:x ≠ "__name__" := by decide) (hd:(x == ("__debug__" : Str))=false:=by decide):PE X (.Name x pos) (tC (.ty T)) :=
 em' hg hm hv rfl hn hd
def DI(i j:Str):Bool:=!(Builtin.Str.occurrences j i 0 j.length 1).isEmpty
def Fl(c:Nat)(j:Str):DI ⟨#[c]⟩ j=decide (c∈j.cps.toList):=PySem.StrLaws.found_one j c
def LJ(K:aE)(neg:Bool):R2:=λx y H Q=>match x,y with
 |.str i,.str j=>Q (.bl (if neg then !DI i j else DI i j)) H
 |_,.ref p=>(∃ o,lT H p x o/\Q (.bl (if neg then !o.isSome else o.isSome)) H)\/QR K neg x y H Q
 |_,_=>False
def Hq{X:Cx}(hu:X.A.units+64<fE):fi X (iE .In) (LJ X.K false):=by
 walk_at"b";unfold LJ at h;split at h
 ·exact fB' pins s σ H _ _ v u Q I rx ry ⟨_,_,rfl,rfl,h⟩
 ·rcases h with⟨o,g,q⟩|h
  ·cases ry;exact gU' (by lia) I g rx λs3 I3=>⟨.bl o.isSome,H,I3,rfl,q⟩
  ·exact gC' pins s σ H _ _ v u Q I rx ry h
 ·exact h.elim
def zG{X:Cx}(hu:X.A.units+64<fE):fi X (iE .NotIn) (LJ X.K true):=by
 walk_at"b";unfold LJ at h;split at h
 ·exact fC' pins s σ H _ _ v u Q I rx ry ⟨_,_,rfl,rfl,h⟩
 ·rcases h with⟨o,g,q⟩|h
  ·cases ry;exact gV' (by lia) I g rx λs3 I3=>⟨.bl (!o.isSome),H,I3,rfl,q⟩
  ·exact gD' pins s σ H _ _ v u Q I rx ry h
 ·exact h.elim
def bP.upd(h:bP H H')(hp:H' p=none):bP H (upd H' p o):=λb u e=>by have e':=h b u e;rw[h9 (FX e' hp)];exact e'
def bP.lst{K:aE}(e:bP H H')(h:gd K H a xs):gd K H' a xs:=e.seq h
def bP.tup{K:aE}(e:bP H H')(h:k5 K H a xs):k5 K H' a xs:=by
 rcases h with(h|⟨o,h⟩)|h
 ·exact .inl (.inl (e _ _ h))
 ·exact .inl (.inr ⟨o,e _ _ h⟩)
 ·exact .inr h
section
variable {X:Cx}{K:aE}
def kIx(hK:autoParam (X.K=K) bv):x6 X (T_ K):=by subst hK;exact Dr
def w_(hK:autoParam (X.K=K) bv)(hu:X.A.units+64<fE:=by assumption):fi X (iE .Eq) (Ub K):=by subst hK;exact JC hu
def OW(hK:autoParam (X.K=K) bv)(hu:X.A.units+64<fE:=by assumption):fi X (iE .NotEq) (Uc K):=by subst hK;exact JX hu
def lS(hK:autoParam (X.K=K) bv)(hu:X.A.units+64<fE:=by assumption):fi X (iE .In) (LJ K false):=by subst hK;exact Hq hu
def uF(hK:autoParam (X.K=K) bv)(hu:X.A.units+64<fE:=by assumption):fi X (iE .NotIn) (LJ K true):=by subst hK;exact zG hu
def iD' (hc:autoParam (X.calm=true) bv) (hK:autoParam (X.K=K) bv):kL X (.builtin "all") (Ud K):=by subst hK;exact yc hc
end
def O6{α:Type}{a:α}{p:α->Prop}:(∃ v,a=v/\p v)↔p a:=⟨λ⟨_,e,h⟩=>e ▸ h,λh=>⟨a,rfl,h⟩⟩
abbrev WD:=Array DictEntry
def xa(h:eh)(d:ai)(es:WD)(ep:Nat):Prop:=∃ o,h.get? d=some o/\o.ExactDict/\o.data=.dict es ep
def xa.typ {s:ay} {d:ai} {es:WD} {ep:Nat} (x:xa s.heap d es ep):s.TypeIs (.ref d) "dict" := let ⟨o,e,c,_⟩:=x;⟨o,e,c.1⟩
section
variable {prog:eL}{w:eR}{A:fq}{E:ae->ay->Prop}{s:ay}{d it:ai}{es:WD}{ep i:Nat}
def Bb{Q:ae->ay->Prop}(lo:(d == v3)=false)(x:xa s.heap d es ep)(q:Q (.ref s.heap.objs.size) { s with heap:=s.heap.push { cls:=.type "dict_keyiterator",data:=.fields #[.ref d,.int 0 0,.int es.size 0,.int ep 0] } }):bG (aI prog w) A (pyIter (.ref d)) Q E s:=by
 obtain⟨o,ho,hc,Ui⟩:=id x;refine wpAny_pyIter_slot x.typ F.slot_dict_iter (B9 F.slot_dict_iter x.typ F.entry_dict_iter ?_ (F.args_dict_iter_1 _));refine ax ?_;refine ax (wpAny_notOrdered_dict x.typ ?_);refine(bE ?_);refine(show bG _ _ (Builtin.Dict.showsAll d >>= _) _ _ s from ?_);unfold Builtin.Dict.showsAll;rw[if_neg (by rw[lo];decide)];refine ax (bE (ax (wpAny_dictEntries ho Ui (ax (wpAny_dictEpoch ho Ui (ax (sQ (bE ⟨_,rfl, "dict_keyiterator",_,⟨_,kG _ rfl,rfl⟩,F.slot_dict_keyiterator_next.lookup,?_⟩))))))));simpa[n4] using q
def BX(hit:s.heap.IsKeyIter it d i es.size ep)(x:xa s.heap d es ep)(hx:i<es.size)(q:∀ h',h'.IsKeyIter it d (i+1) es.size ep->Heap.SameBut it s.heap h'->Q (some es[i].key) { s with heap:=h' }):bG (aI prog w) A (pyNext (.ref it)) Q E s:=by
 obtain⟨o,ho,hc,hd⟩:=id hit;obtain⟨od,LH,u0,Q_⟩:=id x;have ty:=hit.typeIs;refine ax (wpAny_attempt (P8 ty F.slot_dict_keyiterator_next (B9 F.slot_dict_keyiterator_next ty F.entry_dict_keyiterator_next ?_ (F.args_dict_keyiterator_next_1 _))));refine ax (bE (ax (ax ?_)));first|refine ax (Sn ty (bE ?_))|refine ax (Sq ty (bE ?_))
 refine ax (wpAny_fieldsOf ho hd ?_);refine(show bG _ _ (if (Value.ref d == Value.none)=true then _ else _) _ _ s from ?_);refine ax (bE (ax (wpAny_dictEntries LH Q_ ?_)));rw[if_neg (by intro h;simp at h)];refine ax (bE (ax (wpAny_dictEpoch LH Q_ ?_)));rw[if_neg (by intro h;simp at h)];refine bE ?_;simp only[show ¬ (i<0) by lia,if_false,FU,CF hx];refine ax ?_;first|refine ax (Sn ty (bE ?_))|refine ax (Sq ty (bE ?_))
 refine ax (wpAny_isOneOf_keyiter ty ?_);refine(show bG _ _ (setField (.ref it) 1 (n4 (i+1)) >>= _) _ _ s from ax (wpAny_setField ho hd (by simp) ?_));have bH':(s.heap.update it (Obj.mapFields (·.setIfInBounds 1 (n4 (i+1))))).IsKeyIter it d (i+1) es.size ep :=
  ⟨_,JA _ ho (Obj.isFreed_of_fields (Obj.data_mapFields hd _)),(Obj.cls_mapFields ..).trans hc,by rw[Obj.data_mapFields hd];simp[n4]⟩
 refine ax (vT (ax (wpAny_isOneOf_keyiter bH'.typeIs ?_)));refine(bE (bE ⟨_,rfl,bE (q _ bH' (Heap.SameBut.update ..))⟩))
def Be(hh:A.handled=none)(hit:s.heap.IsKeyIter it d es.size es.size ep)(x:xa s.heap d es ep)(q:∀ h',Heap.ExtBut it s.heap h'->Q none { s with heap:=h' }) :
  bG (aI prog w) A (pyNext (.ref it)) Q E s:=by
 obtain⟨o,ho,hc,hd⟩:=id hit;obtain⟨od,LH,u0,Q_⟩:=id x;have ty:=hit.typeIs;refine ax (wpAny_attempt (P8 ty F.slot_dict_keyiterator_next (B9 F.slot_dict_keyiterator_next ty F.entry_dict_keyiterator_next ?_ (F.args_dict_keyiterator_next_1 _))));refine ax (bE (ax (ax ?_)));first|refine ax (Sn ty (bE ?_))|refine ax (Sq ty (bE ?_))
 refine ax (wpAny_fieldsOf ho hd ?_);refine(show bG _ _ (if (Value.ref d == Value.none)=true then _ else _) _ _ s from ?_);refine ax (bE (ax (wpAny_dictEntries LH Q_ ?_)));rw[if_neg (by intro h;simp at h)];refine ax (bE (ax (wpAny_dictEpoch LH Q_ ?_)));rw[if_neg (by intro h;simp at h)];refine bE ?_;simp only[show ¬ (es.size<0) by lia,if_false,FU,NX (c9 es.size)];refine ax ?_;first|refine ax (Sn ty (bE ?_))|refine ax (Sq ty (bE ?_))
 refine(show bG _ _ (setField (.ref it) 0 .none >>= _) _ _ s from ax (wpAny_setField ho hd (by simp) ?_));refine(ax ?_);refine ax (sQ ?_ (by size_fits));refine ax (wpAny_of_eq (by first|rfl|(simp only[firstArgMember];rfl)) (sQ ?_ (by size_fits)));refine ax (wpAny_handled ?_);rw[show A.in1.handled=none from hh];refine ax (bE (wpAny_throw ?_));refine ax (wpAny_isInstance ⟨_,kG _ rfl,rfl⟩ isSubtype_stop ?_);exact bE (q _ (((Heap.SameBut.update ..).extBut.push _).push _))
def xa.at(x:xa h d es ep)(e:∀ o,h.get? d=some o->h'.get? d=some o):xa h' d es ep:=let ⟨o,ho,r⟩:=x;⟨o,e o ho,r⟩
def xa.lt(x:xa h d es ep):d<h.objs.size:=let ⟨_,e,_⟩:=x;fF e
def zb(hh:A.handled=none)(I:ai)(ke:d≠I):Walks prog w A I [I,d] [I] es.size (λi v=>∃ e,es[i]? = some e/\v=e.key) (λi h=>h.IsKeyIter I d i es.size ep/\xa h d es ep) where
 sub:=λb hb=>by simp at hb;simp[hb]
 frame:=λ_ _ _ st hk=>⟨st.1.at λo e=>hk I (by simp) o e,st.2.at λo e=>hk d (by simp) o e⟩
 item:=λi s Q E hi st hQ=>BX st.1 st.2 hi λh' a b=>hQ _ h' s.toks ⟨es[i],by simp[hi],rfl⟩ ⟨a,st.2.at λo e=>b.extBut d o ke e⟩ λc o hb e=>b.extBut c o (λh=>hb (by simp[h])) e
 done:=λs Q E st hQ=>Be hh st.1 st.2 λh' Uj=>hQ h' s.toks λb o hb e=>Uj b o (λh=>hb (by simp[h])) e
 self:=λ_ _ _ _ st hQ=>wpAny_pyIter_keyiter st.1 hQ
def Er (lo:(d == v3)=false):PySem.W.KdlSrc prog w "dict" d d es.size (λi v=>∃ e,es[i]? = some e/\v=e.key) (λh=>xa h d es ep) where
 type:=λ_ x=>x.typ
 there:=λ_ x=>⟨x.lt,x.lt⟩
 keep:=λ_ _ x hk=>x.at λo e=>hk d (.inl rfl) o e
 notList:=by decide
 notTuple:=by decide
 hint:=λ_ _ _ _ x hq=>PySem.W.kdl_hint_dict x.typ hq
 iter:=λ_ _ hh x=>⟨_,_,(λ_ _ hq=>Bb lo x hq),zb hh _ (hU x.lt),⟨⟨_,kG _ rfl,rfl,rfl⟩,x.at λo e=>gx _ e⟩⟩
end
def Paired.n0{α β:Type}{R:α->β->Prop}{bs:List β}(h:Paired R [] bs):bs=[]:=by cases h;rfl
def Paired.c{α β:Type}{R:α->β->Prop}{a:α}{as:List α}{bs:List β}(h:Paired R (a :: as) bs):∃ b cs,bs=b :: cs/\R a b/\Paired R as cs:=by
 cases h with
 |cons r t=>exact⟨_,_,rfl,r,t⟩
def bZ(H:Hp)(ys:List V)(ks:List (List Key)):Prop:=Paired (λ(v:V) (k:List Key)=>∃ b,v=.ref b/\H b=some (.tup (k.map kV))) ys ks
section
variable {X:Cx}
def uq:List V->Hp->VK->Prop:=λxs H Q=>match xs with
 |[.ref p]=>∃ kvs,Rd H p (.dT kvs)/\∀ ys l,bZ H ys (kvs.map (·.1))->H l=none->Q (.ref l) (upd H l (.lst ys))
 |_=>False
def Gf (h:Paired (λ(p:List Key × V) (q:List Key × ai × ae)=>p.1=q.1/\H q.2.1=some (.tup (p.1.map kV))/\RelV p.2 q.2.2) kvs xs) :
  bZ H (xs.map λq=>.ref q.2.1) (kvs.map (·.1))/\Vals (xs.map λq=>.ref q.2.1) ((xs.map (entryOfKey (EC (kK prog w)))).map (·.key)):=by
 induction h with
 |nil=>exact⟨.nil,.nil⟩
 |cons r t ih=>exact⟨.cons ⟨_,rfl,r.2.1⟩ ih.1,.cons rfl ih.2⟩
def v7 (hc:X.calm=true):kL X (.type "list") uq:=by
 walk_at"f";unfold uq at h;split at h
 ·rename_i p;obtain⟨kvs,e,q⟩:=h;obtain⟨u,rfl,ru⟩:=Vals.one r;cases ru;obtain⟨z,y,ps,rel,o,es,ep,h1,h2,h3,h4,h5⟩:=(I.rd e)
  obtain⟨ta,va⟩:=Gf rel;have hlen:es.size=kvs.length:=by have:=congrArg List.length h4;rw[CH,cx] at this;rw[this];exact rel.length.symm
  refine PySem.W.kdl_call (Er y) (I.ok.hd hc) ⟨o,h1,h2,h3⟩ (by lia) λh' tk acc c kp eo HM=>?_;have hv:acc.toList=(ps.map (entryOfKey (EC (kK X.prog X.w)))).map (·.key):=by
   apply FI;intro i;by_cases hi:i<es.size
   ·have k6:i<acc.size:=by rw[HM.1];exact hi
    obtain⟨en,e1,e2⟩:=HM.2 i acc[i] (by simp[k6]);rw[<- h4,nK,pE,pE,e1];simp[k6,e2]
   ·rw[<- h4,nK,pE,pE,NX (by rw[HM.1];lia),NX (by lia)];rfl
  refine⟨.ref s.heap.objs.size,_,I.laid kp (c9 _) (show lI X.prog X.w _ h' _ (.lst (ps.map λq=>.ref q.2.1)) from⟨?_,acc.toList,c,?_,?_⟩),rfl,q _ _ ta (I.cy.fresh (c9 _))⟩
  ·rw[cx,<- rel.length];exact z
  ·rw[hv];exact va
  ·rw[Tb];exact eo
 ·exact h.elim
end
end L2
end
namespace xh
open PySem PyProof.Rows
def R(r:ae->Int)(xs:Array bT)(i:Nat):Int:=match xs[i]? with
 |some p=>r p.1
 |none=>0
def cZ(h:xs[i]? = ys[j]?):R r xs i=R r ys j:=by unfold R;rw[h]
def oi(prog:eL)(w:eR)(A:fq)(s:ay)(κ:qo)(r:ae->Int)(P:ae->Prop):Prop :=
 ∀ x y,P x->P y->∀ (Q:Bool->ay->Prop) (E:ae->ay->Prop),Q (decide (r x<r y)) s->bG (aI prog w) A (keyLt' κ x y) Q E s
def AllP(P:ae->Prop)(xs:Array bT):Prop:=∀ p∈xs.toList,P p.1
def AllP.perm{P:ae->Prop}(h:AllP P xs)(hp:ys.Perm xs):AllP P ys:=λp hm=>h p ((Vw.mp hp).mem_iff.mp hm)
def AllP.at{P:ae->Prop}{xs:Array bT}(h:AllP P xs){i:Nat}{p:bT}(e:xs[i]? = some p):P p.1:=h p (by
 obtain⟨hi,rfl⟩:=NW.mp e;simp)
structure oj(lo hi:Nat)(st av:eB):Prop where
 kind:fP av=fP st
 failed:sj av=sj st
 pend:mG av=mG st
 perm:(bp av).Perm (bp st)
 out:∀ k,k<lo\/hi<=k->(bp av)[k]? = (bp st)[k]?
def oj.refl(lo hi:Nat)(st:eB):oj lo hi st st:=⟨rfl,rfl,rfl,Array.Perm.refl _,λ_ _=>rfl⟩
def oj.trans{lo hi:Nat}{a b c:eB}(h:oj lo hi a b)(g:oj lo hi b c):oj lo hi a c :=
 ⟨g.kind.trans h.kind,g.failed.trans h.failed,g.pend.trans h.pend,g.perm.trans h.perm,λk hk=>(g.out k hk).trans (h.out k hk)⟩
def oj.mono{lo hi LM kz:Nat}{a b:eB}(h:oj lo hi a b)(h1:LM<=lo)(h2:hi<=kz):oj LM kz a b :=
 ⟨h.kind,h.failed,h.pend,h.perm,λk hk=>h.out k (by lia)⟩
def oj.size{lo hi:Nat}{a b:eB}(h:oj lo hi a b):(bp b).size=(bp a).size:=h.perm.size_eq
def Up(r:ae->Int)(xs:Array bT)(lo hi:Nat):Prop:=∀ i j,lo<=i->i<=j->j<hi->R r xs i<=R r xs j
def Down(r:ae->Int)(xs:Array bT)(lo hi:Nat):Prop:=∀ i j,lo<=i->i<=j->j<hi->R r xs j<=R r xs i
def vo(hs:src<xs.size)(hd:d<=src)(k:Nat) :
  R r (bubble xs src d) k=if k=src-d then R r xs src else if src-d<k/\k<=src then R r xs (k-1) else R r xs k:=by
 have e:=getElem?_bubble hs d hd k;by_cases h1:k=src-d
 ·rw[if_pos h1] at e ⊢;exact cZ e
 ·rw[if_neg h1] at e ⊢;by_cases h2:src-d<k/\k<=src
  ·rw[if_pos h2] at e ⊢;exact cZ e
  ·rw[if_neg h2] at e ⊢;exact cZ e
def oV(hj:j<=xs.size)(k:Nat) :
  R r (mirror xs i j ((j-i) / 2)) k=if i<=k/\k<j then R r xs (i+j-1-k) else R r xs k:=by
 have e:=getElem?_mirror_all (i:=i) hj k;by_cases h1:i<=k/\k<j
 ·rw[if_pos h1] at e ⊢;exact cZ e
 ·rw[if_neg h1] at e ⊢;exact cZ e
def bF(hj:j<=xs.size)(heq:∀ k,i<=k->k<j->R r xs k=R r xs (j-1))(k:Nat) :
  R r (mirror xs i j ((j-i) / 2)) k=R r xs k:=by
 rw[oV hj];split
 ·rw[heq _ (by lia) (by lia),heq k (by lia) (by lia)]
 ·rfl
section
variable {prog:eL}{w:eR}{A:fq}{E:ae->ay->Prop}{s:ay}{κ:qo}{r:ae->Int}{P:ae->Prop}
def p8{st:eB}{x y:bT}{Q:Option Bool->eB->Prop}(C:oi prog w A s κ r P)(hk:fP st=κ)(hx:P x.1)(hy:P y.1)(h:Q (some (decide (r x.1<r y.1))) st) :
  wpS (aI prog w) A E s (lt' x y) Q st:=by
 rw[lt'_eq];refine cE (wpS_get ?_);rw[hk];exact cE (wpS_lift (wpAny_attempt (C x.1 y.1 hx hy _ _ ⟨rfl,d5 h⟩)))
def aK{xs:Array bT}{i:Nat}{Q:bT->eB->Prop}{st:eB}(hi:i<xs.size)(h:∀ p,xs[i]? = some p->Q p st):wpS (aI prog w) A E s (elem' xs i) Q st:=by rw[elem'_eq,getElem?_pos xs i hi];exact d5 (h _ (getElem?_pos xs i hi))
def j9{st:eB}{i j:Nat}{Q:Option Bool->eB->Prop}(C:oi prog w A s κ r P)(hk:fP st=κ)(hP:AllP P (bp st))(hi:i<(bp st).size)(hj:j<(bp st).size)(h:Q (some (decide (R r (bp st) i<R r (bp st) j))) st):wpS (aI prog w) A E s (ltAt' i j) Q st:=by
 refine cE (wpS_get ?_);refine cE (aK hi λp ep=>cE (aK hj λq eq=>p8 C hk (hP.at ep) (hP.at eq) ?_));have e1:R r (bp st) i=r p.1:=by unfold R;rw[ep]
 have e2:R r (bp st) j=r q.1:=by unfold R;rw[eq]
 rw[<- e1,<- e2];exact h
def dH{st:eB}{i j:Nat}{Q:Unit->eB->Prop}(h:Q () (setArr st (mirror (bp st) i j ((j-i) / 2)))) :
  wpS (aI prog w) A E s (reverseSlice' i j) Q st:=by
 rw[reverseSlice'_eq];exact EE h
def gj{st:eB}{i j:Nat}(hj:j<=(bp st).size):oj i j st (setArr st (mirror (bp st) i j ((j-i) / 2))) :=
 ⟨rfl,rfl,rfl,mirror_perm _ _ _ _,λk hk=>by
  have e:=getElem?_mirror_all (i:=i) hj k;rw[if_neg (by lia)] at e;exact e⟩
def wj{st:eB}{lo src d:Nat}(hs:src<(bp st).size)(hd:lo+d<=src):oj lo (src+1) st (setArr st (bubble (bp st) src d)) :=
 ⟨rfl,rfl,rfl,bubble_perm _ _ _,λk hk=>by
  have e:=getElem?_bubble hs d (by lia) k;rw[if_neg (by lia),if_neg (by lia)] at e;exact e⟩
def wpS_binarySort{st:eB}{lo n ok:Nat}{Q:Bool->eB->Prop}(C:oi prog w A s κ r P)(hk:fP st=κ)(hP:AllP P (bp st))(hn:lo+n<=(bp st).size)(cy:ok<=n)(hs:Up r (bp st) lo (lo+ok))(h:∀ av,oj lo (lo+n) st av->Up r (bp av) lo (lo+n)->Q true av):wpS (aI prog w) A E s (binarySort' lo n ok) Q st:=by
 refine cE (uk (sf (I:=λk c av=>c=(none,())/\oj lo (lo+n) st av/\Up r (bp av) lo (lo+min k n)) (Q:=λc av=>c=(none,())/\oj lo (lo+n) st av/\Up r (bp av) lo (lo+n)) ?step ?fin ?init) ?post)
 case post =>
  rintro c av ⟨rfl,kD,g7⟩;exact d5 (h av kD g7)
 case init =>
  refine⟨rfl,.refl _ _ _,λi j hl ki hj=>?_⟩;by_cases h1:ok=0
  ·have:i=j:=by lia
   subst this;exact iS _
  ·exact hs i j hl ki (by lia)
 case fin =>
  rintro c av ⟨hc,kD,g7⟩;refine⟨hc,kD,?_⟩;rwa[show min (max (max ok 1) n) n=n by lia] at g7
 case step =>
  rintro k c av hak hkn ⟨rfl,kD,g7⟩;rw[show min k n=k by lia] at g7;have gL:=kD.size;have kR:fP av=κ:=kD.kind.trans hk;have tJ:=hP.perm kD.perm;refine cE (uk (sf (I:=λx c EZ=>EZ=av/\∃ l r',c=(none,l,r')/\l<=r'/\r'<=k/\r'-l<=k-x /\ (∀ i,lo<=i->i<lo+l->R r (bp av) i<=R r (bp av) (lo+k))/\(∀ i,lo+r'<=i->i<lo+k->R r (bp av) (lo+k)<R r (bp av) i)) (Q:=λc EZ=>EZ=av/\∃ l r',c=(none,l,r')/\l<=k /\ (∀ i,lo<=i->i<lo+l->R r (bp av) i<=R r (bp av) (lo+k))/\(∀ i,lo+l<=i->i<lo+k->R r (bp av) (lo+k)<R r (bp av) i)) ?iE' ?iF' ?iG') ?iH')
  case iG'=>exact⟨rfl,0,k,rfl,by lia,by lia,by lia,λi _ hi=>by lia,λi h1 h2=>by lia⟩
  case iF' =>
   rintro c EZ ⟨rfl,l,r',rfl,hlr,LN,hm,HK,DJ⟩;have:l=r':=by lia
   subst this;exact⟨rfl,l,l,rfl,LN,HK,DJ⟩
  case iE' =>
   rintro x c EZ _ hxk ⟨rfl,l,r',rfl,hlr,LN,hm,HK,DJ⟩;dsimp only;by_cases sv:l >= r'
   ·rw[if_pos sv];have:l=r':=by lia
    subst this;exact d5 ⟨rfl,l,l,rfl,LN,HK,DJ⟩
   ·rw[if_neg sv];refine cE (j9 C kR tJ (by lia) (by lia) ?_);by_cases yb:R r (bp EZ) (lo+k)<R r (bp EZ) (lo+(l+r') / 2)
    ·simp only[yb,decide_true,if_true];exact d5 ⟨rfl,l,(l+r') / 2,rfl,by lia,by lia,by lia,HK,λi h1 h2=>Int.lt_of_lt_of_le yb (g7 _ _ (by lia) h1 h2)⟩
    ·simp only[yb,decide_false,qA,if_false];exact d5 ⟨rfl,(l+r') / 2+1,r',rfl,by lia,by lia,by lia,λi h0 h1=>x3 (g7 i (lo+(l+r') / 2) h0 (by lia) (by lia)) (Int.not_lt.mp yb),DJ⟩
  case iH' =>
   rintro c EZ ⟨rfl,l,r',rfl,hlk,HK,DJ⟩;show wpS _ _ _ _ (do moveDown' (lo+k) (lo+l);pure (ForInStep.yield (none,()))) _ _;rw[moveDown'_eq];have WH:lo+k<(bp EZ).size:=by lia
   refine cE (EE (d5 ⟨rfl,kD.trans ((wj WH (by lia)).mono (c9 _) (by lia)),?_⟩));intro i j hl ki hj;rw[vo WH (by lia),vo WH (by lia),show lo+k-(lo+k-(lo+l))=lo+l by lia]
   repeat' split
   all_goals first
    | (exfalso;lia)
    |exact iS _
    |exact HK _ (by lia) (by lia)
    |exact Kj (DJ _ (by lia) (by lia))
    |exact g7 _ _ (by lia) (by lia) (by lia)
end
def ascL(lo a nrem:Nat):StateT eB Sem AscSt :=
 forIn [a:nrem] ((none,a):AscSt) λ_ __s=>do
  let __x ← ltAt' (lo + __s.snd) (lo + __s.snd - 1)
  match __x with
  |some smaller=>if smaller=true then pure (ForInStep.done (none,__s.snd)) else pure (ForInStep.yield (none,__s.snd+1))
  |_=>pure (ForInStep.done (some none,__s.snd))
def zU(lo n nrem:Nat):StateT eB Sem (Option Nat):=do
 reverseSlice' lo (lo+n)
 let __s ← ascL lo n nrem
 match __s.fst with
 |some r=>pure r
 |none=>pure (some __s.snd)
def Jo(lo n nrem:Nat):StateT eB Sem DescSt :=
 forIn [n:nrem] ((none,n,0):DescSt) λ_ __s=>do
  let __x ← ltAt' (lo + __s.snd.fst) (lo + __s.snd.fst - 1)
  match __x with
  |some smaller =>
   if smaller=true then
    if __s.snd.snd>0 then do
     reverseSlice' (lo+__s.snd.fst-(__s.snd.snd+1)) (lo+__s.snd.fst)
     pure (ForInStep.yield (none,__s.snd.fst+1,0))
    else pure (ForInStep.yield (none,__s.snd.fst+1,0))
   else do
    let __x ← ltAt' (lo+__s.snd.fst - 1) (lo+__s.snd.fst)
    match __x with
    |some larger =>
     if larger=true then pure (ForInStep.done (none,__s.snd.fst,__s.snd.snd))
     else pure (ForInStep.yield (none,__s.snd.fst+1,__s.snd.snd+1))
    |_=>pure (ForInStep.done (some none,__s.snd.fst,__s.snd.snd))
  |_=>pure (ForInStep.done (some none,__s.snd.fst,__s.snd.snd))
def lr(lo n nrem:Nat):StateT eB Sem (Option Nat):=do
 liftM (rule "list.sort.descending-run")
 let __s ← Jo lo (n+1) nrem
 match __s.fst with
 |some r=>pure r
 |none =>
  if __s.snd.snd>0 then do
   reverseSlice' (lo+__s.snd.fst-(__s.snd.snd+1)) (lo+__s.snd.fst)
   zU lo __s.snd.fst nrem
  else zU lo __s.snd.fst nrem
def qI(lo nrem:Nat):countRun' lo nrem=(do
  let __s ← ascL lo 1 nrem
  match __s.fst with
  |some r=>pure r
  |none =>
   if (__s.snd == nrem)=true then pure (some __s.snd)
   else if __s.snd>1 then do
    let __x ← ltAt' lo (lo+__s.snd - 1)
    match __x with
    |some bI'=>if bI'=true then pure (some __s.snd) else do
      reverseSlice' lo (lo+__s.snd)
      lr lo __s.snd nrem
    |_=>pure none
   else lr lo __s.snd nrem):=by
 rw[countRun'_eq];dsimp only;congr 1;funext __s;obtain⟨r,n⟩:=__s
 cases r with
 |some r=>rfl
 |none =>
  dsimp only;split
  ·rfl
  ·split
   ·congr 1;funext x
    cases x with
    |none=>rfl
    |some bI' =>
     dsimp only;split
     ·rfl
     ·congr 1;funext _r
      (congr 1;funext _u;congr 1;congr 1;funext s2;obtain⟨r2,n2,q2⟩:=s2;cases r2 with
       |some r2=>rfl
       |none=>(dsimp only;split;(congr 1;funext _v;(congr 1;funext _w;congr 1;(funext s3;obtain⟨r3,n3⟩:=s3;cases r3<;>rfl)));(congr 1;funext _w;congr 1;(funext s3;obtain⟨r3,n3⟩:=s3;cases r3<;>rfl))))
   ·(congr 1;funext _u;congr 1;congr 1;funext s2;obtain⟨r2,n2,q2⟩:=s2;cases r2 with
     |some r2=>rfl
     |none=>(dsimp only;split;(congr 1;funext _v;(congr 1;funext _w;congr 1;(funext s3;obtain⟨r3,n3⟩:=s3;cases r3<;>rfl)));(congr 1;funext _w;congr 1;(funext s3;obtain⟨r3,n3⟩:=s3;cases r3<;>rfl))))
section
variable {prog:eL}{w:eR}{A:fq}{E:ae->ay->Prop}{s:ay}{κ:qo}{r:ae->Int}{P:ae->Prop}
def uw{st:eB}{lo a nrem:Nat}{Q:AscSt->eB->Prop}(C:oi prog w A s κ r P)(hk:fP st=κ)(hP:AllP P (bp st))(hn:lo+nrem<=(bp st).size)(ha:1<=a)(han:a<=nrem)(hs:Up r (bp st) lo (lo+a))(h:∀ n,a<=n->n<=nrem->Up r (bp st) lo (lo+n)->(n=nrem\/R r (bp st) (lo+n)<R r (bp st) (lo+n-1))->Q (none,n) st) :
  wpS (aI prog w) A E s (ascL lo a nrem) Q st:=by
 refine sf (I:=λx c av=>av=st/\c=(none,x)/\Up r (bp st) lo (lo+x)) ?step ?fin ⟨rfl,rfl,hs⟩;case fin =>
  rintro c av ⟨rfl,rfl,g7⟩;rw[show max a nrem=nrem by lia] at g7 ⊢;exact h nrem han (c9 _) g7 (.inl rfl)
 case step =>
  rintro x c av WK hxn ⟨rfl,rfl,g7⟩;refine cE (j9 C hk hP (by lia) (by lia) ?_);by_cases yb:R r (bp av) (lo+x)<R r (bp av) (lo+x-1)
  ·simp only[yb,decide_true,if_true];exact d5 (h x WK (by lia) g7 (.inr yb))
  ·simp only[yb,decide_false,qA,if_false];refine d5 ⟨rfl,rfl,λi j hl ki hj=>?_⟩;by_cases Ra:j<lo+x
   ·exact g7 i j hl ki Ra
   ·have sA:j=lo+x:=by lia
    subst sA;by_cases kz:i=lo+x
    ·subst kz;exact iS _
    ·exact x3 (g7 i (lo+x-1) hl (by lia) (by lia)) (Int.not_lt.mp yb)
def nG{st:eB}{lo n nrem:Nat}{Q:Option Nat->eB->Prop}(C:oi prog w A s κ r P)(hk:fP st=κ)(hP:AllP P (bp st))(hn:lo+nrem<=(bp st).size)(h1:1<=n)(E5:n<=nrem)(hs:Down r (bp st) lo (lo+n)) (h:∀ m av,oj lo (lo+nrem) st av->1<=m->m<=nrem->Up r (bp av) lo (lo+m)->Q (some m) av) :
  wpS (aI prog w) A E s (zU lo n nrem) Q st:=by
 have gL:lo+n<=(bp st).size:=by lia
 refine cE (dH ?_);have kD:=gj (i:=lo) gL;refine cE (uw C (kD.kind.trans hk) (hP.perm kD.perm) (by rw[kD.size];exact hn) h1 E5 ?_ λm Bz pT WL _=>d5 (h m _ (kD.mono (c9 _) (by lia)) (by lia) pT WL));intro i j hl ki hj;rw[oV gL,oV gL,if_pos (by lia),if_pos (by lia)];exact hs _ _ (by lia) (by lia) (by lia)
def xH{st:eB}{lo n nrem:Nat}{Q:DescSt->eB->Prop}(C:oi prog w A s κ r P)(hk:fP st=κ)(hP:AllP P (bp st))(hn:lo+nrem<=(bp st).size)(h1:1<=n)(E5:n<=nrem)(hs:Down r (bp st) lo (lo+n))(h:∀ m tN av,oj lo (lo+nrem) st av->n<=m->m<=nrem->Down r (bp av) lo (lo+m)->tN+1<=m->(∀ i,lo+m-(tN+1)<=i->i<lo+m->R r (bp av) i=R r (bp av) (lo+m-1))->Q (none,m,tN) av) :
  wpS (aI prog w) A E s (Jo lo n nrem) Q st:=by
 refine sf (I:=λx c av=>∃ tN,c=(none,x,tN)/\oj lo (lo+nrem) st av/\Down r (bp av) lo (lo+x)/\tN+1<=x /\ (∀ i,lo+x-(tN+1)<=i->i<lo+x->R r (bp av) i=R r (bp av) (lo+x-1))) ?step ?fin ⟨0,rfl,.refl _ _ _,hs,by lia,λi h1 h2=>by congr 1;lia⟩
 case fin =>
  rintro c av ⟨tN,rfl,kD,g7,hq,he⟩;rw[show max n nrem=nrem by lia] at g7 hq he ⊢;exact h nrem tN av kD E5 (c9 _) g7 hq he
 case step =>
  rintro x c av WK hxn ⟨tN,rfl,kD,g7,hq,he⟩;dsimp only;have hz:=kD.size;have gL:lo+x<=(bp av).size:=by lia
  have kR:=kD.kind.trans hk;have tJ:=hP.perm kD.perm;refine cE (j9 C kR tJ (by lia) (by lia) ?_);by_cases yb:R r (bp av) (lo+x)<R r (bp av) (lo+x-1)
  ·simp only[yb,decide_true,if_true];have bJ':∀ xs:Array bT,(∀ k,R r xs k=R r (bp av) k)->Down r xs lo (lo+(x+1)):=by
    intro xs hkk i j hl ki hj;rw[hkk,hkk];by_cases Ra:j<lo+x
    ·exact g7 i j hl ki Ra
    ·have sA:j=lo+x:=by lia
     subst sA;by_cases kz:i=lo+x
     ·subst kz;exact iS _
     ·exact x3 (Kj yb) (g7 i (lo+x-1) hl (by lia) (by lia))
   by_cases Rb:tN>0
   ·rw[if_pos Rb];refine cE (dH (d5 ⟨0,rfl,kD.trans ((gj gL).mono (by lia) (by lia)),bJ' _ (bF gL he),by lia,λi h1 h2=>by congr 1;lia⟩))
   ·rw[if_neg Rb];exact d5 ⟨0,rfl,kD,bJ' _ (λ_=>rfl),by lia,λi h1 h2=>by congr 1;lia⟩
  ·simp only[yb,decide_false,qA,if_false];refine cE (j9 C kR tJ (by lia) (by lia) ?_);by_cases bL':R r (bp av) (lo+x-1)<R r (bp av) (lo+x)
   ·simp only[bL',decide_true,if_true];exact d5 (h x tN av kD WK (by lia) g7 hq he)
   ·simp only[bL',decide_false,qA,if_false];have bM':R r (bp av) (lo+x)=R r (bp av) (lo+x-1):=by lia
    refine d5 ⟨tN+1,rfl,kD,λi j hl ki hj=>?_,by lia,λi h1 h2=>?_⟩
    ·by_cases Ra:j<lo+x
     ·exact g7 i j hl ki Ra
     ·have sA:j=lo+x:=by lia
      subst sA;by_cases kz:i=lo+x
      ·subst kz;exact iS _
      ·rw[bM'];exact g7 i (lo+x-1) hl (by lia) (by lia)
    ·rw[show lo+(x+1)-1=lo+x by lia];by_cases AA:i=lo+x
     ·subst AA;rfl
     ·rw[bM'];exact he i (by lia) (by lia)
def il{st:eB}{lo n nrem:Nat}{Q:Option Nat->eB->Prop}(C:oi prog w A s κ r P)(hk:fP st=κ)(hP:AllP P (bp st))(hn:lo+nrem<=(bp st).size)(E5:n+1<=nrem)(hs:Down r (bp st) lo (lo+(n+1))) (h:∀ m av,oj lo (lo+nrem) st av->1<=m->m<=nrem->Up r (bp av) lo (lo+m)->Q (some m) av) :
  wpS (aI prog w) A E s (lr lo n nrem) Q st:=by
 refine cE (wpS_lift (EB ⟨rfl,?_⟩));refine cE (xH C hk hP hn (by lia) E5 hs λm tN av kD Bz pT g7 hq he=>?_);dsimp only;have hz:=kD.size;have gL:lo+m<=(bp av).size:=by lia
 have kR:=kD.kind.trans hk;have tJ:=hP.perm kD.perm;by_cases Rb:tN>0
 ·rw[if_pos Rb];have hW:=gj (i:=lo+m-(tN+1)) gL;refine cE (dH (nG C (hW.kind.trans kR) (tJ.perm hW.perm) (by rw[hW.size,hz];exact hn) (by lia) pT ?_ λm2 z0 Rc=>h m2 z0 ((kD.trans (hW.mono (by lia) (by lia))).trans Rc)));intro i j hl ki hj;rw[bF gL he,bF gL he];exact g7 i j hl ki hj
 ·rw[if_neg Rb];exact nG C kR tJ (by rw[hz];exact hn) (by lia) pT g7 λm2 z0 Rc=>h m2 z0 (kD.trans Rc)
def wpS_countRun{st:eB}{lo nrem:Nat}{Q:Option Nat->eB->Prop}(C:oi prog w A s κ r P)(hk:fP st=κ)(hP:AllP P (bp st))(hn:lo+nrem<=(bp st).size)(h1:1<=nrem)(h:∀ m av,oj lo (lo+nrem) st av->1<=m->m<=nrem->Up r (bp av) lo (lo+m)->Q (some m) av) :
  wpS (aI prog w) A E s (countRun' lo nrem) Q st:=by
 rw[qI];refine cE (uw C hk hP hn (c9 1) h1 (λi j hl ki hj=>by
  have:i=j:=by lia
  subst this;exact iS _) λn hn1 LD mS hor=>?_)
 by_cases E5:n=nrem
 ·rw[if_pos (by simpa using E5)];exact d5 (h n st (.refl _ _ _) hn1 LD mS)
 ·rw[if_neg (by simpa using E5)];have fA:R r (bp st) (lo+n)<R r (bp st) (lo+n-1):=hor.resolve_left E5;by_cases hgt:n>1
  ·rw[if_pos hgt];refine cE (j9 C hk hP (by lia) (by lia) ?_);by_cases bP':R r (bp st) lo<R r (bp st) (lo+n-1)
   ·simp only[bP',decide_true,if_true];exact d5 (h n st (.refl _ _ _) hn1 LD mS)
   ·simp only[bP',decide_false,qA,if_false];have gL:lo+n<=(bp st).size:=by lia
    have og:∀ k,lo<=k->k<lo+n->R r (bp st) k=R r (bp st) (lo+n-1):=by intro k hl hk;have a1:=mS lo k (by lia) hl hk;have a2:=mS k (lo+n-1) hl (by lia) (by lia);lia
    have hW:=gj (i:=lo) gL;refine cE (dH (il C (hW.kind.trans hk) (hP.perm hW.perm) (by rw[hW.size];exact hn) (by lia) ?_ λm2 z0 Rc=>h m2 z0 ((hW.mono (c9 _) (by lia)).trans Rc)));intro i j hl ki hj;rw[bF gL og,bF gL og];by_cases hjn:j<lo+n
    ·rw[og i hl (by lia),og j (by lia) hjn];exact iS _
    ·have sA:j=lo+n:=by lia
     subst sA;by_cases kz:i=lo+n
     ·subst kz;exact iS _
     ·rw[og i hl (by lia)];exact Kj fA
  ·rw[if_neg hgt];have iN':n=1:=by lia
   subst iN';refine il C hk hP hn (by lia) ?_ h;intro i j hl ki hj;by_cases kz:i=j
   ·subst kz;exact iS _
   ·have ya:i=lo:=by lia
    have OX:j=lo+1:=by lia
    subst ya;subst OX;exact Kj fA
end
def FW(left:Bool)(key:bT)(arr:Array bT)(base i:Nat):StateT eB Sem (Option Bool):=do
 let x ← elem' arr (base+i)
 if left then lt' x key else return (<- lt' key x).map (!·)
def lO:Bool->bT->Array bT->Nat->Nat->Nat->StateT eB Sem (Option Nat):=sortPriv% PySem.Builtin.gallop
section
variable {prog:eL}{w:eR}{A:fq}{E:ae->ay->Prop}{s:ay}{κ:qo}{r:ae->Int}{P:ae->Prop}
def g9(r:ae->Int)(left:Bool)(key:bT)(arr:Array bT)(base i:Nat):Bool :=
 if left then decide (R r arr (base+i)<r key.1) else !decide (r key.1<R r arr (base+i))
def dR{st:eB}{left:Bool}{key:bT}{arr:Array bT}{base i:Nat}{Q:Option Bool->eB->Prop}(C:oi prog w A s κ r P)(hk:fP st=κ)(hP:AllP P arr)(hy:P key.1)(hi:base+i<arr.size)(h:Q (some (g9 r left key arr base i)) st):wpS (aI prog w) A E s (FW left key arr base i) Q st:=by
 refine cE (aK hi λp ep=>?_);have e1:R r arr (base+i)=r p.1:=by unfold R;rw[ep]
 unfold g9 at h;rw[e1] at h
 cases left with
 |true =>exact p8 C hk (hP.at ep) hy h
 |false =>exact cE (p8 C hk hy (hP.at ep) (d5 h))
def Am(hu:Up r arr base (base+n))(ki:i<=j)(hj:j<n)(h:g9 r left key arr base j=true):g9 r left key arr base i=true:=by
 have q:=hu (base+i) (base+j) (by lia) (by lia) (by lia);unfold g9 at h ⊢
 cases left with
 |true=>simp only[if_true,decide_eq_true_eq] at h ⊢;lia
 |false=>simp only[qA,if_false,Bool.not_eq_true',decide_eq_false_iff_not] at h ⊢;lia
def cW{st:eB}{left:Bool}{key:bT}{arr:Array bT}{base n hint:Nat}{Q:Option Nat->eB->Prop}(C:oi prog w A s κ r P)(hk:fP st=κ)(hP:AllP P arr)(hy:P key.1)(hn:base+n<=arr.size)(hh:hint<n)(hu:Up r arr base (base+n))(h:∀ k,k<=n->(∀ i,i<k->g9 r left key arr base i=true)->(∀ i,k<=i->i<n->g9 r left key arr base i=false)->Q (some k) st):wpS (aI prog w) A E s (lO left key arr base n hint) Q st:=by
 have mono:∀ {i j},i<=j->j<n->g9 r left key arr base j=true->g9 r left key arr base i=true:=λa b c=>Am hu a b c;have Uk:∀ {i j},i<=j->j<n->g9 r left key arr base i=false->g9 r left key arr base j=false:=λ{i j} a b c=>by
  cases q:g9 r left key arr base j with
  |false=>rfl
  |true=>rw[mono a b q] at c;cases c
 refine cE (dR C hk hP hy (by lia) ?_);dsimp only
 cases q0:g9 r left key arr base hint with
 |true =>
  refine cE (uk (sf (I:=λx c av=>av=st/\∃ lst hJ,c=(none,lst,hJ)/\lst<hJ/\lst<n-hint/\x+1<=hJ/\g9 r left key arr base (hint+lst)=true) (Q:=λc av=>av=st/\∃ lst hJ,c=(none,lst,hJ)/\lst<hJ/\lst<n-hint/\g9 r left key arr base (hint+lst)=true/\(n-hint<=hJ\/g9 r left key arr base (hint+hJ)=false)) ?step ?fin ?init) ?post)
  case init=>exact⟨rfl,0,1,rfl,by lia,by lia,by lia,q0⟩
  case fin =>
   rintro c av ⟨rfl,lst,hJ,rfl,h1,h2,h3,h4⟩;exact⟨rfl,lst,hJ,rfl,h1,h2,h4,.inl (by lia)⟩
  case step =>
   rintro x c av _ hx ⟨rfl,lst,hJ,rfl,h1,h2,h3,h4⟩;dsimp only;by_cases sv:hJ >= n-hint
   ·rw[if_pos sv];exact d5 ⟨rfl,lst,hJ,rfl,h1,h2,h4,.inl sv⟩
   ·rw[if_neg sv];refine cE (dR C hk hP hy (by lia) ?_)
    cases q:g9 r left key arr base (hint+hJ) with
    |true =>exact d5 ⟨rfl,_,_,rfl,by lia,by lia,by lia,q⟩
    |false =>exact d5 ⟨rfl,lst,hJ,rfl,h1,h2,h4,.inr q⟩
  case post =>
   rintro c av ⟨rfl,lst,hJ,rfl,h1,h2,h4,h5⟩;generalize av=st at *
   have hl:∀ i,i<hint+lst+1->g9 r left key arr base i=true:=λi hi=>mono (by lia) (by lia) h4;have DJ:∀ i,hint+min hJ (n-hint)<=i->i<n->g9 r left key arr base i=false:=λi hi bS=>by
    rcases h5 with h5|h5
    ·lia
    ·by_cases z:n-hint<=hJ
     ·lia
     ·exact Uk (by lia) bS h5
   have WM:hint+lst+1<=hint+min hJ (n-hint):=by lia
   have WN:hint+min hJ (n-hint)<=n:=by lia
   generalize hint+lst+1=lo at *
   generalize hint+min hJ (n-hint)=hi at *
   refine cE (uk (sf (I:=λx c av=>av=st/\∃ l u,c=(none,l,u)/\l<=u/\u<=n/\u-l<=n-x/\(∀ i,i<l->g9 r left key arr base i=true)/\(∀ i,u<=i->i<n->g9 r left key arr base i=false)) (Q:=λc av=>av=st/\∃ l,c=(none,l,l)/\l<=n/\(∀ i,i<l->g9 r left key arr base i=true)/\(∀ i,l<=i->i<n->g9 r left key arr base i=false)) ?iO' ?iP' ?iQ') ?postA)
   case iQ'=>exact⟨rfl,lo,hi,rfl,WM,WN,by lia,hl,DJ⟩
   case iP' =>
    rintro c av ⟨rfl,l,u,rfl,h1,h2,h3,h4,h5⟩;have:l=u:=by lia
    subst this;exact⟨rfl,l,rfl,h2,h4,h5⟩
   case iO' =>
    rintro x c av _ hx ⟨rfl,l,u,rfl,h1,h2,h3,h4,h5⟩;dsimp only;by_cases sv:l >= u
    ·rw[if_pos sv];have:l=u:=by lia
     subst this;exact d5 ⟨rfl,l,rfl,h2,h4,h5⟩
    ·rw[if_neg sv];refine cE (dR C hk hP hy (by lia) ?_)
     cases q:g9 r left key arr base (l+(u-l) / 2) with
     |true =>exact d5 ⟨rfl,_,_,rfl,by lia,by lia,by lia,λi hi=>mono (by lia) (by lia) q,h5⟩
     |false =>exact d5 ⟨rfl,_,_,rfl,by lia,by lia,by lia,h4,λi hi bS=>Uk (by lia) bS q⟩
   case postA =>
    rintro c av ⟨rfl,l,rfl,h2,h4,h5⟩;exact d5 (h l h2 h4 h5)
 |false =>
  refine cE (uk (sf (I:=λx c av=>av=st/\∃ lst hJ,c=(none,lst,hJ)/\lst<hJ/\lst<hint+1/\x+1<=hJ/\g9 r left key arr base (hint-lst)=false) (Q:=λc av=>av=st/\∃ lst hJ,c=(none,lst,hJ)/\lst<hJ/\lst<hint+1/\g9 r left key arr base (hint-lst)=false/\(hint+1<=hJ\/g9 r left key arr base (hint-hJ)=true)) ?iR' ?fin2 ?iS') ?iT')
  case iS'=>exact⟨rfl,0,1,rfl,by lia,by lia,by lia,q0⟩
  case fin2 =>
   rintro c av ⟨rfl,lst,hJ,rfl,h1,h2,h3,h4⟩;exact⟨rfl,lst,hJ,rfl,h1,h2,h4,.inl (by lia)⟩
  case iR' =>
   rintro x c av _ hx ⟨rfl,lst,hJ,rfl,h1,h2,h3,h4⟩;dsimp only;by_cases sv:hJ >= hint+1
   ·rw[if_pos sv];exact d5 ⟨rfl,lst,hJ,rfl,h1,h2,h4,.inl sv⟩
   ·rw[if_neg sv];refine cE (dR C hk hP hy (by lia) ?_)
    cases q:g9 r left key arr base (hint-hJ) with
    |true =>exact d5 ⟨rfl,lst,hJ,rfl,h1,h2,h4,.inr q⟩
    |false =>exact d5 ⟨rfl,_,_,rfl,by lia,by lia,by lia,q⟩
  case iT' =>
   rintro c av ⟨rfl,lst,hJ,rfl,h1,h2,h4,h5⟩;generalize av=st at *
   have hl:∀ i,i<hint+1-min hJ (hint+1)->g9 r left key arr base i=true:=λi hi=>by
    rcases h5 with h5|h5
    ·lia
    ·by_cases z:hint+1<=hJ
     ·lia
     ·exact mono (by lia) (by lia) h5
   have DJ:∀ i,hint-lst<=i->i<n->g9 r left key arr base i=false:=λi hi bS=>Uk (by lia) bS h4;have WM:hint+1-min hJ (hint+1)<=hint-lst:=by lia
   have WN:hint-lst<=n:=by lia
   generalize hint+1-min hJ (hint+1)=lo at *
   generalize hint-lst=hi at *
   refine cE (uk (sf (I:=λx c av=>av=st/\∃ l u,c=(none,l,u)/\l<=u/\u<=n/\u-l<=n-x/\(∀ i,i<l->g9 r left key arr base i=true)/\(∀ i,u<=i->i<n->g9 r left key arr base i=false)) (Q:=λc av=>av=st/\∃ l,c=(none,l,l)/\l<=n/\(∀ i,i<l->g9 r left key arr base i=true)/\(∀ i,l<=i->i<n->g9 r left key arr base i=false)) ?iU' ?iV' ?iW') ?iX')
   case iW'=>exact⟨rfl,lo,hi,rfl,WM,WN,by lia,hl,DJ⟩
   case iV' =>
    rintro c av ⟨rfl,l,u,rfl,h1,h2,h3,h4,h5⟩;have:l=u:=by lia
    subst this;exact⟨rfl,l,rfl,h2,h4,h5⟩
   case iU' =>
    rintro x c av _ hx ⟨rfl,l,u,rfl,h1,h2,h3,h4,h5⟩;dsimp only;by_cases sv:l >= u
    ·rw[if_pos sv];have:l=u:=by lia
     subst this;exact d5 ⟨rfl,l,rfl,h2,h4,h5⟩
    ·rw[if_neg sv];refine cE (dR C hk hP hy (by lia) ?_)
     cases q:g9 r left key arr base (l+(u-l) / 2) with
     |true =>exact d5 ⟨rfl,_,_,rfl,by lia,by lia,by lia,λi hi=>mono (by lia) (by lia) q,h5⟩
     |false =>exact d5 ⟨rfl,_,_,rfl,by lia,by lia,by lia,h4,λi hi bS=>Uk (by lia) bS q⟩
   case iX' =>
    rintro c av ⟨rfl,l,rfl,h2,h4,h5⟩;exact d5 (h l h2 h4 h5)
end
abbrev Le(r:ae->Int)(x y:bT):Prop:=r x.1<=r y.1
def pV(e:xs[i]? = some p):R r xs i=r p.1:=by unfold R;rw[e]
def Iz(h:i<xs.size):R r xs i=r xs[i].1:=pV (getElem?_pos xs i h)
structure MI(r:ae->Int)(a b out:Array bT)(ia ib:Nat):Prop where
 ha:ia<=a.size
 hb:ib<=b.size
 perm:out.toList.Perm (a.toList.take ia++b.toList.take ib)
 up:out.toList.Pairwise (Le r)
 la:∀ x∈out.toList,∀ i,ia<=i->i<a.size->r x.1<=R r a i
 lb:∀ x∈out.toList,∀ j,ib<=j->j<b.size->r x.1<=R r b j
section
variable {r:ae->Int}{a b out:Array bT}{ia ib:Nat}
def nj{α:Type}{l:List α}{i:Nat}{x:α}(h:l[i]? = some x):l.take (i+1)=l.take i++[x]:=by rw[wm,h];rfl
def MI.qM(M:MI r a b out ia ib)(hA:Up r a 0 a.size)(hB:Up r b 0 b.size)(e:b[ib]? = some y)(hl:ia<a.size->R r b ib<=R r a ia):MI r a b (out.push y) ia (ib+1):=by
 have hib:ib<b.size:=(NW.mp e).1;have ey:=pV (r:=r) e;refine⟨M.ha,hib,?_,?_,?_,?_⟩
 ·rw[qB,nj (by simpa using e),<- AW];exact M.perm.append_right _
 ·rw[qB,Qc];refine⟨M.up,by simp,λx hx z hz=>?_⟩;have:z=y:=by simpa using hz
  subst this;show r x.1<=r z.1;rw[<- ey];exact M.lb x hx ib (c9 _) hib
 ·intro x hx i hi OY;rw[qB] at hx;rcases fe.mp hx with hx|hx
  ·exact M.la x hx i hi OY
  ·have:x=y:=by simpa using hx
   subst this;rw[<- ey];exact x3 (hl (by lia)) (hA ia i (fS _) hi OY)
 ·intro x hx j hj Rf;rw[qB] at hx;rcases fe.mp hx with hx|hx
  ·exact M.lb x hx j (by lia) Rf
  ·have:x=y:=by simpa using hx
   subst this;rw[<- ey];exact hB ib j (fS _) (by lia) Rf
def MI.qp(M:MI r a b out ia ib)(hA:Up r a 0 a.size)(hB:Up r b 0 b.size)(e:a[ia]? = some y)(hl:ib<b.size->R r a ia<=R r b ib):MI r a b (out.push y) (ia+1) ib:=by
 have OY:ia<a.size:=(NW.mp e).1;have ey:=pV (r:=r) e;refine⟨OY,M.hb,?_,?_,?_,?_⟩
 ·rw[qB,nj (by simpa using e),AW];refine(M.perm.append_right [y]).trans ?_;rw[AW];exact List.Perm.append_left _ Vm
 ·rw[qB,Qc];refine⟨M.up,by simp,λx hx z hz=>?_⟩;have:z=y:=by simpa using hz
  subst this;show r x.1<=r z.1;rw[<- ey];exact M.la x hx ia (c9 _) OY
 ·intro x hx i hi k6;rw[qB] at hx;rcases fe.mp hx with hx|hx
  ·exact M.la x hx i (by lia) k6
  ·have:x=y:=by simpa using hx
   subst this;rw[<- ey];exact hA ia i (fS _) (by lia) k6
 ·intro x hx j hj Rf;rw[qB] at hx;rcases fe.mp hx with hx|hx
  ·exact M.lb x hx j hj Rf
  ·have:x=y:=by simpa using hx
   subst this;rw[<- ey];exact x3 (hl (by lia)) (hB ib j (fS _) hj Rf)
def fj{xs:Array bT}{i k:Nat}(h:i+k<xs.size):xs.extract i (i+(k+1))=(xs.extract i (i+k)).push xs[i+k]:=by apply Td.mp;rw[qB];simp only[Vx,Vi];rw[show i+(k+1)-i=k+1 by lia,show i+k-i=k by lia,wm];congr 1;simp[h]
theorem MI.E6(hA:Up r a 0 a.size)(hB:Up r b 0 b.size):∀ (k:Nat) {out:Array bT} {ia:Nat},MI r a b out ia ib->ia+k<=a.size->(ib<b.size->∀ i,i<k->R r a (ia+i)<=R r b ib)->MI r a b (out++a.extract ia (ia+k)) (ia+k) ib
 |0,out,ia,M,h1,h2=>by have:a.extract ia (ia+0) = #[]:=S_ (by simp only[Kb];lia);rw[this];simpa using M
 |k+1,out,ia,M,h1,h2=>by have q:=MI.E6 hA hB k M (by exact xS ‹_›) λhb i hi=>h2 hb i (by exact xI ‹_›);have e:a[ia+k]? = some a[ia+k]:=getElem?_pos a (ia+k) (by assumption);have z:=q.qp hA hB e λhb=>h2 hb k (by exact c9 _);rw[fj (by assumption),Array.append_push];exact z
theorem MI.E7(hA:Up r a 0 a.size)(hB:Up r b 0 b.size):∀ (k:Nat) {out:Array bT} {ib:Nat},MI r a b out ia ib->ib+k<=b.size->(ia<a.size->∀ i,i<k->R r b (ib+i)<=R r a ia)->MI r a b (out++b.extract ib (ib+k)) ia (ib+k)
 |0,out,ib,M,h1,h2=>by have:b.extract ib (ib+0) = #[]:=S_ (by simp only[Kb];lia);rw[this];simpa using M
 |k+1,out,ib,M,h1,h2=>by have q:=MI.E7 hA hB k M (by exact xS ‹_›) λha i hi=>h2 ha i (by exact xI ‹_›);have e:b[ib+k]? = some b[ib+k]:=getElem?_pos b (ib+k) (by assumption);have z:=q.qM hA hB e λha=>h2 ha k (by exact c9 _);rw[fj (by assumption),Array.append_push];exact z
def b7(r:ae->Int)(a b out:Array bT):Prop:=out.toList.Perm (a.toList++b.toList)/\out.toList.Pairwise (Le r)
def MI.whole(M:MI r a b out a.size b.size):b7 r a b out:=by refine⟨?_,M.up⟩;have h:=M.perm;rw[Sx (by simp),Sx (by simp)] at h;exact h
def MI.Ko(M:MI r a b out ia b.size)(hA:Up r a 0 a.size)(hB:Up r b 0 b.size):b7 r a b (out++a.extract ia a.size++b.extract b.size b.size):=by
 have e:b.extract b.size b.size = #[]:=by simp
 rw[e,Vy];have ha:=M.ha;have q:=MI.E6 hA hB (a.size-ia) M (by lia) λhb=>absurd hb (wo _);rw[show ia+(a.size-ia)=a.size by exact Qk ‹_›] at q;exact q.whole
def MI.K_(M:MI r a b out a.size ib)(hA:Up r a 0 a.size)(hB:Up r b 0 b.size):b7 r a b (out++a.extract a.size a.size++b.extract ib b.size):=by
 have e:a.extract a.size a.size = #[]:=by simp
 rw[e,Vy];have hb:=M.hb;have q:=MI.E7 hA hB (b.size-ib) M (by lia) λha=>absurd ha (wo _);rw[show ib+(b.size-ib)=b.size by exact Qk ‹_›] at q;exact q.whole
def MI.OZ(M:MI r a b out ia ib)(hA:Up r a 0 a.size)(hB:Up r b 0 b.size)(e:ib=b.size):b7 r a b (out++a.extract ia a.size++b.extract ib b.size):=by subst e;exact M.Ko hA hB
def MI.O0(M:MI r a b out ia ib)(hA:Up r a 0 a.size)(hB:Up r b 0 b.size)(e:ia=a.size):b7 r a b (out++a.extract ia a.size++b.extract ib b.size):=by subst e;exact M.K_ hA hB
def MI.K8(M:MI r a b out ia ib)(hA:Up r a 0 a.size)(hB:Up r b 0 b.size)(OY:ia+1=a.size)(hg:∀ j,j<b.size->R r b j<=R r a ia):b7 r a b (out++b.extract ib b.size++a.extract ia a.size):=by have hb:=M.hb;have q:=MI.E7 hA hB (b.size-ib) M (by lia) λha i hi=>hg _ (by lia);rw[show ib+(b.size-ib)=b.size by exact Qk ‹_›] at q;have z:=MI.E6 hA hB (a.size-ia) q (by lia) λhb=>absurd hb (wo _);rw[show ia+(a.size-ia)=a.size by lia] at z;exact z.whole
def MI.start(hA:Up r a 0 a.size)(hB:Up r b 0 b.size):MI r a b #[] 0 0:=⟨fS _,fS _,by simp,by simp,λx hx=>by simp at hx,λx hx=>by simp at hx⟩
end
def bx:Nat->StateT eB Sem Unit:=sortPriv% PySem.Builtin.setMinGallop
def vg:Array bT->Array bT->StateT eB Sem (Array bT):=sortPriv% PySem.Builtin.mergeLo
def uL:Array bT->Array bT->StateT eB Sem (Array bT):=sortPriv% PySem.Builtin.mergeHi
def jE(g:Nat):bx g=modify λs=>SortSt.mk' (fP s) (bp s) (mG s) g (sj s):=rfl
def Mg(st av:eB):Prop:=∃ g,av=SortSt.mk' (fP st) (bp st) (mG st) g (sj st)
def Mg.refl(st:eB):Mg st st:=⟨gallopOf st,rfl⟩
def Mg.kind{st av:eB}(h:Mg st av):fP av=fP st:=by obtain⟨g,rfl⟩:=h;rfl
def Mg.set{st av:eB}(h:Mg st av)(g:Nat):Mg st (SortSt.mk' (fP av) (bp av) (mG av) g (sj av)):=by obtain⟨g',rfl⟩:=h;exact⟨g,rfl⟩
section
variable {prog:eL}{w:eR}{A:fq}{E:ae->ay->Prop}{s:ay}{r:ae->Int}
def iz{st:eB}{g:Nat}{Q:Unit->eB->Prop}(h:Q () (SortSt.mk' (fP st) (bp st) (mG st) g (sj st))):wpS (aI prog w) A E s (bx g) Q st:=by rw[jE];exact EE h
def Ah(h:g9 r false key arr base i=true):R r arr (base+i)<=r key.1:=by unfold g9 at h;simp only[qA,if_false,Bool.not_eq_true',decide_eq_false_iff_not] at h;lia
def zF(h:g9 r false key arr base i=false):r key.1<R r arr (base+i):=by unfold g9 at h;simp only[qA,if_false,S8,decide_eq_true_eq] at h;exact h
def GZ(h:g9 r true key arr base i=true):R r arr (base+i)<r key.1:=by unfold g9 at h;simp only[if_true,decide_eq_true_eq] at h;exact h
def uJ(h:g9 r true key arr base i=false):r key.1<=R r arr (base+i):=by unfold g9 at h;simp only[if_true,decide_eq_false_iff_not] at h;lia
end
def Mg.trans{a b c:eB}(h:Mg a b)(g:Mg b c):Mg a c:=by obtain⟨x,rfl⟩:=h;obtain⟨y,rfl⟩:=g;exact⟨y,rfl⟩
def Ff{K G:Prop}(pk:K)(h:K->G):G:=h pk
abbrev SM:=StateT eB Sem
abbrev L1:=Option (Array bT) × Array bT × Nat × Nat × Nat
abbrev oy:=Option (Array bT) × Array bT × Nat × Nat × Nat × Nat
abbrev L3:=Option (Array bT) × Array bT × Nat × Nat × Nat × Nat × Nat
def HP(a b out:Array bT)(ia ib:Nat):Array bT:=out++a.extract ia a.size++b.extract ib b.size
def Rg(a b out:Array bT)(ia ib:Nat):Array bT:=out++b.extract ib b.size++a.extract ia a.size
def WQ(a b:Array bT)(mg ac bc ia ib:Nat)(out:Array bT):SM (ForInStep L3):=elem' a ia >>= λp =>
 if (ia+1+1 == a.size)=true then pure (.done (some (Rg a b (out.push p) (ia+1) ib),out.push p,ia+1,ib,mg,ac,bc))
 else if (decide (ac<7) && decide (bc<7))=true then pure (.done (none,out.push p,ia+1,ib,mg,ac,bc)) else pure (.yield (none,out.push p,ia+1,ib,mg,ac,bc))
def LP(a b:Array bT)(mg ac bc ia ib:Nat)(out:Array bT):SM (ForInStep L3):=elem' a ia >>= λp=>lO true p b ib (b.size-ib) 0 >>= λx=>match x with
 |some k=>if k>0 then
   if (ib+k == b.size)=true then pure (.done (some (HP a b (out++b.extract ib (ib+k)) ia (ib+k)),out++b.extract ib (ib+k),ia,ib+k,mg,ac,k))
   else WQ a b mg ac k ia (ib+k) (out++b.extract ib (ib+k))
  else WQ a b mg ac k ia ib out
 |_=>pure (.done (some (HP a b out ia ib),out,ia,ib,mg,ac,bc))
def lo1(a b:Array bT)(mg ac bc ia ib:Nat)(out:Array bT):SM (ForInStep L3):=elem' b ib >>= λp =>
 if (ib+1 == b.size)=true then pure (.done (some (HP a b (out.push p) ia (ib+1)),out.push p,ia,ib+1,mg,ac,bc)) else LP a b mg ac bc ia (ib+1) (out.push p)
def WR(a b:Array bT)(mg ac bc ia ib:Nat)(out:Array bT):SM (ForInStep L3):=bx mg >>= λ_=>elem' b ib >>= λp=>lO false p a ia (a.size-ia) 0 >>= λx=>match x with
 |some k=>if k>0 then
   if (ia+k+1 == a.size)=true then pure (.done (some (Rg a b (out++a.extract ia (ia+k)) (ia+k) ib),out++a.extract ia (ia+k),ia+k,ib,mg,k,bc))
   else if (ia+k == a.size)=true then pure (.done (some (HP a b (out++a.extract ia (ia+k)) (ia+k) ib),out++a.extract ia (ia+k),ia+k,ib,mg,k,bc))
   else lo1 a b mg k bc (ia+k) ib (out++a.extract ia (ia+k))
  else lo1 a b mg k bc ia ib out
 |_=>pure (.done (some (HP a b out ia ib),out,ia,ib,mg,ac,bc))
def loG(a b:Array bT)(_:Nat)(s:L3):SM (ForInStep L3) :=
 if s.2.2.2.2.1>1 then WR a b (s.2.2.2.2.1-1) s.2.2.2.2.2.1 s.2.2.2.2.2.2 s.2.2.1 s.2.2.2.1 s.2.1 else WR a b s.2.2.2.2.1 s.2.2.2.2.2.1 s.2.2.2.2.2.2 s.2.2.1 s.2.2.2.1 s.2.1
def loA(a b:Array bT)(mg bc ia ib:Nat)(out:Array bT):SM (ForInStep oy):=elem' b ib >>= λp =>
 if (ib+1 == b.size)=true then pure (.done (some (HP a b (out.push p) ia (ib+1)),out.push p,ia,ib+1,0,bc+1))
 else if bc+1 >= mg then pure (.done (none,out.push p,ia,ib+1,0,bc+1)) else pure (.yield (none,out.push p,ia,ib+1,0,bc+1))
def loB(a b:Array bT)(mg ac ia ib:Nat)(out:Array bT):SM (ForInStep oy):=elem' a ia >>= λp =>
 if (ia+1+1 == a.size)=true then pure (.done (some (Rg a b (out.push p) (ia+1) ib),out.push p,ia+1,ib,ac+1,0))
 else if ac+1 >= mg then pure (.done (none,out.push p,ia+1,ib,ac+1,0)) else pure (.yield (none,out.push p,ia+1,ib,ac+1,0))
def loI(a b:Array bT)(mg:Nat)(_:Nat)(s:oy):SM (ForInStep oy):=elem' b s.2.2.2.1 >>= λpb=>elem' a s.2.2.1 >>= λpa=>lt' pb pa >>= λx=>match x with
 |some w=>if w=true then loA a b mg s.2.2.2.2.2 s.2.2.1 s.2.2.2.1 s.2.1 else loB a b mg s.2.2.2.2.1 s.2.2.1 s.2.2.2.1 s.2.1
 |_=>pure (.done (some (HP a b s.2.1 s.2.2.1 s.2.2.2.1),s.2.1,s.2.2.1,s.2.2.2.1,s.2.2.2.2.1,s.2.2.2.2.2))
def loP (a b:Array bT) (mg:Nat) (t:oy):SM (ForInStep L1):=(liftM (rule "list.sort.gallop"):SM Unit) >>= λ_ =>
 forIn [:a.size+b.size] ((none,t.2.1,t.2.2.1,t.2.2.2.1,mg+1,t.2.2.2.2.1,t.2.2.2.2.2):L3) (loG a b) >>= λu=>match u.1 with
 |some r=>pure (.done (some r,u.2.1,u.2.2.1,u.2.2.2.1,u.2.2.2.2.1))
 |none=>bx (u.2.2.2.2.1+1) >>= λ_=>pure (.yield (none,u.2.1,u.2.2.1,u.2.2.2.1,u.2.2.2.2.1+1))
def loO(a b:Array bT)(_:Nat)(s:L1):SM (ForInStep L1):=forIn [:a.size+b.size] ((none,s.2.1,s.2.2.1,s.2.2.2.1,0,0):oy) (loI a b s.2.2.2.2) >>= λt=>match t.1 with
 |some r=>pure (.done (some r,t.2.1,t.2.2.1,t.2.2.2.1,s.2.2.2.2))
 |none=>loP a b s.2.2.2.2 t
def loM (a b:Array bT):SM (Array bT):=(liftM (rule "list.sort.merge-lo"):SM Unit) >>= λ_=>elem' b 0 >>= λy =>
 if (1 == b.size)=true then pure (HP a b #[y] 0 1)
 else if (0+1 == a.size)=true then pure (Rg a b #[y] 0 1)
 else get >>= λst=>forIn [:a.size+b.size] ((none,#[y],0,1,gallopOf st):L1) (loO a b) >>= λt=>match t.1 with
 |some r=>pure r
 |none=>(liftM (unsupported (α:=Array bT) "internal:list.sort.merge-bound"):SM (Array bT))
set_option smartUnfolding false in
def wL:vg=loM:=rfl
section
variable {prog:eL}{w:eR}{A:fq}{E:ae->ay->Prop}{s:ay}{κ:qo}{r:ae->Int}{P:ae->Prop}{a b out:Array bT}{mg ac bc ia ib N:Nat}{st:eB}
structure MC(prog:eL)(w:eR)(A:fq)(s:ay)(κ:qo)(r:ae->Int)(P:ae->Prop)(a b:Array bT):Prop where
 C:oi prog w A s κ r P
 pa:AllP P a
 pb:AllP P b
 hA:Up r a 0 a.size
 hB:Up r b 0 b.size
 hl:∀ i,i<a.size->R r b 0<=R r a i
 hg:∀ j,j<b.size->R r b j<=R r a (a.size-1)
def HS{β:Type}(r:ae->Int)(a b:Array bT)(c:Option (Array bT) × β):Prop:=∃ out rest,c=(some out,rest)/\b7 r a b out
def LY(r:ae->Int)(a b:Array bT)(N:Nat)(c:L3):Prop:=∃ out ia ib mg ac bc,c=(none,out,ia,ib,mg,ac,bc)/\MI r a b out ia ib/\ia+1<a.size/\ib<b.size/\N<=ia+ib
def LI(r:ae->Int)(a b:Array bT)(N:Nat)(c:oy):Prop:=∃ out ia ib ac bc,c=(none,out,ia,ib,ac,bc)/\MI r a b out ia ib/\ia+1<a.size/\ib<b.size/\N<=ia+ib
def MC.last(c:MC prog w A s κ r P a b)(M:MI r a b out ia ib)(z:ia+1=a.size):b7 r a b (Rg a b out ia ib):=M.K8 c.hA c.hB z λj hj=>by have:=c.hg j hj;rwa[show a.size-1=ia by lia] at this
def DK(c:MC prog w A s κ r P a b)(M:MI r a b out ia ib)(h1:ia+1<a.size)(lt:R r a ia<=R r b ib)(h2:ib<b.size)(hN:N<=ia+ib)(D:∀ c,HS r a b c->Q (.done c) st)(Y:∀ c,LY r a b N c->Q (.done c) st/\Q (.yield c) st):wpS (aI prog w) A E s (WQ a b mg ac bc ia ib out) Q st:=by
 refine cE (aK (by lia) λp e=>?_);have M2:=M.qp c.hA c.hB e λ_=>lt;by_cases z:ia+1+1=a.size
 ·rw[if_pos (by simpa using z)];exact d5 (D _ ⟨_,_,rfl,c.last M2 z⟩)
 ·rw[if_neg (by simpa using z)];have y:=Y _ ⟨_,_,_,mg,ac,bc,rfl,M2,by lia,h2,by lia⟩;split
  ·exact d5 y.1
  ·exact d5 y.2
def Jj(c:MC prog w A s κ r P a b)(hk:fP st=κ)(M:MI r a b out ia ib)(h1:ia+1<a.size)(h2:ib<b.size)(hN:N<=ia+ib)(D:∀ c,HS r a b c->Q (.done c) st)(Y:∀ c,LY r a b N c->Q (.done c) st/\Q (.yield c) st):wpS (aI prog w) A E s (LP a b mg ac bc ia ib out) Q st:=by
 refine cE (aK (by lia) λp e=>cE (cW c.C hk c.pb (c.pa.at e) (by lia) (by lia) (λi j u v w=>c.hB i j (by lia) v (by lia)) λl Pl tq Pm=>?_));have ra:=pV (r:=r) e;dsimp only;have lt:ib+l<b.size->R r a ia<=R r b (ib+l):=λz=>by have:=uJ (Pm l (c9 _) (by lia));lia
 by_cases l0:l>0
 ·have M5:=MI.E7 c.hA c.hB l M (by lia) λ_ i hi=>by have:=GZ (tq i hi);lia
  rw[if_pos l0];by_cases z:ib+l=b.size
  ·rw[if_pos (by simpa using z)];exact d5 (D _ ⟨_,_,rfl,M5.OZ c.hA c.hB z⟩)
  ·rw[if_neg (by simpa using z)];exact DK c M5 h1 (lt (by lia)) (by lia) (by lia) D Y
 ·rw[if_neg l0];obtain rfl:l=0:=by lia
  exact DK c M h1 (lt h2) h2 hN D Y
def Dz(c:MC prog w A s κ r P a b)(hk:fP st=κ)(M:MI r a b out ia ib)(h1:ia+1<a.size)(lt:R r b ib<=R r a ia)(h2:ib<b.size)(hN:N<=ia+ib)(D:∀ c,HS r a b c->Q (.done c) st)(Y:∀ c,LY r a b N c->Q (.done c) st/\Q (.yield c) st):wpS (aI prog w) A E s (lo1 a b mg ac bc ia ib out) Q st:=by
 refine cE (aK h2 λp e=>?_);have M4:=M.qM c.hA c.hB e λ_=>lt;by_cases z:ib+1=b.size
 ·rw[if_pos (by simpa using z)];exact d5 (D _ ⟨_,_,rfl,M4.OZ c.hA c.hB z⟩)
 ·rw[if_neg (by simpa using z)];exact Jj c hk M4 h1 (by lia) (by lia) D Y
def Hg(c:MC prog w A s κ r P a b)(hk:fP st=κ)(M:MI r a b out ia ib)(h1:ia+1<a.size)(h2:ib<b.size)(hN:N<=ia+ib)(D:∀ av,Mg st av->∀ c,HS r a b c->Q (.done c) av)(Y:∀ av,Mg st av->∀ c,LY r a b N c->Q (.done c) av/\Q (.yield c) av):wpS (aI prog w) A E s (WR a b mg ac bc ia ib out) Q st:=by
 have g:=(Mg.refl st).set mg;refine cE (iz ?_);refine cE (aK h2 λp e=>cE (cW c.C (g.kind.trans hk) c.pa (c.pb.at e) (by lia) (by lia) (λi j u v w=>c.hA i j (by lia) v (by lia)) λk hk1 xi LS=>?_));have rb:=pV (r:=r) e;dsimp only;have lt:ia+k<a.size->R r b ib<=R r a (ia+k):=λz=>by have:=zF (LS k (c9 _) (by lia));lia
 by_cases k0:k>0
 ·have M3:=MI.E6 c.hA c.hB k M (by lia) λ_ i hi=>by have:=Ah (xi i hi);lia
  rw[if_pos k0];by_cases z:ia+k+1=a.size
  ·rw[if_pos (by simpa using z)];exact d5 (D _ g _ ⟨_,_,rfl,c.last M3 z⟩)
  ·rw[if_neg (by simpa using z)];by_cases z2:ia+k=a.size
   ·rw[if_pos (by simpa using z2)];exact d5 (D _ g _ ⟨_,_,rfl,M3.O0 c.hA c.hB z2⟩)
   ·rw[if_neg (by simpa using z2)];exact Dz c (g.kind.trans hk) M3 (by lia) (lt (by lia)) h2 (by lia) (D _ g) (Y _ g)
 ·rw[if_neg k0];obtain rfl:k=0:=by lia
  exact Dz c (g.kind.trans hk) M h1 (lt (by lia)) h2 hN (D _ g) (Y _ g)
def Jx(c:MC prog w A s κ r P a b)(M:MI r a b out ia ib)(h1:ia+1<a.size)(lt:R r b ib<=R r a ia)(h2:ib<b.size)(hN:N<=ia+ib+1)(D:∀ c,HS r a b c->Q (.done c) st)(Y:∀ c,LI r a b N c->Q (.done c) st/\Q (.yield c) st):wpS (aI prog w) A E s (loA a b mg bc ia ib out) Q st:=by
 refine cE (aK h2 λp e=>?_);have M2:=M.qM c.hA c.hB e λ_=>lt;by_cases z:ib+1=b.size
 ·rw[if_pos (by simpa using z)];exact d5 (D _ ⟨_,_,rfl,M2.OZ c.hA c.hB z⟩)
 ·rw[if_neg (by simpa using z)];have y:=Y _ ⟨_,_,_,0,bc+1,rfl,M2,h1,by lia,hN⟩;split
  ·exact d5 y.1
  ·exact d5 y.2
def Jk(c:MC prog w A s κ r P a b)(M:MI r a b out ia ib)(h1:ia+1<a.size)(lt:R r a ia<=R r b ib)(h2:ib<b.size)(hN:N<=ia+ib+1)(D:∀ c,HS r a b c->Q (.done c) st)(Y:∀ c,LI r a b N c->Q (.done c) st/\Q (.yield c) st):wpS (aI prog w) A E s (loB a b mg ac ia ib out) Q st:=by
 refine cE (aK (by lia) λp e=>?_);have M2:=M.qp c.hA c.hB e λ_=>lt;by_cases z:ia+1+1=a.size
 ·rw[if_pos (by simpa using z)];exact d5 (D _ ⟨_,_,rfl,c.last M2 z⟩)
 ·rw[if_neg (by simpa using z)];have y:=Y _ ⟨_,_,_,ac+1,0,rfl,M2,by lia,h2,by lia⟩;split
  ·exact d5 y.1
  ·exact d5 y.2
def HH(c:MC prog w A s κ r P a b)(hk:fP st=κ)(M:MI r a b out ia ib)(h1:ia+1<a.size)(h2:ib<b.size)(hN:N<=ia+ib+1)(D:∀ c,HS r a b c->Q (.done c) st)(Y:∀ c,LI r a b N c->Q (.done c) st/\Q (.yield c) st):wpS (aI prog w) A E s (loI a b mg x (none,out,ia,ib,ac,bc)) Q st:=by
 refine cE (aK h2 λpb eb=>cE (aK (show ia<a.size by lia) λpa ea=>cE (p8 c.C hk (c.pb.at eb) (c.pa.at ea) ?_)));have rb:R r b ib=r pb.1:=pV eb;have ra:R r a ia=r pa.1:=pV ea;dsimp only;by_cases hw:r pb.1<r pa.1
 ·rw[if_pos (decide_eq_true hw)];exact Jx c M h1 (by lia) h2 hN D Y
 ·rw[if_neg (by simpa using hw)];exact Jk c M h1 (by lia) h2 hN D Y
def Ii(c:MC prog w A s κ r P a b)(hk:fP st=κ)(M:MI r a b out ia ib)(h1:ia+1<a.size)(h2:ib<b.size)(hN:N<=ia+ib)(D:∀ av,Mg st av->∀ c,HS r a b c->Q (.done c) av)(Y:∀ av,Mg st av->∀ out ia ib mg,MI r a b out ia ib->ia+1<a.size->ib<b.size->N<=ia+ib->Q (.yield (none,out,ia,ib,mg)) av):wpS (aI prog w) A E s (loP a b mg (none,out,ia,ib,ac,bc)) Q st:=by
 refine cE (wpS_lift (EB ⟨rfl,?_⟩));refine cE (uk (sf (I:=λ_ c av=>Mg st av/\LY r a b N c) (Q:=λc av=>Mg st av/\(HS r a b c\/LY r a b N c)) ?step ?fin ⟨.refl st,_,_,_,_,_,_,rfl,M,h1,h2,hN⟩) ?post);case fin =>
  rintro c av ⟨hm,q⟩;exact⟨hm,.inr q⟩
 case step =>
  rintro y c1 E8 _ _ ⟨hm,out,ia,ib,mg,ac,bc,rfl,M,h1,h2,hN⟩;unfold loG;split<;>exact Hg c (hm.kind.trans hk) M h1 h2 hN (λav g c q=>⟨hm.trans g,.inl q⟩) λav g c q=>⟨⟨hm.trans g,.inr q⟩,hm.trans g,q⟩
 case post =>
  rintro c av ⟨hm,⟨o,rest,rfl,hM⟩|⟨out,ia,ib,mg,ac,bc,rfl,M,h1,h2,hN⟩⟩
  ·exact d5 (D _ hm _ ⟨_,_,rfl,hM⟩)
  ·exact cE (iz (d5 (Y _ (hm.set _) _ _ _ _ M h1 h2 hN)))
def Jz(c:MC prog w A s κ r P a b)(hk:fP st=κ)(M:MI r a b out ia ib)(h1:ia+1<a.size)(h2:ib<b.size)(hN:N<=ia+ib)(D:∀ av,Mg st av->∀ c,HS r a b c->Q (.done c) av)(Y:∀ av,Mg st av->∀ out ia ib mg,MI r a b out ia ib->ia+1<a.size->ib<b.size->N+1<=ia+ib->Q (.yield (none,out,ia,ib,mg)) av):wpS (aI prog w) A E s (loO a b x (none,out,ia,ib,mg)) Q st:=by
 refine cE (uk (sf (I:=λy c av=>av=st/\LI r a b (N+y) c) (Q:=λc av=>av=st/\(HS r a b c\/LI r a b (N+1) c)) ?step ?fin ⟨rfl,_,_,_,_,_,rfl,M,h1,h2,hN⟩) ?post);case fin =>
  rintro c av ⟨rfl,o,ia',ib',ac,bc,rfl,M',q1,q2,q3⟩;exact⟨rfl,.inr ⟨_,_,_,_,_,rfl,M',q1,q2,by lia⟩⟩
 case step =>
  rintro y c1 E8 _ hy ⟨rfl,o,ia',ib',ac,bc,rfl,M',q1,q2,q3⟩;exact HH (N:=N+y+1) c hk M' q1 q2 (by lia) (λc q=>⟨rfl,.inl q⟩) λc q=>by obtain⟨o,ia,ib,ac,bc,rfl,M,h1,h2,h3⟩:=q;exact⟨⟨rfl,.inr ⟨_,_,_,_,_,rfl,M,h1,h2,by lia⟩⟩,rfl,_,_,_,_,_,rfl,M,h1,h2,by lia⟩
 case post =>
  rintro c1 av ⟨rfl,⟨o,rest,rfl,hM⟩|⟨o,ia,ib,ac,bc,rfl,M',q1,q2,q3⟩⟩
  ·exact d5 (D _ (.refl _) _ ⟨_,_,rfl,hM⟩)
  ·exact Ii c hk M' q1 q2 q3 D Y
def tZ{st:eB}{a b:Array bT}{Q:Array bT->eB->Prop}(C:oi prog w A s κ r P)(hk:fP st=κ)(WU:AllP P a)(WV:AllP P b)(hA:Up r a 0 a.size)(hB:Up r b 0 b.size)(na:1<=a.size)(nb:1<=b.size)(h0:R r b 0<=R r a 0) (hg:∀ j,j<b.size->R r b j<=R r a (a.size-1)) (h:∀ out av,b7 r a b out->Mg st av->Q out av):wpS (aI prog w) A E s (vg a b) Q st:=by
 have c:MC prog w A s κ r P a b:=⟨C,WU,WV,hA,hB,λi hi=>x3 h0 (hA 0 i (c9 _) (fS _) hi),hg⟩
 rw[wL];refine cE (wpS_lift (EB ⟨rfl,?_⟩));refine cE (aK nb λy0 e0=>?_);have M1:MI r a b #[y0] 0 1:=(MI.start hA hB).qM hA hB e0 λ_=>h0;by_cases c1:1=b.size
 ·rw[if_pos (by simpa using c1)];exact d5 (h _ _ (M1.OZ hA hB c1) (.refl st))
 ·rw[if_neg (by simpa using c1)];by_cases c2:0+1=a.size
  ·rw[if_pos (by simpa using c2)];exact d5 (h _ _ (c.last M1 c2) (.refl st))
  ·rw[if_neg (by simpa using c2)];refine cE (wpS_get ?_);refine cE (uk (sf (I:=λx c av=>Mg st av/\∃ out ia ib mg,c=(none,out,ia,ib,mg)/\MI r a b out ia ib/\ia+1<a.size/\ib<b.size/\x+1<=ia+ib) (Q:=λc av=>Mg st av/\HS r a b c) ?step ?fin ⟨.refl st,_,_,_,_,rfl,M1,by lia,by lia,by lia⟩) ?post)
   case fin =>
    rintro c av ⟨_,out,ia,ib,mg,rfl,M,h1,h2,h3⟩;lia
   case post =>
    rintro c av ⟨hm,out,rest,rfl,hM⟩;exact d5 (h out av hM hm)
   case step =>
    rintro x c1 E8 _ hx ⟨Bz,out,ia,ib,mg,rfl,M,h1,h2,h3⟩;exact Jz c (Bz.kind.trans hk) M h1 h2 h3 (λav g c q=>⟨Bz.trans g,q⟩) λav g out ia ib mg M h1 h2 h3=>⟨Bz.trans g,_,_,_,_,rfl,M,h1,h2,h3⟩
end
abbrev Ge(r:ae->Int)(x y:bT):Prop:=r y.1<=r x.1
structure MH(r:ae->Int)(a b out:Array bT)(na nb:Nat):Prop where
 ha:na<=a.size
 hb:nb<=b.size
 perm:out.toList.Perm (a.toList.drop na++b.toList.drop nb)
 down:out.toList.Pairwise (Ge r)
 ga:∀ x∈out.toList,∀ i,i<na->R r a i<=r x.1
 gb:∀ x∈out.toList,∀ j,j<nb->R r b j<=r x.1
section
variable {r:ae->Int}{a b out:Array bT}{na nb:Nat}
def pO{α:Type}{l:List α}{i:Nat}{x:α}(h0:0<i)(h:l[i-1]? = some x):l.drop (i-1)=x :: l.drop i:=by obtain⟨hi,e⟩:=iF.mp h;rw[xC hi,e,show i-1+1=i by exact Nat.sub_add_cancel ‹_›]
def MH.qp(M:MH r a b out na nb)(hA:Up r a 0 a.size)(hB:Up r b 0 b.size)(h0:0<na)(e:a[na-1]? = some y)(hl:0<nb->R r b (nb-1)<=R r a (na-1)):MH r a b (out.push y) (na-1) nb:=by
 have ey:=pV (r:=r) e;have ha:=M.ha;have hb:=M.hb;refine⟨by lia,M.hb,?_,?_,?_,?_⟩
 ·rw[qB,pO h0 (by simpa using e)];exact(M.perm.append_right [y]).trans Vm
 ·rw[qB,Qc];refine⟨M.down,by simp,λx hx z hz=>?_⟩;have:z=y:=by simpa using hz
  subst this;show r z.1<=r x.1;rw[<- ey];exact M.ga x hx (na-1) (by lia)
 ·intro x hx i hi;rw[qB] at hx;rcases fe.mp hx with hx|hx
  ·exact M.ga x hx i (by lia)
  ·have:x=y:=by simpa using hx
   subst this;rw[<- ey];exact hA i (na-1) (fS _) (by lia) (by lia)
 ·intro x hx j hj;rw[qB] at hx;rcases fe.mp hx with hx|hx
  ·exact M.gb x hx j hj
  ·have:x=y:=by simpa using hx
   subst this;rw[<- ey];exact x3 (hB j (nb-1) (fS _) (by lia) (by lia)) (hl (by lia))
def MH.qM(M:MH r a b out na nb)(hA:Up r a 0 a.size)(hB:Up r b 0 b.size)(h0:0<nb)(e:b[nb-1]? = some y)(hl:0<na->R r a (na-1)<=R r b (nb-1)):MH r a b (out.push y) na (nb-1):=by
 have ey:=pV (r:=r) e;have ha:=M.ha;have hb:=M.hb;refine⟨M.ha,by lia,?_,?_,?_,?_⟩
 ·rw[qB,pO h0 (by simpa using e)];refine(M.perm.append_right [y]).trans ?_;rw[AW];exact List.Perm.append_left _ Vm
 ·rw[qB,Qc];refine⟨M.down,by simp,λx hx z hz=>?_⟩;have:z=y:=by simpa using hz
  subst this;show r z.1<=r x.1;rw[<- ey];exact M.gb x hx (nb-1) (by lia)
 ·intro x hx i hi;rw[qB] at hx;rcases fe.mp hx with hx|hx
  ·exact M.ga x hx i hi
  ·have:x=y:=by simpa using hx
   subst this;rw[<- ey];exact x3 (hA i (na-1) (fS _) (by lia) (by lia)) (hl (by lia))
 ·intro x hx j hj;rw[qB] at hx;rcases fe.mp hx with hx|hx
  ·exact M.gb x hx j (by lia)
  ·have:x=y:=by simpa using hx
   subst this;rw[<- ey];exact hB j (nb-1) (fS _) (by lia) (by lia)
def kY{xs:Array bT}{i n:Nat}(h:i<n)(hn:n<=xs.size):(xs.extract i n).reverse = #[xs[n-1]'(by lia)]++(xs.extract i (n-1)).reverse:=by
 obtain⟨k,rfl⟩:∃ k,n=i+(k+1):=⟨n-1-i,by lia⟩
 have e3:i+(k+1)-1=i+k:=by rfl
 simp only[e3];rw[fj (by assumption),Array.reverse_push]
theorem MH.E6(hA:Up r a 0 a.size)(hB:Up r b 0 b.size):∀ (k:Nat) {out:Array bT} {na p:Nat},MH r a b out na nb->p+k=na->(0<nb->∀ i,p<=i->i<na->R r b (nb-1)<=R r a i)->MH r a b (out++(a.extract p na).reverse) p nb
 |0,out,na,p,M,h1,h2=>by
  have:a.extract p na = #[]:=S_ (by simp only[Kb];lia);have e:na=p:=by lia
  subst e;rw[this];simpa using M
 |k+1,out,na,p,M,h1,h2=>by have ha:=M.ha;have e:a[na-1]? = some (a[na-1]'(by lia)):=getElem?_pos a (na-1) (by lia);have q:=M.qp hA hB (by lia) e λhb=>h2 hb _ (by lia) (by lia);have z:=MH.E6 hA hB k q (by lia) λhb i nc k6=>h2 hb i nc (by lia);rw[kY (by lia) ha,<- Tc];simpa using z
theorem MH.E7(hA:Up r a 0 a.size)(hB:Up r b 0 b.size):∀ (k:Nat) {out:Array bT} {nb p:Nat},MH r a b out na nb->p+k=nb->(0<na->∀ i,p<=i->i<nb->R r a (na-1)<=R r b i)->MH r a b (out++(b.extract p nb).reverse) na p
 |0,out,nb,p,M,h1,h2=>by
  have:b.extract p nb = #[]:=S_ (by simp only[Kb];lia);have e:nb=p:=by lia
  subst e;rw[this];simpa using M
 |k+1,out,nb,p,M,h1,h2=>by have hb:=M.hb;have e:b[nb-1]? = some (b[nb-1]'(by lia)):=getElem?_pos b (nb-1) (by lia);have q:=M.qM hA hB (by lia) e λha=>h2 ha _ (by lia) (by lia);have z:=MH.E7 hA hB k q (by lia) λha i nc k6=>h2 ha i nc (by lia);rw[kY (by lia) hb,<- Tc];simpa using z
def MH.whole(M:MH r a b out 0 0):b7 r a b out.reverse:=by
 refine⟨?_,?_⟩
 ·have h:=M.perm;rw[Array.toList_reverse];exact(List.reverse_perm _).trans h
 ·rw[Array.toList_reverse,List.pairwise_reverse];exact M.down
def pB(x y:Array bT):(x++y.reverse).reverse=y++x.reverse:=by apply Td.mp;simp
def MH.O0(M:MH r a b out na nb)(hA:Up r a 0 a.size)(hB:Up r b 0 b.size)(e:na=0):b7 r a b (a.extract 0 na++b.extract 0 nb++out.reverse):=by
 subst e;have z:=MH.E7 hA hB nb (p:=0) M (by exact S5 ..) λha=>absurd ha (wo _);have q:=z.whole;rw[pB] at q;have e2:a.extract 0 0 = #[]:=by simp
 rw[e2,Array.empty_append];exact q
def MH.OZ(M:MH r a b out na nb)(hA:Up r a 0 a.size)(hB:Up r b 0 b.size)(e:nb=0):b7 r a b (a.extract 0 na++b.extract 0 nb++out.reverse):=by
 subst e;have z:=MH.E6 hA hB na (p:=0) M (by exact S5 ..) λhb=>absurd hb (wo _);have q:=z.whole;rw[pB] at q;have e2:b.extract 0 0 = #[]:=by simp
 rw[e2,Vy];exact q
def MH.uT(M:MH r a b out na nb)(hA:Up r a 0 a.size)(hB:Up r b 0 b.size)(e:nb=1)(hl:∀ i,i<a.size->R r b 0<=R r a i):b7 r a b (b.extract 0 nb++a.extract 0 na++out.reverse):=by subst e;have ha:=M.ha;have z:=MH.E6 hA hB na (p:=0) M (by exact S5 ..) λ_ i _ hi=>hl i (by lia);have z2:=MH.E7 hA hB 1 (p:=0) z (by exact S5 ..) λh=>absurd h (wo _);have q:=z2.whole;rw[pB,pB] at q;rw[Tc];exact q
def MH.start:MH r a b #[] a.size b.size:=⟨c9 _,c9 _,by simp,by simp,λx hx=>by simp at hx,λx hx=>by simp at hx⟩
end
abbrev S1:=Option (Array bT) × Nat × Nat × Array bT × Nat
abbrev S2:=Option (Array bT) × Nat × Nat × Array bT × Nat × Nat
abbrev S3:=Option (Array bT) × Nat × Nat × Array bT × Nat × Nat × Nat
def HV(a b out:Array bT)(na nb:Nat):Array bT:=a.extract 0 na++b.extract 0 nb++out.reverse
def Ul(a b out:Array bT)(na nb:Nat):Array bT:=b.extract 0 nb++a.extract 0 na++out.reverse
def WW(a b:Array bT)(mg ac bc na nb:Nat)(out:Array bT):SM (ForInStep S3):=elem' a (na-1) >>= λp =>
 if (na-1 == 0)=true then pure (.done (some (HV a b (out.push p) (na-1) nb),na-1,nb,out.push p,mg,ac,bc))
 else if (decide (ac<7) && decide (bc<7))=true then pure (.done (none,na-1,nb,out.push p,mg,ac,bc)) else pure (.yield (none,na-1,nb,out.push p,mg,ac,bc))
def k6(a b:Array bT)(mg ac bc na nb:Nat)(out:Array bT):SM (ForInStep S3):=elem' a (na-1) >>= λp=>lO true p b 0 nb (nb-1) >>= λx=>match x with
 |some k=>if nb-k>0 then
   if (k == 1)=true then pure (.done (some (Ul a b (out++(b.extract k nb).reverse) na k),na,k,out++(b.extract k nb).reverse,mg,ac,nb-k))
   else if (k == 0)=true then pure (.done (some (HV a b (out++(b.extract k nb).reverse) na k),na,k,out++(b.extract k nb).reverse,mg,ac,nb-k))
   else WW a b mg ac (nb-k) na k (out++(b.extract k nb).reverse)
  else WW a b mg ac (nb-k) na nb out
 |_=>pure (.done (some (HV a b out na nb),na,nb,out,mg,ac,bc))
def nc(a b:Array bT)(mg ac bc na nb:Nat)(out:Array bT):SM (ForInStep S3):=elem' b (nb-1) >>= λp =>
 if (nb-1 == 1)=true then pure (.done (some (Ul a b (out.push p) na (nb-1)),na,nb-1,out.push p,mg,ac,bc)) else k6 a b mg ac bc na (nb-1) (out.push p)
def ya(a b:Array bT)(mg ac bc na nb:Nat)(out:Array bT):SM (ForInStep S3):=bx mg >>= λ_=>elem' b (nb-1) >>= λp=>lO false p a 0 na (na-1) >>= λx=>match x with
 |some k=>if na-k>0 then
   if (k == 0)=true then pure (.done (some (HV a b (out++(a.extract k na).reverse) k nb),k,nb,out++(a.extract k na).reverse,mg,na-k,bc))
   else nc a b mg (na-k) bc k nb (out++(a.extract k na).reverse)
  else nc a b mg (na-k) bc na nb out
 |_=>pure (.done (some (HV a b out na nb),na,nb,out,mg,ac,bc))
def hiG(a b:Array bT)(_:Nat)(s:S3):SM (ForInStep S3) :=
 if s.2.2.2.2.1>1 then ya a b (s.2.2.2.2.1-1) s.2.2.2.2.2.1 s.2.2.2.2.2.2 s.2.1 s.2.2.1 s.2.2.2.1 else ya a b s.2.2.2.2.1 s.2.2.2.2.2.1 s.2.2.2.2.2.2 s.2.1 s.2.2.1 s.2.2.2.1
def hiA(a b:Array bT)(mg ac na nb:Nat)(out:Array bT):SM (ForInStep S2):=elem' a (na-1) >>= λp =>
 if (na-1 == 0)=true then pure (.done (some (HV a b (out.push p) (na-1) nb),na-1,nb,out.push p,ac+1,0))
 else if ac+1 >= mg then pure (.done (none,na-1,nb,out.push p,ac+1,0)) else pure (.yield (none,na-1,nb,out.push p,ac+1,0))
def hiB(a b:Array bT)(mg bc na nb:Nat)(out:Array bT):SM (ForInStep S2):=elem' b (nb-1) >>= λp =>
 if (nb-1 == 1)=true then pure (.done (some (Ul a b (out.push p) na (nb-1)),na,nb-1,out.push p,0,bc+1))
 else if bc+1 >= mg then pure (.done (none,na,nb-1,out.push p,0,bc+1)) else pure (.yield (none,na,nb-1,out.push p,0,bc+1))
def hiI(a b:Array bT)(mg:Nat)(_:Nat)(s:S2):SM (ForInStep S2):=elem' b (s.2.2.1-1) >>= λpb=>elem' a (s.2.1-1) >>= λpa=>lt' pb pa >>= λx=>match x with
 |some w=>if w=true then hiA a b mg s.2.2.2.2.1 s.2.1 s.2.2.1 s.2.2.2.1 else hiB a b mg s.2.2.2.2.2 s.2.1 s.2.2.1 s.2.2.2.1
 |_=>pure (.done (some (HV a b s.2.2.2.1 s.2.1 s.2.2.1),s.2.1,s.2.2.1,s.2.2.2.1,s.2.2.2.2.1,s.2.2.2.2.2))
def hiP (a b:Array bT) (mg:Nat) (t:S2):SM (ForInStep S1):=(liftM (rule "list.sort.gallop"):SM Unit) >>= λ_ =>
 forIn [:a.size+b.size] ((none,t.2.1,t.2.2.1,t.2.2.2.1,mg+1,t.2.2.2.2.1,t.2.2.2.2.2):S3) (hiG a b) >>= λu=>match u.1 with
 |some r=>pure (.done (some r,u.2.1,u.2.2.1,u.2.2.2.1,u.2.2.2.2.1))
 |none=>bx (u.2.2.2.2.1+1) >>= λ_=>pure (.yield (none,u.2.1,u.2.2.1,u.2.2.2.1,u.2.2.2.2.1+1))
def hiO(a b:Array bT)(_:Nat)(s:S1):SM (ForInStep S1):=forIn [:a.size+b.size] ((none,s.2.1,s.2.2.1,s.2.2.2.1,0,0):S2) (hiI a b s.2.2.2.2) >>= λt=>match t.1 with
 |some r=>pure (.done (some r,t.2.1,t.2.2.1,t.2.2.2.1,s.2.2.2.2))
 |none=>hiP a b s.2.2.2.2 t
def hiM (a b:Array bT):SM (Array bT):=(liftM (rule "list.sort.merge-hi"):SM Unit) >>= λ_=>elem' a (a.size-1) >>= λy =>
 if (a.size-1 == 0)=true then pure (HV a b #[y] (a.size-1) b.size)
 else if (b.size == 1)=true then pure (Ul a b #[y] (a.size-1) b.size)
 else get >>= λst=>forIn [:a.size+b.size] ((none,a.size-1,b.size,#[y],gallopOf st):S1) (hiO a b) >>= λt=>match t.1 with
 |some r=>pure r
 |none=>(liftM (unsupported (α:=Array bT) "internal:list.sort.merge-bound"):SM (Array bT))
set_option smartUnfolding false in
def wg:uL=hiM:=rfl
section
variable {prog:eL}{w:eR}{A:fq}{E:ae->ay->Prop}{s:ay}{κ:qo}{r:ae->Int}{P:ae->Prop}{a b out:Array bT}{mg ac bc na nb N:Nat}{st:eB}{Q:ForInStep S3->eB->Prop}
def HD(r:ae->Int)(a b:Array bT)(Q:ForInStep S3->eB->Prop)(st:eB):Prop:=∀ o rest,b7 r a b o->Q (.done (some o,rest)) st
def HY(r:ae->Int)(a b:Array bT)(N:Nat)(Q:ForInStep S3->eB->Prop)(st:eB):Prop :=
 ∀ o na nb mg ac bc,MH r a b o na nb->1<=na->2<=nb->na+nb<=N->Q (.done (none,na,nb,o,mg,ac,bc)) st/\Q (.yield (none,na,nb,o,mg,ac,bc)) st
def Cy(c:MC prog w A s κ r P a b)(M:MH r a b out na nb)(h1:0<na)(lt:R r b (nb-1)<=R r a (na-1))(h2:2<=nb)(hN:na+nb<=N)(D:HD r a b Q st)(Y:HY r a b N Q st):wpS (aI prog w) A E s (WW a b mg ac bc na nb out) Q st:=by
 have ha:=M.ha;refine cE (aK (by lia) λp e=>?_);have M2:=M.qp c.hA c.hB h1 e λ_=>lt;by_cases z:na-1=0
 ·rw[if_pos (by simpa using z)];exact d5 (D _ _ (M2.O0 c.hA c.hB z))
 ·rw[if_neg (by simpa using z)];have y:=Y _ _ _ mg ac bc M2 (by lia) h2 (by lia);split
  ·exact d5 y.1
  ·exact d5 y.2
def Jy(c:MC prog w A s κ r P a b)(hk:fP st=κ)(M:MH r a b out na nb)(h1:0<na)(h2:2<=nb)(hN:na+nb<=N)(D:HD r a b Q st)(Y:HY r a b N Q st):wpS (aI prog w) A E s (k6 a b mg ac bc na nb out) Q st:=by
 have ha:=M.ha;have hb:=M.hb;refine cE (aK (by lia) λp e=>cE (cW c.C hk c.pb (c.pa.at e) (by lia) (by lia) (λi j u v w=>c.hB i j u v (by lia)) λl Pl tq Pm=>?_));have ra:=pV (r:=r) e;dsimp only;have lt:0<l->R r b (l-1)<=R r a (na-1):=λz=>by have:=GZ (tq (l-1) (by exact Nat.sub_lt ‹_› Nat.one_pos));rw[NR] at this;lia
 by_cases l0:nb-l>0
 ·have M5:=MH.E7 c.hA c.hB (nb-l) (p:=l) M (by exact Qk ‹_›) λ_ i nc k6=>by have:=uJ (Pm i nc k6);rw[NR] at this;lia
  rw[if_pos l0];by_cases z4:l=1
  ·rw[if_pos (by simpa using z4)];exact d5 (D _ _ (M5.uT c.hA c.hB z4 c.hl))
  ·rw[if_neg (by simpa using z4)];by_cases z6:l=0
   ·rw[if_pos (by simpa using z6)];exact d5 (D _ _ (M5.OZ c.hA c.hB z6))
   ·rw[if_neg (by simpa using z6)];exact Cy c M5 h1 (lt (by lia)) (by lia) (by lia) D Y
 ·rw[if_neg l0];obtain rfl:l=nb:=by lia
  exact Cy c M h1 (lt (by exact Vu ‹_›)) h2 hN D Y
def Dq(c:MC prog w A s κ r P a b)(hk:fP st=κ)(M:MH r a b out na nb)(h1:0<na)(h2:2<=nb)(lt:R r a (na-1)<=R r b (nb-1))(hN:na+nb<=N)(D:HD r a b Q st)(Y:HY r a b N Q st):wpS (aI prog w) A E s (nc a b mg ac bc na nb out) Q st:=by
 have hb:=M.hb;refine cE (aK (by lia) λp e=>?_);have M4:=M.qM c.hA c.hB (by exact Vu ‹_›) e λ_=>lt;by_cases z:nb-1=1
 ·rw[if_pos (by simpa using z)];exact d5 (D _ _ (M4.uT c.hA c.hB z c.hl))
 ·rw[if_neg (by simpa using z)];exact Jy c hk M4 h1 (by lia) (by lia) D Y
def Hk(c:MC prog w A s κ r P a b)(hk:fP st=κ)(M:MH r a b out na nb)(h1:0<na)(h2:2<=nb)(hN:na+nb<=N)(D:∀ av,Mg st av->HD r a b Q av)(Y:∀ av,Mg st av->HY r a b N Q av):wpS (aI prog w) A E s (ya a b mg ac bc na nb out) Q st:=by
 have ha:=M.ha;have hb:=M.hb;have g:=(Mg.refl st).set mg;refine cE (iz ?_);refine cE (aK (by lia) λp e=>cE (cW c.C (g.kind.trans hk) c.pa (c.pb.at e) (by lia) (by exact Nat.sub_lt ‹_› Nat.one_pos) (λi j u v w=>c.hA i j u v (by lia)) λk hk1 xi LS=>?_));have rb:=pV (r:=r) e;dsimp only;have lt:0<k->R r a (k-1)<=R r b (nb-1):=λz=>by have:=Ah (xi (k-1) (by exact Nat.sub_lt ‹_› Nat.one_pos));rw[NR] at this;lia
 by_cases k0:na-k>0
 ·have M3:=MH.E6 c.hA c.hB (na-k) (p:=k) M (by exact Qk ‹_›) λ_ i nc k6=>by have:=zF (LS i nc k6);rw[NR] at this;lia
  rw[if_pos k0];by_cases z:k=0
  ·rw[if_pos (by simpa using z)];exact d5 (D _ g _ _ (M3.O0 c.hA c.hB z))
  ·rw[if_neg (by simpa using z)];exact Dq c (g.kind.trans hk) M3 (by lia) h2 (lt (by lia)) (by lia) (D _ g) (Y _ g)
 ·rw[if_neg k0];obtain rfl:k=na:=by lia
  exact Dq c (g.kind.trans hk) M h1 h2 (lt h1) hN (D _ g) (Y _ g)
def HI(r:ae->Int)(a b:Array bT)(N:Nat)(c:S2):Prop:=∃ na nb out ac bc,c=(none,na,nb,out,ac,bc)/\MH r a b out na nb/\1<=na/\2<=nb/\na+nb<=N
def HN{Q:ForInStep S2->eB->Prop}(c:MC prog w A s κ r P a b)(M:MH r a b out na nb)(h1:0<na)(lt:R r b (nb-1)<=R r a (na-1))(h2:2<=nb)(hN:na+nb<=N+1)(D:∀ c,HS r a b c->Q (.done c) st)(Y:∀ c,HI r a b N c->Q (.done c) st/\Q (.yield c) st):wpS (aI prog w) A E s (hiA a b mg ac na nb out) Q st:=by
 have ha:=M.ha;refine cE (aK (by lia) λp e=>?_);have M2:=M.qp c.hA c.hB h1 e λ_=>lt;by_cases z:na-1=0
 ·rw[if_pos (by simpa using z)];exact d5 (D _ ⟨_,_,rfl,M2.O0 c.hA c.hB z⟩)
 ·rw[if_neg (by simpa using z)];have y:=Y _ ⟨_,_,_,ac+1,0,rfl,M2,by lia,h2,by lia⟩;split
  ·exact d5 y.1
  ·exact d5 y.2
def Iu{Q:ForInStep S2->eB->Prop}(c:MC prog w A s κ r P a b)(M:MH r a b out na nb)(h1:0<na)(lt:R r a (na-1)<=R r b (nb-1))(h2:2<=nb)(hN:na+nb<=N+1)(D:∀ c,HS r a b c->Q (.done c) st)(Y:∀ c,HI r a b N c->Q (.done c) st/\Q (.yield c) st):wpS (aI prog w) A E s (hiB a b mg bc na nb out) Q st:=by
 have hb:=M.hb;refine cE (aK (by lia) λp e=>?_);have M2:=M.qM c.hA c.hB (by exact Vu ‹_›) e λ_=>lt;by_cases z:nb-1=1
 ·rw[if_pos (by simpa using z)];exact d5 (D _ ⟨_,_,rfl,M2.uT c.hA c.hB z c.hl⟩)
 ·rw[if_neg (by simpa using z)];have y:=Y _ ⟨_,_,_,0,bc+1,rfl,M2,h1,by lia,by lia⟩;split
  ·exact d5 y.1
  ·exact d5 y.2
def Hl{Q:ForInStep S2->eB->Prop}{x:Nat}(c:MC prog w A s κ r P a b)(hk:fP st=κ)(M:MH r a b out na nb)(h1:0<na)(h2:2<=nb)(hN:na+nb<=N+1)(D:∀ c,HS r a b c->Q (.done c) st)(Y:∀ c,HI r a b N c->Q (.done c) st/\Q (.yield c) st):wpS (aI prog w) A E s (hiI a b mg x (none,na,nb,out,ac,bc)) Q st:=by
 have ha:=M.ha;have hb:=M.hb;refine cE (aK (show nb-1<b.size by lia) λpb eb=>cE (aK (show na-1<a.size by lia) λpa ea=>cE (p8 c.C hk (c.pb.at eb) (c.pa.at ea) ?_)));have rb:R r b (nb-1)=r pb.1:=pV eb;have ra:R r a (na-1)=r pa.1:=pV ea;dsimp only;by_cases hw:r pb.1<r pa.1
 ·rw[if_pos (decide_eq_true hw)];exact HN c M h1 (by lia) h2 hN D Y
 ·rw[if_neg (by simpa using hw)];exact Iu c M h1 (by lia) h2 hN D Y
def JS{Q:ForInStep S1->eB->Prop}(c:MC prog w A s κ r P a b)(hk:fP st=κ)(M:MH r a b out na nb)(h1:0<na)(h2:2<=nb)(hN:na+nb<=N)(D:∀ av,Mg st av->∀ c,HS r a b c->Q (.done c) av)(Y:∀ av,Mg st av->∀ out na nb mg,MH r a b out na nb->1<=na->2<=nb->na+nb<=N->Q (.yield (none,na,nb,out,mg)) av):wpS (aI prog w) A E s (hiP a b mg (none,na,nb,out,ac,bc)) Q st:=by
 refine cE (wpS_lift (EB ⟨rfl,?_⟩));refine cE (uk (sf (I:=λ_ c av=>Mg st av/\∃ na nb out mg ac bc,c=(none,na,nb,out,mg,ac,bc)/\MH r a b out na nb/\1<=na/\2<=nb/\na+nb<=N) (Q:=λc av=>Mg st av/\(HS r a b c\/∃ na nb out mg ac bc,c=(none,na,nb,out,mg,ac,bc)/\MH r a b out na nb/\1<=na/\2<=nb/\na+nb<=N)) ?step ?fin ⟨.refl st,_,_,_,_,_,_,rfl,M,h1,h2,hN⟩) ?post)
 case fin =>
  rintro c av ⟨hm,q⟩;exact⟨hm,.inr q⟩
 case step =>
  rintro y c1 E8 _ _ ⟨hm,na,nb,out,mg,ac,bc,rfl,M,h1,h2,hN⟩;unfold hiG;split<;>exact Hk c (hm.kind.trans hk) M h1 h2 hN (λav g o rest hM=>⟨hm.trans g,.inl ⟨o,rest,rfl,hM⟩⟩) λav g o na nb mg ac bc M h1 h2 hN=>⟨⟨hm.trans g,.inr ⟨_,_,_,_,_,_,rfl,M,h1,h2,hN⟩⟩,hm.trans g,_,_,_,_,_,_,rfl,M,h1,h2,hN⟩
 case post =>
  rintro c av ⟨hm,⟨o,rest,rfl,hM⟩|⟨na,nb,out,mg,ac,bc,rfl,M,h1,h2,hN⟩⟩
  ·exact d5 (D _ hm _ ⟨_,_,rfl,hM⟩)
  ·exact cE (iz (d5 (Y _ (hm.set _) _ _ _ _ M h1 h2 hN)))
def JP{Q:ForInStep S1->eB->Prop}{x:Nat}(c:MC prog w A s κ r P a b)(hk:fP st=κ)(M:MH r a b out na nb)(h1:0<na)(h2:2<=nb)(hN:na+nb<=N+1)(D:∀ av,Mg st av->∀ c,HS r a b c->Q (.done c) av)(Y:∀ av,Mg st av->∀ out na nb mg,MH r a b out na nb->1<=na->2<=nb->na+nb<=N->Q (.yield (none,na,nb,out,mg)) av):wpS (aI prog w) A E s (hiO a b x (none,na,nb,out,mg)) Q st:=by
 have hb:=M.hb;refine cE (uk (sf (I:=λy c av=>av=st/\HI r a b (N+1-y) c) (Q:=λc av=>av=st/\(HS r a b c\/HI r a b N c)) ?step ?fin ⟨rfl,_,_,_,_,_,rfl,M,h1,h2,hN⟩) ?post);case fin =>
  rintro c av ⟨rfl,na',p4,o,ac,bc,rfl,M',q1,q2,q3⟩;exact⟨rfl,.inr ⟨_,_,_,_,_,rfl,M',q1,q2,by lia⟩⟩
 case step =>
  rintro y c1 E8 _ hy ⟨rfl,na',p4,o,ac,bc,rfl,M',q1,q2,q3⟩;exact Hl (N:=N-y) c hk M' q1 q2 (by lia) (λc q=>⟨rfl,.inl q⟩) λc q=>by obtain⟨na,nb,o,ac,bc,rfl,M,h1,h2,h3⟩:=q;exact⟨⟨rfl,.inr ⟨_,_,_,_,_,rfl,M,h1,h2,by lia⟩⟩,rfl,_,_,_,_,_,rfl,M,h1,h2,by lia⟩
 case post =>
  rintro c1 av ⟨rfl,⟨o,rest,rfl,hM⟩|⟨na,nb,o,ac,bc,rfl,M',q1,q2,q3⟩⟩
  ·exact d5 (D _ (.refl _) _ ⟨_,_,rfl,hM⟩)
  ·exact JS c hk M' q1 q2 q3 D Y
def su{st:eB}{a b:Array bT}{Q:Array bT->eB->Prop}(C:oi prog w A s κ r P)(hk:fP st=κ)(WU:AllP P a)(WV:AllP P b)(hA:Up r a 0 a.size)(hB:Up r b 0 b.size)(na:1<=a.size)(nb:1<=b.size)(h0:R r b 0<=R r a 0) (hg:∀ j,j<b.size->R r b j<=R r a (a.size-1)) (h:∀ out av,b7 r a b out->Mg st av->Q out av):wpS (aI prog w) A E s (uL a b) Q st:=by
 have c:MC prog w A s κ r P a b:=⟨C,WU,WV,hA,hB,λi hi=>x3 h0 (hA 0 i (c9 _) (fS _) hi),hg⟩
 rw[wg];refine cE (wpS_lift (EB ⟨rfl,?_⟩));refine cE (aK (by lia) λy0 e0=>?_);have M1:MH r a b #[y0] (a.size-1) b.size:=MH.start.qp hA hB na e0 λ_=>hg _ (by lia);by_cases c1:a.size-1=0
 ·rw[if_pos (by simpa using c1)];exact d5 (h _ _ (M1.O0 hA hB c1) (.refl st))
 ·rw[if_neg (by simpa using c1)];by_cases c2:b.size=1
  ·rw[if_pos (by simpa using c2)];exact d5 (h _ _ (M1.uT hA hB c2 c.hl) (.refl st))
  ·rw[if_neg (by simpa using c2)];refine cE (wpS_get ?_);refine cE (uk (sf (I:=λx c av=>Mg st av/\∃ na nb out mg,c=(none,na,nb,out,mg)/\MH r a b out na nb/\1<=na/\2<=nb/\na+nb<=a.size+b.size-x) (Q:=λc av=>Mg st av/\HS r a b c) ?step ?fin ⟨.refl st,_,_,_,_,rfl,M1,by lia,by lia,by lia⟩) ?post)
   case fin =>
    rintro c av ⟨_,na,nb,out,mg,rfl,M,h1,h2,h3⟩;lia
   case post =>
    rintro c av ⟨hm,out,rest,rfl,hM⟩;exact d5 (h out av hM hm)
   case step =>
    rintro x c1 E8 _ hx ⟨Bz,na,nb,out,mg,rfl,M,h1,h2,h3⟩;exact JP c (Bz.kind.trans hk) M h1 h2 (by lia) (λav g c q=>⟨Bz.trans g,q⟩) λav g out na nb mg M h1 h2 h3=>⟨Bz.trans g,_,_,_,_,rfl,M,h1,h2,h3⟩
end
def wr(p:Nat)(m:List bT)(n:Nat)(xs:Array bT):Array bT:=(m.zipIdx n).foldl (λa (q:bT × Nat)=>a.setIfInBounds (p+q.2) q.1) xs
theorem ye(p:Nat):∀ (m:List bT) (n:Nat) (xs:Array bT),p+n+m.length<=xs.size->∀ k:Nat,(wr p m n xs)[k]? = if p+n<=k/\k<p+n+m.length then m[k-(p+n)]? else xs[k]?
 |[],n,xs,h,k=>by rw[if_neg (by simp only[SW];lia)];rfl
 |q :: m,n,xs,h,k=>by
  have ih:=ye p m (n+1) (xs.setIfInBounds (p+n) q) (by rw[Array.size_setIfInBounds];simp only[qh] at h;lia) k;have e:wr p (q :: m) n xs=wr p m (n+1) (xs.setIfInBounds (p+n) q):=by unfold wr;rw[List.zipIdx_cons,List.foldl_cons]
  simp only[qh] at h ⊢;rw[e,ih];by_cases h1:p+(n+1)<=k/\k<p+(n+1)+m.length
  ·rw[if_pos h1,if_pos (by lia),show k-(p+n)=(k-(p+(n+1)))+1 by lia,List.getElem?_cons_succ]
  ·rw[if_neg h1];by_cases h2:k=p+n
   ·subst h2;rw[if_pos (by lia),Nat.sub_self,List.getElem?_cons_zero,Array.getElem?_setIfInBounds_self_of_lt (by lia)]
   ·rw[if_neg (by lia),Array.getElem?_setIfInBounds_ne (by lia)]
def Ft(h:p+m.length<=xs.size):(wr p m 0 xs).toList=xs.toList.take p++m++xs.toList.drop (p+m.length):=by
 have hl:xs.toList.length=xs.size:=by simp
 apply FI;intro k;have e:=ye p m 0 xs h k;rw[Qm] at e;rw[pE,e];by_cases h1:k<p
 ·rw[if_neg (by lia),AW,FE (by rw[mE];lia),List.getElem?_take_of_lt h1,pE]
 ·by_cases h2:k<p+m.length
  ·rw[if_pos (by lia),AW,Ct (by rw[mE];lia),mE,show min p xs.toList.length=p by lia,FE (by lia)]
  ·rw[if_neg (by lia),AW,Ct (by rw[mE];lia),mE,show min p xs.toList.length=p by lia,Ct (by lia),List.getElem?_drop,
    show p+m.length+(k-p-m.length)=k by lia,pE]
def Hf{p q:Nat}{xs:Array bT}(h:p<=q)(h2:q<=xs.size):xs.toList=xs.toList.take p++(xs.extract p q).toList++xs.toList.drop q:=by
 rw[Vx,Vi];have e1:xs.toList.take p++(xs.toList.drop p).take (q-p)=xs.toList.take q:=by rw[<- P_ p (xs.toList.take q),List.take_take,List.drop_take,Nat.min_eq_left h]
 rw[e1,P_]
def Ga{p q:Nat}{m:List bT}{xs:Array bT}(h:p<=q)(h2:q<=xs.size)(hm:m.Perm (xs.extract p q).toList):(wr p m 0 xs).Perm xs:=by
 have hl:m.length=q-p:=by rw[hm.length_eq];simp;lia
 rw[Vw,Ft (by lia),show p+m.length=q by lia];have e:=Hf h h2;exact(List.Perm.append_right _ (List.Perm.append_left _ hm)).trans (by rw[<- e])
def Runs(r:ae->Int)(xs:Array bT):List (Nat × Nat × Nat)->Nat->Nat->Prop
 |[],a,b=>a=b
 | (s,n,_) :: rest,a,b=>s=a/\1<=n/\Up r xs s (s+n)/\Runs r xs rest (s+n) b
section
variable {r:ae->Int}{xs ys:Array bT}
theorem Runs.le:∀ {ps:List (Nat × Nat × Nat)} {a b:Nat},Runs r xs ps a b->a+ps.length<=b
 |[],a,b,h=>by simp only[Runs] at h;simp;lia
 | (s,n,p) :: rest,a,b,h=>by obtain⟨rfl,h1,_,h3⟩:=h;have:=Runs.le h3;simp only[qh];lia
theorem Runs.append:∀ {ps qs:List (Nat × Nat × Nat)} {a b:Nat},Runs r xs (ps++qs) a b↔∃ c,Runs r xs ps a c/\Runs r xs qs c b
 |[],qs,a,b=>by simp[Runs]
 | (s,n,p) :: rest,qs,a,b=>by
  constructor
  ·rintro⟨h1,h2,h3,h4⟩;obtain⟨c,h5,h6⟩:=Runs.append.mp h4;exact⟨c,⟨h1,h2,h3,h5⟩,h6⟩
  ·rintro⟨c,⟨h1,h2,h3,h5⟩,h6⟩;exact⟨h1,h2,h3,Runs.append.mpr ⟨c,h5,h6⟩⟩
def Up.congr(h:Up r xs a b)(e:∀ k,a<=k->k<b->ys[k]? = xs[k]?):Up r ys a b:=λi j h1 h2 h3=>by rw[cZ (e i h1 (by lia)),cZ (e j (by lia) h3)];exact h i j h1 h2 h3
theorem Runs.congr:∀ {ps:List (Nat × Nat × Nat)} {a b:Nat},Runs r xs ps a b->(∀ k,a<=k->k<b->ys[k]? = xs[k]?)->Runs r ys ps a b
 |[],a,b,h,_=>h
 | (s,n,p) :: rest,a,b,h,e=>by obtain⟨rfl,h1,h2,h3⟩:=h;have l:=h3.le;exact⟨rfl,h1,h2.congr λk u v=>e k u (by lia),Runs.congr h3 λk u v=>e k (by lia) v⟩
def Up.glue(h1:Up r xs a b)(h2:Up r xs b c)(h:∀ i j,a<=i->i<b->b<=j->j<c->R r xs i<=R r xs j):Up r xs a c:=λi j u v w=>by
 by_cases hj:j<b
 ·exact h1 i j u v hj
 ·by_cases hi:i<b
  ·exact h i j u hi (by lia) w
  ·exact h2 i j (by lia) v w
end
section
variable {prog:eL}{w:eR}{A:fq}{E:ae->ay->Prop}{s:ay}{κ:qo}{r:ae->Int}{P:ae->Prop}
def AllP.extract(h:AllP P xs)(i j:Nat):AllP P (xs.extract i j):=λp hp=>h p (by
 rw[Vx,Vi] at hp;exact SD (Qe hp))
def dO(h:i+k<j)(hj:j<=xs.size):R r (xs.extract i j) k=R r xs (i+k):=by apply cZ;rw[Ta,if_pos (by lia)]
def Up.extract(h:Up r xs i j)(ki:i<=j)(hj:j<=xs.size):Up r (xs.extract i j) 0 (xs.extract i j).size:=λa b _ h2 h3=>by
 have e:(xs.extract i j).size=j-i:=by simp only[Kb];lia
 rw[dO (by lia) hj,dO (by lia) hj];exact h _ _ (by lia) (by lia) (by lia)
def zx(hz:sa+na+nb<=xs.size)(hk:k<na)(hnb:p4<=nb)(hA:Up r xs sa (sa+na))(hB:Up r xs (sa+na) (sa+na+nb))(lo1:∀ i,i<k->R r xs (sa+i)<=R r xs (sa+na)) (LP:R r xs (sa+na)<R r xs (sa+k)) (nc:∀ i,i<p4->R r xs (sa+na+i)<R r xs (sa+na-1)) (k6:∀ i,p4<=i->i<nb->R r xs (sa+na-1)<=R r xs (sa+na+i))(hm:b7 r (xs.extract (sa+k) (sa+na)) (xs.extract (sa+na) (sa+na+p4)) m) :
  Up r (wr (sa+k) m.toList 0 xs) sa (sa+na+nb)/\(wr (sa+k) m.toList 0 xs).Perm xs/\∀ j,j<sa\/sa+na+nb<=j->(wr (sa+k) m.toList 0 xs)[j]? = xs[j]? := by
 obtain⟨mp,mu⟩:=hm;have eab:(xs.extract (sa+k) (sa+na)).toList++(xs.extract (sa+na) (sa+na+p4)).toList=(xs.extract (sa+k) (sa+na+p4)).toList:=by rw[<- Array.toList_append,Array.extract_append_extract,show min (sa+k) (sa+na)=sa+k by lia,show max (sa+na) (sa+na+p4)=sa+na+p4 by lia]
 rw[eab] at mp;have ml:m.toList.length=na+p4-k:=by rw[mp.length_eq];simp;lia
 have hw:sa+k+m.toList.length<=xs.size:=by lia
 have get:=ye (sa+k) m.toList 0 xs (by lia);rw[Qm,ml] at get
 -- every merged item is one of the nj'
 have mem:∀ (j:Nat) p,m.toList[j]? = some p->∃ i,sa+k<=i/\i<sa+na+p4/\r p.1=R r xs i:=λj p e=>by
  have hp:p∈(xs.extract (sa+k) (sa+na+p4)).toList:=mp.mem_iff.mp (mB e);obtain⟨i,hi⟩:=List.getElem?_of_mem hp;rw[pE,Ta] at hi;split at hi
  ·exact⟨sa+k+i,by lia,by lia,(pV hi).symm⟩
  ·cases hi
 have low:∀ i,sa+k<=i->i<sa+na+p4->R r xs (sa+na)<=R r xs i:=λi h1 h2=>by
  by_cases h3:i<sa+na
  ·exact x3 (Kj LP) (hA (sa+k) i (by lia) h1 h3)
  ·exact hB (sa+na) i (c9 _) (by lia) (by lia)
 have high:∀ i,sa+k<=i->i<sa+na+p4->R r xs i<=R r xs (sa+na-1):=λi h1 h2=>by
  by_cases h3:i<sa+na
  ·exact hA i (sa+na-1) (by lia) (by lia) (by lia)
  ·have:=nc (i-(sa+na)) (by lia);rw[show sa+na+(i-(sa+na))=i by lia] at this;lia
 have Rin:∀ j,j<na+p4-k->∃ i,sa+k<=i/\i<sa+na+p4/\R r (wr (sa+k) m.toList 0 xs) (sa+k+j)=R r xs i:=λj hj=>by
  have e:=get (sa+k+j);rw[if_pos (by lia),show sa+k+j-(sa+k)=j by lia] at e;have sA:j<m.toList.length:=by lia
  obtain⟨i,h1,h2,h3⟩:=mem j m.toList[j] (lh sA);rw[lh sA] at e;exact⟨i,h1,h2,(pV e).trans h3⟩
 have Pp:∀ j,j<sa+k\/sa+na+p4<=j->(wr (sa+k) m.toList 0 xs)[j]? = xs[j]? := λj hj=>by have e:=get j;rw[if_neg (by lia)] at e;exact e
 refine⟨?_,Ga (by lia) (by lia) mp,λj hj=>Pp j (by lia)⟩;have U1:Up r (wr (sa+k) m.toList 0 xs) sa (sa+k):=Up.congr (λi j h1 h2 h3=>hA i j h1 h2 (by lia)) λj h1 h2=>Pp j (.inl h2);have U2:Up r (wr (sa+k) m.toList 0 xs) (sa+k) (sa+na+p4):=λi j h1 h2 h3=>by
  have ei:=get i;have ej:=get j;rw[if_pos (by lia)] at ei ej;have li:i-(sa+k)<m.toList.length:=by lia
  have lj:j-(sa+k)<m.toList.length:=by lia
  rw[lh li] at ei;rw[lh lj] at ej;rw[pV ei,pV ej];by_cases ki:i=j
  ·subst ki;exact iS _
  ·exact(xD.mp mu) _ _ li lj (by lia)
 have U3:Up r (wr (sa+k) m.toList 0 xs) (sa+na+p4) (sa+na+nb):=Up.congr (λi j h1 h2 h3=>hB i j (by lia) h2 h3) λj h1 h2=>Pp j (.inr h1);refine(U1.glue U2 λi j h1 h2 h3 h4=>?_).glue U3 λi j h1 h2 h3 h4=>?_
 ·obtain⟨q,q1,q2,q3⟩:=Rin (j-(sa+k)) (by lia);rw[show sa+k+(j-(sa+k))=j by lia] at q3;rw[q3,cZ (Pp i (.inl h2))];have:=lo1 (i-sa) (by lia);rw[show sa+(i-sa)=i by lia] at this;exact x3 this (low q q1 q2)
 ·have e2:=k6 (j-(sa+na)) (by lia) (by lia);rw[show sa+na+(j-(sa+na))=j by lia] at e2;rw[cZ (Pp j (.inr h3))];by_cases hi:i<sa+k
  ·rw[cZ (Pp i (.inl hi))];have:=lo1 (i-sa) (by lia);rw[show sa+(i-sa)=i by lia] at this;have:=low (sa+na-1) (by lia) (by lia);lia
  ·obtain⟨q,q1,q2,q3⟩:=Rin (i-(sa+k)) (by lia);rw[show sa+k+(i-(sa+k))=i by lia] at q3;rw[q3];exact x3 (high q q1 q2) e2
structure St(r:ae->Int)(κ:qo)(gu:Array bT)(st:eB)(ps:List (Nat × Nat × Nat))(lo:Nat):Prop where
 kind:fP st=κ
 failed:sj st=none
 perm:(bp st).Perm gu
 pend:mG st=ps.toArray
 runs:Runs r (bp st) ps 0 lo
def St.size{gu:Array bT}{st:eB}{ps:List (Nat × Nat × Nat)}{lo:Nat}(h:St r κ gu st ps lo):(bp st).size=gu.size:=h.perm.size_eq
def Bg{ps:List (Nat × Nat × Nat)}(h:i+1<ps.length):∃ pre x y post,ps=pre++x :: y :: post/\pre.length=i:=by refine⟨ps.take i,ps[i],ps[i+1],ps.drop (i+2),?_,by rw[mE];lia⟩;rw[<- xC (by lia),<- xC (by lia),P_]
def jW{st:eB}{gu:Array bT}{ps:List (Nat × Nat × Nat)}{lo i:Nat}{Q:Bool->eB->Prop}(C:oi prog w A s κ r P)(hP:AllP P gu)(H:St r κ gu st ps lo)(HK:lo<=gu.size)(hi:i+1<ps.length)(h:∀ av kE,St r κ gu av kE lo->kE.length+1=ps.length->kE≠[]->(∀ k,lo<=k->(bp av)[k]? = (bp st)[k]?)->Q true av):wpS (aI prog w) A E s (mergeAt' i) Q st:=by
 obtain⟨pre,⟨sa,na,pa⟩,⟨sb,nb,pb⟩,post,rfl,HG⟩:=Bg hi;have hz:=H.size;have tJ:AllP P (bp st):=hP.perm H.perm;obtain⟨c,hr1,WX⟩:=Runs.append.mp H.runs;obtain⟨rfl,n1,u1,rfl,n2,u2,hr3⟩:=WX;have le3:=hr3.le;have le1:=hr1.le
 -- the new pending list
 have je':((mG st).setIfInBounds i (sa,na+nb,pa)).eraseIdxIfInBounds (i+1)=(pre++(sa,na+nb,pa) :: post).toArray:=by rw[H.pend];apply Td.mp;simp[<- HG,List.eraseIdx_append_of_length_le]
 have new:∀ xs g,xs.Perm (bp st)->(∀ j,j<sa\/sa+na+nb<=j->xs[j]? = (bp st)[j]?)->Up r xs sa (sa+(na+nb)) ->
   St r κ gu (SortSt.mk' (fP st) xs (pre++(sa,na+nb,pa) :: post).toArray g (sj st)) (pre++(sa,na+nb,pa) :: post) lo:=λxs g hp ho hu =>
  ⟨H.kind,H.failed,hp.trans H.perm,rfl,Runs.append.mpr ⟨sa,hr1.congr λk _ hk=>ho k (.inl hk),rfl,by lia,hu,by
   rw[show sa+(na+nb)=sa+na+nb by lia];exact hr3.congr λk hk _=>ho k (.inr hk)⟩⟩
 have len:(pre++(sa,na+nb,pa) :: post).length+1=(pre++(sa,na,pa) :: (sa+na,nb,pb) :: post).length:=by simp;lia
 have e0:(mG st)[i]? = some (sa,na,pa):=by rw[H.pend,<- HG];simp
 have e1:(mG st)[i+1]? = some (sa+na,nb,pb):=by rw[H.pend,<- HG];simp
 refine cE (wpS_get ?_);rw[e0,e1];refine cE (EE ?_);rw[je'];refine cE (aK (xs:=bp st) (by lia) λkb ekb=>cE (cW (arr:=bp st) C H.kind tJ (tJ.at ekb) (by lia) (by lia) u1 λk hk1 xi LS=>?_));have rkb:=pV (r:=r) ekb;dsimp only;by_cases z:na-k=0
 ·rw[if_pos (by simpa using z)];refine d5 (h _ _ (new (bp st) (gallopOf st) (Array.Perm.refl _) (λ_ _=>rfl) ?_) len (by simp) λ_ _=>rfl);rw[show sa+(na+nb)=sa+na+nb by lia];refine u1.glue u2 λi j h1 h2 h3 h4=>?_;have:=Ah (xi (i-sa) (by lia));rw[show sa+(i-sa)=i by lia] at this;have:=u2 (sa+na) j (c9 _) h3 h4;lia
 ·rw[if_neg (by simpa using z)];refine cE (aK (xs:=bp st) (by lia) λka eka=>cE (cW (arr:=bp st) C H.kind tJ (tJ.at eka) (by lia) (by lia) u2 λl Pl tq Pm=>?_));have rka:=pV (r:=r) eka;rw[show sa+k+(na-k)-1=sa+na-1 by lia] at rka;dsimp only;by_cases z2:l=0
  ·rw[if_pos (by simpa using z2)];refine d5 (h _ _ (new (bp st) (gallopOf st) (Array.Perm.refl _) (λ_ _=>rfl) ?_) len (by simp) λ_ _=>rfl);rw[show sa+(na+nb)=sa+na+nb by lia];refine u1.glue u2 λi j h1 h2 h3 h4=>?_;have:=uJ (Pm (j-(sa+na)) (by lia) (by lia));rw[show sa+na+(j-(sa+na))=j by lia] at this;have:=u1 i (sa+na-1) h1 (by lia) (by lia);lia
  ·rw[if_neg (by simpa using z2)];have lo1:∀ i,i<k->R r (bp st) (sa+i)<=R r (bp st) (sa+na):=λi hi=>by have:=Ah (xi i hi);lia
   have LP:R r (bp st) (sa+na)<R r (bp st) (sa+k):=by have:=zF (LS k (c9 _) (by lia));lia
   have nc:∀ i,i<l->R r (bp st) (sa+na+i)<R r (bp st) (sa+na-1):=λi hi=>by have:=GZ (tq i hi);lia
   have k6:∀ i,l<=i->i<nb->R r (bp st) (sa+na-1)<=R r (bp st) (sa+na+i):=λi h1 h2=>by have:=uJ (Pm i h1 h2);lia
   have sx:((bp st).extract (sa+k) (sa+na)).size=na-k:=by simp only[Kb];lia
   have sy:((bp st).extract (sa+na) (sa+na+l)).size=l:=by simp only[Kb];lia
   have ux:Up r ((bp st).extract (sa+k) (sa+na)) 0 ((bp st).extract (sa+k) (sa+na)).size:=Up.extract (λi j h1 h2 h3=>u1 i j (by lia) h2 h3) (by lia) (by lia);have uy:Up r ((bp st).extract (sa+na) (sa+na+l)) 0 ((bp st).extract (sa+na) (sa+na+l)).size:=Up.extract (λi j h1 h2 h3=>u2 i j h1 h2 (by lia)) (by lia) (by lia);have h00:R r ((bp st).extract (sa+na) (sa+na+l)) 0<=R r ((bp st).extract (sa+k) (sa+na)) 0:=by rw[dO (by lia) (by lia),dO (by lia) (by lia)];exact Kj LP
   have hgg:∀ j,j<((bp st).extract (sa+na) (sa+na+l)).size->R r ((bp st).extract (sa+na) (sa+na+l)) j<=R r ((bp st).extract (sa+k) (sa+na)) (((bp st).extract (sa+k) (sa+na)).size-1):=λj hj=>by rw[sx,dO (by lia) (by lia),dO (by lia) (by lia),show sa+k+(na-k-1)=sa+na-1 by lia];exact Kj (nc j (by lia))
   have fin:∀ out av,b7 r ((bp st).extract (sa+k) (sa+na)) ((bp st).extract (sa+na) (sa+na+l)) out->Mg (SortSt.mk' (fP st) (bp st) (pre++(sa,na+nb,pa) :: post).toArray (gallopOf st) (sj st)) av ->
     Q true (SortSt.mk' (fP av) (wr (sa+k) out.toList 0 (bp av)) (mG av) (gallopOf av) (sj av)):=λout av hm hg=>by
    obtain⟨g,rfl⟩:=hg;obtain⟨m1,m2,m3⟩:=zx (by lia) (by lia) Pl u1 u2 lo1 LP nc k6 hm;exact h _ _ (new _ g m2 m3 (by rw[show sa+(na+nb)=sa+na+nb by lia];exact m1)) len (by simp) λk hk=>m3 k (.inr (by lia))
   have fin2:∀ out av,b7 r ((bp st).extract (sa+k) (sa+na)) ((bp st).extract (sa+na) (sa+na+l)) out->Mg (SortSt.mk' (fP st) (bp st) (pre++(sa,na+nb,pa) :: post).toArray (gallopOf st) (sj st)) av ->
     sj av=none:=λout av _ hg=>by
    obtain⟨g,rfl⟩:=hg;exact H.failed
   by_cases z3:na-k<=l
   ·rw[if_pos z3];refine cE (tZ (a:=(bp st).extract (sa+k) (sa+na)) (b:=(bp st).extract (sa+na) (sa+na+l)) C H.kind (tJ.extract _ _) (tJ.extract _ _) ux uy (by lia) (by lia) h00 hgg λout av hm hg=>?_);refine cE (EE (cE (wpS_get ?_)));have f:=fin out av hm hg;have f2:=fin2 out av hm hg;refine d5 ?_;show Q (sj av).isNone _;rw[f2];exact f
   ·rw[if_neg z3];refine cE (su (a:=(bp st).extract (sa+k) (sa+na)) (b:=(bp st).extract (sa+na) (sa+na+l)) C H.kind (tJ.extract _ _) (tJ.extract _ _) ux uy (by lia) (by lia) h00 hgg λout av hm hg=>?_);refine cE (EE (cE (wpS_get ?_)));have f:=fin out av hm hg;have f2:=fin2 out av hm hg;refine d5 ?_;show Q (sj av).isNone _;rw[f2];exact f
theorem Runs.modify(hf:∀ x,(f x).1=x.1/\(f x).2.1=x.2.1):∀ {ps:List (Nat × Nat × Nat)} {i a b:Nat},Runs r xs ps a b->Runs r xs (ps.modify i f) a b
 |[],_,_,_,h=>by simpa using h
 | (s,n,p) :: rest,0,a,b,h=>by obtain⟨h1,h2⟩:=hf (s,n,p);rw[List.modify_zero_cons];have e:f (s,n,p)=(s,n,(f (s,n,p)).2.2):=Prod.ext h1 (Prod.ext h2 rfl);rw[e];exact h
 | (s,n,p) :: rest,i+1,a,b,h=>by obtain⟨h1,h2,h3,h4⟩:=h;exact⟨h1,h2,h3,Runs.modify hf h4⟩
def St.win{gu:Array bT}{st av:eB}{ps:List (Nat × Nat × Nat)}{lo hi:Nat}(H:St r κ gu st ps lo)(hw:oj lo hi st av):St r κ gu av ps lo :=
 ⟨hw.kind.trans H.kind,hw.failed.trans H.failed,hw.perm.trans H.perm,hw.pend.trans H.pend,H.runs.congr λk _ hk=>hw.out k (.inl hk)⟩
def wpS_sortRuns{st:eB}{Q:Unit->eB->Prop}(C:oi prog w A s κ r P)(hk:fP st=κ)(hP:AllP P (bp st))(hp:mG st = #[])(hf:sj st=none)(h:∀ av,(bp av).Perm (bp st)->sj av=none->Up r (bp av) 0 (bp st).size->Q () av):wpS (aI prog w) A E s sortRuns' Q st:=by
 rw[sortRuns'_eq];refine cE (wpS_get ?_);generalize ha:bp st=gu at *
 have H0:St r κ gu st [] 0:=⟨hk,hf,by rw[ha],by rw[hp],rfl⟩
 refine cE (uk (sf (I:=λx c av=>∃ ps lo,c=(none,lo)/\St r κ gu av ps lo/\lo<=gu.size/\x<=lo) (Q:=λc av=>∃ ps,c=(none,gu.size)/\St r κ gu av ps gu.size) ?step ?fin ⟨[],0,rfl,H0,fS _,c9 _⟩) ?post)
 case fin =>
  rintro c av ⟨ps,lo,rfl,H,h1,h2⟩;have:lo=gu.size:=by lia
  subst this;exact⟨ps,rfl,H⟩
 case post =>
  rintro c av ⟨ps,rfl,H⟩;have l0:=H.runs.le;refine cE (uk (sf (I:=λy c av=>c=(none,())/\∃ kE,St r κ gu av kE gu.size/\kE.length+y<=gu.size) (Q:=λc av=>c=(none,())/\∃ kE,St r κ gu av kE gu.size/\kE.length<=1) ?jg' ?Um ⟨rfl,ps,H,by lia⟩) ?jh')
  case Um =>
   rintro c av ⟨rfl,kE,H',hl⟩;exact⟨rfl,kE,H',by lia⟩
  case jh' =>
   rintro c av ⟨rfl,kE,H',hl⟩;refine d5 (h av H'.perm H'.failed ?_);have q:=H'.runs
   match kE,hl,q with
   |[],_,q =>have q:0=gu.size:=q;intro i j _ _ hj;lia
   |[(s',n',p')],_,q =>obtain⟨rfl,_,hu,e⟩:=q;rw[<- e];exact hu
  case jg' =>
   rintro y c E8 _ hy ⟨rfl,kE,H',hl⟩;refine cE (wpS_get ?_);have ep:(mG E8).size=kE.length:=by rw[H'.pend];simp
   by_cases z:(mG E8).size<=1
   ·rw[if_pos z];exact d5 ⟨rfl,kE,H',by lia⟩
   ·rw[if_neg z];exact cE (jW C hP H' (c9 _) (by(repeat' split)<;>lia) λz0 ps2 H2 hlen _ _=>d5 ⟨rfl,ps2,H2,by lia⟩)
 case step =>
  rintro x c E8 _ hx ⟨ps,lo,rfl,H,h1,h2⟩;by_cases z:lo >= gu.size
  ·rw[if_pos z];have:lo=gu.size:=by lia
   subst this;exact d5 ⟨ps,rfl,H⟩
  ·rw[if_neg z];have hz:=H.size;refine cE (wpS_countRun C H.kind (hP.perm H.perm) (by lia) (by lia) λm z0 hw Bz pT hu=>?_);have H2:=H.win hw;dsimp only;refine Ff (K:=?K) ?pk λkey=>?main;case main =>
    by_cases z2:m<minRun' gu.size gu.size 0
    ·rw[if_pos z2];refine cE (wpS_lift (EB ⟨rfl,?_⟩));refine cE (wpS_binarySort C H2.kind (hP.perm H2.perm) (by clear key;have:=H2.size;lia) (by clear key;lia) hu λz5 hw3 WY=>?_);have H3:=H2.win hw3;have b1:1<=min (gu.size-lo) (minRun' gu.size gu.size 0):=by clear key;lia
     have b2:lo+min (gu.size-lo) (minRun' gu.size gu.size 0)<=gu.size:=by clear key;lia
     clear hw3;generalize min (gu.size-lo) (minRun' gu.size gu.size 0)=nn at *
     revert nn z5;exact key
    ·rw[if_neg z2];exact key _ H2 _ hu Bz (by lia)
   intro z5 H3 nn WY b1 b2;refine cE (wpS_get ?_);have push:∀ av kE,St r κ gu av kE lo->Up r (bp av) lo (lo+nn)->∃ ps LM,((none:Option Unit),lo+nn)=(none,LM)/\St r κ gu (setPending av ((mG av).push (lo,nn,0))) ps LM/\LM<=gu.size/\x+1<=LM:=λav kE G u =>
    ⟨kE++[(lo,nn,0)],lo+nn,rfl,⟨G.kind,G.failed,G.perm,by rw[G.pend];simp,Runs.append.mpr ⟨lo,G.runs,rfl,b1,u,rfl⟩⟩,b2,by lia⟩
   cases hb:(mG z5).back? with
   |none =>exact cE (EE (d5 (push z5 ps H3 WY)))
   |some t =>
    obtain⟨s1,n1,p1⟩:=t;dsimp only;generalize power' gu.size (2*s1+n1) (2*s1+n1+n1+nn) gu.size=pw;refine cE (uk (sf (I:=λy c av=>c=(none,())/\∃ kE,St r κ gu av kE lo/\Up r (bp av) lo (lo+nn))
     ?_ (λ_ _ q=>q) ⟨rfl,ps,H3,WY⟩) ?_)
    ·rintro y c Bn _ hy ⟨rfl,kE,H4,Rh⟩;refine cE (wpS_get ?_);have ep:(mG Bn).size=kE.length:=by rw[H4.pend];simp
     by_cases z3:(mG Bn).size>1
     ·rw[if_pos z3];have e4:(mG Bn)[(mG Bn).size-2]? = some ((mG Bn)[(mG Bn).size-2]'(by lia)):=getElem?_pos _ _ (by lia);rw[e4];generalize (mG Bn)[(mG Bn).size-2]'(by lia)=tt;obtain⟨t1,t2,ji'⟩:=tt;dsimp only;by_cases z4:ji'<=pw
      ·rw[if_pos z4];exact d5 ⟨rfl,kE,H4,Rh⟩
      ·rw[if_neg z4];exact cE (jW C hP H4 h1 (by lia) λKP ps5 H5 hlen _ E9=>d5 ⟨rfl,ps5,H5,Rh.congr λk hk _=>E9 k hk⟩)
     ·rw[if_neg z3];exact d5 ⟨rfl,kE,H4,Rh⟩
    ·rintro c Bn ⟨rfl,kE,H4,Rh⟩;refine cE (EE (cE (EE (d5 ?_))));refine push _ (kE.modify (kE.length-1) λx=>(x.1,x.2.1,pw)) ⟨H4.kind,H4.failed,H4.perm,?_,Runs.modify (f:=λx=>(x.1,x.2.1,pw)) (λ_=>⟨rfl,rfl⟩) H4.runs⟩ Rh;rw[H4.pend];simp
def dI (h:eh) (a:ai) (vs:List ae):eh:=((h.update a (Obj.mapSeq λ_=>#[])).push (qq "tuple" vs.toArray 0)).push (qq "list" #[] 0)
def gY(hb:b≠a)(fA:b<h.objs.size):(dI h a vs).get? b=h.get? b:=by
 unfold dI;rw[NH _ _ _ (by rw[EF,JJ];exact hU (xI fA)),
  NH _ _ _ (by rw[JJ];exact hU fA),Vt _ _ _ _ hb]
def tH(hp:xs.Perm (pairsOf vs))(hs:Up r xs 0 vs.length):(xs.map (·.2)).toList.Perm vs/\(xs.map (·.2)).toList.Pairwise λx y=>r x<=r y:=by
 have hl:xs.toList.Perm (vs.zip vs):=by rw[<- pairsOf_toList];exact Vw.mp hp
 have Ri:∀ p,p∈xs.toList->p.1=p.2:=λp kA=>(mem_zip_self (hl.mem_iff.mp kA)).1;have e:(xs.map (·.2)).toList=xs.toList.map (·.1):=by rw[Array.toList_map];exact Nn λp kA=>(Ri p kA).symm
 have gL:xs.size=vs.length:=by rw[hp.size_eq,pairsOf_size]
 rw[e];refine⟨?_,?_⟩
 ·have h1:=hl.map (·.1);rwa[SJ (c9 _)] at h1
 ·rw[xD];intro i j hi hj ki;have kz:i<xs.size:=by simpa using hi
  have sA:j<xs.size:=by simpa using hj
  have h1:=hs i j (fS _) (xS ki) (by lia);rw[Iz kz,Iz sA] at h1;simpa using h1
def fV {F:PySem.Fin->ay->Prop} (ho:s.heap.get? a=some (qq "list" vs.toArray n)) (gL:vs.length<=bI) (hP:∀ v∈vs,P v)(hk:2<=vs.length->∀ (Q:qo->ay->Prop),Q κ { s with heap:=dI s.heap a vs }->bG (aI prog w) A (keyKind' vs.toArray) Q E { s with heap:=dI s.heap a vs }) (C:2<=vs.length->oi prog w A { s with heap:=dI s.heap a vs } κ r P) (h:∀ out:Array ae,out.toList.Perm vs->(out.toList.Pairwise λx y=>r x<=r y)->F (.done (.ret .none)) { s with heap:=sortedHeap s.heap a vs out }) :
  bG (aI prog w) A (Builtin.«list.sort» ⟨[.ref a],[]⟩) F E s:=by
 rw[list_sort_plain];have ha:a<s.heap.objs.size:=fF ho;refine ax (listItems_at ho rfl ?_);refine ax (listUpdate_at ho rfl ?_ (by simpa using gL) (fS _));obtain⟨e1,xk⟩:∃ e1,(s.heap.update a (Obj.mapSeq λ_=>#[])).get? a=some (qq "list" #[] e1):=⟨_,get?_update_seq ho (λ_=>#[])⟩
 refine ax (seqEpoch_at xk rfl ?_);refine ax (wpAny_newTuple ?_ (by simpa using gL));refine ax (wpAny_newList ?_ (fS _));refine vT ?_;have Uo:(dI s.heap a vs).get? a=some (qq "list" #[] e1):=by unfold dI;rw[NH _ _ _ (by rw[EF,JJ];exact hU (xI ha)),NH _ _ _ (by rw[JJ];exact hU ha)];exact xk
 have hvz:vs.toArray.size=vs.length:=by simp
 have fin:∀ av:eB,(bp av).Perm (pairsOf vs)->Up r (bp av) 0 vs.length->F (.done (.ret .none)) { s with heap:=sortedHeap s.heap a vs ((bp av).map (·.2)) }:=by intro av hp hs;obtain⟨h1,h2⟩:=tH hp hs;exact h _ h1 h2
 by_cases h2:vs.toArray.size<2
 ·rw[if_pos h2,if_pos h2];refine ax (bE ?_);refine ax (bE ?_);refine ax (seqEpoch_at Uo rfl ?_);refine ax (listUpdate_at Uo rfl ?_ (fS _) (by rw[Array.size_map];show(pairsOf vs).size<=_;rw[pairsOf_size];lia));simp only[bne_self_eq_false,qA,if_false];refine bE (fin (SortSt.mk' general' (vs.toArray.zip vs.toArray) #[] 7 none) (Array.Perm.refl _) ?_);intro i j _ ki hj;have:i=j:=by lia
  subst this;exact iS _
 ·rw[if_neg h2,if_neg h2];refine ax (hk (by lia) _ ?_);refine ax (wa (wpS_sortRuns (Q:=λ_ av=>(bp av).Perm (pairsOf vs)/\sj av=none/\Up r (bp av) 0 vs.length) (C (by lia)) rfl (λp hp=>?_) rfl rfl λav a1 a2 a3=>⟨a1,a2,?_⟩) ?_ λ_ _ e=>e)
  ·have kA:p∈(pairsOf vs).toList:=hp;rw[pairsOf_toList] at kA;exact hP _ (mem_zip_self kA).2
  ·have e:(bp (SortSt.mk' κ (vs.toArray.zip vs.toArray) #[] 7 none)).size=vs.length:=pairsOf_size vs;rw[e] at a3;exact a3
  ·rintro⟨⟨⟩,av⟩ s' ⟨rfl,hp,hf,hs⟩;refine ax (seqEpoch_at Uo rfl ?_);refine ax (listUpdate_at Uo rfl ?_ (fS _) (by refine jS (S4 ((Array.size_map ..).trans (hp.size_eq.trans (pairsOf_size _)))) ?_;lia));rw[hf];simp only[bne_self_eq_false,qA,if_false];exact bE (fin av hp hs)
def ou (h:eh) (vs:List ae):eh:=((h.push (qq "list" #[] 0)).update h.objs.size (Obj.mapSeq (· ++ vs.toArray))).push (qq "list" vs.toArray 0)
def j4(hb:h.get? b=some o):(dI (ou h vs) (h.objs.size+1) vs).get? b=some o:=by
 have fA:b<h.objs.size:=fF hb;have e:(ou h vs).get? b=some o:=by unfold ou;rw[NH _ _ _ (by rw[JJ,EF];exact hU (xI fA)),Vt _ _ _ _ (hU fA),NH _ _ _ (hU fA)];exact hb
 rw[gY (hU (xI fA)) (fF e)];exact e
def pU(hl:s.heap.IsList l vs.toArray)(gL:vs.length<=bI)(hP:∀ v∈vs,P v)(hk:2<=vs.length->∀ (A':fq) (E':ae->ay->Prop) (s':ay),(∀ b o,s.heap.get? b=some o->s'.heap.get? b=some o)->∀ (Q:qo->ay->Prop),Q κ s'->bG (aI prog w) A' (keyKind' vs.toArray) Q E' s')(C:2<=vs.length->∀ (s':ay),(∀ b o,s.heap.get? b=some o->s'.heap.get? b=some o)->oi prog w A.in1.in1 s' κ r P)(h:∀ (h':eh) (out:List ae) (n:Nat),out.Perm vs->(out.Pairwise λx y=>r x<=r y)->(∀ b o,s.heap.get? b=some o->h'.get? b=some o)->h'.get? (s.heap.objs.size+1)=some (qq "list" out.toArray n)->Q (.ref (s.heap.objs.size+1)) { s with heap:=h' }) :
  bG (aI prog w) A (call (.builtin "sorted") [.ref l]) Q E s:=by
 refine Calls.call_function_entry kind_sorted plain_sorted entry_sorted (args_sorted1 _) ?_;refine ax (bE ?_);refine ax (collect_list hl ?_ gL);refine ax (wpAny_newList ?_ (by simpa using gL));have cm':((s.heap.push (qq "list" #[] 0)).update s.heap.objs.size (Obj.mapSeq (· ++ vs.toArray))).objs.size=s.heap.objs.size+1:=by rw[JJ,EF]
 have zS:(ou s.heap vs).get? (s.heap.objs.size+1)=some (qq "list" vs.toArray 0):=by rw[<- cm'];exact kG _ rfl
 rw[cm'];refine ax (vT (B9 slot_list_sort ⟨_,zS,rfl⟩ entry_list_sort (fV (r:=r) zS gL hP (λh2=>hk h2 _ _ _ λb o e=>j4 e) (λh2=>?_) λout a1 a2=>⟨_,rfl,?_⟩) (args_list_sort _)))
 ·exact C h2 _ λb o e=>j4 e
 ·obtain⟨n,e⟩:=sortedAll_at s.heap vs out;refine bE ⟨_,rfl,h (sortedAll s.heap vs out) out.toList n a1 a2 (λb o e=>sortedAll_old e) (by rw[Tb];exact e)⟩
end
end xh
section
open PySem PySem.Spec PyProof.Rows
namespace L2
def nS:Key->Key->Bool
 |.inl i,.inl j=>decide (i<j)
 |.inr x,.inr y=>tI x y
 |_,_=>false
def gy:List Key->List Key->Bool
 |a :: as,b :: bs=>if a=b then gy as bs else nS a b
 |_,_=>false
def pe:Key->Bool
 |.inl _=>true
 |.inr _=>false
def ja(k:List Key):List Bool:=k.map pe
def xW(x:Str):tI x x=false:=by unfold tI;simp[List.lt_irrefl]
def Ds(h:tI x y=true)(g:tI y z=true):tI x z=true:=by
 unfold tI at *
 simp only[decide_eq_true_eq] at *
 exact List.lt_trans h g
def xK{x y:Str}(h:x.cps.toList=y.cps.toList):x=y:=by cases x;cases y;simp only at h;rw[Td.mp h]
def xV{x y:Str}(h:tI x y=false)(g:tI y x=false):x=y:=by
 unfold tI at *
 simp only[decide_eq_false_iff_not] at *
 apply xK;exact List.le_antisymm (List.not_lt.mp g) (List.not_lt.mp h)
def wZ(a:Key):nS a a=false:=by cases a with|inl i=>simp[nS]|inr x=>exact xW x
def Jr(h:nS a b=true)(g:nS b c=true):nS a c=true:=by cases a<;>cases b<;>cases c<;>simp only[nS,decide_eq_true_eq] at *<;>first|lia|contradiction|exact Ds h g
def Ek(e:pe a=pe b)(h:nS a b=false)(g:nS b a=false):a=b:=by
 cases a<;>cases b<;>simp only[nS,pe,decide_eq_false_iff_not] at *
 ·congr 1;lia
 ·cases e
 ·cases e
 ·congr 1;exact xV h g
theorem gG:∀ a:List Key,gy a a=false
 |[]=>rfl
 |a :: as=>by unfold gy;rw[if_pos rfl];exact gG as
theorem lD:∀ {a b c:List Key},gy a b=true->gy b c=true->gy a c=true
 |[],_,_,h,_=>by simp[gy] at h
 |_ :: _,[],_,h,_=>by simp[gy] at h
 |_ :: _,_ :: _,[],_,g=>by simp[gy] at g
 |a :: as,b :: bs,c :: cs,h,g=>by
  unfold gy at h g ⊢;by_cases e1:a=b
  ·subst e1;rw[if_pos rfl] at h;by_cases e2:a=c
   ·subst e2;rw[if_pos rfl] at g ⊢;exact lD h g
   ·rw[if_neg e2] at g ⊢;exact g
  ·rw[if_neg e1] at h;by_cases e2:b=c
   ·subst e2;rw[if_neg e1];exact h
   ·rw[if_neg e2] at g;have t:=Jr h g;have ne:a≠c:=λe=>by subst e;rw[wZ] at t;cases t
    rw[if_neg ne];exact t
theorem iY:∀ {a b:List Key},ja a=ja b->gy a b=false->gy b a=false->a=b
 |[],[],_,_,_=>rfl
 |[],_ :: _,e,_,_=>by simp[ja] at e
 |_ :: _,[],e,_,_=>by simp[ja] at e
 |a :: as,b :: bs,e,h,g=>by
  simp only[ja,gS,List.cons.injEq] at e;unfold gy at h g;by_cases e1:a=b
  ·subst e1;rw[if_pos rfl] at h g;rw[iY (e.2) h g]
  ·rw[if_neg e1] at h;rw[if_neg (Ne.symm e1)] at g;exact absurd (Ek e.1 h g) e1
theorem count_le{α:Type}(p q:α->Bool):∀ (l:List α),(∀ x∈l,p x=true->q x=true)->l.countP p<=l.countP q
 |[],_=>c9 _
 |x :: l,h=>by have ih:=count_le p q l λy hy=>h y (dP _ hy);cases hp:p x<;>cases hq:q x<;>simp_all<;>lia
theorem pq{α:Type}(p q:α->Bool)(a:α)(ha:p a=false)(hb:q a=true):∀ (l:List α),a∈l->(∀ x∈l,p x=true->q x=true)->l.countP p<l.countP q
 |[],m,_=>by cases m
 |x :: l,m,h=>by
  rw[List.countP_cons,List.countP_cons];rcases eK.mp m with rfl|m
  ·have:=count_le p q l λy hy=>h y (dP _ hy);rw[ha,hb];simp;lia
  ·have ih:=pq p q a ha hb l m λy hy=>h y (dP _ hy);cases hp:p x<;>cases hq:q x<;>simp_all<;>lia
def Fc(L:List (List Key))(k:List Key):Int:=(L.countP λj=>gy j k:Nat)
def mQ(e:ja a=ja b)(ma:a∈L):decide (Fc L a<Fc L b)=gy a b:=by
 unfold Fc
 cases h:gy a b with
 |true =>have:=pq (λj=>gy j a) (λj=>gy j b) a (gG a) h L ma λx _ hx=>lD hx h;exact decide_eq_true (by lia)
 |false =>
  apply decide_eq_false
  cases g:gy b a with
  |false=>rw[iY e h g];lia
  |true =>have:=count_le (λj=>gy j b) (λj=>gy j a) L λx _ hx=>lD hx g;lia
def WZ:V->Option Key
 |.int i=>some (.inl i)
 |.str x=>some (.inr x)
 |_=>none
def K5(k:Key):WZ (kV k)=some k:=by cases k<;>rfl
theorem Du:∀ k:List Key,(k.map kV).filterMap WZ=k
 |[]=>rfl
 |a :: as=>by rw[gS,Qf,K5,Du as]
def qj(H:Hp):ae->List Key
 |.ref b=>match H b with
  |some (.tup xs)=>xs.filterMap WZ
  |_=>[]
 |_=>[]
def cD(h:H b=some (.tup (k.map kV))):qj H (.ref b)=k:=by simp only[qj,h];exact Du k
section
variable {prog:eL}{w:eR}{A:fq}{E:ae->ay->Prop}{s:ay}{Q:Bool->ay->Prop}
def Jq(ru:RelV (kV a) u)(rv:RelV (kV b) v)(e:pe a=pe b)(q:Q (nS a b) s):bG (aI prog w) A (oneLt' false u v) Q E s:=by
 refine PySem.W.kat_one u v ?_
 cases a with
 |inl i =>
  cases b with
  |inr x=>cases e
  |inl j =>obtain⟨t,rfl⟩:=ru;obtain⟨t',rfl⟩:=rv;exact lt_int q
 |inr x =>
  cases b with
  |inl j=>cases e
  |inr y =>obtain⟨t,rfl⟩:=ru;obtain⟨t',rfl⟩:=rv;exact PySem.P.lt_str q
def Jl(ru:RelV (kV a) u)(rv:RelV (kV b) v)(e:pe a=pe b)(q:Q (decide (a=b)) s):bG (aI prog w) A (eqBool u v) Q E s:=by
 cases a with
 |inl i =>
  cases b with
  |inr x=>cases e
  |inl j =>obtain⟨t,rfl⟩:=ru;obtain⟨t',rfl⟩:=rv;refine wpAny_eqBool_int ?_;rw[<- al'];exact q
 |inr x =>
  cases b with
  |inl j=>cases e
  |inr y =>obtain⟨t,rfl⟩:=ru;obtain⟨t',rfl⟩:=rv;refine wpAny_eqBool_str ?_;rw[<- am'];exact q
def A_(k m:List Key)(us vs:List ae)(i:Nat)(ha:Vals (k.map kV) us)(hb:Vals (m.map kV) vs)(e:ja k=ja m)(hf:fin=false)(q:Q (gy k m) s) :
  PySem.W.KatLex prog w A true fin Q (us.zip vs) i s:=by
 induction k generalizing m us vs i with
 |nil =>
  cases m with
  |cons b m=>simp[ja] at e
  |nil =>rw[Paired.n0 ha,Paired.n0 hb];subst hf;exact PySem.W.kat_nil q
 |cons a k ih =>
  cases m with
  |nil=>simp[ja] at e
  |cons b m =>
   obtain⟨u,us,rfl,ra,rk⟩:=Paired.c ha;obtain⟨v,vs,rfl,rb,rm⟩:=Paired.c hb;simp only[ja,gS,List.cons.injEq] at e;refine PySem.W.kat_cons (Jl ra rb e.1 (PySem.W.kat_go (λh=>PySem.W.kat_yes ?_) (λh=>PySem.W.kat_no ?_)))
   ·have h:=of_decide_eq_true h;subst h;unfold gy at q;rw[if_pos rfl] at q;exact ih m _ _ (i+1) rk rm e.2 q
   ·have h:=of_decide_eq_false h;unfold gy at q;rw[if_neg h] at q;by_cases h0:i=0
    ·subst h0
     cases a with
     |inr x =>
      cases b with
      |inl j=>cases e.1
      |inr y =>obtain⟨t,rfl⟩:=ra;obtain⟨t',rfl⟩:=rb;exact oneLt_str q
     |inl i =>
      cases b with
      |inr x=>cases e.1
      |inl j =>obtain⟨t,rfl⟩:=ra;obtain⟨t',rfl⟩:=rb;exact oneLt_int q
    ·rw[show(true && i == 0)=false by simp[h0]];exact Jq ra rb e.1 q
end
section
variable {X:Cx}{pins:List (ai × Obj)}{σ:St}{H:Hp}{s:ay}
def Inv.tup(I:Inv X pins σ H s)(h:H b=some (.tup xs)):∃ its:List ae,Vals xs its/\IsTup s.heap b its.toArray:=(I.cy b _ h).2
def uK(I:Inv X pins σ H s)(kp:∀ b o,s.heap.get? b=some o->s'.heap.get? b=some o) :
  xh.oi X.prog X.w A s' (tuples' true) (λv=>Fc L (qj H v)) (λv=>∃ b k,v=.ref b/\H b=some (.tup (k.map kV))/\ja k=b0 :: sh/\k∈L):=by
 rintro x y ⟨b,k,rfl,hb,hk,mk⟩ ⟨c,m,rfl,hc,hm,mm⟩ Q E q;obtain⟨us,ru,o,e1,c1,n1,d1⟩:=I.tup hb;obtain⟨vs,rv,o',e2,c2,n2,d2⟩:=I.tup hc;have W0:ja k=ja m:=hk.trans hm.symm;simp only[cD hb,cD hc] at q;rw[mQ W0 mk] at q;refine PySem.W.kat_lt (kp _ _ e1) d1 (kp _ _ e2) d2 (A_ k m us vs 0 ru rv W0 ?_ q)
 ·have h1:=ru.length;have h2:=rv.length;have h3:k.length=m.length:=by have:=congrArg List.length W0;simpa[ja] using this
  simp only[cx] at h1 h2;exact decide_eq_false (by simp only[jI];lia)
def kat_tups(I:Inv X pins σ H s){s':ay}(kp:∀ b o,s.heap.get? b=some o->s'.heap.get? b=some o){b0:Bool}{sh:List Bool}{ys:List V}{ks:List (List Key)}{vs:List ae}(ht:bZ H ys ks)(hv:Vals ys vs)(hs:∀ k∈ks,ja k=b0 :: sh) :
  ∃ fs:List ae,PySem.W.KatTups s'.heap vs fs/\fs.length=vs.length/\∀ f∈fs,(b0=true->∃ i t,f=Value.int i t)/\(b0=false->∃ x t,f=Value.str x t):=by
 induction ys generalizing ks vs with
 |nil =>rw[Paired.n0 hv];exact⟨[],.nil,rfl,by simp⟩
 |cons y ys ih =>
  obtain⟨k,ks,rfl,⟨b,rfl,hb⟩,t⟩:=Paired.c ht;obtain⟨v,vs,rfl,rfl,rs⟩:=Paired.c hv;obtain⟨fs,f1,f2,f3⟩:=ih t rs λj hj=>hs j (dP _ hj);have hk:=hs k dz;obtain⟨us,ru,o,e1,c1,n1,d1⟩:=I.tup hb
  cases k with
  |nil=>simp[ja] at hk
  |cons a k =>
   obtain⟨u,us,rfl,ra,rr⟩:=Paired.c ru;simp only[ja,gS,List.cons.injEq] at hk;refine⟨u :: fs,.cons (kp _ _ e1) c1 d1 rfl f1,by simp[f2],λf hf=>?_⟩;rcases eK.mp hf with rfl|hf
   ·cases a with
    |inr x =>obtain⟨tk,rfl⟩:=ra;exact⟨(λz=>by rw[<- hk.1] at z;cases z),λ_=>⟨_,_,rfl⟩⟩
    |inl i =>obtain⟨tk,rfl⟩:=ra;exact⟨λ_=>⟨_,_,rfl⟩,λz=>by rw[<- hk.1] at z;cases z⟩
   ·exact f3 f hf
end
def vq(K:aE):List V->Hp->VK->Prop:=λxs H Q=>match xs with
 |[.ref p]=>∃ ys ks sh,gd K H p ys/\bZ H ys ks/\(∀ k∈ks,ja k=true :: sh) /\
   ∀ zs ms l,bZ H zs ms->ms.Perm ks->(ms.Pairwise λa b=>gy b a=false)->H l=none->Q (.ref l) (upd H l (.lst zs))
 |_=>False
def bZ.keys(h:bZ H ys ks)(hv:Vals ys vs):vs.map (qj H)=ks/\∀ v∈vs,∃ b k,v=.ref b/\H b=some (.tup (k.map kV))/\k∈ks:=by
 induction ys generalizing ks vs with
 |nil=>rw[Paired.n0 hv,show ks=[] from Paired.n0 h];exact⟨rfl,by simp⟩
 |cons y ys ih =>
  obtain⟨k,ks,rfl,⟨b,rfl,g⟩,t⟩:=Paired.c h;obtain⟨v,vs,rfl,rfl,rs⟩:=Paired.c hv;obtain⟨e,m⟩:=ih t rs;refine⟨by rw[gS,cD g,e],λv hv=>?_⟩;rcases eK.mp hv with rfl|hv
  ·exact⟨b,k,rfl,g,dz⟩
  ·obtain⟨b',k',e1,e2,e3⟩:=m v hv;exact⟨b',k',e1,e2,dP _ e3⟩
def bZ.of{H:Hp}{ks:List (List Key)}(vs:List ae)(h:∀ v∈vs,∃ b k,v=Value.ref b/\H b=some (.tup (k.map kV))/\k∈ks):∃ zs,bZ H zs (vs.map (qj H))/\Vals zs vs:=by
 induction vs with
 |nil=>exact⟨[],.nil,.nil⟩
 |cons v vs ih =>obtain⟨zs,a,c⟩:=ih λu hu=>h u (dP _ hu);obtain⟨b,k,rfl,e,_⟩:=h v dz;exact⟨.ref b :: zs,.cons ⟨b,rfl,by rw[cD e];exact e⟩ a,.cons rfl c⟩
section
variable {X:Cx}
def vG:kL X (.builtin "sorted") (vq X.K):=by
 walk_at"f";unfold vq at h;split at h
 ·rename_i p;obtain⟨ys,ks,sh,hl,ht,hs,q⟩:=h;obtain⟨u,rfl,ru⟩:=Vals.one r;cases ru;obtain⟨vs,rv,pl,hz⟩:=I.list hl;obtain⟨ek,mem⟩:=ht.keys rv;have hlen:=rv.length;refine xh.pU (κ:=tuples' true) (P:=λv=>∃ b k,v=.ref b/\H b=some (.tup (k.map kV))/\ja k=true :: sh/\k∈ks) pl.isList (by lia) (λv hv=>?_) (λh2 A' E' s' kp Q' q'=>?_) (λh2 s' kp=>uK I kp) λh' out n pm pw kp eo=>?_
  ·obtain⟨b,k,e1,e2,e3⟩:=mem v hv;exact⟨b,k,e1,e2,hs k e3,e3⟩
  ·obtain⟨fs,f1,f2,f3⟩:=kat_tups I kp ht rv hs;refine Ss (T:=.type "int") f1 (by lia) (λf hf=>?_) (by decide) q';obtain⟨i,t,rfl⟩:=(f3 f hf).1 rfl;exact .now
  ·obtain⟨zs,z1,z2⟩:=bZ.of out λv hv=>mem v (pm.mem_iff.mp hv);have zl:=z2.length;have ol:=pm.length_eq;have Uq:(out.map (qj H)).Perm ks:=by rw[<- ek];exact pm.map _
   refine⟨.ref (s.heap.objs.size+1),_,I.laid kp (FT _) (show lI X.prog X.w _ h' _ (.lst zs) from⟨by lia,out,n,z2,eo⟩),rfl,
    q zs _ _ z1 Uq ?_ (I.cy.fresh (FT _))⟩
   rw[kC];refine pw.imp_of_mem λ{x y} mx my hle=>?_;obtain⟨b,k,rfl,hb,kk⟩:=mem x (pm.mem_iff.mp mx);obtain⟨c,m,rfl,hc,km⟩:=mem y (pm.mem_iff.mp my);rw[cD hb,cD hc] at *
   have:=mQ ((hs m km).trans (hs k kk).symm) km;rw[<- this];exact decide_eq_false (by lia)
 ·exact h.elim
end
end L2
end
namespace xh
open PySem PyProof.Rows
section
variable {prog:eL}{w:eR}{A:fq}{E:ae->ay->Prop}{s:ay}{κ:qo}{r:ae->Int}{P:ae->Prop}
def qt{T:String}{r d:ai}{n:Nat}{P:Nat->ae->Prop}{OK:eh->Prop}{R:Result->ay->Prop}(K:PySem.W.KdlSrc prog w T r d n P OK)(hh:A.handled=none)(cy:OK s.heap)(hn:n<=bI)(hR:∀ h' tk acc c,(∀ b o,s.heap.get? b=some o->h'.get? b=some o)->h'.get? s.heap.objs.size=some { cls:=.type "list",data:=.seq acc c }->ItemsOf P acc n->R (.ok (.ret (.ref s.heap.objs.size))) { s with heap:=h',toks:=tk }) :
  codeAny (aI prog w) A (.builtin "proto.collect" ⟨[.ref r],[]⟩) R s:=by
 have hth:=K.there _ cy;have hS:(s.heap.push { cls:=.type "list",data:=.seq ([]:List ae).toArray }).get? s.heap.objs.size=some { cls:=.type "list",data:=.seq ([]:List ae).toArray }:=kG _ rfl;refine Cb F.entry_proto_collect ?_;refine ax (sQ ?_);refine bE ⟨FC F.plain_list_iadd _,Cb F.entry_list_iadd ?_⟩;exact PySem.W.kdl_extend K hh (K.keep _ _ cy λb _ o e=>gx _ e) s.heap.objs.size (Ql hth.1) (Ql hth.2) _ 0 hS (λh' tk BD c' kp eo ia=>hR h' tk BD c' (λb o e=>kp b o (hU (fF e)) (gx _ e)) eo ia) hn
def tQ{T:String}{r d:ai}{n:Nat}{P:Nat->ae->Prop}{OK:eh->Prop}{Q:List ae->ay->Prop}(K:PySem.W.KdlSrc prog w T r d n P OK)(hh:A.handled=none)(cy:OK s.heap)(hn:n<=bI)(hQ:∀ h' tk acc,(∀ b o,s.heap.get? b=some o->h'.get? b=some o)->s.heap.objs.size<=h'.objs.size->ItemsOf P acc n->Q acc.toList { s with heap:=h',toks:=tk }):bG (aI prog w) A (collect (.ref r)) Q E s:=by
 exact ax (wpAny_runValue (qt K hh cy hn λh' tk acc c kp eo ia=>ax (wpAny_load eo (bE (hQ h' tk acc kp (xS (fF eo)) ia)))))
def vL{R:List ae->Prop}(W3:∀ (A':fq) (E':ae->ay->Prop) (Q':List ae->ay->Prop),A'.handled=A.handled->(∀ vs h1 tk,R vs->(∀ b o,s.heap.get? b=some o->h1.get? b=some o)->s.heap.objs.size<=h1.objs.size->Q' vs { s with heap:=h1,toks:=tk })->bG (aI prog w) A' (collect v) Q' E' s) (gL:∀ vs,R vs->vs.length<=bI) (hP:∀ vs,R vs->∀ v∈vs,P v) (hk:∀ vs,R vs->2<=vs.length->∀ (A':fq) (E':ae->ay->Prop) (s':ay),(∀ b o,s.heap.get? b=some o->s'.heap.get? b=some o)->∀ (Q:qo->ay->Prop),Q κ s'->bG (aI prog w) A' (keyKind' vs.toArray) Q E' s') (C:∀ (s':ay),(∀ b o,s.heap.get? b=some o->s'.heap.get? b=some o)->oi prog w A.in1.in1 s' κ r P) (h:∀ (vs:List ae) (h':eh) (a:ai) (out:List ae) (n tk:Nat),R vs->out.Perm vs->(out.Pairwise λx y=>r x<=r y)->(∀ b o,s.heap.get? b=some o->h'.get? b=some o)->s.heap.objs.size<=a->h'.get? a=some (qq "list" out.toArray n)->Q (.ref a) { s with heap:=h',toks:=tk }) :
  bG (aI prog w) A (call (.builtin "sorted") [v]) Q E s:=by
 refine Calls.call_function_entry kind_sorted plain_sorted entry_sorted (args_sorted1 _) ?_;refine ax (bE ?_);refine ax (W3 _ _ _ rfl λvs h1 tk hR kp hz=>?_);have yi:=gL vs hR;refine ax (wpAny_newList ?_ (by simpa using yi));have zS:(h1.push (qq "list" vs.toArray 0)).get? h1.objs.size=some (qq "list" vs.toArray 0):=kG _ rfl;have old:∀ b o,s.heap.get? b=some o->(dI (h1.push (qq "list" vs.toArray 0)) h1.objs.size vs).get? b=some o:=λb o e=>by have fA:b<h1.objs.size:=fF (kp b o e);rw[gY (hU fA) (by rw[EF];exact xI fA)];exact gx _ (kp b o e)
 refine ax (vT (B9 slot_list_sort ⟨_,zS,rfl⟩ entry_list_sort (fV zS yi (hP vs hR) (λh2=>hk vs hR h2 _ _ _ old) (λh2=>C _ old) λout a1 a2=>⟨_,rfl,?_⟩) (args_list_sort _)))
 obtain⟨n,e⟩:=sortedHeap_at zS;refine bE ⟨_,rfl,h vs _ h1.objs.size out.toList n tk hR a1 a2 (λb o e=>?_) hz (by rw[Tb];exact e)⟩;have fA:b<h1.objs.size:=fF (kp b o e);rw[sortedHeap_old (hU fA) (by rw[EF];exact xI fA)];exact gx _ (kp b o e)
end
end xh
section
open PySem PySem.Spec PyProof.Rows
namespace L2
def jy:ae->List Key
 |.int i _=>[.inl i]
 |.str x _=>[.inr x]
 |_=>[]
def lM(h:RelV (kV k) v):jy v=[k]:=by
 cases k with
 |inl i=>obtain⟨t,rfl⟩:=h;rfl
 |inr x=>obtain⟨t,rfl⟩:=h;rfl
def tU:gy [a] [b]=nS a b:=by
 unfold gy;by_cases e:a=b
 ·subst e;rw[if_pos rfl,wZ];rfl
 ·rw[if_neg e]
def t_{prog:eL}{w:eR}{A:fq}{s:ay}{b:Bool}{L:List Key} :
  xh.oi prog w A s oneType' (λv=>Fc (L.map λk=>[k]) (jy v)) (λv=>∃ k,RelV (kV k) v/\pe k=b/\k∈L):=by
 rintro x y ⟨k,rk,ik,mk⟩ ⟨m,rm,im,mm⟩ Q E q;simp only[lM rk,lM rm] at q;rw[mQ (by simp[ja,ik,im]) (cw.mpr ⟨k,mk,rfl⟩),tU] at q
 cases k with
 |inl i =>
  cases m with
  |inr y=>rw[<- im] at ik;cases ik
  |inl j =>obtain⟨t,rfl⟩:=rk;obtain⟨u,rfl⟩:=rm;exact oneLt_int q
 |inr x =>
  cases m with
  |inl y=>rw[<- im] at ik;cases ik
  |inr j =>obtain⟨t,rfl⟩:=rk;obtain⟨u,rfl⟩:=rm;exact oneLt_str q
def ints_of{ks:List Key}{vs:List ae}(r:Vals (ks.map kV) vs)(h:∀ k∈ks,pe k=true):∃ ns,IntsAre vs ns:=by
 induction ks generalizing vs with
 |nil=>rw[Paired.n0 r];exact⟨[],.nil⟩
 |cons k ks ih =>
  obtain⟨v,vs,rfl,r,rs⟩:=Paired.c r;obtain⟨ns,q⟩:=ih rs λj hj=>h j (dP _ hj);have:=h k dz
  cases k with
  |inr x=>cases this
  |inl i=>obtain⟨t,rfl⟩:=r;exact⟨_,.cons i t q⟩
def Gq{ks:List Key}{vs:List ae}(r:Vals (ks.map kV) vs)(h:∀ k∈ks,pe k=false):∃ ns,StrsAre vs ns:=by
 induction ks generalizing vs with
 |nil=>rw[Paired.n0 r];exact⟨[],.nil⟩
 |cons k ks ih =>
  obtain⟨v,vs,rfl,r,rs⟩:=Paired.c r;obtain⟨ns,q⟩:=ih rs λj hj=>h j (dP _ hj);have:=h k dz
  cases k with
  |inl x=>cases this
  |inr i=>obtain⟨t,rfl⟩:=r;exact⟨_,.cons i t q⟩
def qJ{prog:eL}{w:eR}{A:fq}{E:ae->ay->Prop}{s:ay}{b:Bool}{ks:List Key}{vs:List ae}(r:Vals (ks.map kV) vs)(h:∀ k∈ks,pe k=b)(h2:2<=vs.length){Q:qo->ay->Prop}(q:Q oneType' s) :
  bG (aI prog w) A (keyKind' vs.toArray) Q E s:=by
 match vs,h2 with
 |v1 :: v2 :: vs,_ =>
  cases b with
  |true=>obtain⟨ns,hI⟩:=ints_of r h;rw[keyKind_ints hI];exact bE q
  |false=>obtain⟨ns,hI⟩:=Gq r h;rw[keyKind_strs hI];exact bE q
def mem_keys{ks:List Key}{vs:List ae}(r:Vals (ks.map kV) vs)(v:ae)(h:v∈vs):∃ k,RelV (kV k) v/\k∈ks:=by
 induction ks generalizing vs with
 |nil=>rw[Paired.n0 r] at h;cases h
 |cons k ks ih =>
  obtain⟨u,vs,rfl,r,rs⟩:=Paired.c r;rcases eK.mp h with rfl|h
  ·exact⟨k,r,dz⟩
  ·obtain⟨j,a,b⟩:=ih rs h;exact⟨j,a,dP _ b⟩
def keys_map{ks:List Key}{vs:List ae}(r:Vals (ks.map kV) vs):vs.map jy=ks.map λk=>[k]:=by
 induction ks generalizing vs with
 |nil=>rw[Paired.n0 r];rfl
 |cons k ks ih =>obtain⟨u,vs,rfl,r,rs⟩:=Paired.c r;rw[gS,gS,lM r,ih rs]
def lB{ks:List Key}(vs:List ae)(h:∀ v∈vs,∃ k,RelV (kV k) v/\k∈ks):∃ ms:List Key,Vals (ms.map kV) vs:=by
 induction vs with
 |nil=>exact⟨[],.nil⟩
 |cons v vs ih =>obtain⟨ms,r⟩:=ih λu hu=>h u (dP _ hu);obtain⟨k,rk,_⟩:=h v dz;exact⟨k :: ms,.cons rk r⟩
def p7:∀ {ms ks:List Key},(ms.map λk=>[k]).Perm (ks.map λk=>[k])->ms.Perm ks:=λ{ms ks} h=>by have:=h.map (λl:List Key=>l.head?);simp only[fN] at this;have e:∀ l:List Key,l.map ((λl:List Key=>l.head?) ∘ λk=>[k])=l.map some:=λl=>Nn λ_ _=>rfl;rw[e,e] at this;have:=this.filterMap id;simpa using this
section
variable {X:Cx}
def uI(K:aE):List V->Hp->VK->Prop:=λxs H Q=>match xs with
 |[.ref p]=>∃ ks b,(gd K H p (ks.map kV)\/∃ kvs,Rd H p (.dK kvs)/\ks=kvs.map (·.1))/\(∀ k∈ks,pe k=b) /\
   ∀ (ms:List Key) (l:ai),ms.Perm ks->(ms.Pairwise λa b=>nS b a=false)->H l=none->Q (.ref l) (upd H l (.lst (ms.map kV)))
 |_=>False
def wF (hc:X.calm=true):kL X (.builtin "sorted") (uI X.K):=by
 walk_at"f";unfold uI at h;split at h
 ·rename_i p;obtain⟨ks,b,hl,hb,q⟩:=h;obtain⟨u,rfl,ru⟩:=Vals.one r;cases ru;have gL:ks.length<=bI:=by
   rcases hl with hl|⟨kvs,e,rfl⟩
   ·obtain⟨vs,rv,pl,hz⟩:=I.list hl;simpa using hz
   ·obtain⟨z,_⟩:=(I.rd e)
    simpa using z
  refine xh.vL (κ:=oneType') (P:=λv=>∃ k,RelV (kV k) v/\pe k=b/\k∈ks) (λA' E' Q' hA hQ=>?_) (λvs rv=>?_) (λvs rv v hv=>?_) (λvs rv h2 A' E' s' kp Q' q'=>qJ rv hb h2 q') (λs' kp=>t_) λvs h' a out n tk rv pm pw kp ha eo=>?_
  ·rcases hl with hl|⟨kvs,e,rfl⟩
   ·obtain⟨vs,rv,pl,hz⟩:=I.list hl;refine collect_list pl.isList (hQ vs _ s.toks rv (λb o e=>?_) ?_) (by have:=rv.length;lia)
    ·rw[Vt _ _ _ _ (hU (fF e))];exact gx _ e
    ·rw[JJ,EF];exact FT _
   ·obtain⟨z,y,vs,rel,dd⟩:=(I.rd e)
    obtain⟨ep,da⟩:=dd.dictAt;have hlen:vs.length=kvs.length:=rel.length.symm;refine xh.tQ (PySem.W.kdl_dict y) (hA.trans (I.ok.hd hc)) da (by lia) λh' tk acc kp hz HM=>hQ _ h' tk ?_ kp hz;have go:∀ {l1:List (Key × V)} {l2:List (Key × ae)} ac,KV l1 l2->ac.length=l2.length->(∀ (i:Nat) v,ac[i]? = some v->∃ k x,l2[i]? = some (k,x)/\FV k v=true)->Vals ((l1.map (·.1)).map kV) ac:=by
     intro l1 l2 ac rl
     induction rl generalizing ac with
     |nil=>intro hl _;cases ac with
      |nil=>exact .nil
      |cons _ _=>cases hl
     |@cons p1 q1 l1 l2 r1 rs ih =>
      intro hl hi
      cases ac with
      |nil=>cases hl
      |cons v ac =>obtain⟨k,x,e1,e2⟩:=hi 0 v rfl;simp only[List.getElem?_cons_zero,Option.some.injEq] at e1;subst e1;refine .cons ?_ (ih ac (by simpa using hl) λi v h=>hi (i+1) v (by simpa using h));have r11:p1.1=k:=r1.1;show RelV (kV p1.1) v;rw[r11];rcases AY e2 with⟨i,t,rfl,rfl⟩|⟨x,t,rfl,rfl⟩<;>exact⟨t,rfl⟩
    exact go acc.toList rel (by rw[CH];exact HM.1) λi v h=>HM.2 i v (by simpa using h)
  ·have:=rv.length;rw[cx] at this;lia
  ·obtain⟨k,rk,mk⟩:=mem_keys rv v hv;exact⟨k,rk,hb k mk,mk⟩
  ·obtain⟨ms,rm⟩:=lB out λv hv=>mem_keys rv v (pm.mem_iff.mp hv);have pk:ms.Perm ks:=p7 (by rw[<- keys_map rm,<- keys_map rv];exact pm.map _);refine⟨.ref a,_,I.laid kp ha (show lI X.prog X.w _ h' _ (.lst (ms.map kV)) from⟨by rw[cx,pk.length_eq];exact gL,out,n,rm,eo⟩),rfl,q ms _ pk ?_ (I.cy.fresh ha)⟩;have Rj:(out.map jy).Pairwise λx y=>Fc (ks.map λk=>[k]) x<=Fc (ks.map λk=>[k]) y:=kC.mpr pw;rw[keys_map rm,kC] at Rj;refine Rj.imp_of_mem λ{x y} mx my hle=>?_;have mx:=pk.mem_iff.mp mx;have my:=pk.mem_iff.mp my;rw[<- tU,<- mQ (L:=ks.map λk=>[k]) (by simp[ja,hb x mx,hb y my]) (cw.mpr ⟨y,my,rfl⟩)];exact decide_eq_false (by lia)
 ·exact h.elim
end
end L2
namespace L2.Q
set_option genInjectivity true
inductive D where
 |non|bl (b:Bool)|int (i:Int)|str (x:Str)
 |list (xs:List D)|tup (xs:List D)|dK (kvs:List (Key × D))|dT (kvs:List (List Key × D))
mutual
def D.flat:D->Bool
 |.list _=>false
 |.dK _=>false
 |.dT _=>false
 |.tup xs=>eJ xs
 |_=>true
def eJ:List D->Bool
 |[]=>true
 |x :: xs=>x.flat && eJ xs
end
theorem k_:∀ {xs:List D},eJ xs=true↔∀ x∈xs,x.flat=true
 |[]=>by simp[eJ]
 |x :: xs=>by simp[eJ,k_]
def fW:eJ (xs++ys)=(eJ xs && eJ ys):=by
 induction xs with
 |nil=>simp[eJ]
 |cons x xs ih=>simp[eJ,ih,Bool.and_assoc]
def BE:Key->Bool
 |.inl _=>true
 |.inr x=>decide (x.length<=bI)
def Ur(kvs:List (Key × D)):Prop:=kvs.length<=bI/\∀ p∈kvs,BE p.1=true
def Us(kvs:List (List Key × D)):Prop:=kvs.length<=bI/\∀ p∈kvs,p.1.length<=bI/\∀ k∈p.1,BE k=true
mutual
inductive Rep(K:aE)(H:Hp):D->V->Prop
 |non:Rep K H .non .non
 |bl (b:Bool):Rep K H (.bl b) (.bl b)
 |int (i:Int):Rep K H (.int i) (.int i)
 |str {x:Str}:x.length<=bI->Rep K H (.str x) (.str x)
 |list {a:ai} {vs:List V} {ds:List D}:vs.length<=bI->gd K H a vs->b5 K H ds vs->Rep K H (.list ds) (.ref a)
 |tup {a:ai} {vs:List V} {ds:List D}:vs.length<=bI->H a=some (.tup vs)->b5 K H ds vs->Rep K H (.tup ds) (.ref a)
 |dK {a:ai} {vs:List V} {kvs:List (Key × D)}:Ur kvs->Rd H a (.dK ((kvs.map (·.1)).zip vs))->b5 K H (kvs.map (·.2)) vs->Rep K H (.dK kvs) (.ref a)
 |dT {a:ai} {vs:List V} {kvs:List (List Key × D)}:Us kvs->Rd H a (.dT ((kvs.map (·.1)).zip vs))->b5 K H (kvs.map (·.2)) vs->Rep K H (.dT kvs) (.ref a)
inductive b5(K:aE)(H:Hp):List D->List V->Prop
 |nil:b5 K H [] []
 |cons {d:D} {v:V} {ds:List D} {vs:List V}:Rep K H d v->b5 K H ds vs->b5 K H (d :: ds) (v :: vs)
end
def Rep.ind{K:aE}{H:Hp}{m1:D->V->Prop}{m2:List D->List V->Prop}(h0:m1 .non .non)(hb:∀ b,m1 (.bl b) (.bl b))(hi:∀ i,m1 (.int i) (.int i))(hs:∀ x,x.length<=bI->m1 (.str x) (.str x))(hl:∀ a vs ds,vs.length<=bI->gd K H a vs->b5 K H ds vs->m2 ds vs->m1 (.list ds) (.ref a)) (ht:∀ a vs ds,vs.length<=bI->H a=some (.tup vs)->b5 K H ds vs->m2 ds vs->m1 (.tup ds) (.ref a))(hk:∀ a vs kvs,Ur kvs->Rd H a (.dK ((kvs.map (·.1)).zip vs))->b5 K H (kvs.map (·.2)) vs->m2 (kvs.map (·.2)) vs->m1 (.dK kvs) (.ref a)) (hT:∀ a vs kvs,Us kvs->Rd H a (.dT ((kvs.map (·.1)).zip vs))->b5 K H (kvs.map (·.2)) vs->m2 (kvs.map (·.2)) vs->m1 (.dT kvs) (.ref a))(hn:m2 [] []) (hc:∀ d v ds vs,Rep K H d v->b5 K H ds vs->m1 d v->m2 ds vs->m2 (d :: ds) (v :: vs)):(∀ {d v},Rep K H d v->m1 d v)/\∀ {ds vs},b5 K H ds vs->m2 ds vs :=
 ⟨λr=>Rep.rec h0 hb hi (λh=>hs _ h) (λz s r ih=>hl _ _ _ z s r ih) (λz s r ih=>ht _ _ _ z s r ih) (λz s r ih=>hk _ _ _ z s r ih) (λz s r ih=>hT _ _ _ z s r ih) hn (λr s a b=>hc _ _ _ _ r s a b) r,
  λr=>b5.rec h0 hb hi (λh=>hs _ h) (λz s r ih=>hl _ _ _ z s r ih) (λz s r ih=>ht _ _ _ z s r ih) (λz s r ih=>hk _ _ _ z s r ih) (λz s r ih=>hT _ _ _ z s r ih) hn (λr s a b=>hc _ _ _ _ r s a b) r⟩
def lT.k'(e:Rd H a (.dK kvs)):lT H a (kV k) (mP kvs k):=.inl ⟨kvs,k,e,rfl,rfl⟩
def lT.t'(e:Rd H a (.dT kvs))(eb:H b=some (.tup (k.map kV))):lT H a (.ref b) (mP kvs k):=.inr ⟨kvs,k,b,e,rfl,eb,rfl⟩
def bP.rd(s:bP H H')(h:Rd H a u):Rd H' a u:=h.imp (s _ _) λ⟨o,e⟩=>⟨o,s _ _ e⟩
def Rep.Hz{K:aE}(s:bP H H'):(∀ {d:D} {v:V},Rep K H d v->Rep K H' d v)/\∀ {ds:List D} {vs:List V},b5 K H ds vs->b5 K H' ds vs :=
 Rep.ind .non .bl .int (λ_ h=>.str h) (λ_ _ _ z h _ ih=>.list z (s.lst h) ih) (λ_ _ _ z h _ ih=>.tup z (s _ _ h) ih) (λ_ _ _ kk h _ ih=>.dK kk (bP.rd s h) ih) (λ_ _ _ kk h _ ih=>.dT kk (bP.rd s h) ih) .nil λ_ _ _ _ _ _ a b=>.cons a b
def Rep.same{K:aE}(s:bP H H')(r:Rep K H d v):Rep K H' d v:=(Rep.Hz s).1 r
def b5.same{K:aE}(s:bP H H')(r:b5 K H ds vs):b5 K H' ds vs:=(Rep.Hz s).2 r
def b5.ind{K:aE}{H:Hp}{m:List D->List V->Prop}(hn:m [] [])(hc:∀ d v ds vs,Rep K H d v->b5 K H ds vs->m ds vs->m (d :: ds) (v :: vs)):∀ {ds vs},b5 K H ds vs->m ds vs :=
 λr=>(Rep.ind (m1:=λ_ _=>True) trivial (λ_=>trivial) (λ_=>trivial) (λ_ _=>trivial) (λ_ _ _ _ _ _ _=>trivial) (λ_ _ _ _ _ _ _=>trivial) (λ_ _ _ _ _ _ _=>trivial) (λ_ _ _ _ _ _ _=>trivial) hn λd v ds vs r s _ b=>hc d v ds vs r s b).2 r
def b5.length{K:aE}(r:b5 K H ds vs):ds.length=vs.length :=
 b5.ind (m:=λds vs=>ds.length=vs.length) rfl (λ_ _ _ _ _ _ ih=>by rw[qh,qh,ih]) r
def b5.append{K:aE}(r:b5 K H ds vs)(t:b5 K H es ws):b5 K H (ds++es) (vs++ws) :=
 b5.ind (m:=λds vs=>b5 K H (ds++es) (vs++ws)) t (λ_ _ _ _ h _ ih=>.cons h ih) r
def b5.get{K:aE}{H:Hp}{ds:List D}{vs:List V}{i:Nat}{d:D}(r:b5 K H ds vs)(e:ds[i]? = some d):∃ v,vs[i]? = some v/\Rep K H d v :=
 b5.ind (m:=λds vs=>∀ i d,ds[i]? = some d->∃ v,vs[i]? = some v/\Rep K H d v) (λi d e=>by simp at e) (λ_ _ _ _ h _ ih i d e=>by
  cases i with
  |zero=>simp at e;subst e;exact⟨_,rfl,h⟩
  |succ i =>
   obtain⟨v,e1,r⟩:=ih i d (by simpa using e);exact⟨v,by simpa using e1,r⟩) r i d e
def b5.co'{K:aE}{H:Hp}{ds:List D}{vs:List V}{i:Nat}{v:V}(r:b5 K H ds vs)(e:vs[i]? = some v):∃ d,ds[i]? = some d/\Rep K H d v :=
 b5.ind (m:=λds vs=>∀ i v,vs[i]? = some v->∃ d,ds[i]? = some d/\Rep K H d v) (λi d e=>by simp at e) (λ_ _ _ _ h _ ih i d e=>by
  cases i with
  |zero=>simp at e;subst e;exact⟨_,rfl,h⟩
  |succ i =>
   obtain⟨v,e1,r⟩:=ih i d (by simpa using e);exact⟨v,by simpa using e1,r⟩) r i v e
def b5.drop{K:aE}(n:Nat)(r:b5 K H ds vs):b5 K H (ds.drop n) (vs.drop n) :=
 b5.ind (m:=λds vs=>∀ n,b5 K H (ds.drop n) (vs.drop n)) (λn=>by rw[List.drop_nil,List.drop_nil];exact .nil) (λ_ _ _ _ h hs ih n=>by
  cases n with
  |zero=>exact .cons h hs
  |succ n=>exact ih n) r n
def b5.n0{K:aE}(h:b5 K H [] vs):vs=[]:=by cases h;rfl
def b5.c{K:aE}(h:b5 K H (d :: ds) vs):∃ u us,vs=u :: us/\Rep K H d u/\b5 K H ds us:=by
 cases h with
 |cons r rs=>exact⟨_,_,rfl,r,rs⟩
def b5.take{K:aE}(n:Nat)(r:b5 K H ds vs):b5 K H (ds.take n) (vs.take n) :=
 b5.ind (m:=λds vs=>∀ n,b5 K H (ds.take n) (vs.take n)) (λn=>by rw[List.take_nil,List.take_nil];exact .nil) (λ_ _ _ _ h hs ih n=>by
  cases n with
  |zero=>exact .nil
  |succ n=>exact .cons h (ih n)) r n
mutual
inductive cS(K:aE)(Hs H:Hp)(fl:Bool):D->V->List ai->Prop
 |sh {d:D} {v:V}:(fl=true->d.flat=true)->Rep K Hs d v->cS K Hs H fl d v []
 |list {a:ai} {vs:List V} {ds:List D} {As:List ai}:vs.length<=bI->H a=some (.lst vs)->aA K Hs H fl ds vs As->cS K Hs H fl (.list ds) (.ref a) (a :: As)
 |tup {a:ai} {vs:List V} {ds:List D} {As:List ai}:vs.length<=bI->Hs a=some (.tup vs)->eJ ds=false->aA K Hs H fl ds vs As->cS K Hs H fl (.tup ds) (.ref a) As
 |dK {a:ai} {vs:List V} {kvs:List (Key × D)} {As:List ai}:Ur kvs->H a=some (.dK ((kvs.map (·.1)).zip vs))->aA K Hs H fl (kvs.map (·.2)) vs As->cS K Hs H fl (.dK kvs) (.ref a) (a :: As)
 |dT {a:ai} {vs:List V} {kvs:List (List Key × D)} {As:List ai}:Us kvs->H a=some (.dT ((kvs.map (·.1)).zip vs))->aA K Hs H fl (kvs.map (·.2)) vs As->cS K Hs H fl (.dT kvs) (.ref a) (a :: As)
inductive aA(K:aE)(Hs H:Hp)(fl:Bool):List D->List V->List ai->Prop
 |nil:aA K Hs H fl [] [] []
 |cons {d:D} {v:V} {ds:List D} {vs:List V} {As Bs:List ai}:cS K Hs H fl d v As->aA K Hs H fl ds vs Bs->aA K Hs H fl (d :: ds) (v :: vs) (As++Bs)
end
def Own(H:Hp)(a:ai):Prop:=∃ o,H a=some o/\∀ vs,o≠.tup vs
section
variable {K:aE}{Hs aC H H':Hp}{fl:Bool}
def Own.ne(h:Own H a):H a≠none:=by obtain⟨_,e,_⟩:=h;rw[e];exact λz=>nomatch z
def Own.DN(h:Own H a):H a≠some (.tup vs):=by obtain⟨_,e,n⟩:=h;rw[e];exact λz=>n vs (Option.some.inj z)
def cS.ind{m1:D->V->List ai->Prop}{m2:List D->List V->List ai->Prop}(hs:∀ d v,(fl=true->d.flat=true)->Rep K Hs d v->m1 d v [])(hl:∀ a vs ds As,vs.length<=bI->H a=some (.lst vs)->aA K Hs H fl ds vs As->m2 ds vs As->m1 (.list ds) (.ref a) (a :: As)) (ht:∀ a vs ds As,vs.length<=bI->Hs a=some (.tup vs)->eJ ds=false->aA K Hs H fl ds vs As->m2 ds vs As->m1 (.tup ds) (.ref a) As)(hk:∀ a vs kvs As,Ur kvs->H a=some (.dK ((kvs.map (·.1)).zip vs))->aA K Hs H fl (kvs.map (·.2)) vs As->m2 (kvs.map (·.2)) vs As->m1 (.dK kvs) (.ref a) (a :: As)) (hT:∀ a vs kvs As,Us kvs->H a=some (.dT ((kvs.map (·.1)).zip vs))->aA K Hs H fl (kvs.map (·.2)) vs As->m2 (kvs.map (·.2)) vs As->m1 (.dT kvs) (.ref a) (a :: As))(hn:m2 [] [] []) (hc:∀ d v ds vs As Bs,cS K Hs H fl d v As->aA K Hs H fl ds vs Bs->m1 d v As->m2 ds vs Bs->m2 (d :: ds) (v :: vs) (As++Bs)):(∀ {d v As},cS K Hs H fl d v As->m1 d v As)/\∀ {ds vs As},aA K Hs H fl ds vs As->m2 ds vs As :=
 ⟨λr=>cS.rec (λf r=>hs _ _ f r) (λz s r ih=>hl _ _ _ _ z s r ih) (λz s n r ih=>ht _ _ _ _ z s n r ih) (λz s r ih=>hk _ _ _ _ z s r ih) (λz s r ih=>hT _ _ _ _ z s r ih) hn (λr s a b=>hc _ _ _ _ _ _ r s a b) r,
  λr=>aA.rec (λf r=>hs _ _ f r) (λz s r ih=>hl _ _ _ _ z s r ih) (λz s n r ih=>ht _ _ _ _ z s n r ih) (λz s r ih=>hk _ _ _ _ z s r ih) (λz s r ih=>hT _ _ _ _ z s r ih) hn (λr s a b=>hc _ _ _ _ _ _ r s a b) r⟩
def yk{a:ai}{p:Prop}(h:a∈([]:List ai)):p:=absurd h ND
def cS.cp':(∀ {d:D} {v:V} {As:List ai},cS K Hs H fl d v As->∀ a∈As,Own H a)/\∀ {ds:List D} {vs:List V} {As:List ai},aA K Hs H fl ds vs As->∀ a∈As,Own H a :=
 cS.ind (λ_ _ _ _ a h=>yk h) (λ_ _ _ _ _ e _ ih a h=>(eK.mp h).elim (λz=>z ▸ ⟨_,e,λ_ z=>nomatch z⟩) (ih a)) (λ_ _ _ _ _ _ _ _ ih=>ih) (λ_ _ _ _ _ e _ ih a h=>(eK.mp h).elim (λz=>z ▸ ⟨_,e,λ_ z=>nomatch z⟩) (ih a)) (λ_ _ _ _ _ e _ ih a h=>(eK.mp h).elim (λz=>z ▸ ⟨_,e,λ_ z=>nomatch z⟩) (ih a)) (λa h=>yk h) λ_ _ _ _ _ _ _ _ i1 i2 a h=>(fe.mp h).elim (i1 a) (i2 a)
def cS.own(r:cS K Hs H fl d v As):∀ a∈As,Own H a:=cS.cp'.1 r
def aA.own(r:aA K Hs H fl ds vs As):∀ a∈As,Own H a:=cS.cp'.2 r
def cS.JL(s:bP Hs aC):(∀ {d:D} {v:V} {As:List ai},cS K Hs H fl d v As->(∀ a∈As,H' a=H a)->cS K aC H' fl d v As)/\∀ {ds:List D} {vs:List V} {As:List ai},aA K Hs H fl ds vs As->(∀ a∈As,H' a=H a)->aA K aC H' fl ds vs As :=
 cS.ind (λ_ _ f r _=>.sh f (r.same s)) (λ_ _ _ _ z e _ ih k=>.list z ((k _ dz).trans e) (ih λa h=>k a (dP _ h))) (λ_ _ _ _ z e n _ ih k=>.tup z (s _ _ e) n (ih k)) (λ_ _ _ _ z e _ ih k=>.dK z ((k _ dz).trans e) (ih λa h=>k a (dP _ h))) (λ_ _ _ _ z e _ ih k=>.dT z ((k _ dz).trans e) (ih λa h=>k a (dP _ h))) (λ_=>.nil) λ_ _ _ _ _ _ _ _ i1 i2 k=>.cons (i1 λa h=>k a (mz _ h)) (i2 λa h=>k a (gX _ h))
def cS.fT(s:bP Hs aC)(r:cS K Hs H fl d v As)(k:∀ a∈As,H' a=H a):cS K aC H' fl d v As:=(cS.JL s).1 r k
def aA.fT(s:bP Hs aC)(r:aA K Hs H fl ds vs As)(k:∀ a∈As,H' a=H a):aA K aC H' fl ds vs As:=(cS.JL s).2 r k
def cS.grow(s:bP Hs aC)(t:bP H H')(r:cS K Hs H fl d v As):cS K aC H' fl d v As :=
 r.fT s λa h=>by
  cases e:H a with
  |none=>exact absurd e (r.own a h).ne
  |some o=>exact t a o e
def aA.grow(s:bP Hs aC)(t:bP H H')(r:aA K Hs H fl ds vs As):aA K aC H' fl ds vs As :=
 r.fT s λa h=>by
  cases e:H a with
  |none=>exact absurd e (r.own a h).ne
  |some o=>exact t a o e
def cS.rep2{G:Hp}(s:bP Hs G):(∀ {d:D} {v:V} {As:List ai},cS K Hs H fl d v As->(∀ a∈As,G a=H a)->Rep K G d v)/\∀ {ds:List D} {vs:List V} {As:List ai},aA K Hs H fl ds vs As->(∀ a∈As,G a=H a)->b5 K G ds vs :=
 cS.ind (λ_ _ _ r _=>r.same s) (λ_ _ _ _ z e _ ih k=>.list z (.inl (.inl ((k _ dz).trans e))) (ih λa h=>k a (dP _ h))) (λ_ _ _ _ z e n _ ih k=>.tup z (s _ _ e) (ih k)) (λ_ _ _ _ z e _ ih k=>.dK z (.inl ((k _ dz).trans e)) (ih λa h=>k a (dP _ h))) (λ_ _ _ _ z e _ ih k=>.dT z (.inl ((k _ dz).trans e)) (ih λa h=>k a (dP _ h))) (λ_=>.nil) λ_ _ _ _ _ _ _ _ i1 i2 k=>.cons (i1 λa h=>k a (mz _ h)) (i2 λa h=>k a (gX _ h))
def cS.rep(s:bP Hs G)(r:cS K Hs H fl d v As)(k:∀ a∈As,G a=H a):Rep K G d v:=(cS.rep2 s).1 r k
def aA.reps(s:bP Hs G)(r:aA K Hs H fl ds vs As)(k:∀ a∈As,G a=H a):b5 K G ds vs:=(cS.rep2 s).2 r k
def Rep.yJ(t:∀ a vs,H a=some (.tup vs)->G a=some (.tup vs)):(∀ {d:D} {v:V},Rep K H d v->d.flat=true->Rep K G d v)/\∀ {ds:List D} {vs:List V},b5 K H ds vs->eJ ds=true->b5 K G ds vs :=
 Rep.ind (λ_=>.non) (λb _=>.bl b) (λi _=>.int i) (λ_ h _=>.str h) (λ_ _ _ _ _ _ _ f=>by simp[D.flat] at f) (λ_ _ _ z e _ ih f=>.tup z (t _ _ e) (ih (by simpa[D.flat] using f))) (λ_ _ _ _ _ _ _ f=>by simp[D.flat] at f) (λ_ _ _ _ _ _ _ f=>by simp[D.flat] at f) (λ_=>.nil) λ_ _ _ _ _ _ i1 i2 f=>by simp only[eJ,n5] at f;exact .cons (i1 f.1) (i2 f.2)
def Rep.fH(t:∀ a vs,H a=some (.tup vs)->G a=some (.tup vs))(r:Rep K H d v)(f:d.flat=true):Rep K G d v:=(Rep.yJ t).1 r f
def b5.fH(t:∀ a vs,H a=some (.tup vs)->G a=some (.tup vs))(r:b5 K H ds vs)(f:eJ ds=true):b5 K G ds vs:=(Rep.yJ t).2 r f
def b5.owned(r:b5 K Hs ds vs)(f:eJ ds=true):aA K Hs H fl ds vs [] :=
 b5.ind (m:=λds vs=>eJ ds=true->aA K Hs H fl ds vs []) (λ_=>.nil) (λ_ _ _ _ h _ ih f=>by
  simp only[eJ,n5] at f;exact .cons (.sh (λ_=>f.1) h) (ih f.2)) r f
def b5.Je(r:b5 K Hs ds vs):aA K Hs H false ds vs [] :=
 b5.ind (m:=λds vs=>aA K Hs H false ds vs []) .nil (λ_ _ _ _ h _ ih=>.cons (.sh (λz=>Bool.noConfusion z) h) ih) r
def cS.cq':(∀ {d:D} {v:V} {As:List ai},cS K Hs H fl d v As->cS K Hs H false d v As)/\∀ {ds:List D} {vs:List V} {As:List ai},aA K Hs H fl ds vs As->aA K Hs H false ds vs As :=
 cS.ind (λ_ _ _ r=>.sh (λz=>Bool.noConfusion z) r) (λ_ _ _ _ z e _ ih=>.list z e ih) (λ_ _ _ _ z e n _ ih=>.tup z e n ih) (λ_ _ _ _ z e _ ih=>.dK z e ih) (λ_ _ _ _ z e _ ih=>.dT z e ih) .nil λ_ _ _ _ _ _ _ _ a b=>.cons a b
def cS.Ut(r:cS K Hs H fl d v As):cS K Hs H false d v As:=cS.cq'.1 r
def aA.Ut(r:aA K Hs H fl ds vs As):aA K Hs H false ds vs As:=cS.cq'.2 r
def cS.Ej(t:∀ a vs,Hs a=some (.tup vs)->G a=some (.tup vs)):(∀ {d:D} {v:V} {As:List ai},cS K Hs H true d v As->cS K G H true d v As)/\∀ {ds:List D} {vs:List V} {As:List ai},aA K Hs H true ds vs As->aA K G H true ds vs As :=
 cS.ind (λ_ _ f r=>.sh f (r.fH t (f rfl))) (λ_ _ _ _ z e _ ih=>.list z e ih) (λ_ _ _ _ z e n _ ih=>.tup z (t _ _ e) n ih) (λ_ _ _ _ z e _ ih=>.dK z e ih) (λ_ _ _ _ z e _ ih=>.dT z e ih) .nil λ_ _ _ _ _ _ _ _ a b=>.cons a b
def cS.leaves(t:∀ a vs,Hs a=some (.tup vs)->G a=some (.tup vs))(r:cS K Hs H true d v As):cS K G H true d v As:=(cS.Ej t).1 r
def aA.ind{m:List D->List V->List ai->Prop}(hn:m [] [] [])(hc:∀ d v ds vs As Bs,cS K Hs H fl d v As->aA K Hs H fl ds vs Bs->m ds vs Bs->m (d :: ds) (v :: vs) (As++Bs)):∀ {ds vs As},aA K Hs H fl ds vs As->m ds vs As :=
 λr=>(cS.ind (m1:=λ_ _ _=>True) (λ_ _ _ _=>trivial) (λ_ _ _ _ _ _ _ _=>trivial) (λ_ _ _ _ _ _ _ _ _=>trivial) (λ_ _ _ _ _ _ _ _=>trivial) (λ_ _ _ _ _ _ _ _=>trivial) hn λd v ds vs As Bs r s _ b=>hc d v ds vs As Bs r s b).2 r
def aA.append(r:aA K Hs H fl ds vs As)(t:aA K Hs H fl es ws Bs):aA K Hs H fl (ds++es) (vs++ws) (As++Bs) :=
 aA.ind (m:=λds vs As=>aA K Hs H fl (ds++es) (vs++ws) (As++Bs)) t (λ_ _ _ _ _ _ h _ ih=>by
  rw[AW];exact .cons h ih) r
def aA.n0(h:aA K Hs H fl [] vs As):vs=[]/\As=[]:=by cases h;exact⟨rfl,rfl⟩
def aA.c(h:aA K Hs H fl (d :: ds) vs As):∃ u us A B,vs=u :: us/\As=A++B/\cS K Hs H fl d u A/\aA K Hs H fl ds us B:=by
 cases h with
 |cons r rs=>exact⟨_,_,_,_,rfl,rfl,r,rs⟩
def aA.length(r:aA K Hs H fl ds vs As):ds.length=vs.length :=
 aA.ind (m:=λds vs _=>ds.length=vs.length) rfl (λ_ _ _ _ _ _ _ _ ih=>by rw[qh,qh,ih]) r
end
def jm':HO->Prop
 |.dK _=>False
 |.dT _=>False
 |.qE _ _=>False
 |_=>True
def cr'(H H':Hp):Prop:=∀ a o,jm' o->H a=some o->H' a=some o
structure ObP where
 is:Hp->Hp->ai->List ai->Prop
 fT:∀ {Hs aC H H':Hp} {a:ai} {As:List ai},cr' Hs aC->(∀ b∈As,H' b=H b)->is Hs H a As->is aC H' a As
 own:∀ {Hs H:Hp} {a:ai} {As:List ai},is Hs H a As->∀ b∈As,Own H b
def sW(s:bP H H'):cr' H H':=λa o _ e=>s a o e
inductive Sl where
 |sh (d:D)|ow (fl:Bool) (d:D)|lk (a:ai) (fl:Bool) (d:D)
 |xc (a:ai)
 |ob (a:ai) (p:ObP)
abbrev Env:=List (Option Sl)
inductive SR(K:aE)(Hs H:Hp):Env->St->List ai->Prop
 |nil:SR K Hs H [] [] []
 |non {ρ:Env} {σ:St} {ah:List ai} {o:Option V}:SR K Hs H ρ σ ah->SR K Hs H (none :: ρ) (o :: σ) ah
 |sh {ρ:Env} {σ:St} {ah:List ai} {d:D} {v:V}:Rep K Hs d v->SR K Hs H ρ σ ah->SR K Hs H (some (.sh d) :: ρ) (some v :: σ) ah
 |xc {ρ:Env} {σ:St} {ah:List ai} {a:ai}:SR K Hs H ρ σ ah->SR K Hs H (some (.xc a) :: ρ) (some (.ref a) :: σ) ah
 |ow {ρ:Env} {σ:St} {ah As:List ai} {fl:Bool} {d:D} {v:V}:As≠[]->cS K Hs H fl d v As->SR K Hs H ρ σ ah->SR K Hs H (some (.ow fl d) :: ρ) (some v :: σ) (As++ah)
 |lk {ρ:Env} {σ:St} {ah As:List ai} {a:ai} {fl:Bool} {d:D}:As≠[]->cS K Hs H fl d (.ref a) As->SR K Hs H ρ σ ah->SR K Hs H (some (.lk a fl d) :: ρ) (some (.ref a) :: σ) (As++ah)
 |ob {ρ:Env} {σ:St} {ah As:List ai} {a:ai} {p:ObP}:p.is Hs H a As->SR K Hs H ρ σ ah->SR K Hs H (some (.ob a p) :: ρ) (some (.ref a) :: σ) (As++ah)
structure Wf(Hs H:Hp):Prop where
 sub:bP Hs H
 lP:∀ a vs,H a=some (.tup vs)->Hs a=some (.tup vs)
structure fw(K:aE)(Hs:Hp)(ρ:Env)(σ:St)(H:Hp)(ah:List ai):Prop where
 sr:SR K Hs H ρ σ ah
 wf:Wf Hs H
 vv:ah.Nodup
 own:∀ a∈ah,Hs a=none
structure fR(Hs H aC H':Hp):Prop where
 all:bP H H'
 sh:bP Hs aC
 wf:Wf aC H'
 new:∀ a,aC a≠none->Hs a≠none\/H a=none
section
variable {K:aE}{Hs H aC H' cu' H'':Hp}
def fR.refl(w:Wf Hs H):fR Hs H Hs H:=⟨bP.refl _,bP.refl _,w,λ_ h=>.inl h⟩
def fR.trans(a:fR Hs H aC H')(b:fR aC H' cu' H''):fR Hs H cu' H'' :=
 ⟨a.all.trans b.all,a.sh.trans b.sh,b.wf,λc h=>by
  rcases b.new c h with h|h
  ·exact a.new c h
  ·exact .inr (a.all.free h)⟩
def fR.mS(g:fR Hs H aC H')(h:Hs a=none)(h':H a≠none):aC a=none:=by
 cases e:aC a with
 |none=>rfl
 |some o =>
  rcases g.new a (by rw[e];exact λz=>nomatch z) with z|z
  ·exact absurd h z
  ·exact absurd z h'
def SR.own{ρ:Env}{σ:St}{ah:List ai}(s:SR K Hs H ρ σ ah):∀ a∈ah,Own H a:=by
 induction s with
 |nil=>exact λa h=>yk h
 |non _ ih=>exact ih
 |sh _ _ ih=>exact ih
 |xc _ ih=>exact ih
 |ow _ r _ ih=>exact λa h=>(fe.mp h).elim (r.own a) (ih a)
 |lk _ r _ ih=>exact λa h=>(fe.mp h).elim (r.own a) (ih a)
 |@ob _ _ _ _ _ p r _ ih=>exact λa h=>(fe.mp h).elim (p.own r a) (ih a)
def SR.fT(s:bP Hs aC)(r:SR K Hs H ρ σ ah):(∀ a∈ah,H' a=H a)->SR K aC H' ρ σ ah:=by
 induction r with
 |nil=>exact λ_=>.nil
 |non _ ih=>exact λk=>.non (ih k)
 |sh h _ ih=>exact λk=>.sh (h.same s) (ih k)
 |xc _ ih=>exact λk=>.xc (ih k)
 |ow ne h _ ih=>exact λk=>.ow ne (h.fT s λa m=>k a (mz _ m)) (ih λa m=>k a (gX _ m))
 |lk ne h _ ih=>exact λk=>.lk ne (h.fT s λa m=>k a (mz _ m)) (ih λa m=>k a (gX _ m))
 |@ob _ _ _ _ _ p h _ ih=>exact λk=>.ob (p.fT (sW s) (λa m=>k a (mz _ m)) h) (ih λa m=>k a (gX _ m))
def fw.grow(r:fw K Hs ρ σ H ah)(g:fR Hs H aC H'):fw K aC ρ σ H' ah :=
 ⟨r.sr.fT g.sh λa h=>by
  cases e:H a with
  |none=>exact absurd e (r.sr.own a h).ne
  |some o=>exact g.all a o e,g.wf,r.vv,λa h=>g.mS (r.own a h) (r.sr.own a h).ne⟩
def Bv(K:aE)(Hs H:Hp)(ah:List ai)(sl:Sl)(v:V):Prop:=match sl with
 |.sh d=>Rep K Hs d v
 |.ow fl d=>∃ As,As≠[]/\cS K Hs H fl d v As/\∀ a∈As,a∈ah
 |.lk a fl d=>∃ As,As≠[]/\cS K Hs H fl d v As/\v=.ref a/\∀ a∈As,a∈ah
 |.xc a=>v=.ref a
 |.ob a p=>v=.ref a/\∃ As,p.is Hs H a As/\∀ a∈As,a∈ah
def Bv.mono(h:Bv K Hs H ah sl v)(m:∀ a∈ah,a∈dE):Bv K Hs H dE sl v:=by
 cases sl with
 |sh d=>exact h
 |xc a=>exact h
 |ow fl d =>obtain⟨As,ne,r,q⟩:=h;exact⟨As,ne,r,λa ha=>m a (q a ha)⟩
 |lk a fl d =>obtain⟨As,ne,r,e,q⟩:=h;exact⟨As,ne,r,e,λa ha=>m a (q a ha)⟩
 |ob a p =>obtain⟨e,As,r,q⟩:=h;exact⟨e,As,r,λa ha=>m a (q a ha)⟩
def SR.get{ρ:Env}{σ:St}{ah:List ai}{i:Nat}{sl:Sl}(s:SR K Hs H ρ σ ah)(e:ρ[i]? = some (some sl)):∃ v,σ[i]? = some (some v)/\Bv K Hs H ah sl v:=by
 induction s generalizing i with
 |nil=>simp at e
 |non s ih =>
  cases i with
  |zero=>simp at e
  |succ i=>exact ih e
 |sh r s ih =>
  cases i with
  |zero=>simp at e;subst e;exact⟨_,rfl,r⟩
  |succ i=>exact ih e
 |xc s ih =>
  cases i with
  |zero=>simp at e;subst e;exact⟨_,rfl,rfl⟩
  |succ i=>exact ih e
 |ow ne r s ih =>
  cases i with
  |zero=>simp at e;subst e;exact⟨_,rfl,_,ne,r,λa m=>mz _ m⟩
  |succ i =>obtain⟨v,e1,h⟩:=ih e;exact⟨v,e1,h.mono λa m=>gX _ m⟩
 |lk ne r s ih =>
  cases i with
  |zero=>simp at e;subst e;exact⟨_,rfl,_,ne,r,rfl,λa m=>mz _ m⟩
  |succ i =>obtain⟨v,e1,h⟩:=ih e;exact⟨v,e1,h.mono λa m=>gX _ m⟩
 |ob r s ih =>
  cases i with
  |zero=>simp at e;subst e;exact⟨_,rfl,rfl,_,r,λa m=>mz _ m⟩
  |succ i =>obtain⟨v,e1,h⟩:=ih e;exact⟨v,e1,h.mono λa m=>gX _ m⟩
end
inductive Md where
 |sh|ow (fl:Bool)|bo
def RM(K:aE)(Hs H:Hp):Md->D->V->List ai->Prop
 |.sh,d,v,As=>As=[]/\Rep K Hs d v
 |.ow fl,d,v,As=>cS K Hs H fl d v As/\As≠[]
 |.bo,d,v,As=>As=[]/\Rep K H d v
inductive BF(K:aE)(Hs H:Hp):List (Md × D)->List V->List ai->Prop
 |nil:BF K Hs H [] [] []
 |cons {m:Md} {d:D} {v:V} {ps:List (Md × D)} {vs:List V} {As Bs:List ai}:RM K Hs H m d v As->BF K Hs H ps vs Bs->BF K Hs H ((m,d) :: ps) (v :: vs) (As++Bs)
section
variable {K:aE}{Hs H aC H':Hp}
def RM.own{m:Md}{d:D}{v:V}{As:List ai}(r:RM K Hs H m d v As):∀ a∈As,Own H a:=by
 cases m with
 |sh=>obtain⟨rfl,_⟩:=r;exact λa h=>yk h
 |ow fl=>exact cS.own r.1
 |bo=>obtain⟨rfl,_⟩:=r;exact λa h=>yk h
def RM.grow(r:RM K Hs H m d v As)(g:fR Hs H aC H'):RM K aC H' m d v As:=by
 cases m with
 |sh=>exact⟨r.1,r.2.same g.sh⟩
 |ow fl=>exact⟨cS.grow g.sh g.all r.1,r.2⟩
 |bo=>exact⟨r.1,r.2.same g.all⟩
def RM.rep(w:Wf Hs H)(r:RM K Hs H m d v As):Rep K H d v:=by
 cases m with
 |sh=>exact r.2.same w.sub
 |ow fl=>exact cS.rep w.sub r.1 λ_ _=>rfl
 |bo=>exact r.2
def RM.flat(w:Wf Hs H)(r:RM K Hs H m d v As)(f:d.flat=true):Rep K Hs d v:=(r.rep w).fH w.lP f
def BF.reps(w:Wf Hs H){ps:List (Md × D)}(r:BF K Hs H ps vs As):b5 K H (ps.map (·.2)) vs:=by
 induction r with
 |nil=>exact .nil
 |cons r _ ih=>exact .cons (r.rep w) ih
end
abbrev WE:=Env->(Md->D->Prop)->Prop
abbrev WT:=Env->(Bool->Prop)->Prop
abbrev WA:=Env->(List (Md × D)->Prop)->Prop
structure jD where
 nx:Env->Prop
 rt:Md->D->Prop
 bk:Env->Prop:=fun _=>False
 ct:Env->Prop:=fun _=>False
abbrev WS:=jD->Env->Prop
def cM(aC H:Hp)(As:List ai):Prop:=As.Nodup/\∀ a∈As,aC a=none/\H a=none
def om(K:aE)(t:WE):TE:=λσ H Qv=>∃ Hs ρ ah Q,fw K Hs ρ σ H ah/\t ρ Q /\
 ∀ v H' aC m d As,fR Hs H aC H'->RM K aC H' m d v As->cM aC H As->Q m d->Qv v H'
def Fh(K:aE)(t:WT):TT:=λσ H Qv=>∃ Hs ρ ah Q,fw K Hs ρ σ H ah/\t ρ Q/\∀ b H' aC,fR Hs H aC H'->Q b->Qv b H'
def tpA(K:aE)(t:WA):TA:=λσ H Qv=>∃ Hs ρ ah Q,fw K Hs ρ σ H ah/\t ρ Q /\
 ∀ vs H' aC ps As,fR Hs H aC H'->BF K aC H' ps vs As->cM aC H As->Q ps->Qv vs H'
def DL(K:aE)(L:Str->Hp->Prop)(t:WS):TS:=λD σ H=>∃ Hs ρ ah E,fw K Hs ρ σ H ah/\t E ρ /\ (∀ cK H' aC dk dE,bP Hs aC->fw K aC dk cK H' dE->E.nx dk->D.nx cK H') /\ (∀ cK H' aC dk dE,bP Hs aC->fw K aC dk cK H' dE->E.bk dk->D.bk cK H') /\ (∀ cK H' aC dk dE,bP Hs aC->fw K aC dk cK H' dE->E.ct dk->D.ct cK H') /\ (∀ v H' aC m d As,bP Hs aC->Wf aC H'->RM K aC H' m d v As->As.Nodup->(∀ a∈As,aC a=none)->E.rt m d->D.rt v H') /\
 ∀ n H',bP Hs H'->E.rt (.ow false) (.str n)->L n H'
def oX{K:aE}{L:Str->Hp->Prop}{t:WS}{D:Ends}{σ:St}{H:Hp}{G:Prop}(x:DL K L t D σ H)(k:∀ Hs ρ ah E,fw K Hs ρ σ H ah->t E ρ -> (∀ cK H' aC dk dE,bP Hs aC->fw K aC dk cK H' dE->E.nx dk->D.nx cK H') -> (∀ cK H' aC dk dE,bP Hs aC->fw K aC dk cK H' dE->E.bk dk->D.bk cK H') -> (∀ cK H' aC dk dE,bP Hs aC->fw K aC dk cK H' dE->E.ct dk->D.ct cK H') -> (∀ v H' aC m d As,bP Hs aC->Wf aC H'->RM K aC H' m d v As->As.Nodup->(∀ a∈As,aC a=none)->E.rt m d->D.rt v H') -> (∀ n H',bP Hs H'->E.rt (.ow false) (.str n)->L n H')->G):G :=
 by
 obtain⟨Hs,ρ,ah,E,sr,h,k1,k2,k3,k4,kx⟩:=x;exact k Hs ρ ah E sr h k1 k2 k3 k4 kx
def bY{K:aE}{L:Str->Hp->Prop}{t:WS}{D:Ends}{σ:St}{H:Hp}{G:Prop}(x:DL K L t D σ H)(k:∀ Hs ρ ah E,fw K Hs ρ σ H ah->t E ρ -> (∀ cK H' aC dk dE,bP Hs aC->fw K aC dk cK H' dE->E.nx dk->D.nx cK H') -> (∀ cK H' aC dk dE,bP Hs aC->fw K aC dk cK H' dE->E.bk dk->D.bk cK H') -> (∀ cK H' aC dk dE,bP Hs aC->fw K aC dk cK H' dE->E.ct dk->D.ct cK H') -> (∀ v H' aC m d As,bP Hs aC->Wf aC H'->RM K aC H' m d v As->As.Nodup->(∀ a∈As,aC a=none)->E.rt m d->D.rt v H')->G):G :=
 oX x λHs ρ ah E sr h k1 k2 k3 k4 _=>k Hs ρ ah E sr h k1 k2 k3 k4
def k7{α β γ δ:Type _}{A B C:α->β->γ->δ->Prop}{G:Prop}(x:∃ a b c d,A a b c d/\B a b c d/\C a b c d)(k:∀ a b c d,A a b c d->B a b c d->C a b c d->G):G :=
 by
 obtain⟨a,b,c,d,p,q,r⟩:=x;exact k a b c d p q r
abbrev QE(X:Cx)(K:aE)(e:Expr)(t:WE):Prop:=PE X e (om K t)
abbrev QT(X:Cx)(K:aE)(e:Expr)(t:WT):Prop:=PT X e (Fh K t)
abbrev QW(X:Cx)(K:aE)(e:Expr)(t:WT):Prop:=PW X e (Fh K t)
abbrev QA(X:Cx)(K:aE)(es:List Expr)(t:WA):Prop:=PA X es (tpA K t)
abbrev QS(X:Cx)(K:aE)(L:Str->Hp->Prop)(st:Stmt)(t:WS):Prop:=PS X st (DL K L t)
abbrev AB(X:Cx)(K:aE)(L:Str->Hp->Prop)(st:List Stmt)(t:WS):Prop:=n9 X st (DL K L t)
abbrev L0:Str->Hp->Prop:=λ_ _=>True
end L2.Q
namespace L2.Q
structure Kt{α:Type}(f:α->Prop):Type where
def dy{α:Type}(a:α){f:α->Prop}(_:Kt f):Prop:=f a
mutual
def D.py:D->eC
 |.non=>.none
 |.bl b=>.bool b
 |.int i=>.int i
 |.str x=>.str x
 |.list xs=>.list (oz xs)
 |.tup xs=>.tuple (oz xs)
 |.dK _=>.none
 |.dT _=>.none
def oz:List D->List eC
 |[]=>[]
 |x :: xs=>x.py :: oz xs
end
def dc:Nat->D->Bool
 |_,.non=>true
 |_,.bl _=>true
 |_,.int _=>true
 |_,.str x=>PyData.strOk x
 |n+1,.list xs=>xs.all (dc n)
 |n+1,.tup xs=>xs.all (dc n)
 |_,_=>false
def js(x y:D):Bool:=PyData.eqv x.py y.py
def D.ty:D->String
 |.non => "NoneType"
 |.bl _ => "bool"
 |.int _ => "int"
 |.str _ => "str"
 |.list _ => "list"
 |.tup _ => "tuple"
 |.dK _ => "dict"
 |.dT _ => "dict"
def D.key1:D->Option Key
 |.int i=>some (.inl i)
 |.str x=>some (.inr x)
 |_=>none
def gq:List D->Option (List Key)
 |[]=>some []
 |x :: xs=>match x.key1,gq xs with
  |some k,some ks=>some (k :: ks)
  |_,_=>none
section
variable {κ:Type}[DecidableEq κ]{β:Type}
def fI(kvs:List (κ × β))(k:κ):Option β:=(kvs.find? λkv=>decide (kv.1=k)).map (·.2)
def oo(kvs:List (κ × β))(k:κ)(v:β):List (κ × β) :=
 if (kvs.any λkv=>decide (kv.1=k))=true then kvs.map (λkv=>if kv.1=k then (kv.1,v) else kv) else kvs++[(k,v)]
end
def Rep.W4{K:aE}:(∀ {d:D} {v:V},Rep K H d v->∀ n,dc n d=true->L2.Rep K H d.py v)/\∀ {ds:List D} {vs:List V},b5 K H ds vs->∀ n,(∀ d∈ds,dc n d=true)->L2.b5 K H (oz ds) vs :=
 Rep.ind (λ_ _=>.none) (λb _ _=>.bool b) (λi _ _=>.int i) (λ_ _ _ _=>.str _) (λ_ _ _ _ h _ ih n o=>by
   cases n with
   |zero=>simp[dc] at o
   |succ n=>exact .list h (ih n (by simpa[dc] using o)))
  (λ_ _ _ _ h _ ih n o=>by
   cases n with
   |zero=>simp[dc] at o
   |succ n=>exact .tuple (.inl (.inl h)) (ih n (by simpa[dc] using o)))
  (λ_ _ _ _ _ _ _ n o=>by cases n<;>simp[dc] at o) (λ_ _ _ _ _ _ _ n o=>by cases n<;>simp[dc] at o) (λ_ _=>.nil)
  λ_ _ _ _ _ _ i1 i2 n o=>.cons (i1 n (o _ dz)) (i2 n λd m=>o d (dP _ m))
def Rep.l2{K:aE}(r:Rep K H d v)(o:dc n d=true):L2.Rep K H d.py v:=Rep.W4.1 r n o
def xM(ih:∀ d,dc n d=true->d.py.canLay0=true/\d.py.depth<=n)(xs:List D)(h:∀ x∈xs,dc n x=true):PyData.canLayAll0 (oz xs)=true/\PyData.depthAll (oz xs)<=n:=by
 induction xs with
 |nil=>exact⟨rfl,fS _⟩
 |cons x xs W5 =>have h1:=ih x (h x dz);have h2:=W5 λy hy=>h y (dP _ hy);simp only[oz,PyData.canLayAll0,PyData.depthAll,h1.1,h2.1,Bool.and_self,true_and];lia
def ju(n:Nat):∀ (d:D),dc n d=true->d.py.canLay0=true/\d.py.depth<=n:=by
 have st:∀ n x,dc n (.str x)=true->(D.str x).py.canLay0=true/\(D.str x).py.depth<=n:=λn x h=>by
  have h:PyData.strOk x=true:=by cases n<;>simpa[dc] using h
  exact⟨by simpa[D.py,PyData.canLay0] using h,fS _⟩
 induction n with
 |zero =>
  intro d h
  cases d with
  |str x=>exact st _ x h
  |non=>exact⟨rfl,fS _⟩
  |bl _=>exact⟨rfl,fS _⟩
  |int _=>exact⟨rfl,fS _⟩
  |_=>simp[dc] at h
 |succ n ih =>
  intro d h
  cases d with
  |str x=>exact st _ x h
  |non=>exact⟨rfl,fS _⟩
  |bl _=>exact⟨rfl,fS _⟩
  |int _=>exact⟨rfl,fS _⟩
  |list xs =>
   have h:∀ x∈xs,dc n x=true:=by simpa[dc] using h
   have:=xM ih xs h;simp only[D.py,PyData.canLay0,PyData.depth];exact⟨this.1,by lia⟩
  |tup xs =>
   have h:∀ x∈xs,dc n x=true:=by simpa[dc] using h
   have:=xM ih xs h;simp only[D.py,PyData.canLay0,PyData.depth];exact⟨this.1,by lia⟩
  |dK _=>simp[dc] at h
  |dT _=>simp[dc] at h
mutual
def D.nb:D->Bool
 |.bl _=>false
 |.list xs=>oq xs
 |.tup xs=>oq xs
 |.dK _=>false
 |.dT _=>false
 |_=>true
def oq:List D->Bool
 |[]=>true
 |x :: xs=>x.nb && oq xs
end
mutual
theorem cC:∀ (x y:D),x.nb=true->y.nb=true->(js x y=true↔x=y)
 |.non,y,_,hy=>by cases y<;>simp_all [js,D.py,PyData.eqv,D.nb]
 |.bl _,y,hx,_=>by simp[D.nb] at hx
 |.int i,y,_,hy=>by cases y<;>simp_all [js,D.py,PyData.eqv,D.nb]
 |.str i,y,_,hy=>by cases y<;>simp_all [js,D.py,PyData.eqv,D.nb]
 |.dK _,y,hx,_=>by simp[D.nb] at hx
 |.dT _,y,hx,_=>by simp[D.nb] at hx
 |.list xs,y,hx,hy=>by
  cases y with
  |list ys =>have:=pH xs ys (by simpa[D.nb] using hx) (by simpa[D.nb] using hy);simp only[js,D.py,PyData.eqv,D.list.injEq];exact this
  |_=>simp_all [js,D.py,PyData.eqv,D.nb]
 |.tup xs,y,hx,hy=>by
  cases y with
  |tup ys =>have:=pH xs ys (by simpa[D.nb] using hx) (by simpa[D.nb] using hy);simp only[js,D.py,PyData.eqv,D.tup.injEq];exact this
  |_=>simp_all [js,D.py,PyData.eqv,D.nb]
theorem pH:∀ (xs ys:List D),oq xs=true->oq ys=true->(PyData.eqvAll (oz xs) (oz ys)=true↔xs=ys)
 |[],[],_,_=>by simp[oz,PyData.eqvAll]
 |[],_ :: _,_,_=>by simp[oz,PyData.eqvAll]
 |_ :: _,[],_,_=>by simp[oz,PyData.eqvAll]
 |x :: xs,y :: ys,hx,hy=>by simp only[oq,n5] at hx hy;have h1:=cC x y hx.1 hy.1;have h2:=pH xs ys hx.2 hy.2;simp only[oz,PyData.eqvAll,n5,List.cons.injEq];exact and_congr h1 h2
end
section
variable {K:aE}{H:Hp}
def Rep.key(r:Rep K H d v)(h:d.key1=some k):v=kV k:=by cases r<;>simp[D.key1] at h<;>subst h<;>rfl
def b5.keys(r:b5 K H ds vs)(h:gq ds=some ks):vs=ks.map kV:=by
 induction ds generalizing vs ks with
 |nil=>simp[gq] at h;subst h;exact r.n0
 |cons d ds ih =>
  obtain⟨u,us,rfl,r,rs⟩:=r.c;unfold gq at h
  cases e1:d.key1 with
  |none=>rw[e1] at h;simp at h
  |some k =>
   cases e2:gq ds with
   |none=>rw[e1,e2] at h;simp at h
   |some eS =>rw[e1,e2] at h;simp at h;subst h;rw[gS,r.key e1,ih rs e2]
def Rep.kM(r:Rep K H (.tup ds) v)(h:gq ds=some ks):∃ b,v=.ref b/\H b=some (.tup (ks.map kV)):=by
 cases r with
 |tup _ e rs=>exact⟨_,rfl,by rw[e,rs.keys h]⟩
end
section
variable {κ:Type}[DecidableEq κ]{K:aE}{H:Hp}
def zip_get{k:κ}{kvs:List (κ × D)}{vs:List V}(h:b5 K H (kvs.map (·.2)) vs):match fI kvs k with
  |some d=>∃ v,mP ((kvs.map (·.1)).zip vs) k=some v/\Rep K H d v
  |none=>mP ((kvs.map (·.1)).zip vs) k=none:=by
 induction kvs generalizing vs with
 |nil=>rfl
 |cons p kvs ih =>
  obtain⟨u,us,rfl,r,rs⟩:=b5.c h;by_cases e:p.1=k
  ·have e1:fI (p :: kvs) k=some p.2:=by simp[fI,e]
   rw[e1];exact⟨_,by simp only[gS,NC];exact TV e,r⟩
  ·have e1:fI (p :: kvs) k=fI kvs k:=by simp[fI,e]
   rw[e1];have:=ih rs;simp only[gS,NC,TX (p:=(p.1,_)) e];exact this
def GK{k:κ}{kvs:List (κ × D)}{vs:List V}(h:kvs.length=vs.length):((kvs.map (·.1)).zip vs).any (λkv=>decide (kv.1=k))=kvs.any λkv=>decide (kv.1=k):=by
 induction kvs generalizing vs with
 |nil=>rfl
 |cons p kvs ih =>
  cases vs with
  |nil=>simp at h
  |cons v vs =>simp only[gS,NC,CC];rw[ih (by simpa using h)]
end
section
variable {K:aE}{Hs H:Hp}
def Rk(w:Wf Hs H)(hp:H p=none)(ho:∀ vs,o≠.tup vs):fR Hs H Hs (upd H p o) :=
 ⟨(bP.refl H).upd hp,bP.refl _,⟨w.sub.upd hp,λa vs e=>by
  by_cases h:a=p
  ·subst h;rw[kf] at e;exact absurd (Option.some.inj e) (ho vs)
  ·rw[h9 h] at e;exact w.lP a vs e⟩,λ_ h=>.inl h⟩
def W6(w:Wf Hs H)(hp:H p=none):fR Hs H (upd Hs p (.tup vs)) (upd H p (.tup vs)) :=
 ⟨(bP.refl H).upd hp,(bP.refl Hs).upd (w.sub.free hp),⟨λa o e=>by
  by_cases h:a=p
  ·subst h;rw[kf] at e ⊢;exact e
  ·rw[h9 h] at e ⊢;exact w.sub a o e,λa vs e=>by
  by_cases h:a=p
  ·subst h;rw[kf] at e ⊢;exact e
  ·rw[h9 h] at e ⊢;exact w.lP a vs e⟩,λa h=>by
  by_cases e:a=p
  ·subst e;exact .inr hp
  ·rw[h9 e] at h;exact .inl h⟩
def cM.nil:cM Hs H []:=⟨qk,λa h=>nomatch h⟩
def cM.of(s:bP H H')(f:cM Hs H' As):cM Hs H As:=⟨f.1,λa h=>⟨(f.2 a h).1,s.free (f.2 a h).2⟩⟩
abbrev Fin(K:aE)(Hs H:Hp)(Qd:Md->D->Prop)(Qv:VK):Prop:=∀ v H' aC m d As,fR Hs H aC H'->RM K aC H' m d v As->cM aC H As->Qd m d->Qv v H'
def Fin.after(f:Fin K Hs H Qd Qv)(g:fR Hs H aC H'):Fin K aC H' Qd Qv:=λv H2 aS m d As g2 r fr q=>f v H2 aS m d As (g.trans g2) r (fr.of g.all) q
def Fin.sh(f:Fin K Hs H Qd Qv)(w:Wf Hs H)(r:Rep K Hs d v)(q:Qd .sh d):Qv v H:=f v H Hs .sh d [] (fR.refl w) ⟨rfl,r⟩ cM.nil q
def Fin.flat(f:Fin K Hs H Qd Qv)(w:Wf Hs H)(r:Rep K H d v)(hf:d.flat=true)(q:Qd .sh d):Qv v H:=f.sh w (r.fH w.lP hf) q
def Fin.bo(f:Fin K Hs H Qd Qv)(w:Wf Hs H)(r:Rep K H d v)(q:Qd .bo d):Qv v H:=f v H Hs .bo d [] (fR.refl w) ⟨rfl,r⟩ cM.nil q
def tP(m:Md)(d:D):Md:=match m with
 |.sh=>.sh
 |_=>bif d.flat then .sh else .bo
def Fin.tP(f:Fin K Hs H Qd Qv)(w:Wf Hs H)(r:Rep K H d v)(rs:m=.sh->Rep K Hs d v)(q:Qd (tP m d) d):Qv v H:=by
 have o:Qd (bif d.flat then .sh else .bo) d->Qv v H:=λq=>by
  cases hf:d.flat with
  |true=>exact f.flat w r hf (by simpa[hf] using q)
  |false=>exact f.bo w r (by simpa[hf] using q)
 cases m with
 |sh=>exact f.sh w (rs rfl) q
 |_=>exact o q
def Fin.lst(f:Fin K Hs H Qd Qv)(w:Wf Hs H)(hz:ds.length<=bI)(r:b5 K H ds vs)(hf:eJ ds=true)(q:Qd (.ow true) (.list ds)):∀ p,H p=none->Qv (.ref p) (upd H p (.lst vs)):=λp hp =>
 f _ _ Hs (.ow true) (.list ds) [p] (Rk w hp λ_ z=>nomatch z) ⟨.list (by rw[<- r.length];exact hz) kf ((r.fH w.lP hf).owned hf),by simp⟩ ⟨by simp,λa h=>by
  obtain rfl:a=p:=by simpa using h
  exact⟨w.sub.free hp,hp⟩⟩ q
def Fin.Rl(f:Fin K Hs H Qd Qv)(w:Wf Hs H)(hz:ds.length<=bI)(r:b5 K Hs ds vs)(q:Qd (.ow false) (.list ds)):∀ p,H p=none->Qv (.ref p) (upd H p (.lst vs)):=λp hp =>
 f _ _ Hs (.ow false) (.list ds) [p] (Rk w hp λ_ z=>nomatch z) ⟨.list (by rw[<- r.length];exact hz) kf r.Je,by simp⟩ ⟨by simp,λa h=>by
  obtain rfl:a=p:=by simpa using h
  exact⟨w.sub.free hp,hp⟩⟩ q
def Fin.tup(f:Fin K Hs H Qd Qv)(w:Wf Hs H)(hz:ds.length<=bI)(r:b5 K H ds vs)(hf:eJ ds=true)(q:Qd .sh (.tup ds)):∀ p,H p=none->Qv (.ref p) (upd H p (.tup vs)):=λp hp =>
 f _ _ (upd Hs p (.tup vs)) .sh (.tup ds) [] (W6 w hp) ⟨rfl,.tup (by rw[<- r.length];exact hz) kf ((r.fH w.lP hf).same ((bP.refl Hs).upd (w.sub.free hp)))⟩ cM.nil q
end
section
variable {X:Cx}{K:aE}
def PE.imp(h:PE X e te)(i:∀ σ H Q,yn σ H Q->te σ H Q):PE X e yn:=λpins s σ H Q I q=>h pins s σ H Q I (i σ H Q q)
def PT.imp(h:PT X e te)(i:∀ σ H Q,yn σ H Q->te σ H Q):PT X e yn:=λpins s σ H Q I q=>h pins s σ H Q I (i σ H Q q)
def PW.imp(h:PW X e te)(i:∀ σ H Q,yn σ H Q->te σ H Q):PW X e yn:=λwh pins s σ H Q I q=>h wh pins s σ H Q I (i σ H Q q)
def PA.imp(h:PA X e te)(i:∀ σ H Q,yn σ H Q->te σ H Q):PA X e yn:=λp pins s σ H Q I q=>h p pins s σ H Q I (i σ H Q q)
def Uu:Option (Option Sl)->(Md->D->Prop)->Prop
 |some (some (.sh d)),Q=>Q .sh d
 |some (some (.ow _ d)),Q=>Q .bo d
 |some (some (.lk _ _ d)),Q=>Q .bo d
 |_,_=>False
def ag(i:Nat):WE:=λρ Q=>Uu ρ[i]? Q
def Ls(h:PE X e (GB i)):QE X K e (ag i):=by
 refine PE.imp h λσ H Qv hx=>k7 hx λHs ρ ah Q sr h f=>?_;unfold ag at h
 cases e:ρ[i]? with
 |none=>rw[e] at h;exact h.elim
 |some o =>
  cases o with
  |none=>rw[e] at h;exact h.elim
  |some sl =>
   obtain⟨v,e1,r⟩:=sr.sr.get e;rw[e] at h
   cases sl with
   |sh d=>exact⟨v,e1,Fin.sh f sr.wf r h⟩
   |xc a=>exact h.elim
   |ob a p=>exact h.elim
   |ow fl d =>obtain⟨As,_,r,_⟩:=r;exact⟨v,e1,Fin.bo f sr.wf (r.rep sr.wf.sub λ_ _=>rfl) h⟩
   |lk a fl d =>obtain⟨As,_,r,_⟩:=r;exact⟨v,e1,Fin.bo f sr.wf (r.rep sr.wf.sub λ_ _=>rfl) h⟩
def qv (i:Nat) (hN:autoParam (X.N[i]? = some x) bv) (hv:Tg X.env.scope x:=by first|exact Or.inl rfl|exact Or.inr (Or.inl rfl)|exact Or.inr (Or.inr rfl)) (hd:(x == ("__debug__" : Str))=false:=by decide) (u0:(x == ("__classdict__" : Str))=false:=by decide):QE X K (.Name x pos) (ag i):=Ls (aC' hN hv hd u0)
def wC(d:D):WE:=λ_ Q=>Q .sh d
def vR(h:PE X e (tC v))(r:∀ H,Rep K H d v):QE X K e (wC d) :=
 PE.imp h λσ H Qv hx=>k7 hx λHs ρ ah Q sr h f=>Fin.sh f sr.wf (r _) h
def ao{i j pos}:QE X K (.Constant (.int i) j pos) (wC (.int i)):=vR eh' λ_=>.int i
def gJ{i j pos}(h:i.length<=bI:=by decide):QE X K (.Constant (.str i) j pos) (wC (.str i)):=vR el' λ_=>.str h
def Rm{i j pos}:QE X K (.Constant (.bool i) j pos) (wC (.bl i)):=vR ej' λ_=>.bl i
def Ip{j pos}:QE X K (.Constant .none j pos) (wC .non):=vR ek' λ_=>.non
def cx' (h:Uh X.mg x z) (hg:autoParam (Gl X x) bv) (hd:(x == ("__debug__" : Str))=false:=by decide) (hz:z.length<=bI:=by decide):QE X K (.Name x pos) (wC (.str z)):=vR (KY h hg hd) λ_=>.str hz
def Uv (h:OV X.mg x i) (hg:autoParam (Gl X x) bv) (hd:(x == ("__debug__" : Str))=false:=by decide):QE X K (.Name x pos) (wC (.int i)):=vR (KQ h hg hd) λ_=>.int i
abbrev W2:=Md->D->Md->D->(Md->D->Prop)->Prop
abbrev W1:=Md->D->(Md->D->Prop)->Prop
def ng(K:aE)(r:R2)(f:W2):Prop:=∀ Hs H m x v As n y u Bs Qd Qv,Wf Hs H->RM K Hs H m x v As->RM K Hs H n y u Bs->f m x n y Qd->Fin K Hs H Qd Qv->r v u H Qv
def Pt(K:aE)(r:V->Hp->VK->Prop)(f:W1):Prop:=∀ Hs H m x v As Qd Qv,Wf Hs H->RM K Hs H m x v As->f m x Qd->Fin K Hs H Qd Qv->r v H Qv
def aw(f:W2)(ta tb:WE):WE:=λρ Q=>ta ρ λm x=>tb ρ λn y=>f m x n y Q
def f7(f:W1)(ta:WE):WE:=λρ Q=>ta ρ λm x=>f m x Q
variable {a b:Expr}{ta tb tc:WE}{pos:Pos}
def lK(br:ng K r f)(σ:St)(H:Hp)(Qv:VK)(h:om K (aw f ta tb) σ H Qv):QD r (om K ta) (om K tb) σ H Qv:=by obtain⟨Hs,ρ,ah,Q,sr,h,fin⟩:=h;exact⟨Hs,ρ,ah,_,sr,h,λv H1 aT m x As g1 r1 f1 q1=>⟨aT,ρ,ah,_,sr.grow g1,q1,λu H2 aS n y Bs g2 r2 f2 q2=>br aS H2 m x v As n y u Bs Q Qv g2.wf (r1.grow g2) r2 q2 (Fin.after fin (g1.trans g2))⟩⟩
def Rn(ho:fi X (rX op) r)(br:ng K r f)(ha:QE X K a ta)(hb:QE X K b tb):QE X K (.BinOp a op b pos) (aw f ta tb):=PE.imp (fi' ho ha hb) (lK br)
def jn'(ho:TB X (unaryOp op) r)(br:Pt K r f)(ha:QE X K a ta):QE X K (.UnaryOp op a pos) (f7 f ta):=by exact PE.imp (fj' ho ha) λσ H Qv hx=>k7 hx λHs ρ ah Q sr h fin=>⟨Hs,ρ,ah,_,sr,h,λv H1 aT m x As g1 r1 f1 q1=>br aT H1 m x v As Q Qv g1.wf r1 q1 (Fin.after fin g1)⟩
def xZ(ho:fi X (iE op) r)(br:ng K r f)(ha:QE X K a ta)(hb:QE X K b tb)(hm:MZ op b=false:=by first|exact aT' _|rfl):QE X K (.Compare a [op] [b] pos) (aw f ta tb):=PE.imp (fD' ho ha hb hm) (lK br)
def wB(t:WE):WT:=λρ Q=>t ρ λ_ x=>match x with
 |.bl b=>Q b
 |_=>False
def Bl(σ:St)(H:Hp)(Qv:Bool->Hp->Prop)(h:Fh K (wB t) σ H Qv):VY (om K t) σ H Qv:=by
 obtain⟨Hs,ρ,ah,Q,sr,h,fin⟩:=h;walk_at"d";have r:=r1.rep g1.wf
 cases r with
 |bl b=>exact⟨b,rfl,fin b H1 aT g1 q1⟩
 |_=>exact q1.elim
def uR(h:om K t σ H Q)(i:∀ v H',Q v H'->Q' v H'):om K t σ H Q':=by obtain⟨Hs,ρ,ah,Qd,sr,h,fin⟩:=h;exact⟨Hs,ρ,ah,Qd,sr,h,λv H1 aT m x As g1 r1 f1 q1=>i _ _ (fin v H1 aT m x As g1 r1 f1 q1)⟩
def aO(ho:fi X (iE op) r)(br:ng K r f)(ha:QE X K a ta)(hb:QE X K b tb)(hm:MZ op b=false:=by first|exact aT' _|rfl):QT X K (.Compare a [op] [b] pos) (wB (aw f ta tb)):=by
 refine PT.imp (fE' ho ha hb hm) λσ H Qv h=>?_;obtain⟨Hs,ρ,ah,Q,sr,h,fin⟩:=h;refine lK br σ H _ ⟨Hs,ρ,ah,_,sr,h,λv H1 aT m x As g1 r1 f1 q1=>?_⟩;have r:=r1.rep g1.wf
 cases r with
 |bl b=>exact⟨b,rfl,fin b H1 aT g1 q1⟩
 |_=>exact q1.elim
def pN(h:QE X K a t)(he:∀ whole,isTrue a X.env whole=(do let v <- whole;standAt a.pos;holding [v] (truthy v)):=by intro _;rfl):QT X K a (wB t):=PT.imp (en' h he) Bl
def u_(f g:W2)(ta tb tc:WE):WE:=λρ Q=>ta ρ λm x=>tb ρ λn y=>f m x n y λ_ z=>match z with
 |.bl k=>if k=true then tc ρ λl w=>g n y l w Q else Q .sh (.bl false)
 |_=>False
end
section
variable {X:Cx}{K:aE}{a b c:Expr}{ta tb tc:WE}{pos:Pos}
def wG(br:ng K r f)(W7:ng K r' g)(σ:St)(H:Hp)(Qv:VK)(h:om K (u_ f g ta tb tc) σ H Qv):aU' r r' (om K ta) (om K tb) (om K tc) σ H Qv:=by
 obtain⟨Hs,ρ,ah,Q,sr,h,fin⟩:=h;refine⟨Hs,ρ,ah,_,sr,h,λv H1 aT m x As g1 r1 f1 q1=>⟨aT,ρ,ah,_,sr.grow g1,q1,λu H2 aS n y Bs g2 r2 f2 q2=>?_⟩⟩;refine br aS H2 m x v As n y u Bs _ _ g2.wf (r1.grow g2) r2 q2 λz H3 fz m3 d3 LV g3 r3 f3 q3=>?_;have rr:=r3.rep g3.wf
 cases rr with
 |bl k =>
  refine⟨k,rfl,?_⟩;have Um:Fin K fz H3 Q Qv:=Fin.after fin ((g1.trans g2).trans g3)
  cases k with
  |false=>exact Um.sh g3.wf (.bl false) q3
  |true =>exact⟨fz,ρ,ah,_,((sr.grow g1).grow g2).grow g3,q3,λw H4 Pw l z Pz g4 r4 f4 q4=>W7 Pw H4 n y u Bs l z w Pz Q Qv g4.wf ((r2.grow g3).grow g4) r4 q4 (Fin.after Um g4)⟩
 |_=>exact q3.elim
def Ay(ho:fi X (iE op) r)(oQ:fi X (iE op') r')(br:ng K r f)(W7:ng K r' g)(ha:QE X K a ta)(hb:QE X K b tb)(hc:QE X K c tc)(hm:lastMarks [op,op'] [b,c]=false:=by with_unfolding_all rfl):QT X K (.Compare a [op,op'] [b,c] pos) (wB (u_ f g ta tb tc)):=by
 refine PT.imp (fF' ho oQ ha hb hc hm) λσ H Qv h=>?_;obtain⟨Hs,ρ,ah,Q,sr,h,fin⟩:=h;refine wG br W7 σ H _ ⟨Hs,ρ,ah,_,sr,h,λv H1 aT m x As g1 r1 f1 q1=>?_⟩;have r:=r1.rep g1.wf
 cases r with
 |bl b=>exact⟨b,rfl,fin b H1 aT g1 q1⟩
 |_=>exact q1.elim
def Ro(t u:WT):WT:=λρ Q=>t ρ λc=>if c=true then u ρ Q else Q false
def PB(t u:WT):WT:=λρ Q=>t ρ λc=>if c=true then Q true else u ρ Q
def LW(t:WT):WT:=λρ Q=>t ρ λc=>Q (!c)
variable {tA tB:WT}{rest:List Expr}
def oH{t u:WT}{f:Bool->TT}{σ:St}{H:Hp}{Qv:Bool->Hp->Prop}{G:Bool->(Bool->Prop)->Env->Prop}(h:Fh K (λρ Q=>t ρ λc=>G c Q ρ) σ H Qv)(i:∀ c H1 aT ρ ah Q,fw K aT ρ σ H1 ah->G c Q ρ->(∀ b H' aC,fR aT H1 aC H'->Q b->Qv b H')->f c σ H1 Qv):Fh K t σ H λc H1=>f c σ H1 Qv:=by
 obtain⟨Hs,ρ,ah,Q,sr,h,fin⟩:=h;exact⟨Hs,ρ,ah,_,sr,h,λc H1 aT g1 q1=>i c H1 aT ρ ah Q (sr.grow g1) q1 λb H' aC g2=>fin b H' aC (g1.trans g2)⟩
def sJ(ha:QT X K a tA):QW X K (.BoolOp .And [a] pos) tA:=pw_and1 ha
def xJ(ha:QT X K a tA):QW X K (.BoolOp .Or [a] pos) tA:=pw_or1 ha
def yI(ha:QT X K a tA)(hb:QW X K (.BoolOp .And (b :: rest) pos) tB):QW X K (.BoolOp .And (a :: b :: rest) pos) (Ro tA tB):=by
 refine PW.imp (pw_and ha hb) λσ H Qv h=>?_;refine oH (u:=tB) (f:=λc σ H1 Q=>if c=true then Fh K tB σ H1 Q else Q false H1) h λc H1 aT ρ ah Q sr q fin=>?_
 cases c with
 |true=>exact⟨aT,ρ,ah,Q,sr,q,fin⟩
 |false=>exact fin false H1 aT (fR.refl sr.wf) q
def z9(ha:QT X K a tA)(hb:QW X K (.BoolOp .Or (b :: rest) pos) tB):QW X K (.BoolOp .Or (a :: b :: rest) pos) (PB tA tB):=by
 refine PW.imp (pw_or ha hb) λσ H Qv h=>?_;refine oH (u:=tB) (f:=λc σ H1 Q=>if c=true then Q true H1 else Fh K tB σ H1 Q) h λc H1 aT ρ ah Q sr q fin=>?_
 cases c with
 |true=>exact fin true H1 aT (fR.refl sr.wf) q
 |false=>exact⟨aT,ρ,ah,Q,sr,q,fin⟩
def PC(h:QW X K a tA):QT X K a tA:=h _
def qZ(ha:QT X K a tA):QT X K (.UnaryOp .Not a pos) (LW tA):=by exact PT.imp (et' ha) λσ H Qv h=>oH (u:=tA) (f:=λc σ H1 Q=>Q (!c) H1) h λc H1 aT ρ ah Q sr q fin=>fin _ H1 aT (fR.refl sr.wf) q
def Aj(ta tb:WE):WE:=λρ Q=>ta ρ λ_ x=>match x with
 |.bl c=>if c=true then tb ρ Q else Q .sh (.bl false)
 |_=>False
def Kw{op}(h:QE X K a ta):QE X K (.BoolOp op [a] pos) ta:=ev' h
def Ks(ha:QE X K a ta)(hb:QE X K (.BoolOp .And (b :: rest) pos) tb):QE X K (.BoolOp .And (a :: b :: rest) pos) (Aj ta tb):=by
 refine PE.imp (ew' ha hb) λσ H Qv hx=>k7 hx λHs ρ ah Q sr h fin=>?_;walk_at"d";have r:=r1.rep g1.wf
 cases r with
 |bl c =>
  refine⟨c,rfl,?_⟩
  cases c with
  |true=>exact⟨aT,ρ,ah,Q,sr.grow g1,q1,Fin.after fin g1⟩
  |false=>exact Fin.sh (Fin.after fin g1) g1.wf (.bl false) q1
 |_=>exact q1.elim
def Uw:D->Option Bool
 |.non=>some false
 |.bl b=>some b
 |.int i=>some (i != 0)
 |.str x=>some ((x.length:Int) != 0)
 |.list xs=>some !xs.isEmpty
 |.tup xs=>some !xs.isEmpty
 |.dK kvs=>none
 |.dT kvs=>none
def W8(t:WE):WT:=λρ Q=>t ρ λ_ x=>∃ b,Uw x=some b/\Q b
end
def iA:W2:=λm x n y Q=>match x,y with
 |.int i,.int j=>Q .sh (.int (i+j))
 |.str i,.str j=>i.length+j.length<=bI/\Q .sh (.str (i++j))
 |.list xs,.list ys=>xs.length+ys.length<=bI/\((eJ xs=true/\eJ ys=true/\Q (.ow true) (.list (xs++ys)))\/(m=.sh/\n=.sh/\Q (.ow false) (.list (xs++ys))))
 |.tup xs,.tup ys=>xs≠[]/\xs.length+ys.length<=bI/\eJ xs=true/\eJ ys=true/\Q .sh (.tup (xs++ys))
 |_,_=>False
def Rp(P:Int->Int->(Md->D->Prop)->Prop):W2:=λ_ x _ y Q=>match x,y with
 |.int i,.int j=>P i j Q
 |_,_=>False
def LX(P:Int->Int->(Md->D->Prop)->Prop)(S:Str->Str->(Md->D->Prop)->Prop):W2:=λ_ x _ y Q=>match x,y with
 |.int i,.int j=>P i j Q
 |.str i,.str j=>S i j Q
 |_,_=>False
def nh:W2:=Rp λi j Q=>OL i j/\Q .sh (.int (i*j))
def DM:W2:=Rp λi j Q=>(0<j/\j<1073741824)/\Q .sh (.int (i / j))
def kN:W2:=Rp λi j Q=>0<j/\Q .sh (.int (i % j))
def Ux:W2:=LX (λi j Q=>Q .sh (.bl (decide (i<j)))) λi j Q=>Q .sh (.bl (tI i j))
def PD:W2:=LX (λi j Q=>Q .sh (.bl (decide (i<=j)))) λi j Q=>Q .sh (.bl (!tI j i))
def LZ:W2:=Rp λi j Q=>Q .sh (.bl (decide (j<i)))
def rj:W2:=λ_ x _ y Q=>match x,y with
 |.int i,.int j=>Q .sh (.bl (decide (i=j)))
 |.str i,.str j=>Q .sh (.bl (decide (i=j)))
 |.bl i,.bl j=>Q .sh (.bl (decide (i=j)))
 |_,_=>dc 12 x=true/\dc 12 y=true/\Q .sh (.bl (js x y))
def DS:W2:=λ_ x _ y Q=>match x,y with
 |.int i,.int j=>Q .sh (.bl (!decide (i=j)))
 |.str i,.str j=>Q .sh (.bl (!decide (i=j)))
 |.bl i,.bl j=>Q .sh (.bl (!decide (i=j)))
 |_,_=>dc 12 x=true/\dc 12 y=true/\Q .sh (.bl (!js x y))
def D.HZ:D->Bool
 |.non=>true
 |_=>false
def Bm:W2:=λ_ x _ y Q=>match y with
 |.non=>Q .sh (.bl (!x.HZ))
 |_=>False
def fX:D->Bool
 |.non=>true
 |.bl _=>true
 |.int _=>true
 |.str _=>true
 |_=>false
def inD(x:D)(ys:List D):Bool:=ys.any λy=>js y x
def yv(neg:Bool):W2:=λ_ x _ y Q=>match y with
 |.str j=>match x with
  |.str i=>Q .sh (.bl (if neg then !DI i j else DI i j))
  |_=>False
 |.list ys=>fX x=true/\ys.all fX=true/\Q .sh (.bl (if neg then !inD x ys else inD x ys))
 |.tup ys=>fX x=true/\ys.all fX=true/\Q .sh (.bl (if neg then !inD x ys else inD x ys))
 |.dK kvs=>∃ k,x.key1=some k/\Q .sh (.bl (if neg then !(fI kvs k).isSome else (fI kvs k).isSome))
 |.dT kvs=>match x with
  |.tup xs=>∃ ks,gq xs=some ks/\Q .sh (.bl (if neg then !(fI kvs ks).isSome else (fI kvs ks).isSome))
  |_=>False
 |_=>False
section
variable {K:aE}
def G8(f:Fin K Hs H Qd Qv)(w:Wf Hs H)(h:x.length<=bI)(q:Qd .sh (.str x)):Qv (.str x) H:=f.sh w (.str h) q
def j6(i j:Str):(i++j).length=i.length+j.length:=by show(i.cps++j.cps).size=_;simp[Str.length]
def Jh:ng K (λx y H Q=>Cp K x y H Q\/V8 K x y H Q) iA:=by
 walk_at"a";have r1:=rx.rep w;have r2:=ry.rep w
 cases r1 with
 |int i=>cases r2 with
  |int j=>exact .inl (f.sh w (.int _) h)
  |_=>exact h.elim
 |str hi=>cases r2 with
  |str hj=>exact .inl ⟨h.1,G8 f w (by rw[j6];exact h.1) h.2⟩
  |_=>exact h.elim
 |list z1 s1 q1=>cases r2 with
  |list z2 s2 q2 =>
   have l1:=q1.length;have l2:=q2.length;have hz:=h.1;rcases h.2 with⟨f1,f2,q⟩|⟨rfl,rfl,q⟩
   ·exact .inl ⟨_,_,s1,s2,by lia,f.lst w (by rw[i6];exact hz) (q1.append q2) (by rw[fW,f1,f2];rfl) q⟩
   ·obtain⟨_,rx⟩:=rx;obtain⟨_,ry⟩:=ry
    cases rx with
    |list z1' s1' PF=>cases ry with
     |list z2' s2' q2' =>have l1:=PF.length;have l2:=q2'.length;exact .inl ⟨_,_,bP.seq w.sub s1',bP.seq w.sub s2',by lia,f.Rl w (by rw[i6];exact hz) (PF.append q2') q⟩
  |_=>exact h.elim
 |tup t1 s1 q1=>cases r2 with
  |tup t2 s2 q2 =>
   have l1:=q1.length;have l2:=q2.length;obtain⟨ke,hz,f1,f2,q⟩:=h;refine .inr ⟨_,_,_,_,rfl,rfl,.inl (.inl s1),.inl (.inl s2),?_,by lia,?_⟩
   ·intro e;subst e;exact ke (Sw.mp l1)
   ·refine⟨λe=>?_,λ_=>f.tup w (by rw[i6];exact hz) (q1.append q2) (by rw[fW,f1,f2];rfl) q⟩;subst e;cases q2;rw[sR] at q;exact f.flat w (.tup t1 s1 q1) (by simpa[D.flat] using f1) q
  |_=>exact h.elim
 |_=>exact h.elim
def CQ{H:Hp}{x y:D}{v u:V}{m n:Md}{P:Int->Int->(Md->D->Prop)->Prop}{S:Str->Str->(Md->D->Prop)->Prop}{Q:Md->D->Prop}{G:Prop}(r1:Rep K H x v)(r2:Rep K H y u)(h:LX P S m x n y Q)(k:∀ i j,v=.int i->u=.int j->P i j Q->G)(ks:∀ i j,v=.str i->u=.str j->S i j Q->G):G:=by
 cases r1 with
 |int i=>cases r2 with
  |int j=>exact k i j rfl rfl h
  |_=>exact h.elim
 |str hi=>cases r2 with
  |str hj=>exact ks _ _ rfl rfl h
  |_=>exact h.elim
 |_=>exact h.elim
def nZ{H:Hp}{x y:D}{v u:V}{m n:Md}{P:Int->Int->(Md->D->Prop)->Prop}{Q:Md->D->Prop}{G:Prop}(r1:Rep K H x v)(r2:Rep K H y u)(h:Rp P m x n y Q)(k:∀ i j,v=.int i->u=.int j->P i j Q->G):G:=by
 cases r1 with
 |int i=>cases r2 with
  |int j=>exact k i j rfl rfl h
  |_=>exact h.elim
 |_=>exact h.elim
def Ie:ng K Eg nh:=by
 walk_at"a";exact nZ (rx.rep w) (ry.rep w) h λi j e1 e2 q=>by subst e1 e2;exact⟨q.1,f.sh w (.int _) q.2⟩
def Hv:ng K GR DM:=by
 walk_at"a";exact nZ (rx.rep w) (ry.rep w) h λi j e1 e2 q=>by subst e1 e2;exact⟨q.1,f.sh w (.int _) q.2⟩
def JV:ng K Gv kN:=by
 walk_at"a";exact nZ (rx.rep w) (ry.rep w) h λi j e1 e2 q=>by subst e1 e2;exact⟨q.1,f.sh w (.int _) q.2⟩
def zj:ng K Wy LZ:=by
 walk_at"a";exact nZ (rx.rep w) (ry.rep w) h λi j e1 e2 q=>by subst e1 e2;exact f.sh w (.bl _) q
def Ig:ng K Ww Ux:=by
 intro Hs H m x v As n y u Bs Qd Qv w rx ry h f;exact CQ (rx.rep w) (ry.rep w) h (λi j e1 e2 q=>by
  subst e1 e2;exact f.sh w (.bl _) q) λi j e1 e2 q=>by
  subst e1 e2;exact f.sh w (.bl _) q
def Ac:ng K Wx PD:=by
 intro Hs H m x v As n y u Bs Qd Qv w rx ry h f;exact CQ (rx.rep w) (ry.rep w) h (λi j e1 e2 q=>by
  subst e1 e2;exact f.sh w (.bl _) q) λi j e1 e2 q=>by
  subst e1 e2;exact f.sh w (.bl _) q
def eq_data(w:Wf Hs H)(rx:Rep K H x v)(ry:Rep K H y u)(f:Fin K Hs H Qd Qv)(h:dc 12 x=true/\dc 12 y=true/\Qd .sh (.bl (js x y))):WB K v u H Qv:=by obtain⟨h1,h2,q⟩:=h;have l1:=ju 12 x h1;have l2:=ju 12 y h2;exact⟨x.py,y.py,rx.l2 h1,ry.l2 h2,l1.1,l2.1,by lia,f.sh w (.bl _) q⟩
def ne_data(w:Wf Hs H)(rx:Rep K H x v)(ry:Rep K H y u)(f:Fin K Hs H Qd Qv)(h:dc 12 x=true/\dc 12 y=true/\Qd .sh (.bl (!js x y))):WC K v u H Qv:=by obtain⟨h1,h2,q⟩:=h;have l1:=ju 12 x h1;have l2:=ju 12 y h2;exact⟨x.py,y.py,rx.l2 h1,ry.l2 h2,l1.1,l2.1,by lia,f.sh w (.bl _) q⟩
def ig:ng K (Ub K) rj:=by
 walk_at"a";have r1:=rx.rep w;have r2:=ry.rep w;have d:=λh=>eq_data w r1 r2 f h
 cases r1 with
 |int i=>cases r2 with
  |int j=>exact f.sh w (.bl _) h
  |_=>exact d h
 |str i=>cases r2 with
  |str j=>exact f.sh w (.bl _) h
  |_=>exact d h
 |bl i=>cases r2 with
  |bl j=>exact f.sh w (.bl _) h
  |_=>exact d h
 |_=>exact d h
def wA:ng K (Uc K) DS:=by
 walk_at"a";have r1:=rx.rep w;have r2:=ry.rep w;have d:=λh=>ne_data w r1 r2 f h
 cases r1 with
 |int i=>cases r2 with
  |int j=>exact f.sh w (.bl _) h
  |_=>exact d h
 |str i=>cases r2 with
  |str j=>exact f.sh w (.bl _) h
  |_=>exact d h
 |bl i=>cases r2 with
  |bl j=>exact f.sh w (.bl _) h
  |_=>exact d h
 |_=>exact d h
def Ey(r:Rep K H x v):decide (v=V.non)=x.HZ:=by cases r<;>first|rfl|exact decide_eq_false (λz=>nomatch z)
def xY:ng K (λx y H Q=>y=.non/\Q (.bl (!decide (x=.non))) H) Bm:=by
 walk_at"a";have r1:=rx.rep w;have r2:=ry.rep w;have e:=Ey r1
 cases r2 with
 |non=>exact⟨rfl,by rw[e];exact f.sh w (.bl _) h⟩
 |_=>exact h.elim
def kZ(r:Rep K H x v)(h:fX x=true):Dx v=true:=by cases r<;>first|rfl|(simp[fX] at h)
def GX(r:Rep K H x v)(s:Rep K H y u)(h:fX x=true)(g:fX y=true):EL v u=js x y:=by cases r<;>simp[fX] at h<;>cases s<;>simp[fX] at g<;>rfl
def Io(r:Rep K H x v)(h:fX x=true)(rs:b5 K H ys us)(g:ys.all fX=true):us.all Dx=true/\TN v us=inD x ys:=by
 induction ys generalizing us with
 |nil=>rw[rs.n0];exact⟨rfl,rfl⟩
 |cons y ys ih =>
  obtain⟨u,us,rfl,s,ss⟩:=rs.c;simp only[ED,n5] at g;obtain⟨e1,e2⟩:=ih ss g.2;refine⟨by simp only[ED,kZ s g.1,e1,Bool.and_self],?_⟩;unfold TN inD at *
  rw[CC,CC,e2,GX s r g.1 h]
def qb{κ:Type}[DecidableEq κ]{H:Hp}{k:κ}{kvs:List (κ × D)}{vs:List V}(r:b5 K H (kvs.map (·.2)) vs):(mP ((kvs.map (·.1)).zip vs) k).isSome=(fI kvs k).isSome:=by
 have:=zip_get (k:=k) r;split at this
 ·rename_i e;obtain⟨v,e1,_⟩:=this;rw[e1,e];rfl
 ·rename_i e;rw[this,e];rfl
def pY:ng K (LJ K neg) (yv neg):=by
 walk_at"a";have r1:=rx.rep w;have r2:=ry.rep w
 cases r2 with
 |str j=>cases r1 with
  |str i=>exact f.sh w (.bl _) h
  |_=>exact h.elim
 |list z s q =>
  obtain⟨h1,h2,h3⟩:=h;obtain⟨e1,e2⟩:=Io r1 h1 q h2;have h4:=kZ r1 h1;have g:QR K neg v (.ref _) H Qv:=⟨_,_,rfl,.inl s,h4,e1,by rw[e2];exact f.sh w (.bl _) h3⟩
  cases r1<;>exact .inr g
 |tup _ s q =>
  obtain⟨h1,h2,h3⟩:=h;obtain⟨e1,e2⟩:=Io r1 h1 q h2;have h4:=kZ r1 h1;have g:QR K neg v (.ref _) H Qv:=⟨_,_,rfl,.inr (.inl (.inl s)),h4,e1,by rw[e2];exact f.sh w (.bl _) h3⟩
  cases r1<;>exact .inr g
 |dK kk e q =>obtain⟨k,hk,h3⟩:=h;have ev:=r1.key hk;subst ev;have eg:=qb (k:=k) q;cases k<;>exact .inl ⟨_,lT.k' e,by rw[eg];exact f.sh w (.bl _) h3⟩
 |dT kk e q =>
  cases r1 with
  |tup t1 e1 q1 =>obtain⟨ks,hk,h3⟩:=h;obtain⟨b,eb,e2⟩:=Rep.kM (.tup t1 e1 q1) hk;cases eb;have eg:=qb (k:=ks) q;exact .inl ⟨_,lT.t' e e2,by rw[eg];exact f.sh w (.bl _) h3⟩
  |_=>exact h.elim
 |_=>exact h.elim
end
section
variable {X:Cx}{K:aE}{a b:Expr}{ta tb:WE}{pos:Pos}
def KR(hK:autoParam (X.K=K) bv):fi X (rX .Add) (λx y H Q=>Cp K x y H Q\/V8 K x y H Q):=by subst hK;exact Gg.or gp'
def bD(ha:QE X K a ta)(hb:QE X K b tb)(hK:autoParam (X.K=K) bv):QE X K (.BinOp a .Add b pos) (aw iA ta tb):=Rn (KR hK) Jh ha hb
def dJ(ha:QE X K a ta)(hb:QE X K b tb):QE X K (.BinOp a .Mult b pos) (aw nh ta tb):=Rn Gi Ie ha hb
def tG(ha:QE X K a ta)(hb:QE X K b tb):QE X K (.BinOp a .FloorDiv b pos) (aw DM ta tb):=Rn GJ Hv ha hb
def cO(ha:QE X K a ta)(hb:QE X K b tb):QE X K (.BinOp a .Mod b pos) (aw kN ta tb):=Rn Gd JV ha hb
def Rq:W1:=λ_ x Q=>match x with
 |.int i=>Q .sh (.int (-i))
 |_=>False
def Ik:Pt K (rU λi=>.int (-i)) Rq:=by
 walk_at"e";have r1:=rx.rep w
 cases r1 with
 |int i=>exact⟨i,rfl,f.sh w (.int _) h⟩
 |_=>exact h.elim
def JM(ha:QE X K a ta):QE X K (.UnaryOp .USub a pos) (f7 Rq ta):=jn' fs' Ik ha
end
def cv:WA:=λ_ Q=>Q []
def ak(te:WE)(t:WA):WA:=λρ Q=>te ρ λm x=>t ρ λps=>Q ((m,x) :: ps)
def BG:Md × D->Bool
 | (.sh,_)=>true
 | (_,d)=>d.flat
def L4:Md × D->Bool
 | (.bo,d)=>d.flat
 |_=>true
def Rr:Md × D->Bool
 | (.ow true,_)=>true
 | (_,d)=>d.flat
def wD(ps:List (Md × D)):Md:=bif ps.all BG then .sh else bif ps.all L4 then .ow (ps.all Rr) else .bo
def Fx(ps:List (Md × D)):Md:=bif ps.all L4 then .ow (ps.all Rr) else .bo
def kB(t:WA):WE:=λρ Q=>t ρ λps=>ps.length<=bI/\Q (wD ps) (.tup (ps.map (·.2)))
def mh(t:WA):WE:=λρ Q=>t ρ λps=>ps.length<=bI/\Q (Fx ps) (.list (ps.map (·.2)))
section
variable {X:Cx}{K:aE}{e:Expr}{es:List Expr}{te:WE}{t:WA}{pos:Pos}{Hs H:Hp}
def au:QA X K [] cv:=PA.imp A8 λσ H Qv hx=>k7 hx λHs ρ ah Q sr h f=>f [] H Hs [] [] (fR.refl sr.wf) .nil cM.nil h
def cM.app(f1:cM aT H As)(o:∀ a∈As,H1 a≠none)(f2:cM aS H1 Bs)(s:bP H H1)(k:∀ a,aT a=none->H1 a≠none->aS a=none):cM aS H (As++Bs) :=
 ⟨i7.mpr ⟨f1.1,f2.1,λa ha b hb e=>by subst e;exact o a ha (f2.2 a hb).2⟩,λa h=>by
  rcases fe.mp h with h|h
  ·exact⟨k a (f1.2 a h).1 (o a h),(f1.2 a h).2⟩
  ·exact⟨(f2.2 a h).1,s.free (f2.2 a h).2⟩⟩
def aa(ha:QE X K e te)(hr:QA X K es t)(hs:autoParam (df (e :: es) X.env=(false,eI e X.env) :: df es X.env) bv):QA X K (e :: es) (ak te t):=by exact PA.imp (wt ha hr hs) λσ H Qv hx=>k7 hx λHs ρ ah Q sr h f=>⟨Hs,ρ,ah,_,sr,h,λv H1 aT m x As g1 r1 f1 q1=>⟨aT,ρ,ah,_,sr.grow g1,q1,λvs H2 aS ps Bs g2 r2 f2 q2=>f (v :: vs) H2 aS _ _ (g1.trans g2) (.cons (r1.grow g2) r2) (f1.app (λa h=>(r1.own a h).ne) f2 g1.all λa h1 h2=>g2.mS h1 h2) q2⟩⟩
def BF.sh(w:Wf Hs H){ps:List (Md × D)}(r:BF K Hs H ps vs As):ps.all BG=true->b5 K Hs (ps.map (·.2)) vs:=by
 induction r with
 |nil=>exact λ_=>.nil
 |@cons m d v ps vs As Bs r rs ih =>
  intro h;simp only[ED,n5] at h;refine .cons ?_ (ih h.2)
  cases m with
  |sh=>exact r.2
  |_=>exact r.flat w h.1
def BF.ow(w:Wf Hs H){ps:List (Md × D)}(r:BF K Hs H ps vs As):ps.all L4=true->(fl=true->ps.all Rr=true)->∃ Bs,Bs.Sublist As/\(ps.all BG=false->Bs≠[])/\aA K Hs H fl (ps.map (·.2)) vs Bs:=by
 induction r with
 |nil=>exact λ_ _=>⟨[],FP _,(λz=>Bool.noConfusion z),.nil⟩
 |@cons m d v ps vs A1 Cs r rs ih =>
  intro h hf;simp only[ED,n5] at h hf;obtain⟨Bs,sb,ne,q⟩:=ih h.2 λz=>(hf z).2;have sk:([]++Bs).Sublist (A1++Cs):=by simpa using sb.trans (nE _ _)
  have EH:d.flat=true->BG (m,d)=true->∃ Bs,Bs.Sublist (A1++Cs)/\(((m,d) :: ps).all BG=false->Bs≠[])/\aA K Hs H fl (((m,d) :: ps).map (·.2)) (v :: vs) Bs:=λhd ho =>
   ⟨[]++Bs,sk,λz=>ne (by rw[ED,ho] at z;simpa using z),.cons (.sh (λ_=>hd) (r.flat w hd)) q⟩
  cases m with
  |sh=>exact⟨[]++Bs,sk,λz=>ne (by simpa[BG] using z),.cons (.sh (λz=>(hf z).1) r.2) q⟩
  |bo=>exact EH h.1 h.1
  |ow b =>
   cases hd:d.flat with
   |true=>exact EH hd hd
   |false =>
    refine⟨A1++Bs,sb.append_left _,λ_ z=>r.2 (P9.mp z).1,.cons ?_ q⟩
    cases fl with
    |false=>exact cS.Ut r.1
    |true =>
     have:=(hf rfl).1
     cases b with
     |true=>exact r.1
     |false=>simp[Rr,hd] at this
theorem oG:∀ {ps:List (Md × D)},eJ (ps.map (·.2))=true->ps.all BG=true
 |[],_=>rfl
 | (m,d) :: ps,h=>by simp only[gS,eJ,n5] at h;simp only[ED,n5];exact⟨by cases m<;>simp[BG,h.1],oG h.2⟩
def bW{x1}(h:QA X K es t):QE X K (.Tuple es x1 pos) (kB t):=by
 refine PE.imp (aZ' h) λσ H Qv hx=>k7 hx λHs ρ ah Q sr h f=>?_;refine⟨Hs,ρ,ah,_,sr,h,λvs H1 aT ps As g1 r1 f1 q1=>?_⟩;obtain⟨hz,q⟩:=q1;have rl:=(r1.reps g1.wf)
 have hl:=rl.length;rw[cx] at hl;refine⟨by lia,λp hp=>?_⟩;have g2:=W6 (vs:=vs) g1.wf hp;have fin:=Fin.after f g1;unfold wD at q
 cases h1:ps.all BG with
 |true =>rw[h1] at q;exact fin _ _ _ .sh _ [] g2 ⟨rfl,.tup (by lia) kf ((r1.sh g1.wf h1).same g2.sh)⟩ cM.nil q
 |false =>
  rw[h1] at q
  cases h2:ps.all L4 with
  |false =>rw[h2] at q;exact fin _ _ _ .bo _ [] g2 ⟨rfl,.tup (by lia) kf (rl.same g2.all)⟩ cM.nil q
  |true =>
   rw[h2] at q;obtain⟨Bs,sb,nz,ro⟩:=r1.ow g1.wf h2 λz=>z;have ke:eJ (ps.map (·.2))=false:=by
    cases hf:eJ (ps.map (·.2)) with
    |false=>rfl
    |true=>rw[oG hf] at h1;cases h1
   have own:=ro.own;exact f _ _ _ (.ow _) _ Bs (g1.trans g2) ⟨.tup (by lia) kf ke (ro.grow g2.sh g2.all),nz h1⟩ ⟨sb.nodup f1.1,λa ha=>⟨g2.mS (f1.2 a (sb.subset ha)).1 (own a ha).ne,(f1.2 a (sb.subset ha)).2⟩⟩ q
def di(h:QA X K es t):QE X K (.List es pos) (mh t):=by
 refine PE.imp (fQ' h) λσ H Qv hx=>k7 hx λHs ρ ah Q sr h f=>?_;refine⟨Hs,ρ,ah,_,sr,h,λvs H1 aT ps As g1 r1 f1 q1=>?_⟩;obtain⟨hz,q⟩:=q1;have rl:=(r1.reps g1.wf)
 have hl:=rl.length;rw[cx] at hl;refine⟨by lia,λp hp=>?_⟩;have g2:=Rk (o:=.lst vs) g1.wf hp λ_ z=>nomatch z;have fin:=Fin.after f g1;unfold Fx at q
 cases h2:ps.all L4 with
 |false =>rw[h2] at q;exact fin _ _ _ .bo _ [] g2 ⟨rfl,.list (by lia) (.inl (.inl kf)) (rl.same g2.all)⟩ cM.nil q
 |true =>
  rw[h2] at q;obtain⟨Bs,sb,nz,ro⟩:=r1.ow g1.wf h2 λz=>z;have own:=ro.own;refine f _ _ _ (.ow _) _ (p :: Bs) (g1.trans g2) ⟨.list (by lia) kf (ro.grow g2.sh g2.all),by simp⟩ ⟨ly.mpr ⟨λm=>(own p m).ne hp,sb.nodup f1.1⟩,λa ha=>?_⟩ q;rcases eK.mp ha with rfl|ha
  ·exact⟨g1.wf.sub.free hp,g1.all.free hp⟩
  ·exact⟨g2.mS (f1.2 a (sb.subset ha)).1 (own a ha).ne,(f1.2 a (sb.subset ha)).2⟩
end
def b5.gi{K:aE}(r:b5 K H ds vs)(h:gi ds i=some d):∃ v,L2.gi vs i=some v/\Rep K H d v:=by
 unfold L2.gi at *
 rw[<- r.length]
 cases e:oS ds.length i with
 |none=>rw[e] at h;cases h
 |some j =>rw[e] at h;exact r.get h
def bX:W2:=λm x _ y Q=>match x with
 |.list xs=>match y with
  |.int i=>∃ d,gi xs i=some d/\dy d (f:=λd=>Q (tP m d) d) ⟨⟩
  |_=>False
 |.tup xs=>match y with
  |.int i=>∃ d,gi xs i=some d/\dy d (f:=λd=>Q (tP m d) d) ⟨⟩
  |_=>False
 |.str z=>match y with
  |.int i=>∃ c,gi z.cps.toList i=some c/\Q .sh (.str ⟨#[c]⟩)
  |_=>False
 |.dK kvs=>∃ k d,y.key1=some k/\fI kvs k=some d/\dy d (f:=λd=>Q (tP m d) d) ⟨⟩
 |.dT kvs=>match y with
  |.tup ys=>∃ ks d,gq ys=some ks/\fI kvs ks=some d/\dy d (f:=λd=>Q (tP m d) d) ⟨⟩
  |_=>False
 |_=>False
def W9(K:aE):R2:=λx y H Q=>T_ K x y H Q\/∃ a v,x=.ref a/\lT H a y (some v)/\Q v H
def y_(c:Nat):(⟨#[c]⟩:Str).length<=bI:=by show 1<=bI;decide
def RM.here{K:aE}(w:Wf Hs H)(r:RM K Hs H m d v As):(m=.sh/\Rep K Hs d v)\/(m≠.sh/\Rep K H d v):=by
 cases m with
 |sh=>exact .inl ⟨rfl,r.2⟩
 |_=>exact .inr ⟨(λz=>nomatch z),r.rep w⟩
section
variable {X:Cx}{K:aE}
def Ke:ng K (W9 K) bX:=by
 walk_at"a";have r2:=ry.rep w;have core:∀ G:Hp,bP G H->(∀ d v,Rep K G d v->Rep K H d v/\(m=.sh->Rep K Hs d v))->Rep K G x v->W9 K v u H Qv:=by
  intro G sg up r1
  cases r1 with
  |list z s q =>
   cases r2 with
   |int i =>obtain⟨d,e,h⟩:=h;obtain⟨v',e',r'⟩:=q.gi e;obtain⟨u1,u2⟩:=up _ _ r';exact .inl (.inl ⟨_,v',bP.seq sg s,e',f.tP w u1 u2 h⟩)
   |_=>exact h.elim
  |tup _ s q =>
   cases r2 with
   |int i =>obtain⟨d,e,h⟩:=h;obtain⟨v',e',r'⟩:=q.gi e;obtain⟨u1,u2⟩:=up _ _ r';exact .inl (.inr ⟨_,v',.inl (.inl (sg _ _ s)),e',f.tP w u1 u2 h⟩)
   |_=>exact h.elim
  |str hz =>
   cases r2 with
   |int i =>obtain⟨c,e,h⟩:=h;exact .inl ⟨hz,c,e,f.sh w (.str (y_ c)) h⟩
   |_=>exact h.elim
  |dK kk s q =>obtain⟨k,d,hk,hg,h⟩:=h;have ev:=r2.key hk;subst ev;have z:=zip_get (k:=k) q;rw[hg] at z;obtain⟨v',e',r'⟩:=z;obtain⟨u1,u2⟩:=up _ _ r';exact .inr ⟨_,v',rfl,by rw[<- e'];exact lT.k' (bP.rd sg s),f.tP w u1 u2 h⟩
  |dT kk s q =>
   cases r2 with
   |tup t2 e2 q2 =>obtain⟨ks,d,hk,hg,h⟩:=h;obtain⟨b,eb,e3⟩:=Rep.kM (.tup t2 e2 q2) hk;cases eb;have z:=zip_get (k:=ks) q;rw[hg] at z;obtain⟨v',e',r'⟩:=z;obtain⟨u1,u2⟩:=up _ _ r';exact .inr ⟨_,v',rfl,by rw[<- e'];exact lT.t' (bP.rd sg s) e3,f.tP w u1 u2 h⟩
   |_=>exact h.elim
  |_=>exact h.elim
 rcases rx.here w with⟨hm,r⟩|⟨hm,r⟩
 ·exact core Hs w.sub (λd v q=>And.intro (q.same w.sub) λ_=>q) r
 ·exact core H (bP.refl H) (λd v q=>And.intro q λz=>absurd z hm) r
def cz'(hu:X.A.units+64<fE)(hK:autoParam (X.K=K) bv):x6 X (W9 K):=by subst hK;refine x6.or Dr ?_;intro value slice pins s σ H x y v u Q I rx ry h hs;obtain⟨a,w,rfl,g,q⟩:=h;cases rx;exact tail_any (gY' I g) F.slot_dict_getitem.lookup (gS' (by lia) I g ry λw' s3 I3 mN=>⟨w,H,I3,mN,q⟩) hs
variable {a b:Expr}{ta tb:WE}{pos:Pos}
def b9(ha:QE X K a ta)(hb:QE X K b tb)(hs:TL b:=by exact λ_ _=>rfl)(hK:autoParam (X.K=K) bv)(hu:X.A.units+64<fE:=by assumption):QE X K (.Subscript a b pos) (aw bX ta tb):=PE.imp (Wb (cz' hu hK) ha hb hs) (lK Ke)
end
def nV{α:Type}(xs:List α)(lo hi:Option Int):List α:=(xs.drop (HT.dr xs.length 0 lo)).take (HT.dr xs.length xs.length hi-HT.dr xs.length 0 lo)
abbrev WO:=Env->(Option Int->Prop)->Prop
def gW:WO:=λ_ Q=>Q none
def gk(t:WE):WO:=λρ Q=>t ρ λ_ x=>match x with
 |.int i=>Q (some i)
 |_=>False
def Uy(m:Md)(x:D)(lo hi:Option Int)(Q:Md->D->Prop):Prop:=match x with
 |.str z=>Q .sh (.str (pS z lo hi))
 |.list xs=>(eJ xs=true/\Q (.ow true) (.list (nV xs lo hi)))\/(m=.sh/\Q (.ow false) (.list (nV xs lo hi)))
 |.tup xs=>eJ xs=true/\¬ (HT.dr xs.length 0 lo=0/\HT.dr xs.length xs.length hi=xs.length)/\Q .sh (.tup (nV xs lo hi))
 |_=>False
def BH(te:WE)(tl th:WO):WE:=λρ Q=>te ρ λm x=>tl ρ λlo=>th ρ λhi=>Uy m x lo hi Q
def tpO(K:aE)(t:WO):TO:=λσ H Qv=>∃ Hs ρ ah Q,fw K Hs ρ σ H ah/\t ρ Q/\∀ o H' aC,fR Hs H aC H'->Q o->Qv o H'
abbrev QO(X:Cx)(K:aE)(e:Option Expr)(t:WO):Prop:=PO X e (tpO K t)
def Bo(z:Str)(lo hi:Option Int):(pS z lo hi).length<=z.length:=by unfold pS Str.length;simp only[jI,mE,FK,CH];lia
def jV{α:Type}(xs:List α)(lo hi:Option Int):(nV xs lo hi).length<=xs.length:=by unfold nV;rw[mE,FK];lia
def qF{lo hi:Option Int}(h:eJ xs=true):eJ (nV xs lo hi)=true:=by
 rw[k_] at *
 intro x hx;exact h x (SD (Qe hx))
section
variable {X:Cx}{K:aE}{e:Expr}{lo hi:Option Expr}{te:WE}{tl th:WO}{pos p2:Pos}
def kh:QO X K none gW:=λpins s σ H Q I h=>gj' pins s σ H Q I (by
 obtain⟨Hs,ρ,ah,Qd,sr,h,f⟩:=h;exact f none H Hs (fR.refl sr.wf) h)
def cB(h:QE X K e te):QO X K (some e) (gk te):=λpins s σ H Q I hh=>gk' h pins s σ H Q I (by
 obtain⟨Hs,ρ,ah,Qd,sr,h,f⟩:=hh;walk_at"d";have r:=r1.rep g1.wf
 cases r with
 |int i=>exact⟨i,rfl,f _ H1 aT g1 q1⟩
 |_=>exact q1.elim)
def j_{lo hi:Option Int}(r:b5 K H ds vs):b5 K H (nV ds lo hi) (K0 vs lo hi):=by unfold nV K0;rw[r.length];exact(r.drop _).take _
def jr'(hK:autoParam (X.K=K) bv):OO X (λx lo hi H Q=>Wz K x lo hi H Q\/bj' K x lo hi H Q):=by
 subst hK;intro pins s σ H x v vl vu lo hi sl Q I rx hs pl pu h;rcases h with h|h
 ·exact Jw pins s σ H x v vl vu lo hi sl Q I rx hs pl pu h
 ·exact gn' pins s σ H x v vl vu lo hi sl Q I rx hs pl pu h
def eV(he:QE X K e te)(hl:QO X K lo tl)(hh:QO X K hi th)(hK:autoParam (X.K=K) bv):QE X K (.Subscript e (.Slice lo hi none p2) pos) (BH te tl th):=by
 refine PE.imp (gm' (jr' hK) he hl hh) λσ H Qv hx=>k7 hx λHs ρ ah Q sr h f=>?_;refine⟨Hs,ρ,ah,_,sr,h,λv H1 aT m x As g1 r1 f1 q1=>⟨aT,ρ,ah,_,sr.grow g1,q1,λl H2 aS g2 q2=>⟨aS,ρ,ah,_,(sr.grow g1).grow g2,q2,λu H3 fz g3 q3=>?_⟩⟩⟩;have r3:=(r1.grow g2).grow g3;have fin:Fin K fz H3 Q Qv:=Fin.after f ((g1.trans g2).trans g3);have rr:=r3.rep g3.wf
 cases rr with
 |str hz=>exact .inl ⟨hz,fin.sh g3.wf (.str (jS (Bo _ _ _) hz)) q3⟩
 |list z s q =>
  have hz:=q.length;rcases q3 with⟨hf,q3⟩|⟨rfl,q3⟩
  ·exact .inl ⟨_,s,fin.lst g3.wf (jS (jV _ _ _) (by lia)) (j_ q) (qF hf) q3⟩
  ·obtain⟨_,r3⟩:=r3
   cases r3 with
   |list z' s' q' =>exact .inl ⟨_,bP.seq g3.wf.sub s',fin.Rl g3.wf (jS (jV _ _ _) (by lia)) (j_ q') q3⟩
 |tup z s q =>have hz:=q.length;obtain⟨hf,hn,q3⟩:=q3;exact .inr ⟨_,_,rfl,.inl (.inl s),by rw[<- hz];exact hn,fin.tup g3.wf (jS (jV _ _ _) (by lia)) (j_ q) (qF hf) q3⟩
 |_=>exact q3.elim
end
def sC:W1:=λ_ x Q=>match x with
 |.str z=>Q .sh (.int z.length)
 |.list xs=>Q .sh (.int xs.length)
 |.tup xs=>Q .sh (.int xs.length)
 |.dK kvs=>Q .sh (.int kvs.length)
 |.dT kvs=>Q .sh (.int kvs.length)
 |_=>False
def Rt(T:String):W1:=λ_ x Q=>Q .sh (.bl (OU x.ty T))
def BI(K:aE)(r:List V->Hp->VK->Prop)(f:W1):Prop:=∀ Hs H m x v As Qd Qv,Wf Hs H->RM K Hs H m x v As->f m x Qd->Fin K Hs H Qd Qv->r [v] H Qv
section
variable {X:Cx}{K:aE}{e:Expr}{te:WE}{pos p:Pos}{x:Str}{id T:String}
def nR(br:BI K r f)(σ:St)(H:Hp)(Qv:VK)(h:om K (f7 f te) σ H Qv):V5 r (aY' (om K te) aX') σ H Qv:=by obtain⟨Hs,ρ,ah,Q,sr,h,fin⟩:=h;exact⟨Hs,ρ,ah,_,sr,h,λv H1 aT m x As g1 r1 f1 q1=>br aT H1 m x v As Q Qv g1.wf r1 q1 (Fin.after fin g1)⟩
def a_(hc:kL X (.builtin id) r)(br:BI K r f)(hm:X.mg x=none)(hv:kQ x=some (.builtin id))(he:QE X K e te)(hs:autoParam (df [e] X.env=(false,eI e X.env) :: df [] X.env) bv) (hn:x ≠ "__name__" := by decide) (ve:(x == ("__debug__" : Str))=false:=by decide) (hg:autoParam (Gl X x) bv):QE X K (.Call (.Name x p) [e] [] pos) (f7 f te) :=
 PE.imp (V6 hc hg hm hv (wt he A8 hs) hn ve hs) (nR br)
def cU(hc:kL X (.type T) r)(br:BI K r f)(hm:X.mg x=none)(hv:kQ x=some (.type T))(he:QE X K e te)(hs:autoParam (df [e] X.env=(false,eI e X.env) :: df [] X.env) bv) (hn:x ≠ "__name__" := by decide) (ve:(x == ("__debug__" : Str))=false:=by decide) (hg:autoParam (Gl X x) bv):QE X K (.Call (.Name x p) [e] [] pos) (f7 f te) :=
 PE.imp (fZ' hc hg hm hv (wt he A8 hs) hn ve hs) (nR br)
def DY(hd:(d == v3)=false)(x:xa s.heap d es ep)(Uz:(es.size:Int)<2 ^ 63)(h:∀ t t',Q (.int es.size t) { s with toks:=t' }):bG (aI prog w) A (call (.builtin "len") [.ref d]) Q E s:=by
 refine Calls.call_function_entry kind_len plain_len entry_len (args_len1 _) ?_;have mt:MeetsIn prog w (Builtin.«dict.__len__» ⟨[.ref d],[]⟩) (λ_ R s=>xa s.heap d es ep/\R (.ok (.ret (.int es.size s.toks))) { s with toks:=s.toks+1 }):=.of_wp λA R s eP=>by obtain⟨hm,h⟩:=eP;obtain⟨o,ho,hc,Ui⟩:=hm;show bG _ _ (dictSize d >>= _) _ _ s;refine ax (ax (wpAny_dictEntries ho Ui (bE ?_)));refine ax (wpAny_pendingCount_other hd ?_);refine wpAny_ret_mkInt ?_;rw[Qm];exact h
 refine ax (bE ?_);refine ax (P8 x.typ F.slot_dict_len (call_meetsIn F.slot_dict_len x.typ F.entry_dict_len (F.args_dict_len_1 _) mt ⟨x,?_⟩))
 refine ax (vT (bE ?_));refine ax (wpAny_letGo ?_);rw[if_neg (by lia)];rw[if_neg (by lia)];exact ax (wpAny_mkInt (bE ⟨_,rfl,h _ _⟩))
def aQ (hK:autoParam (X.K=K) bv):kL X (.builtin "len") (λxs H Q=>T9 K xs H Q\/∃ a kvs,xs=[.ref a]/\Rd H a (.dT kvs)/\Q (.int kvs.length) H):=by
 subst hK;walk_at"f";rcases h with h|⟨a,kvs,rfl,ha,q⟩
 ·exact yR pins s σ H xs us Q I r h
 ·obtain⟨u,rfl,ru⟩:=Vals.one r;cases ru;obtain⟨z,hd,ys,rel,o,es,ep,h1,h2,h3,h4,h5⟩:=(I.rd ha)
  have hl:es.size=kvs.length:=by have:=congrArg List.length h4;rw[CH,cx] at this;rw[this];exact rel.length.symm
  exact DY hd ⟨o,h1,h2,h3⟩ (by rw[kU] at z;lia) λt t'=>⟨.int kvs.length,H,I.tok _,⟨t,by rw[hl]⟩,q⟩
def dW:BI K (λxs H Q=>T9 K xs H Q\/∃ a kvs,xs=[.ref a]/\Rd H a (.dT kvs)/\Q (.int kvs.length) H) sC:=by
 walk_at"e";have r1:=rx.rep w
 cases r1 with
 |str hz=>exact .inl ⟨hz,f.sh w (.int _) h⟩
 |list z s q=>exact .inl (.inl ⟨_,s,by rw[<- q.length];exact f.sh w (.int _) h⟩)
 |tup _ s q=>exact .inl (.inr (.inl ⟨_,.inl (.inl s),by rw[<- q.length];exact f.sh w (.int _) h⟩))
 |dK kk s q=>exact .inl (.inr (.inr ⟨_,s,by
   have:=q.length;rw[cx] at this;rw[Qh,cx,<- this,Qn];exact f.sh w (.int _) h⟩))
 |dT kk s q=>exact .inr ⟨_,_,rfl,s,by
   have:=q.length;rw[cx] at this;rw[Qh,cx,<- this,Qn];exact f.sh w (.int _) h⟩
 |_=>exact h.elim
end
section
variable {X:Cx}{K:aE}{e e2:Expr}{te:WE}{pos p:Pos}{T:String}
def yr (hK:autoParam (X.K=K) bv):kL X (.builtin "isinstance") (λxs H Q=>∃ x d T,xs=[x,.ty T]/\Rep K H d x/\Wv T=true/\Q (.bl (OU d.ty T)) H):=by
 subst hK;walk_at"f";obtain⟨x,d,T,rfl,rd,hT,q⟩:=h;obtain⟨u,v,rfl,ru,rv⟩:=Vals.two r;obtain rfl:v=Value.type T:=rv;have hb:T∈["str", "int", "bool", "list", "tuple", "dict"]:=by simpa[Wv] using hT
 have fin:∀ tk,EP X pins σ Q (.bool (OU d.ty T)) { s with toks:=tk }:=λtk=>⟨.bl (OU d.ty T),H,I.tok tk,rfl,q⟩
 cases rd with
 |non=>exact QF I ru .non (jm X.K _ T (by simp) hb) fin
 |bl b=>exact QF I ru (.bl b) (jm X.K _ T (by simp) hb) fin
 |int i=>exact QF I ru (.int i) (jm X.K _ T (by simp) hb) fin
 |str y=>exact QF I ru (.str _) (jm X.K _ T (by simp) hb) fin
 |list z s' q' =>cases ru;obtain⟨its,_,pl,_⟩:=I.list s';obtain⟨o,h1,h2,_⟩:=pl.isList;exact wd Vf I.lS ⟨o,h1,h2⟩ (jm X.K "list" T (by simp) hb) (λz=>nomatch z) fin
 |tup _ s' q'=>exact QF I ru (.tup s') (jm X.K _ T (by simp) hb) fin
 |dK _ s' q' =>cases ru;obtain⟨_,_,vs,_,p⟩:=I.rd s';obtain⟨o,es,ep,h1,h2,_⟩:=p;exact wd Sr I.lS ⟨o,h1,h2.1⟩ (jm X.K "dict" T (by simp) hb) (λz=>nomatch z) fin
 |dT _ s' q' =>cases ru;obtain⟨_,_,xs,_,o,es,ep,h1,h2,_⟩:=I.rd s';exact wd Sr I.lS ⟨o,h1,h2.1⟩ (jm X.K "dict" T (by simp) hb) (λz=>nomatch z) fin
def Gh (hm:X.mg "isinstance" = none) (he:QE X K e te) (ht:PE X e2 (tC (.ty T))) (hT:autoParam (Wv T=true) bv) (hg:Gl X "isinstance" := by rfl) (hK:autoParam (X.K=K) bv) (hs:autoParam (df (e :: [e2]) X.env=(false,eI e X.env) :: df [e2] X.env) bv) (ot:autoParam (df (e2 :: []) X.env=(false,eI e2 X.env) :: df [] X.env) bv) (rh:autoParam ((ny pos (df [e2] X.env)).any (·.1)=false) bv) :
  QE X K (.Call (.Name "isinstance" p) [e,e2] [] pos) (f7 (Rt T) te):=by
 refine PE.imp (V6 (yr hK) hg hm oZ (wt he (wt ht A8 ot) hs) (by decide) (by decide) hs rh) λσ H Qv hx=>k7 hx λHs ρ ah Q sr h f=>?_;refine⟨Hs,ρ,ah,_,sr,h,λv H1 aT m x As g1 r1 f1 q1=>⟨v,x,T,rfl,r1.rep g1.wf,hT,Fin.sh (Fin.after f g1) g1.wf (.bl _) q1⟩⟩
def D_(r:Rep K H d v)(h:Uw d=some b):VZ K v H b:=by
 cases r with
 |non=>cases h;rfl
 |bl b=>cases h;rfl
 |int i=>cases h;rfl
 |str hz =>cases h;exact⟨hz,rfl⟩
 |list z s q =>cases h;refine .inl ⟨_,s,?_⟩;cases q<;>rfl
 |tup _ s q =>cases h;refine .inr (.inl ⟨_,.inl (.inl s),?_⟩);cases q<;>rfl
 |dK _ s q=>cases h
 |dT _ s q=>cases h
def G9(ha:QE X K e te)(he:∀ whole,isTrue e X.env whole=(do let v <- whole;standAt e.pos;holding [v] (truthy v)):=by intro _;rfl)(hK:autoParam (X.K=K) bv):QT X K e (W8 te):=by subst hK;refine PT.imp (fI' ha he) λσ H Qv hx=>k7 hx λHs ρ ah Q sr h f=>?_;refine⟨Hs,ρ,ah,_,sr,h,λv H1 aT m x As g1 r1 f1 q1=>?_⟩;obtain⟨b,hb,q⟩:=q1;exact⟨b,D_ (r1.rep g1.wf) hb,f b H1 aT g1 q⟩
end
def nk:Key->D
 |.inl i=>.int i
 |.inr x=>.str x
def lg:W1:=λm x Q=>match x with
 |.list xs=>(eJ xs=true/\Q (.ow true) (.list xs))\/(m=.sh/\Q (.ow false) (.list xs))
 |.tup xs=>(eJ xs=true/\Q (.ow true) (.list xs))\/(m=.sh/\Q (.ow false) (.list xs))
 |.dT kvs=>Q (.ow true) (.list (kvs.map λkv=>.tup (kv.1.map nk)))
 |_=>False
section
variable {X:Cx}{K:aE}
theorem iI:∀ {ks:List Key},(∀ k∈ks,BE k=true)->b5 K H (ks.map nk) (ks.map kV)
 |[],_=>.nil
 |k :: ks,h=>by
  refine .cons ?_ (iI λj m=>h j (dP _ m));have:=h k dz
  cases k with
  |inl i=>exact .int i
  |inr x=>exact .str (by simpa[BE] using this)
theorem fM:∀ (ks:List Key),eJ (ks.map nk)=true
 |[]=>rfl
 |k :: ks=>by simp only[gS,eJ,fM ks,S9];cases k<;>rfl
def jR(t:bZ H ys ks)(h:∀ l∈ks,l.length<=bI/\∀ k∈l,BE k=true):b5 K H (ks.map λl=>.tup (l.map nk)) ys:=by
 induction ys generalizing ks with
 |nil=>rw[show ks=[] from Paired.n0 t];exact .nil
 |cons y ys ih =>obtain⟨k,ks,rfl,⟨b,rfl,e⟩,t2⟩:=Paired.c t;exact .cons (.tup (by rw[cx];exact(h _ dz).1) e (iI (h _ dz).2)) (ih t2 λl m=>h l (dP _ m))
theorem fu:∀ (ks:List (List Key)),eJ (ks.map λl=>.tup (l.map nk))=true
 |[]=>rfl
 |l :: ks=>by simp only[gS,eJ,fu ks,S9,D.flat,fM]
def bN (hc:autoParam (X.calm=true) bv) (hK:autoParam (X.K=K) bv):kL X (.type "list") (λxs H Q=>(∃ p ys,xs=[.ref p]/\(gd K H p ys\/k5 K H p ys)/\∀ l,H l=none->Q (.ref l) (upd H l (.lst ys)))\/uq xs H Q):=by subst hK;exact gE'.or (v7 hc)
def fL:BI K (λxs H Q=>(∃ p ys,xs=[.ref p]/\(gd K H p ys\/k5 K H p ys)/\∀ l,H l=none->Q (.ref l) (upd H l (.lst ys)))\/uq xs H Q) lg:=by
 walk_at"e";have r1:=rx.rep w
 cases r1 with
 |list z s q =>
  have hl:=q.length;rcases h with⟨hf,h⟩|⟨rfl,h⟩
  ·exact .inl ⟨_,_,rfl,.inl s,f.lst w (by lia) q hf h⟩
  ·obtain⟨_,rx⟩:=rx
   cases rx with
   |list z' s' q' =>exact .inl ⟨_,_,rfl,.inl (bP.seq w.sub s'),f.Rl w (by lia) q' h⟩
 |tup z s q =>
  have hl:=q.length;rcases h with⟨hf,h⟩|⟨rfl,h⟩
  ·exact .inl ⟨_,_,rfl,.inr (.inl (.inl s)),f.lst w (by lia) q hf h⟩
  ·obtain⟨_,rx⟩:=rx
   cases rx with
   |tup z' s' q' =>exact .inl ⟨_,_,rfl,.inr (.inl (.inl (w.sub _ _ s'))),f.Rl w (by lia) q' h⟩
 |@dT _ vs kvs kk s q =>
  refine .inr ⟨_,s,λys l ht hl=>?_⟩;have hlen:=q.length;rw[cx] at hlen;have e:((kvs.map (·.1)).zip vs).map (·.1)=kvs.map (·.1):=SJ (by rw[cx];exact S4 hlen);rw[e] at ht;have rr:=jR (K:=K) ht (λl m=>by
   obtain⟨p,hp,rfl⟩:=cw.mp m;exact kk.2 p hp)
  have ff:=fu (kvs.map (·.1));rw[fN] at rr ff;exact f.lst w (by rw[cx];exact kk.1) rr ff h l hl
 |_=>exact h.elim
end
section
variable {K:aE}{Hs H:Hp}
def SR.zO(r:Rep K Hs d v)(i:Nat)(s:SR K Hs H ρ σ ah):∃ dE,dE.Sublist ah/\SR K Hs H (ρ.set i (some (.sh d))) (σ.set i (some v)) dE:=by
 induction s generalizing i with
 |nil=>exact⟨[],FP _,.nil⟩
 |non s ih =>
  cases i with
  |zero=>exact⟨_,List.Sublist.refl _,.sh r s⟩
  |succ i=>obtain⟨t,a,b⟩:=ih i;exact⟨t,a,.non b⟩
 |sh q s ih =>
  cases i with
  |zero=>exact⟨_,List.Sublist.refl _,.sh r s⟩
  |succ i=>obtain⟨t,a,b⟩:=ih i;exact⟨t,a,.sh q b⟩
 |xc s ih =>
  cases i with
  |zero=>exact⟨_,List.Sublist.refl _,.sh r s⟩
  |succ i=>obtain⟨t,a,b⟩:=ih i;exact⟨t,a,.xc b⟩
 |ow ne q s ih =>
  cases i with
  |zero=>exact⟨_,nE _ _,.sh r s⟩
  |succ i=>obtain⟨t,a,b⟩:=ih i;exact⟨_,a.append_left _,.ow ne q b⟩
 |lk ne q s ih =>
  cases i with
  |zero=>exact⟨_,nE _ _,.sh r s⟩
  |succ i=>obtain⟨t,a,b⟩:=ih i;exact⟨_,a.append_left _,.lk ne q b⟩
 |ob q s ih =>
  cases i with
  |zero=>exact⟨_,nE _ _,.sh r s⟩
  |succ i=>obtain⟨t,a,b⟩:=ih i;exact⟨_,a.append_left _,.ob q b⟩
def nu{As ah:List ai}(nd:As.Nodup)(n:ah.Nodup)(dj:∀ a∈As,a∉ah):(As++ah).Nodup:=i7.mpr ⟨nd,n,λa ha b hb e=>dj a ha (e ▸ hb)⟩
def cV{As ah B t:List ai}(n:(B++ah).Nodup)(dj:∀ a∈As,a∉B++ah)(a:t.Nodup)(b:∀ x∈t,x∈ah\/x∈As):(B++t).Nodup/\∀ x∈B++t,x∈B++ah\/x∈As:=by
 walk_at"c";refine⟨i7.mpr ⟨n1,a,λx hx y hy e=>?_⟩,λx hx=>?_⟩
 ·subst e;rcases b x hy with z|z
  ·exact n3 x hx x z rfl
  ·exact dj x z (mz _ hx)
 ·rcases fe.mp hx with z|z
  ·exact .inl (mz _ z)
  ·exact(b x z).imp (λz=>gX _ z) λz=>z
def SR.HB{d:D}{v:V}{fl:Bool}{As:List ai}(ne:As≠[])(r:cS K Hs H fl d v As)(nd:As.Nodup){ρ:Env}{σ:St}{ah:List ai}(i:Nat)(s:SR K Hs H ρ σ ah):ah.Nodup->(∀ a∈As,a∉ah) ->
  ∃ dE,dE.Nodup/\(∀ a∈dE,a∈ah\/a∈As)/\SR K Hs H (ρ.set i (some (.ow fl d))) (σ.set i (some v)) dE:=by
 induction s generalizing i with
 |nil=>exact λn _=>⟨[],qk,(λa h=>yk h),.nil⟩
 |non s ih =>
  intro n dj
  cases i with
  |zero=>exact⟨_,nu nd n dj,λa h=>(fe.mp h).symm,.ow ne r s⟩
  |succ i=>obtain⟨t,a,b,c⟩:=ih i n dj;exact⟨t,a,b,.non c⟩
 |sh q s ih =>
  intro n dj
  cases i with
  |zero=>exact⟨_,nu nd n dj,λa h=>(fe.mp h).symm,.ow ne r s⟩
  |succ i=>obtain⟨t,a,b,c⟩:=ih i n dj;exact⟨t,a,b,.sh q c⟩
 |xc s ih =>
  intro n dj
  cases i with
  |zero=>exact⟨_,nu nd n dj,λa h=>(fe.mp h).symm,.ow ne r s⟩
  |succ i=>obtain⟨t,a,b,c⟩:=ih i n dj;exact⟨t,a,b,.xc c⟩
 |ow ne' q s ih =>
  intro n dj;walk_at"c";have Ic:=λa ha m=>dj a ha (gX _ m)
  cases i with
  |zero=>exact⟨_,nu nd n2 Ic,λa h=>(fe.mp h).symm.imp (λz=>gX _ z) λz=>z,.ow ne r s⟩
  |succ i=>obtain⟨t,a,b,c⟩:=ih i n2 Ic;exact⟨_,(cV n dj a b).1,(cV n dj a b).2,.ow ne' q c⟩
 |lk ne' q s ih =>
  intro n dj;walk_at"c";have Ic:=λa ha m=>dj a ha (gX _ m)
  cases i with
  |zero=>exact⟨_,nu nd n2 Ic,λa h=>(fe.mp h).symm.imp (λz=>gX _ z) λz=>z,.ow ne r s⟩
  |succ i=>obtain⟨t,a,b,c⟩:=ih i n2 Ic;exact⟨_,(cV n dj a b).1,(cV n dj a b).2,.lk ne' q c⟩
 |ob q s ih =>
  intro n dj;walk_at"c";have Ic:=λa ha m=>dj a ha (gX _ m)
  cases i with
  |zero=>exact⟨_,nu nd n2 Ic,λa h=>(fe.mp h).symm.imp (λz=>gX _ z) λz=>z,.ow ne r s⟩
  |succ i=>obtain⟨t,a,b,c⟩:=ih i n2 Ic;exact⟨_,(cV n dj a b).1,(cV n dj a b).2,.ob q c⟩
def asg:Md->D->Option Sl
 |.sh,d=>some (.sh d)
 |.ow fl,d=>some (.ow fl d)
 |_,d=>bif d.flat then some (.sh d) else none
def fw.set(i:Nat)(s:fw K Hs ρ σ H ah)(r:RM K Hs H m d v As)(nd:As.Nodup)(dj:∀ a∈As,Hs a=none/\a∉ah)(e:asg m d=some sl) :
  ∃ dE,fw K Hs (ρ.set i (some sl)) (σ.set i (some v)) H dE:=by
 have shc:Rep K Hs d v->∃ dE,fw K Hs (ρ.set i (some (.sh d))) (σ.set i (some v)) H dE:=λr=>by obtain⟨t,a,b⟩:=s.sr.zO r i;exact⟨t,b,s.wf,a.nodup s.vv,λx hx=>s.own x (a.subset hx)⟩
 cases m with
 |sh=>cases e;exact shc r.2
 |ow fl =>cases e;obtain⟨t,a,b,c⟩:=SR.HB r.2 r.1 nd i s.sr s.vv λa ha=>(dj a ha).2;exact⟨t,c,s.wf,a,λx hx=>(b x hx).elim (s.own x) λz=>(dj x z).1⟩
 |_ =>
  cases hf:d.flat with
  |true =>simp only[asg,hf,cond_true,Option.some.injEq] at e;subst e;exact shc (r.flat s.wf hf)
  |false=>simp[asg,hf] at e
end
section
variable {X:Cx}{K:aE}{e c:Expr}{te:WE}{tc:WT}{pos:Pos}{st:Stmt}{a b rest:List Stmt}{t u:WS}
def PS.imp{te yn:TS}(h:PS X st te)(i:∀ D σ H,yn D σ H->te D σ H):PS X st yn:=λpins s σ H D I q=>h pins s σ H D I (i D σ H q)
def n9.imp{te yn:TS}(h:n9 X a te)(i:∀ D σ H,yn D σ H->te D σ H):n9 X a yn:=λpins s σ H D I q=>h pins s σ H D I (i D σ H q)
def bO:WS:=λE ρ=>E.nx ρ
def cq(t u:WS):WS:=λE ρ=>t { E with nx:=u E } ρ
def k8(te:WE):WS:=λE ρ=>te ρ E.rt
def tM(te:WE):WS:=λE ρ=>te ρ λ_ _=>E.nx ρ
def eT(i:Nat)(te:WE):WS:=λE ρ=>te ρ λm d=>match asg m d with
 |some sl=>E.nx (ρ.set i (some sl))
 |none=>False
def j3(c:WT)(t u:WS):WS:=λE ρ=>c ρ λb=>if b=true then t E ρ else u E ρ
def jt:WS:=λ_ _=>False
def aM:AB X K L [] bO:=n9.imp eB' λD σ H hx=>bY hx λHs ρ ah E sr h k1 _ _ _=>k1 σ H Hs ρ ah (bP.refl _) sr h
def Av{D:Ends}(h:DL K L (cq t u) D σ H):aG' (DL K L t) (DL K L u) D σ H:=by
 obtain⟨Hs,ρ,ah,E,sr,h,k1,k2,k3,k4,kx⟩:=h;refine⟨Hs,ρ,ah,{ E with nx:=u E },sr,h,λcK H' aC dk dE s W_ q=>?_,k2,k3,k4,kx⟩;exact⟨aC,dk,dE,E,W_,q,λmI H2 aS iL fo s2=>k1 mI H2 aS iL fo (s.trans s2),λmI H2 aS iL fo s2=>k2 mI H2 aS iL fo (s.trans s2),λmI H2 aS iL fo s2=>k3 mI H2 aS iL fo (s.trans s2),
  λv H2 aS m d As s2=>k4 v H2 aS m d As (s.trans s2),λn H2 s2=>kx n H2 (s.trans s2)⟩
def aj(h1:QS X K L st t)(h2:AB X K L rest u):AB X K L (st :: rest) (cq t u):=n9.imp (aH' h1 h2) λD σ H h=>Av h
def aq(h1:QS X K L st t):AB X K L [st] t:=aI' h1
def ir:AB X K L a jt:=n9.imp eH' λD σ H hx=>bY hx λHs ρ ah E sr h _ _ _ _=>h
def Ba:QS X K L st jt:=PS.imp eG' λD σ H hx=>bY hx λHs ρ ah E sr h _ _ _ _=>h
def bh(he:QE X K e te):QS X K L (.Return (some e) pos) (k8 te):=PS.imp (VM he) λD σ H hx=>bY hx λHs ρ ah E sr h k1 k2 k3 k4 =>
 ⟨Hs,ρ,ah,_,sr,h,λv H1 aT m d As g1 r1 f1 q1=>k4 v H1 aT m d As g1.sh g1.wf r1 f1.1 (λa ha=>(f1.2 a ha).1) q1⟩
def gM(i:Nat):WS:=λE ρ=>match ρ[i]? with
 |some (some (.sh d))=>E.rt .sh d
 |some (some (.ow fl d))=>E.rt (.ow fl) d
 |_=>False
def SR.at{ρ:Env}{σ:St}{ah:List ai}{i:Nat}{fl:Bool}{d:D}{Hs H:Hp}(s:SR K Hs H ρ σ ah)(e:ρ[i]? = some (some (.ow fl d))):∃ v As,σ[i]? = some (some v)/\As≠[]/\cS K Hs H fl d v As/\As.Sublist ah:=by
 induction s generalizing i with
 |nil=>simp at e
 |non s ih =>
  cases i with
  |zero=>simp at e
  |succ i=>exact ih e
 |sh r s ih =>
  cases i with
  |zero=>simp at e
  |succ i=>exact ih e
 |xc s ih =>
  cases i with
  |zero=>simp at e
  |succ i=>exact ih e
 |ow ne r s ih =>
  cases i with
  |zero=>simp at e;obtain⟨rfl,rfl⟩:=e;exact⟨_,_,rfl,ne,r,Nc _ _⟩
  |succ i =>obtain⟨v,As,a,b,c,d⟩:=ih e;exact⟨v,As,a,b,c,d.trans (nE _ _)⟩
 |lk ne r s ih =>
  cases i with
  |zero=>simp at e
  |succ i =>obtain⟨v,As,a,b,c,d⟩:=ih e;exact⟨v,As,a,b,c,d.trans (nE _ _)⟩
 |ob r s ih =>
  cases i with
  |zero=>simp at e
  |succ i =>obtain⟨v,As,a,b,c,d⟩:=ih e;exact⟨v,As,a,b,c,d.trans (nE _ _)⟩
def cL{i:Nat}(he:PE X e (GB i)):QS X K L (.Return (some e) pos) (gM i):=PS.imp (VM he) λD σ H hx=>bY hx λHs ρ ah E sr h k1 k2 k3 k4=>by
 unfold gM at h;split at h
 ·rename_i d e1;obtain⟨v,e2,r⟩:=sr.sr.get e1;exact⟨v,e2,k4 v H Hs .sh d [] (bP.refl _) sr.wf ⟨rfl,r⟩ qk (λa ha=>nomatch ha) h⟩
 ·rename_i fl d e1;obtain⟨v,As,e2,ne,r,sb⟩:=sr.sr.at e1;exact⟨v,e2,k4 v H Hs (.ow fl) d As (bP.refl _) sr.wf ⟨r,ne⟩ (sb.nodup sr.vv) (λa ha=>sr.own a (sb.subset ha)) h⟩
 ·exact h.elim
def lC(he:QE X K e te)(hs:autoParam (rV e none pos.line X.env=pure false) bv):QS X K L (.Expr e pos) (tM te):=PS.imp (Qz he hs) λD σ H hx=>bY hx λHs ρ ah E sr h k1 k2 k3 k4 =>
 ⟨Hs,ρ,ah,_,sr,h,λv H1 aT m d As g1 r1 f1 q1=>k1 σ H1 aT ρ ah g1.sh (sr.grow g1) q1⟩
def aB(i:Nat){x:Str}{pos':Pos}(he:QE X K e te)(hs:autoParam (rV e (some (.Name x pos')) pos.line X.env=pure false) bv) (hf:X.fn x=true\/X.env.scope.names.lookup x=some .local:=by first|exact .inl rfl|exact .inr rfl|assumption) (hN:X.N.Nodup:=by assumption) (hi:autoParam (X.N[i]? = some x) bv) (hx:Loc X.env.scope x:=by first|exact .inl rfl|exact .inr rfl):QS X K L (.Assign [.Name x pos'] e pos) (eT i te):=PS.imp (Ts hN hi hx he hs hf) λD σ H hx=>bY hx λHs ρ ah E sr h k1 k2 k3 k4=>by
 refine⟨Hs,ρ,ah,_,sr,h,λv H1 aT m d As g1 r1 f1 q1=>?_⟩
 cases e:asg m d with
 |none=>rw[e] at q1;exact q1.elim
 |some sl =>rw[e] at q1;obtain⟨dE,s'⟩:=(sr.grow g1).set i r1 f1.1 (λa ha=>⟨(f1.2 a ha).1,λm=>(sr.sr.own a m).ne (f1.2 a ha).2⟩) e;exact k1 _ H1 aT _ dE g1.sh s' q1
def bL(hc:QT X K c tc)(ha:AB X K L a t)(hb:AB X K L b u):QS X K L (.If c a b pos) (j3 tc t u):=PS.imp (eF' hc ha hb) λD σ H hx=>oX hx λHs ρ ah E sr h k1 k2 k3 k4 kx=>by
 refine⟨Hs,ρ,ah,_,sr,h,λk H1 aT g1 q1=>?_⟩;have k1':∀ cK H' aC dk dE,bP aT aC->fw K aC dk cK H' dE->E.nx dk->D.nx cK H':=λmI H2 aS iL fo s2=>k1 mI H2 aS iL fo (g1.sh.trans s2);have k2':∀ cK H' aC dk dE,bP aT aC->fw K aC dk cK H' dE->E.bk dk->D.bk cK H':=λmI H2 aS iL fo s2=>k2 mI H2 aS iL fo (g1.sh.trans s2);have k3':∀ cK H' aC dk dE,bP aT aC->fw K aC dk cK H' dE->E.ct dk->D.ct cK H':=λmI H2 aS iL fo s2=>k3 mI H2 aS iL fo (g1.sh.trans s2)
 cases k with
 |true=>exact⟨aT,ρ,ah,E,sr.grow g1,q1,k1',k2',k3',(λv H2 aS m d As s2=>k4 v H2 aS m d As (g1.sh.trans s2)),λn H2 s2=>kx n H2 (g1.sh.trans s2)⟩
 |false=>exact⟨aT,ρ,ah,E,sr.grow g1,q1,k1',k2',k3',(λv H2 aS m d As s2=>k4 v H2 aS m d As (g1.sh.trans s2)),λn H2 s2=>kx n H2 (g1.sh.trans s2)⟩
def AF(Hs H:Hp)(As:List ai):Hp:=λa=>if a∈As then H a else Hs a
def jT(n:∀ a∈As,Hs a=none):bP Hs (AF Hs H As):=λa o e=>by unfold AF;rw[if_neg λm=>by rw[n a m] at e;cases e];exact e
def CT(w:Wf Hs H)(o:∀ a∈As,Own H a):Wf (AF Hs H As) H:=⟨λa u e=>by
  unfold AF at e;by_cases m:a∈As
  ·rw[if_pos m] at e;exact e
  ·rw[if_neg m] at e;exact w.sub a u e,λa vs e=>by
  unfold AF;rw[if_neg λm=>(o a m).DN e];exact w.lP a vs e⟩
def Ru:Sl->Sl
 |.sh d=>.sh d
 |.ow _ d=>.sh d
 |.lk a fl d=>.lk a fl d
 |.xc a=>.xc a
 |.ob a p=>.ob a p
def Rv:Sl->Sl
 |.sh d=>.sh d
 |.ow _ d=>.sh d
 |.lk _ _ d=>.sh d
 |.xc a=>.xc a
 |.ob a _=>.xc a
def Rw(i:Nat)(ρ:Env):Env:=match ρ[i]? with
 |some (some sl)=>ρ.set i (some (Ru sl))
 |_=>ρ
def iZ{As ah B t:List ai}(n:(B++ah).Nodup)(a:As.Sublist ah)(c:∀ x∈As,x∉t):∀ x∈As,x∉B++t:=λx hx m=>by
 walk_at"c";rcases fe.mp m with z|z
 ·exact n3 x z x (a.subset hx) rfl
 ·exact c x hx z
def SR.qE(i:Nat)(s:SR K Hs H ρ σ ah):ρ[i]? = some (some (.ow fl d))->ah.Nodup ->
  ∃ (As dE:List ai),As.Sublist ah/\dE.Sublist ah/\(∀ a∈As,a∉dE)/\∀ aC,bP Hs aC->(∀ a∈As,aC a=H a)->SR K aC H (ρ.set i (some (.sh d))) σ dE:=by
 induction s generalizing i with
 |nil=>intro e;simp at e
 |non q ih =>
  intro e n
  cases i with
  |zero=>simp at e
  |succ i =>obtain⟨As,t,a,b,c,d⟩:=ih i e n;exact⟨As,t,a,b,c,λaC s k=>.non (d aC s k)⟩
 |sh r q ih =>
  intro e n
  cases i with
  |zero=>simp at e
  |succ i =>obtain⟨As,t,a,b,c,d⟩:=ih i e n;exact⟨As,t,a,b,c,λaC s k=>.sh (r.same s) (d aC s k)⟩
 |xc q ih =>
  intro e n
  cases i with
  |zero=>simp at e
  |succ i =>obtain⟨As,t,a,b,c,d⟩:=ih i e n;exact⟨As,t,a,b,c,λaC s k=>.xc (d aC s k)⟩
 |ow ne r q ih =>
  intro e n;walk_at"c"
  cases i with
  |zero =>obtain⟨rfl,rfl⟩:=e;exact⟨_,_,Nc _ _,nE _ _,λa h m=>n3 a h a m rfl,λaC s k=>.sh (r.rep s k) (q.fT s λ_ _=>rfl)⟩
  |succ i =>obtain⟨As,t,a,b,c,d⟩:=ih i e n2;exact⟨As,_,a.trans (nE _ _),b.append_left _,iZ n a c,λaC s k=>.ow ne (r.fT s λ_ _=>rfl) (d aC s k)⟩
 |lk ne r q ih =>
  intro e n;walk_at"c"
  cases i with
  |zero=>simp at e
  |succ i =>obtain⟨As,t,a,b,c,d⟩:=ih i e n2;exact⟨As,_,a.trans (nE _ _),b.append_left _,iZ n a c,λaC s k=>.lk ne (r.fT s λ_ _=>rfl) (d aC s k)⟩
 |@ob _ _ _ _ _ p r q ih =>
  intro e n;walk_at"c"
  cases i with
  |zero=>simp at e
  |succ i =>obtain⟨As,t,a,b,c,d⟩:=ih i e n2;exact⟨As,_,a.trans (nE _ _),b.append_left _,iZ n a c,λaC s k=>.ob (p.fT (sW s) (λ_ _=>rfl) r) (d aC s k)⟩
def fw.qE(i:Nat)(s:fw K Hs ρ σ H ah):∃ aC dE,bP Hs aC/\fw K aC (Rw i ρ) σ H dE:=by
 unfold Rw;split
 ·rename_i sl e;have keep:Ru sl=sl->∃ aC dE,bP Hs aC/\fw K aC (ρ.set i (some (Ru sl))) σ H dE:=λhs=>by
   have e2:ρ.set i (some (Ru sl))=ρ:=by
    apply FI;intro j;rw[List.getElem?_set];by_cases h:i=j
    ·subst h;rw[if_pos rfl,e];have:i<ρ.length:=(iF.mp e).1;simp[this,hs]
    ·rw[if_neg h]
   rw[e2];exact⟨Hs,ah,bP.refl _,s⟩
  cases sl with
  |sh d=>exact keep rfl
  |xc a=>exact keep rfl
  |lk a fl d=>exact keep rfl
  |ob a p=>exact keep rfl
  |ow fl d =>obtain⟨As,t,a,b,c,g⟩:=SR.qE i s.sr e s.vv;have hn:∀ a∈As,Hs a=none:=λx hx=>s.own x (a.subset hx);have ho:∀ a∈As,Own H a:=λx hx=>s.sr.own x (a.subset hx);refine⟨AF Hs H As,t,jT hn,g _ (jT hn) λx hx=>by unfold AF;rw[if_pos hx],CT s.wf ho,b.nodup s.vv,λx hx=>?_⟩;unfold AF;rw[if_neg λm=>c x m hx];exact s.own x (b.subset hx)
 ·exact⟨Hs,ah,bP.refl _,s⟩
def gv(i:Nat)(t:WS):WS:=λE ρ=>t E (Rw i ρ)
def Al{D:Ends}(h:DL K L (gv i t) D σ H):DL K L t D σ H:=by
 obtain⟨Hs,ρ,ah,E,sr,h,k1,k2,k3,k4,kx⟩:=h;obtain⟨aC,dE,s,W_⟩:=sr.qE i;exact⟨aC,_,dE,E,W_,h,λmI H2 aS iL fo s2=>k1 mI H2 aS iL fo (s.trans s2),λmI H2 aS iL fo s2=>k2 mI H2 aS iL fo (s.trans s2),λmI H2 aS iL fo s2=>k3 mI H2 aS iL fo (s.trans s2),
  λv H2 aS m d As s2=>k4 v H2 aS m d As (s.trans s2),λn H2 s2=>kx n H2 (s.trans s2)⟩
def aD(i:Nat)(h:QS X K L st t):QS X K L st (gv i t):=PS.imp h λD σ H h=>Al h
def lG(aT H1 aC H':Hp):Hp:=λa=>match H' a with
 |some (.tup vs)=>some (.tup vs)
 |_=>match H1 a with
  |none=>aC a
  |some _=>aT a
def iy(w:Wf aT H1)(s:bP H1 aC)(w':Wf aC H'):fR aT H1 (lG aT H1 aC H') H':=by
 have sa:bP H1 H':=s.trans w'.sub;have tp:∀ a vs,H' a=some (.tup vs)->lG aT H1 aC H' a=some (.tup vs):=λa vs e=>by unfold lG;rw[e]
 have nt:∀ a,(∀ vs,H' a≠some (.tup vs))->lG aT H1 aC H' a=match H1 a with
  |none=>aC a
  |some _=>aT a:=λa h=>by
  unfold lG;split
  ·rename_i vs e;exact absurd e (h vs)
  ·rfl
 refine⟨sa,λa o e=>?_,⟨λa o e=>?_,tp⟩,λa h=>?_⟩
 ·have e1:=w.sub a o e;have e2:=sa a o e1;by_cases ht:∃ vs,o=.tup vs
  ·obtain⟨vs,rfl⟩:=ht;exact tp a vs e2
  ·rw[nt a λvs z=>ht ⟨vs,by rw[e2] at z;exact Option.some.inj z⟩,e1];exact e
 ·by_cases ht:∃ vs,H' a=some (.tup vs)
  ·obtain⟨vs,z⟩:=ht;rw[tp a vs z] at e;rw[z];exact e
  ·rw[nt a λvs z=>ht ⟨vs,z⟩] at e
   cases q:H1 a with
   |none=>rw[q] at e;exact w'.sub a o e
   |some u =>rw[q] at e;have:=w.sub a o e;exact sa a o this
 ·cases q:H1 a with
  |none=>exact .inr rfl
  |some u =>
   refine .inl ?_;by_cases ht:∃ vs,H' a=some (.tup vs)
   ·obtain⟨vs,z⟩:=ht;have:=sa a u q;rw[z] at this;cases this;rw[w.lP a vs q];exact λz=>nomatch z
   ·rw[nt a λvs z=>ht ⟨vs,z⟩,q] at h;exact h
def yo{aT H1 aC H':Hp}{a:ai}(s:bP H1 aC)(h:aC a=none)(o:Own H' a):lG aT H1 aC H' a=none/\H1 a=none:=by
 have h1:=s.free h;refine⟨?_,h1⟩;unfold lG;split
 ·rename_i vs e;exact absurd e o.DN
 ·rw[h1];exact h
def Iq:Md->D->Md
 |.ow true,_=>.ow true
 |_,d=>bif d.flat then .sh else .bo
def sH(w:Wf aT H1)(s:bP H1 aC)(w':Wf aC H')(r:RM K aC H' m d v As)(nd:As.Nodup)(own:∀ a∈As,aC a=none) :
  ∃ iX,RM K (lG aT H1 aC H') H' (Iq m d) d v iX/\cM (lG aT H1 aC H') H1 iX:=by
 have g:=iy w s w';have other:∃ iX,RM K (lG aT H1 aC H') H' (bif d.flat then .sh else .bo) d v iX/\cM (lG aT H1 aC H') H1 iX:=by
  cases hf:d.flat with
  |true=>exact⟨[],⟨rfl,(r.rep w').fH g.wf.lP hf⟩,cM.nil⟩
  |false=>exact⟨[],⟨rfl,r.rep w'⟩,cM.nil⟩
 cases m with
 |sh=>exact other
 |bo=>exact other
 |ow fl =>
  cases fl with
  |false=>exact other
  |true=>exact⟨As,⟨cS.leaves (λa vs e=>g.wf.lP a vs (w'.sub _ _ e)) r.1,r.2⟩,nd,λa h=>yo s (own a h) (r.own a h)⟩
abbrev ip:=List D->(Md->D->Prop)->Prop
def gD(K:aE)(sp:ip):Sp:=λvs H Qv _=>∃ ds Qd,b5 K H ds vs/\sp ds Qd /\
 ∀ v H' aC m d As,bP H aC->Wf aC H'->RM K aC H' m d v As->As.Nodup->(∀ a∈As,aC a=none)->Qd m d->Qv v H'
def aL(n:Nat)(ds:List D):Env:=ds.map (λd=>some (.sh d))++List.replicate (n-ds.length) none
def SR.start(r:b5 K H ds vs):SR K H H (ds.map (λd=>some (.sh d))++List.replicate n none) (vs.map some++List.replicate n none) []:=by
 induction ds generalizing vs with
 |nil =>
  rw[r.n0]
  induction n with
  |zero=>exact .nil
  |succ n ih=>exact .non ih
 |cons d ds ih =>obtain⟨u,us,rfl,r,rs⟩:=r.c;exact .sh r (ih rs)
def zB(h:gD K sp vs H Qv E)(hp:∀ ds Q,sp ds Q->t { nx:=λ_=>Q .sh .non,rt:=Q } (aL N.length ds)) :
  DL K L0 t { nx:=λ_ H'=>Qv .non H',rt:=Qv } (start N vs) H:=by
 obtain⟨ds,Qd,rs,hs,fin⟩:=h;have hl:=rs.length;refine⟨H,aL N.length ds,[],{ nx:=λ_=>Qd .sh .non,rt:=Qd },⟨?_,⟨bP.refl _,λ_ _ e=>e⟩,qk,λa h=>nomatch h⟩,hp ds Qd hs,?_,?_,?_,?_,λ_ _ _ _=>trivial⟩
 ·unfold aL start;rw[hl];exact SR.start rs
 ·exact λcK H' aC dk dE s sr q=>fin .non H' aC .sh .non [] s sr.wf ⟨rfl,.non⟩ qk (λa h=>nomatch h) q
 ·exact λcK H' aC dk dE s sr q=>q.elim
 ·exact λcK H' aC dk dE s sr q=>q.elim
 ·exact λv H' aC m d As s w r nd own q=>fin v H' aC m d As s w r nd own q
def Za.ok{P:eL}{st:Stmt}{N ps:List Str}(F:DE K x qual st f fd)(S:QH N ps (nL st))(len:∀ ds Q,sp ds Q->ds.length=ps.length)(QK:∀ (gI:ae) (A:fq) (outer:List PySem.Env) (s:ay) (H:Hp) (E:XK),oa k (A.deeper (envOfC qual (nL st) s.heap.objs.size f gI))->AB (CY wx P w K mg base N qual (nL st) f gI A outer s H E).GH K L0 (x8 st) t)(hp:∀ ds Q,sp ds Q->t { nx:=λ_=>Q .sh .non,rt:=Q } (aL N.length ds)):Ap P w K mg base wx (k+1) f fd ps (gD K sp) :=
 F.ok S (λvs H Q E ⟨ds,Qd,rs,hs,_⟩=>by rw[<- rs.length];exact len ds Qd hs) λgI A outer s H vs Q E hr hs=>⟨_,QK gI A outer s H E hr,zB hs hp⟩
def aG(sp:ip)(t:WA):WE:=λρ Q=>t ρ λps=>sp (ps.map (·.2)) λm d=>dy (m,d) (f:=λp=>Q (Iq p.1 p.2) p.2) ⟨⟩
def zp{sp:ip}{t:WA}{σ:St}{H:Hp}{Qv:VK}{E:XK}(h:om K (aG sp t) σ H Qv):V4 (gD K sp) [] E (tpA K t) σ H Qv:=by obtain⟨Hs,ρ,ah,Q,sr,h,f⟩:=h;refine⟨Hs,ρ,ah,_,sr,h,λvs H1 aT ps As g1 r1 f1 q1=>?_⟩;refine⟨_,_,by rw[sR];exact r1.reps g1.wf,q1,λv H' aC m d As s w r nd own q=>?_⟩;obtain⟨iX,r',fr⟩:=sH g1.wf s w r nd own;exact Fin.after f g1 v H' _ (Iq m d) d iX (iy g1.wf s w) r' fr q
def aH {k:Nat} {x:Str} {ps:List Str} {sp:ip} {p:Pos} {es:List Expr} {t:WA} (C:Ug X.prog X.w X.K X.mg X.base k x ps (gD K sp)) (ha:QA X K (e :: es) t) (hg:autoParam (Gl X x) bv) (ve:(x == ("__debug__" : Str))=false:=by decide) (he:autoParam (df (e :: es) X.env=(false,eI e X.env) :: df es X.env) bv) (rh:autoParam ((ny pos (df es X.env)).any (·.1)=false) bv) (hr:oa k X.A:=by exact oa.mono (by assumption) (by decide)):QE X K (.Call (.Name x p) (e :: es) [] pos) (aG sp t):=PE.imp (Im C hr ha hg ve he rh) λσ H Qv h=>zp h
end
abbrev WG:=D->Env->(Env->Prop)->Prop
def tpG(K:aE)(g:WG):TG:=λv σ H Qv=>∃ Hs ρ ah d Q,fw K Hs ρ σ H ah/\Rep K Hs d v/\g d ρ Q/\∀ cK dk dE,fw K Hs dk cK H dE->(∀ a∈dE,a∈ah)->Q dk->Qv cK H
abbrev QG(X:Cx)(K:aE)(e:Expr)(g:WG):Prop:=PG X e (tpG K g)
def gN(i:Nat):WG:=λd ρ Q=>Q (ρ.set i (some (.sh d)))
abbrev L5:=List D->Env->(Env->Prop)->Prop
def js'(K:aE)(g:L5):N9:=λvs σ H Qv=>∃ Hs ρ ah ds Q,fw K Hs ρ σ H ah/\b5 K Hs ds vs/\g ds ρ Q/\∀ cK dk dE,fw K Hs dk cK H dE->(∀ a∈dE,a∈ah)->Q dk->Qv cK H
abbrev UA(X:Cx)(K:aE)(es:List Expr)(g:L5):Prop:=CM X es (js' K g)
def j8:L5:=λds ρ Q=>ds=[]/\Q ρ
def bj(g:WG)(gs:L5):L5:=λds ρ Q=>match ds with
 |d :: ds=>g d ρ λdk=>gs ds dk Q
 |[]=>False
def gT(n:Nat)(gs:L5):WG:=λd ρ Q=>match d with
 |.tup ds=>ds.length=n/\gs ds ρ Q
 |_=>False
section
variable {X:Cx}{K:aE}{e:Expr}{es:List Expr}{g:WG}{gs:L5}{pos:Pos}
def PG.imp(h:PG X e t)(i:∀ v σ H Q,t' v σ H Q->t v σ H Q):PG X e t':=λpins s σ H v u Q I r q=>h pins s σ H v u Q I r (i v σ H Q q)
def CM.imp(h:CM X es t)(i:∀ v σ H Q,t' v σ H Q->t v σ H Q):CM X es t':=λpins s σ H v u Q I r q=>h pins s σ H v u Q I r (i v σ H Q q)
def fw.JN(i:Nat)(s:fw K Hs ρ σ H ah)(r:Rep K Hs d v):∃ dE,(∀ a∈dE,a∈ah)/\fw K Hs (ρ.set i (some (.sh d))) (σ.set i (some v)) H dE:=by obtain⟨t,a,b⟩:=s.sr.zO r i;exact⟨t,λx hx=>a.subset hx,b,s.wf,a.nodup s.vv,λx hx=>s.own x (a.subset hx)⟩
def az(i:Nat)(hf:X.fn x=true\/X.env.scope.names.lookup x=some .local:=by first|exact .inl rfl|exact .inr rfl|assumption)(hN:X.N.Nodup:=by assumption)(hi:autoParam (X.N[i]? = some x) bv)(hx:Loc X.env.scope x:=by first|exact .inl rfl|exact .inr rfl):QG X K (.Name x pos) (gN i) :=
 PG.imp (eI' hN hi hx hf) λv σ H Qv eP=>by obtain⟨Hs,ρ,ah,d,Q,sr,r,h,k⟩:=eP;obtain⟨t,m,s⟩:=sr.JN i r;exact k _ _ t s m h
def fU:UA X K [] j8:=CM.imp eL' λv σ H Qv eP=>by obtain⟨Hs,ρ,ah,ds,Q,sr,r,h,k⟩:=eP;obtain⟨rfl,h⟩:=h;cases r;exact⟨rfl,k σ ρ ah sr (λ_ z=>z) h⟩
def aN(h1:QG X K e g)(h2:UA X K es gs)(hs:autoParam ((AR (e :: es) X.env).map (·.2)=assign e X.env :: (AR es X.env).map (·.2)) bv):UA X K (e :: es) (bj g gs) :=
 CM.imp (eM' h1 h2 hs) λv σ H Qv eP=>by
  obtain⟨Hs,ρ,ah,ds,Q,sr,r,h,k⟩:=eP
  cases r with
  |nil=>exact h.elim
  |cons r rs=>exact⟨_,_,rfl,Hs,ρ,ah,_,_,sr,r,h,λmI iL fo iN m2 q2=>⟨Hs,iL,fo,_,Q,iN,rs,q2,λtj PH Zb Zc m3=>k tj PH Zb Zc λa h=>m2 a (m3 a h)⟩⟩
def jA(h:UA X K es gs)(hn:autoParam ((AR es X.env).length=n) bv)(qS:autoParam ((AR es X.env).findIdx? (·.1)=none) bv)(hc:autoParam (X.calm=true) bv):QG X K (.Tuple es k pos) (gT n gs) :=
 PG.imp (eO' hc h hn qS) λv σ H Qv eP=>by
  obtain⟨Hs,ρ,ah,d,Q,sr,r,h,k⟩:=eP
  cases r with
  |tup z e rs=>exact⟨_,_,rfl,.inl (.inl (sr.wf.sub _ _ e)),by rw[<- rs.length];exact h.1,Hs,ρ,ah,_,Q,sr,rs,h.2,k⟩
  |_=>exact h.elim
end
abbrev WI:=Env->(List D->Prop)->Prop
structure tR(K:aE)(J:It)(ds:List D)(C:Hp->Hp->Prop):Prop where
 go:∀ i Hs H,C Hs H->Wf Hs H->i<ds.length->J.go i H
 qV:∀ i Hs H x H' d,C Hs H->Wf Hs H->ds[i]? = some d->J.qV i H x H'->∃ aC,fR Hs H aC H'/\Rep K aC d x
 stop:∀ Hs H,C Hs H->Wf Hs H->J.stop ds.length H
abbrev xg(K:aE)(Hs:Hp)(J:It)(ds:List D):Prop:=tR K J ds λG _=>bP Hs G
section
variable {K:aE}{Hs:Hp}{J:It}{ds:List D}{C C':Hp->Hp->Prop}{a:ai}
def tR.imp(S:tR K J ds C)(h:∀ Hs H,C' Hs H->C Hs H):tR K J ds C':=⟨λi Hs H c=>S.go i Hs H (h _ _ c),λi Hs H x H' d c=>S.qV i Hs H x H' d (h _ _ c),λHs H c=>S.stop Hs H (h _ _ c)⟩
def tR.seq(rs:b5 K Hs ds vs)(S:jG J vs λH=>bP Hs H):xg K Hs J ds where
 go:=λi G H s w h=>S.go i H (s.trans w.sub) (by rw[<- rs.length];exact h)
 qV:=λi G H x H' d s w h y=>by
  have hi:i<ds.length:=by
   rcases NS i ds.length with q|q
   ·exact q
   ·rw[xE q] at h;cases h
  obtain⟨e,z⟩:=S.qV i H x H' (s.trans w.sub) (by rw[<- rs.length];exact hi) y;subst e;obtain⟨d',ed,rd⟩:=rs.co' z;rw[h] at ed;cases ed;exact⟨G,fR.refl w,rd.same s⟩
 stop:=λG H s w=>by rw[rs.length];exact S.stop H (s.trans w.sub)
abbrev CP(K:aE)(a:ai)(ds:List D)(C:Hp->Hp->Prop):Prop:=∀ Hs H,C Hs H->Wf Hs H->∃ vs,gd K H a vs/\b5 K Hs ds vs
def tR.list(h:CP K a ds C):tR K (Tv K a) ds C where
 go:=λi G H c w hi=>by obtain⟨vs,q,rs⟩:=h G H c w;exact⟨vs,vs[i]'(by rw[<- rs.length];exact hi),q,by simp⟩
 qV:=λi G H x H' d c w hd y=>by obtain⟨vs,q,rs⟩:=h G H c w;obtain⟨rfl,y⟩:=y;obtain⟨d',ed,rd⟩:=rs.co' (y vs q);rw[hd] at ed;cases ed;exact⟨G,fR.refl w,rd⟩
 stop:=λG H c w=>by obtain⟨vs,q,rs⟩:=h G H c w;exact⟨vs,q,by rw[rs.length];exact c9 _⟩
def zK(s:gd K Hs a vs)(rs:b5 K Hs ds vs):CP K a ds λG _=>bP Hs G:=λG H c w=>⟨vs,bP.seq (c.trans w.sub) s,rs.same c⟩
end
def tpI(K:aE)(wi:WI):TI:=λσ H R=>∃ Hs ρ ah Q,fw K Hs ρ σ H ah/\wi ρ Q/\∀ J H' aC ds,fR Hs H aC H'->xg K aC J ds->ds.length<=bI->Q ds->R J H'
abbrev QI(X:Cx)(K:aE)(tg iter:Expr)(wi:WI):Prop:=PI X tg iter (tpI K wi)
def rP:Md->Prop
 |.bo=>False
 |_=>True
def cP(te:WE):WI:=λρ Q=>te ρ λm d=>rP m/\match d with
 |.list xs=>Q xs
 |_=>False
def Ce(te:WE):WI:=λρ Q=>te ρ λm d=>rP m/\match d with
 |.tup xs=>Q xs
 |_=>False
def Zd(z:Str):List D:=z.cps.toList.map λc=>.str ⟨#[c]⟩
def Cd(te:WE):WI:=λρ Q=>te ρ λ_ d=>match d with
 |.str z=>Q (Zd z)
 |_=>False
def gH(lo:Int)(n:Nat):List D:=(List.range n).map λi=>.int (lo+(i:Nat))
def cQ(te:WE):WI:=λρ Q=>te ρ λ_ d=>match d with
 |.int j=>j<=16777216/\-(2 ^ 62)<=j/\Q (gH 0 j.toNat)
 |_=>False
section
variable {X:Cx}{K:aE}{e e2 tg:Expr}{te Ze:WE}{pos p:Pos}
def PI.imp(h:PI X tg iter t)(i:∀ σ H R,t' σ H R->t σ H R):PI X tg iter t':=λpins s σ H R I q=>h pins s σ H R I (i σ H R q)
def jG.imp{J:It}(s:jG J vs c)(h:∀ H,c' H->c H):jG J vs c':=⟨λi H q=>s.go i H (h H q),λi H x H' q=>s.qV i H x H' (h H q),λH q=>s.stop H (h H q)⟩
def RM.zE(g:fR Hs H aT H1)(r:RM K aT H1 m d v As)(f:cM aT H As)(h:rP m):∃ aS,fR Hs H aS H1/\Rep K aS d v:=by
 have n:∀ a∈As,aT a=none:=λa ha=>(f.2 a ha).1;have pub:Rep K (AF aT H1 As) d v->∃ aS,fR Hs H aS H1/\Rep K aS d v:=λz=>by
  refine⟨AF aT H1 As,⟨g.all,g.sh.trans (jT n),CT g.wf r.own,λa h=>?_⟩,z⟩;unfold AF at h;by_cases m:a∈As
  ·exact .inr (f.2 a m).2
  ·rw[if_neg m] at h;exact g.new a h
 cases m with
 |sh=>exact⟨aT,g,r.2⟩
 |bo=>exact h.elim
 |ow fl=>exact pub (cS.rep (jT n) r.1 λa ha=>by unfold AF;rw[if_pos ha])
def b_(he:QE X K e te)(hK:autoParam (X.K=K) bv):QI X K tg e (cP te):=by
 subst hK;refine PI.imp (aL' he) λσ H R hx=>k7 hx λHs ρ ah Q sr h k=>⟨Hs,ρ,ah,_,sr,h,λv H1 aT m d As g1 r1 f1 q1=>?_⟩
 obtain⟨nb,q1⟩:=q1;obtain⟨aS,g2,r2⟩:=r1.zE g1 f1 nb
 cases r2 with
 |list z s rs=>exact⟨_,rfl,⟨_,bP.seq g2.wf.sub s⟩,k _ H1 aS _ g2 (.seq rs (jG.imp (Br X.K _ _) λH' s'=>bP.seq s' s)) (by rw[rs.length];exact z) q1⟩
 |_=>exact q1.elim
def Hx(he:QE X K e te)(hK:autoParam (X.K=K) bv):QI X K tg e (Ce te):=by
 refine PI.imp (eX' he) λσ H R hx=>k7 hx λHs ρ ah Q sr h k=>⟨Hs,ρ,ah,_,sr,h,λv H1 aT m d As g1 r1 f1 q1=>?_⟩
 obtain⟨nb,q1⟩:=q1;obtain⟨aS,g2,r2⟩:=r1.zE g1 f1 nb
 cases r2 with
 |tup z s rs=>exact⟨_,rfl,⟨_,.inl (.inl (g2.wf.sub _ _ s))⟩,k _ H1 aS _ g2 (.seq rs (jG.imp (G4 X.K _ _) λH' s'=>.inl (.inl (s' _ _ s)))) (by rw[rs.length];exact z) q1⟩
 |_=>exact q1.elim
theorem uc:∀ (l:List Nat),b5 K H (l.map λc=>.str ⟨#[c]⟩) (l.map λc=>V.str ⟨#[c]⟩)
 |[]=>.nil
 |c :: l=>.cons (.str (y_ c)) (uc l)
def JB(he:QE X K e te):QI X K tg e (Cd te):=by
 refine PI.imp (JD he) λσ H R hx=>k7 hx λHs ρ ah Q sr h k=>⟨Hs,ρ,ah,_,sr,h,λv H1 aT m d As g1 r1 f1 q1=>?_⟩
 have r:=r1.rep g1.wf
 cases r with
 |str hz=>exact⟨_,rfl,k _ H1 aT _ g1 (.seq (uc _) (jG.imp (Gx _) λ_ _=>trivial)) (by rw[cx,CH];exact hz) q1⟩
 |_=>exact q1.elim
theorem rK(lo:Int):∀ (l:List Nat),b5 K H (l.map λi=>.int (lo+(i:Nat))) (l.map λi=>V.int (lo+(i:Nat)))
 |[]=>.nil
 |c :: l=>.cons (.int _) (rK lo l)
def cu (hm:X.mg "range" = none) (he:QE X K e te) (hg:Gl X "range" := by rfl) (hs:autoParam (df [e] X.env=(false,eI e X.env) :: df [] X.env) bv) (g7:autoParam (df [e] X.env=[(false,eI e X.env)]) bv):QI X K tg (.Call (.Name "range" p) [e] [] pos) (cQ te):=by
 refine PI.imp (fa' hg hm (wt he A8 hs) g7) λσ H R hx=>k7 hx λHs ρ ah Q sr h k=>⟨Hs,ρ,ah,_,sr,h,λv H1 aT m d As g1 r1 f1 q1=>?_⟩
 have r:=r1.rep g1.wf
 cases r with
 |int j =>obtain⟨h1,h2,q1⟩:=q1;exact⟨j,rfl,h2,by lia,k _ H1 aT _ g1 (.seq (rK 0 _) (jG.imp (DP _ _) λ_ _=>trivial)) (by rw[cx,Qg,kU];lia) q1⟩
 |_=>exact q1.elim
section
variable {X:Cx}{K:aE}{e tg:Expr}{te:WE}
def cF'(K:aE)(wi:WI):TI:=λσ H R=>∃ Hs ρ ah Q,fw K Hs ρ σ H ah/\wi ρ Q/\∀ J H' aC ds,fR Hs H aC H'->xg K H' J ds->ds.length<=bI->Q ds->R J H'
abbrev UB(X:Cx)(K:aE)(tg iter:Expr)(wi:WI):Prop:=PI X tg iter (cF' K wi)
def mV(h:QI X K tg iter wi):UB X K tg iter wi:=PI.imp h λσ H R hx=>k7 hx λHs ρ ah Q sr h k=>⟨Hs,ρ,ah,Q,sr,h,λJ H' aC ds g w z q=>k J H' aC ds g (w.imp λG H s=>g.wf.sub.trans s) z q⟩
def dG(te:WE):WI:=λρ Q=>te ρ λ_ d=>match d with
 |.list xs=>Q xs
 |_=>False
def dq(he:QE X K e te)(hK:autoParam (X.K=K) bv):UB X K tg e (dG te):=by
 subst hK;refine PI.imp (aL' he) λσ H R hx=>k7 hx λHs ρ ah Q sr h k=>⟨Hs,ρ,ah,_,sr,h,λv H1 aT m d As g1 r1 f1 q1=>?_⟩
 have r:=r1.rep g1.wf
 cases r with
 |list z s rs=>exact⟨_,rfl,⟨_,s⟩,k _ H1 aT _ g1 (.list (zK s rs)) (by rw[rs.length];exact z) q1⟩
 |_=>exact q1.elim
end
def pK(g:WG)(b:WS)(E:jD):List D->Env->Prop
 |[],ρ=>E.nx ρ
 |x :: xs,ρ=>g x ρ λrn=>b { E with nx:=pK g b E xs,ct:=pK g b E xs,bk:=E.nx } rn
def nv(wi:WI)(g:WG)(b:WS):WS:=λE ρ=>wi ρ λds=>pK g b E ds ρ
variable {wi:WI}{g:WG}{b:WS}{body:List Stmt}
def bC(hi:QI X K tg iter wi)(hg:QG X K tg g)(hb:AB X K L body b)(hs:∀ x,IL iter X.env x=pure x:=by intro _;rfl)(hp:PassesOwn (aI X.prog X.w) X.A X.env X.xe:=by first|exact PassesOwn.never|exact PassesOwn.leaving)(hc:autoParam (X.calm=true) bv) :
  QS X K L (.For tg iter body [] pos) (nv wi g b):=by
 refine PS.imp (fe' hp hc hi hg hb hs) λD σ H hx=>oX hx λHs ρ ah E sr h k1 k2 k3 k4 kx=>?_;refine⟨Hs,ρ,ah,_,sr,h,λJ H1 aT ds g1 S hz q1=>?_⟩;refine⟨λi m σ H=>m=ds.length-i/\i<=ds.length/\∃ aC dk dE,bP aT aC/\fw K aC dk σ H dE/\pK g b E (ds.drop i) dk,⟨ds.length,by simp,fS _,aT,ρ,ah,bP.refl _,sr.grow g1,by simpa using q1⟩,?_⟩;rintro i m mI H2 ⟨rfl,hi,aS,iL,fo,s2,iN,q2⟩;by_cases fA:i<ds.length
 ·refine .inr ⟨S.go i aS H2 s2 iN.wf fA,λtj H3=>∃ aC dk dE,bP aT aC/\fw K aC dk tj H3 dE/\pK g b E (ds.drop (i+1)) dk,λtj H3 h3=>⟨ds.length-(i+1),by lia,rfl,fA,h3⟩,λx H3 y=>?_⟩;obtain⟨fz,g3,rd⟩:=S.qV i aS H2 x H3 ds[i] s2 iN.wf (by simp[fA]) y;rw[xC fA] at q2;have s3:=s2.trans g3.sh;refine⟨fz,iL,fo,ds[i],_,iN.grow g3,rd,q2,λσ4 yy Zf UC _ q4=>?_⟩;refine⟨fz,yy,Zf,_,UC,q4,?_,?_,?_,?_,λn H5 s5=>kx n H5 ((g1.sh.trans s3).trans s5)⟩
  ·exact λL6 H5 rL BM BO s5 BQ q5=>⟨rL,BM,BO,s3.trans s5,BQ,q5⟩
  ·exact λL6 H5 rL BM BO s5 BQ q5=>k1 L6 H5 rL BM BO ((g1.sh.trans s3).trans s5) BQ q5
  ·exact λL6 H5 rL BM BO s5 BQ q5=>⟨rL,BM,BO,s3.trans s5,BQ,q5⟩
  ·exact λv H5 rL m d As s5=>k4 v H5 rL m d As ((g1.sh.trans s3).trans s5)
 ·have e:i=ds.length:=by lia
  subst e;refine .inl ⟨S.stop aS H2 s2 iN.wf,?_⟩;rw[Vr] at q2;exact k1 mI H2 aS iL fo (g1.sh.trans s2) iN q2
def aX(xs:List D)(Pv:Nat->Env->Prop)(h0:Pv 0 ρ)(hs:∀ i x ρ,xs[i]? = some x->Pv i ρ->∀ N:Env->Prop,(∀ dk,Pv (i+1) dk->N dk)->g x ρ λrn=>b { E with nx:=N,ct:=N,bk:=E.nx } rn) (hd:∀ ρ,Pv xs.length ρ->E.nx ρ):pK g b E xs ρ:=by
 have go:∀ (k i:Nat) ρ,i+k=xs.length->Pv i ρ->pK g b E (xs.drop i) ρ:=by
  intro k
  induction k with
  |zero =>
   intro i ρ e p;have:i=xs.length:=by lia
   subst this;rw[Vr];exact hd ρ p
  |succ k ih =>
   intro i ρ e p;have hi:i<xs.length:=by lia
   rw[xC hi];exact hs i xs[i] ρ (by simp[hi]) p _ λiL h2=>ih (i+1) iL (by lia) h2
 have:=go xs.length 0 ρ (by lia) h0;simpa using this
def xN(c:WT)(b:WS):WS:=λE ρ=>∃ (Pv:Env->Prop) (μ:Env->Nat),Pv ρ/\∀ ρ,Pv ρ->c ρ λk=>if k=true then b { E with nx:=λdk=>Pv dk/\μ dk<μ ρ,ct:=λdk=>Pv dk/\μ dk<μ ρ,bk:=E.nx } ρ else E.nx ρ
def uH(hc:QT X K c tc)(hb:AB X K L body b)(hp:PassesOwn (aI X.prog X.w) X.A X.env X.xe:=by first|exact PassesOwn.never|exact PassesOwn.leaving):QS X K L (.While c body [] pos) (xN tc b):=by
 refine PS.imp (eR' hp hc hb) λD σ H hx=>oX hx λHs ρ ah E sr h k1 k2 k3 k4 kx=>?_;obtain⟨Pv,μ,p0,turn⟩:=h;refine⟨λm σ H=>∃ aC dk dE,bP Hs aC/\fw K aC dk σ H dE/\Pv dk/\μ dk=m,⟨_,Hs,ρ,ah,bP.refl _,sr,p0,rfl⟩,?_⟩;rintro m mI H2 ⟨aS,iL,fo,s2,iN,p2,rfl⟩;refine⟨aS,iL,fo,_,iN,turn iL p2,λk H3 fz g3 q3=>?_⟩
 cases k with
 |false=>exact k1 mI H3 fz iL fo (s2.trans g3.sh) (iN.grow g3) q3
 |true =>
  refine⟨λcK H'=>∃ aC dk dE,bP Hs aC/\fw K aC dk cK H' dE/\Pv dk/\μ dk<μ iL,λcK H' ⟨aC,dk,dE,a,b,c,d⟩=>⟨μ dk,d,aC,dk,dE,a,b,c,rfl⟩,?_⟩;have s3:bP Hs fz:=s2.trans g3.sh;refine⟨fz,iL,fo,_,iN.grow g3,q3,?_,?_,?_,?_,λn H5 s5=>kx n H5 (s3.trans s5)⟩
  ·exact λL6 H5 rL BM BO s5 BQ q5=>⟨rL,BM,BO,s3.trans s5,BQ,q5.1,q5.2⟩
  ·exact λL6 H5 rL BM BO s5 BQ q5=>k1 L6 H5 rL BM BO (s3.trans s5) BQ q5
  ·exact λL6 H5 rL BM BO s5 BQ q5=>⟨rL,BM,BO,s3.trans s5,BQ,q5.1,q5.2⟩
  ·exact λv H5 rL m d As s5=>k4 v H5 rL m d As (s3.trans s5)
end
def vw:WT:=λ_ Q=>Q true
def UD(m:Md)(d:D):Prop:=d.flat=true\/m=.ow true
def iM(g:WG)(tc:WT)(te:WE):List D->Env->(List D->Prop)->Prop
 |[],_,k=>k []
 |x :: xs,ρ,k=>g x ρ λrn=>tc rn λb=>if b=true then te rn λm d=>UD m d/\iM g tc te xs rn (λout=>k (d :: out)) else iM g tc te xs rn k
def Fq(tn:Nat)(ix:List Nat)(ρ:Env):Env:=List.replicate tn none++ix.map λj=>(ρ[j]?).join.map Rv
def dM(wi:WI)(g:WG)(tc:WT)(te:WE)(tn:Nat)(ix:List Nat):WE:=λρ Q=>wi ρ λds=>iM g tc te ds (Fq tn ix ρ) λout=>Q (.ow true) (.list out)
section
variable {X:Cx}{K:aE}
theorem mR{Hs H G:Hp}(sr:fw K Hs ρ σ H ah)(G':Hp):∀ (ix:List Nat),SR K H G' (ix.map λj=>(ρ[j]?).join.map Rv) (ix.map λj=>(σ[j]?).join) []
 |[]=>.nil
 |j :: ix=>by
  have ih:=mR sr G' ix (G:=G);simp only[gS]
  cases e:ρ[j]? with
  |none=>exact .non ih
  |some o =>
   cases o with
   |none=>exact .non ih
   |some sl =>
    obtain⟨v,e1,r⟩:=sr.sr.get e;rw[e1]
    cases sl with
    |sh d=>exact .sh (Rep.same sr.wf.sub r) ih
    |xc a=>subst r;exact .xc ih
    |ob a p=>obtain⟨r,_⟩:=r;subst r;exact .xc ih
    |ow fl d =>obtain⟨As,_,r,_⟩:=r;exact .sh (r.rep sr.wf.sub λ_ _=>rfl) ih
    |lk a fl d =>obtain⟨As,_,r,_⟩:=r;exact .sh (r.rep sr.wf.sub λ_ _=>rfl) ih
theorem qi(s:SR K H G ρ σ []):∀ (n:Nat),SR K H G (List.replicate n none++ρ) (List.replicate n none++σ) []
 |0=>s
 |n+1=>.non (qi s n)
def SR.heap(s:SR K Hs H ρ σ []):SR K Hs H' ρ σ []:=s.fT (bP.refl _) λa h=>nomatch h
def yz(w:Wf Hs H)(n:Hs p=none)(ho:∀ vs,o≠.tup vs):Wf Hs (upd H p o):=⟨λb u q=>by
  rw[h9 (λz=>by subst z;rw[n] at q;cases q)];exact w.sub b u q,λb us q=>by
  by_cases hb:b=p
  ·subst hb;rw[kf] at q;exact absurd (Option.some.inj q) (ho us)
  ·rw[h9 hb] at q;exact w.lP b us q⟩
structure CompI(K:aE)(H1:Hp)(b:ai)(acc:List D)(ys:List V)(As:List ai)(Hs:Hp)(ρ:Env)(τ:St)(H:Hp):Prop where
 sm:bP H1 Hs
 sr:fw K Hs ρ τ H []
 eD:H b=some (.lst ys)
 nD:Hs b=none
 ra:aA K Hs H true acc ys As
 nd:(b :: As).Nodup
 own:∀ a∈As,Hs a=none
def CompI.grow(c:CompI K H1 b acc ys As Hs ρ τ H)(g:fR Hs H aC H'):CompI K H1 b acc ys As aC ρ τ H' :=
 ⟨c.sm.trans g.sh,c.sr.grow g,g.all _ _ c.eD,g.mS c.nD (by rw[c.eD];exact λz=>nomatch z),c.ra.grow g.sh g.all,c.nd,λa ha=>g.mS (c.own a ha) (c.ra.own a ha).ne⟩
def CompI.push(c:CompI K H1 b acc ys As Hs ρ τ H)(r:RM K Hs H m d v Bs)(ok:UD m d)(nb:Bs.Nodup)(fb:∀ a∈Bs,Hs a=none/\a∉b :: As):∃ iX,CompI K H1 b (acc++[d]) (ys++[v]) iX Hs ρ τ (upd H b (.lst (ys++[v]))):=by
 obtain⟨B,sb,rb⟩:∃ B,B.Sublist Bs/\cS K Hs H true d v B:=by
  rcases ok with hf|rfl
  ·exact⟨[],FP _,.sh (λ_=>hf) (r.flat c.sr.wf hf)⟩
  ·exact⟨Bs,List.Sublist.refl _,r.1⟩
 obtain⟨na,nA⟩:=ly.mp c.nd;have UE:=λa ha=>fb a (sb.subset ha);refine⟨As++(B++[]),c.sm,⟨c.sr.sr.heap,yz c.sr.wf c.nD (λ_ z=>nomatch z),qk,λa h=>nomatch h⟩,kf,c.nD,(c.ra.fT (bP.refl _) λa ha=>h9 λz=>na (by subst z;exact ha)).append (.cons (rb.fT (bP.refl _) λa ha=>h9 λz=>(UE a ha).2 (by subst z;exact dz)) .nil),?_,?_⟩
 ·rw[sR];refine ly.mpr ⟨λm=>(fe.mp m).elim na λm=>(UE b m).2 dz,i7.mpr ⟨nA,sb.nodup nb,λx hx y hy e=>(UE y hy).2 (e ▸ dP _ hx)⟩⟩
 ·rw[sR];exact λa ha=>(fe.mp ha).elim (c.own a) λm=>(UE a m).1
def qw(h:om K (dM wi g tc te tn ix) σ H Qv):Ak (cF' K wi) (tpG K g) (Fh K tc) (om K te) tn ix σ H Qv:=by
 obtain⟨Hs,ρ,ah,Q,sr,h,f⟩:=h;refine⟨Hs,ρ,ah,_,sr,h,λJ H1 aT ds g1 S hz q1 b hb=>?_⟩;have st:CompI K H1 b [] [] [] H1 (Fq tn ix ρ) (rD tn ix σ) (upd H1 b (.lst [])):=by
  refine⟨bP.refl _,⟨qi (mR (G:=H1) (sr.grow g1) _ ix) tn,⟨(bP.refl H1).upd hb,λa xs e=>?_⟩,qk,λa h=>nomatch h⟩,kf,hb,.nil,by simp,λa h=>nomatch h⟩;by_cases ha:a=b
  ·subst ha;rw[kf] at e;cases e
  ·rw[h9 ha] at e;exact e
 refine⟨λi m τ H2=>m=ds.length-i/\i<=ds.length/\∃ aS iL acc ys As,CompI K H1 b acc ys As aS iL τ H2/\acc.length<=i/\iM g tc te (ds.drop i) iL (λout=>Q (.ow true) (.list (acc++out))), ⟨ds.length,by simp,fS _,H1,_,[],[],[],st,c9 _,by simpa using q1⟩,?_⟩
 rintro i m τ H2 ⟨rfl,hi,aS,iL,acc,ys,As,c,la,q2⟩;by_cases fA:i<ds.length
 ·refine .inr ⟨S.go i aS H2 c.sm c.sr.wf fA,
   λPJ v H4=>∃ Pw yy d,CompI K H1 b acc ys As Pw yy PJ H4/\(∃ iX,CompI K H1 b (acc++[d]) (ys++[v]) iX Pw yy PJ (upd H4 b (.lst (ys++[v]))))/\iM g tc te (ds.drop (i+1)) yy (λout=>Q (.ow true) (.list (acc++d :: out))),
   λPJ H3=>∃ fz PH,CompI K H1 b acc ys As fz PH PJ H3/\iM g tc te (ds.drop (i+1)) PH (λout=>Q (.ow true) (.list (acc++out))),?_,?_,?_⟩
  ·rintro PJ v H4 ⟨Pw,yy,d,c4,⟨iX,c5⟩,q4⟩;have lya:=c4.ra.length;exact⟨ys,ds.length-(i+1),c4.eD,by lia,by lia,rfl,fA,Pw,yy,acc++[d],ys++[v],iX,c5,by rw[i6];simpa using la,by simpa using q4⟩
  ·rintro PJ H3 ⟨fz,PH,c3,q3⟩;exact⟨ds.length-(i+1),by lia,rfl,fA,fz,PH,acc,ys,As,c3,by lia,q3⟩
  ·intro x H3 y;obtain⟨fz,g3,rd⟩:=S.qV i aS H2 x H3 ds[i] c.sm c.sr.wf (by simp[fA]) y;rw[xC fA] at q2;have c3:=c.grow g3;refine⟨fz,iL,[],ds[i],_,c3.sr,rd,q2,λτ4 yy Zf UC m4 q4=>?_⟩;have t4:Zf=[]:=List.eq_nil_iff_forall_not_mem.mpr λa ha=>nomatch m4 a ha;subst t4;have c4:CompI K H1 b acc ys As fz yy τ4 H3:=⟨c3.sm,UC,c3.eD,c3.nD,c3.ra,c3.nd,c3.own⟩
   refine⟨fz,yy,[],_,UC,q4,λk H5 rL g5 q5=>?_⟩;have c5:=c4.grow g5
   cases k with
   |false=>exact⟨rL,yy,c5,q5⟩
   |true =>
    refine⟨rL,yy,[],_,c5.sr,q5,λv H6 Hs6 m6 d6 As6 g6 r6 f6 q6=>?_⟩;have c6:=c5.grow g6;refine⟨Hs6,yy,d6,c6,c6.push r6 q6.1 f6.1 λa ha=>⟨(f6.2 a ha).1,λm=>?_⟩,q6.2⟩;rcases eK.mp m with rfl|m
    ·have:=(f6.2 _ ha).2;rw[c5.eD] at this;cases this
    ·exact(c5.ra.own a m).ne (f6.2 a ha).2
 ·have e:i=ds.length:=by lia
  subst e;refine .inl ⟨S.stop aS H2 c.sm c.sr.wf,?_⟩;rw[Vr] at q2;have q2:Q (.ow true) (.list (acc++[])):=q2;rw[sR] at q2;have lya:=c.ra.length;have rm:RM K aS H2 (.ow true) (.list acc) (.ref b) (b :: As):=⟨.list (by lia) c.eD c.ra,by simp⟩
  obtain⟨iX,r',fr⟩:=sH g1.wf c.sm c.sr.wf rm c.nd λa ha=>(eK.mp ha).elim (λz=>z ▸ c.nD) (c.own a);exact Fin.after f g1 (.ref b) H2 _ (.ow true) (.list acc) iX (iy g1.wf c.sm c.sr.wf) r' fr q2
def DF.imp(h:DF X ifs t)(i:∀ σ H Q,t' σ H Q->t σ H Q):DF X ifs t':=λpins s σ H Q I q=>h pins s σ H Q I (i σ H Q q)
abbrev UG(X:Cx)(K:aE)(ifs:List Expr)(t:WT):Prop:=DF X ifs (Fh K t)
def cA:UG X K [] vw:=DF.imp Gj λσ H Qv hx=>k7 hx λHs ρ ah Q sr h k=>k true H Hs (fR.refl sr.wf) h
def oJ(h:QT X K c t):UG X K [c] t:=Gp h
def eY(hi:UB X K tg iter wi)(hg:∀ {C fp i5 kg} {q:(tn++cn).Nodup},QG (aZ X scope C (tn++cn) fp i5 kg) K tg g) (Au:∀ {C fp i5 kg},UG (aZ X scope C (tn++cn) fp i5 kg) K ifs tc) (he:∀ {C fp i5 kg},QE (aZ X scope C (tn++cn) fp i5 kg) K elt te)(hs:∀ x,IL iter X.env x=pure x:=by intro _;rfl) (nd:(tn++cn).Nodup:=by decide +kernel) (O:eZ X scope tn cn ix:=by exact eZ.by (by assumption) (by decide +kernel)) (hc:autoParam (X.calm=true) bv):QE X K (.ListComp elt [⟨tg,iter,ifs,0⟩] scope pos) (dM wi g tc te tn.length ix) :=
 PE.imp (Es hc hi O (λ_ _ _ _=>hg (q:=nd)) (λ_ _ _ _=>Au) (λ_ _ _ _=>he) hs) λσ H Qv h=>qw h
end
def aY(p:D->Bool)(f:D->D)(Iv:Env->Prop):∀ (xs:List D) (ρ:Env) (k:List D->Prop),Iv ρ -> (∀ x∈xs,∀ ρ,Iv ρ->∀ N1:Env->Prop,∀ N2:Env->D->Prop,(∀ dk,Iv dk->p x=false->N1 dk)->(∀ dk,Iv dk->p x=true->N2 dk (f x))->g x ρ λrn=>tc rn λb=>if b=true then te rn λm d=>UD m d/\N2 rn d else N1 rn) ->
  k ((xs.filter p).map f)->iM g tc te xs ρ k
 |[],_,k,_,_,h=>h
 |x :: xs,ρ,k,iv,hs,h=>by
  refine hs x dz ρ iv _ _ (λdk Rx hp=>?_) (λdk Rx hp=>?_)
  ·exact aY p f Iv xs dk k Rx (λy hy=>hs y (dP _ hy)) (by simpa[hp] using h)
  ·exact aY p f Iv xs dk _ Rx (λy hy=>hs y (dP _ hy)) (by simpa[hp] using h)
def Upd(K:aE)(Hs H:Hp)(σ:St)(fl:Bool)(v:V)(up:Bool->D->Env)(iX:List ai):Prop:=∀ aS H2 fl2 d2 iO,bP Hs aS->Wf aS H2->(∀ a,Hs a=none->H a≠none->aS a=none)->(fl2=true->fl=true) ->
  cS K aS H2 fl2 d2 v iO->iO≠[]->iO.Nodup->(∀ a∈iO,aS a=none/\(a∈iX\/H a=none))->(∀ a,H a≠none->a∉iX->H2 a=H a)->∃ fo,fw K aS (up fl2 d2) σ H2 fo
structure Place(K:aE)(Hs H:Hp)(σ:St)(fl:Bool)(d:D)(v:V)(up:Bool->D->Env):Prop where
 ex:∃ iX,cS K Hs H fl d v iX/\iX≠[]/\iX.Nodup/\(∀ a∈iX,Hs a=none)/\Upd K Hs H σ fl v up iX
def Upd.node{K:aE}(k:Upd K Hs H σ fl (.ref a) up (a :: A))(g:fR Hs H aS H2)(own:∀ x∈a :: A,Hs x=none/\H x≠none)(ho:∀ vs,o≠.tup vs)(hf:fl2=true->fl=true)(r:cS K aS (upd H2 a o) fl2 d2 (.ref a) (a :: C)) (nC:C.Nodup) (UH:a∉C) (hC:∀ x∈C,x∈A\/(aS x=none/\H x=none)):∃ fo,fw K aS (up fl2 d2) σ (upd H2 a o) fo:=by
 have hn:∀ x∈a :: A,aS x=none:=λx hx=>g.mS (own x hx).1 (own x hx).2;refine k aS _ fl2 d2 (a :: C) g.sh (yz g.wf (hn a dz) ho) (λb h1 h2=>g.mS h1 h2) hf r (SK _ _) (ly.mpr ⟨UH,nC⟩) (λb hb=>?_) λb h1 h2=>?_
 ·rcases eK.mp hb with rfl|hb
  ·exact⟨hn _ dz,.inl dz⟩
  ·exact(hC b hb).elim (λq=>⟨hn b (dP _ q),.inl (dP _ q)⟩) λq=>⟨q.1,.inr q.2⟩
 ·rw[h9 λz=>h2 (by subst z;exact dz)]
  cases q:H b with
  |none=>exact absurd q h1
  |some o=>exact g.all b o q
abbrev WP:=Env->(Bool->D->(Bool->D->Env)->Prop)->Prop
def tpP(K:aE)(t:WP):TE:=λσ H Qv=>∃ Hs ρ ah Q,fw K Hs ρ σ H ah/\t ρ Q/\∀ v H' aC fl d up,fR Hs H aC H'->Place K aC H' σ fl d v up->Q fl d up->Qv v H'
abbrev QP(X:Cx)(K:aE)(e:Expr)(t:WP):Prop:=PE X e (tpP K t)
section
variable {K:aE}{Hs H aC H':Hp}{σ:St}{fl:Bool}{d:D}{v:V}{up:Bool->D->Env}
def Place.grow(p:Place K Hs H σ fl d v up)(g:fR Hs H aC H'):Place K aC H' σ fl d v up:=by
 obtain⟨iX,r,ne,nd,own,k⟩:=p.ex;refine⟨iX,r.grow g.sh g.all,ne,nd,λa h=>g.mS (own a h) (r.own a h).ne,λaS H2 fl2 d2 iO s2 w2 n2 hf r2 ne2 mr o2 st=>?_⟩;refine k aS H2 fl2 d2 iO (g.sh.trans s2) w2 (λa h1 h2=>n2 a (g.mS h1 h2) ?_) hf r2 ne2 mr (λa h=>⟨(o2 a h).1,(o2 a h).2.imp id g.all.free⟩) λa h1 h2=>?_
 ·cases e:H a with
  |none=>exact absurd e h2
  |some o=>rw[g.all a o e];exact λz=>nomatch z
 ·cases e:H a with
  |none=>exact absurd e h1
  |some o =>have:=g.all a o e;rw[<- this];exact st a (by rw[this];exact λz=>nomatch z) h2
def cS.ne2:(∀ {d:D} {v:V} {As:List ai},cS K Hs H true d v As->d.flat=false->As≠[])/\∀ {ds:List D} {vs:List V} {As:List ai},aA K Hs H true ds vs As->eJ ds=false->As≠[] :=
 cS.ind (λ_ _ f _ h=>by rw[f rfl] at h;cases h) (λ_ _ _ _ _ _ _ _ _=>SK _ _) (λ_ _ _ _ _ _ n _ ih _=>ih n) (λ_ _ _ _ _ _ _ _ _=>SK _ _) (λ_ _ _ _ _ _ _ _ _=>SK _ _) (λh=>by simp[eJ] at h) λd _ _ _ _ _ _ _ i1 i2 h=>by
   cases e:d.flat with
   |false=>exact λz=>i1 e (P9.mp z).1
   |true =>simp only[eJ,e,Bool.true_and] at h;exact λz=>i2 h (P9.mp z).2
def cS.ne(r:cS K Hs H true d v As)(h:d.flat=false):As≠[]:=cS.ne2.1 r h
def cS.nil_of(r:cS K Hs H fl d v As)(h:d.flat=true):As=[]:=by
 cases r with
 |sh _ _=>rfl
 |tup _ _ n _=>simp[D.flat,n] at h
 |_=>simp[D.flat] at h
def k9(i:Nat):WP:=λρ Q=>match ρ[i]? with
 |some (some (.ow fl d))=>Q fl d λfl2 d2=>ρ.set i (some (.ow fl2 d2))
 |_=>False
def SR.put(i:Nat)(s:SR K Hs H ρ σ ah):ρ[i]? = some (some (.ow fl d))->ah.Nodup ->
  ∃ (v:V) (As dE:List ai),σ[i]? = some (some v)/\As≠[]/\cS K Hs H fl d v As/\As.Sublist ah/\∀ aS H2 fl2 d2 iO,bP Hs aS->cS K aS H2 fl2 d2 v iO->iO≠[]->iO.Nodup->(∀ a∈iO,a∈ah->a∈As)->(∀ a∈ah,a∉As->H2 a=H a) ->
   ∃ fo,fo.Nodup/\(∀ a∈fo,a∈ah\/a∈iO)/\SR K aS H2 (ρ.set i (some (.ow fl2 d2))) σ fo:=by
 induction s generalizing i with
 |nil=>intro e;simp at e
 |@non ρ σ ah o q ih =>
  intro e n
  cases i with
  |zero=>simp at e
  |succ i =>obtain⟨v,As,t,a,b,c,d,g⟩:=ih i (by simpa using e) n;refine⟨v,As,t,by simpa using a,b,c,d,λaS H2 fl2 d2 iO s2 r2 ne2 mr dj st=>?_⟩;obtain⟨t2,x,y,z⟩:=g aS H2 fl2 d2 iO s2 r2 ne2 mr dj st;exact⟨t2,x,y,.non z⟩
 |sh r q ih =>
  intro e n
  cases i with
  |zero=>simp at e
  |succ i =>obtain⟨v,As,t,a,b,c,d,g⟩:=ih i (by simpa using e) n;refine⟨v,As,t,by simpa using a,b,c,d,λaS H2 fl2 d2 iO s2 r2 ne2 mr dj st=>?_⟩;obtain⟨t2,x,y,z⟩:=g aS H2 fl2 d2 iO s2 r2 ne2 mr dj st;exact⟨t2,x,y,.sh (r.same s2) z⟩
 |xc q ih =>
  intro e n
  cases i with
  |zero=>simp at e
  |succ i =>obtain⟨v,As,t,a,b,c,d,g⟩:=ih i (by simpa using e) n;refine⟨v,As,t,by simpa using a,b,c,d,λaS H2 fl2 d2 iO s2 r2 ne2 mr dj st=>?_⟩;obtain⟨t2,x,y,z⟩:=g aS H2 fl2 d2 iO s2 r2 ne2 mr dj st;exact⟨t2,x,y,.xc z⟩
 |@ow ρ σ t2 B fl0 d0 v ne r q ih =>
  intro e n;walk_at"c"
  cases i with
  |zero =>
   obtain⟨rfl,rfl⟩:=e;refine⟨v,B,t2,rfl,ne,r,Nc _ _,λaS H2 fl2 d2 iO s2 r2 ne2 mr dj st=>⟨iO++t2,i7.mpr ⟨mr,n2,λa ha b hb e=>?_⟩,λa h=>?_,.ow ne2 r2 (q.fT s2 λa h=>st a (gX _ h) λz=>n3 a z a h rfl)⟩⟩
   ·subst e;exact n3 a (dj a ha (gX _ hb)) a hb rfl
   ·exact(fe.mp h).symm.imp (λz=>gX _ z) id
  |succ i =>
   obtain⟨v,As,t,a,b,c,d,g⟩:=ih i (by simpa using e) n2;have hB:∀ x∈B,x∉As:=λx hx m=>n3 x hx x (d.subset m) rfl;refine⟨v,As,B++t,by simpa using a,b,c,d.trans (nE _ _),λaS H2 fl2 d2 iO s2 r2 ne2 mr dj st=>?_⟩;obtain⟨t2,x,y,z⟩:=g aS H2 fl2 d2 iO s2 r2 ne2 mr (λa ha m=>dj a ha (gX _ m)) λa ha m=>st a (gX _ ha) m;refine⟨B++t2,i7.mpr ⟨n1,x,λa ha b hb e=>?_⟩,λa h=>?_,.ow ne (r.fT s2 λa h=>st a (mz _ h) (hB a h)) z⟩
   ·subst e;rcases y a hb with w|w
    ·exact n3 a ha a w rfl
    ·exact hB a ha (dj a w (mz _ ha))
   ·rcases fe.mp h with w|w
    ·exact .inl (mz _ w)
    ·exact(y a w).imp (λw=>gX _ w) id
 |@lk ρ σ t2 B a0 fl0 d0 ne r q ih =>
  intro e n;walk_at"c"
  cases i with
  |zero=>simp at e
  |succ i =>
   obtain⟨v,As,t,a,b,c,d,g⟩:=ih i (by simpa using e) n2;have hB:∀ x∈B,x∉As:=λx hx m=>n3 x hx x (d.subset m) rfl;refine⟨v,As,B++t,by simpa using a,b,c,d.trans (nE _ _),λaS H2 fl2 d2 iO s2 r2 ne2 mr dj st=>?_⟩;obtain⟨t2,x,y,z⟩:=g aS H2 fl2 d2 iO s2 r2 ne2 mr (λa ha m=>dj a ha (gX _ m)) λa ha m=>st a (gX _ ha) m;refine⟨B++t2,i7.mpr ⟨n1,x,λa ha b hb e=>?_⟩,λa h=>?_,.lk ne (r.fT s2 λa h=>st a (mz _ h) (hB a h)) z⟩
   ·subst e;rcases y a hb with w|w
    ·exact n3 a ha a w rfl
    ·exact hB a ha (dj a w (mz _ ha))
   ·rcases fe.mp h with w|w
    ·exact .inl (mz _ w)
    ·exact(y a w).imp (λw=>gX _ w) id
 |@ob ρ σ t2 B a0 p0 r q ih =>
  intro e n;walk_at"c"
  cases i with
  |zero=>simp at e
  |succ i =>
   obtain⟨v,As,t,a,b,c,d,g⟩:=ih i (by simpa using e) n2;have hB:∀ x∈B,x∉As:=λx hx m=>n3 x hx x (d.subset m) rfl;refine⟨v,As,B++t,by simpa using a,b,c,d.trans (nE _ _),λaS H2 fl2 d2 iO s2 r2 ne2 mr dj st=>?_⟩;obtain⟨t2,x,y,z⟩:=g aS H2 fl2 d2 iO s2 r2 ne2 mr (λa ha m=>dj a ha (gX _ m)) λa ha m=>st a (gX _ ha) m;refine⟨B++t2,i7.mpr ⟨n1,x,λa ha b hb e=>?_⟩,λa h=>?_,.ob (p0.fT (sW s2) (λa h=>st a (mz _ h) (hB a h)) r) z⟩
   ·subst e;rcases y a hb with w|w
    ·exact n3 a ha a w rfl
    ·exact hB a ha (dj a w (mz _ ha))
   ·rcases fe.mp h with w|w
    ·exact .inl (mz _ w)
    ·exact(y a w).imp (λw=>gX _ w) id
def aU{X:Cx}(h:PE X e (GB i)):QP X K e (k9 i):=PE.imp h λσ H Qv hx=>k7 hx λHs ρ ah Q sr h f=>by
 unfold k9 at h;split at h
 ·rename_i fl d e1;obtain⟨v,As,t,e2,ne,r,sb,g⟩:=SR.put i sr.sr e1 sr.vv;refine⟨v,e2,f v H Hs fl d _ (fR.refl sr.wf) ⟨As,r,ne,sb.nodup sr.vv,λa h=>sr.own a (sb.subset h),λaS H2 fl2 d2 iO s2 w2 n2 _ r2 ne2 mr o2 st=>?_⟩ h⟩;obtain⟨t2,x,y,z⟩:=g aS H2 fl2 d2 iO s2 r2 ne2 mr (λa ha m=>(o2 a ha).2.elim id λq=>absurd q (sr.sr.own a m).ne) λa ha m=>st a (sr.sr.own a ha).ne m;exact⟨t2,z,w2,x,λa h=>(y a h).elim (λq=>n2 a (sr.own a q) (sr.sr.own a q).ne) λq=>(o2 a q).1⟩
 ·exact h.elim
def cS.wk(h:fl2=true->fl=true)(r:cS K Hs H fl d v As):cS K Hs H fl2 d v As:=by
 cases fl2 with
 |false=>exact r.Ut
 |true=>rw[h rfl] at r;exact r
def aA.wk{fl fl2:Bool}{d:List D}{v:List V}{As:List ai}(h:fl2=true->fl=true)(r:aA K Hs H fl d v As):aA K Hs H fl2 d v As:=by
 cases fl2 with
 |false=>exact r.Ut
 |true=>rw[h rfl] at r;exact r
def aA.at(r:aA K Hs H fl ds vs As)(e:ds[j]? = some d)(n:As.Nodup) :
  ∃ (v:V) (B:List ai),vs[j]? = some v/\cS K Hs H fl d v B/\B.Sublist As/\∀ aS H2 fl2 d2 B2,bP Hs aS->(fl2=true->fl=true)->cS K aS H2 fl2 d2 v B2->B2.Nodup->(∀ a∈B2,a∈As->a∈B)->(∀ a∈As,a∉B->H2 a=H a) ->
   ∃ iO,iO.Nodup/\(∀ a∈iO,(a∈As/\a∉B)\/a∈B2)/\(B2≠[]->iO≠[])/\aA K aS H2 fl2 (ds.set j d2) vs iO:=by
 induction ds generalizing vs As j with
 |nil=>simp at e
 |cons x ds ih =>
  obtain⟨v,us,A,B,rfl,rfl,r,rs⟩:=r.c;walk_at"c"
  cases j with
  |zero =>
   simp at e;subst e;refine⟨v,A,rfl,r,Nc _ _,λaS H2 fl2 d2 B2 s2 hf r2 mr dj st=>⟨B2++B,i7.mpr ⟨mr,n2,λa ha b hb e=>?_⟩,λa h=>?_,λne z=>ne (P9.mp z).1,.cons r2 ((rs.wk hf).fT s2 λa h=>st a (gX _ h) λz=>n3 a z a h rfl)⟩⟩
   ·subst e;exact n3 a (dj a ha (gX _ hb)) a hb rfl
   ·rcases fe.mp h with w|w
    ·exact .inr w
    ·exact .inl ⟨gX _ w,λz=>n3 a z a w rfl⟩
  |succ j =>
   obtain⟨v,C,a,b,c,g⟩:=ih rs (by simpa using e) n2;have hA:∀ x∈A,x∉C:=λx hx m=>n3 x hx x (c.subset m) rfl;refine⟨v,C,by simpa using a,b,c.trans (nE _ _),λaS H2 fl2 d2 B2 s2 hf r2 mr dj st=>?_⟩;obtain⟨iO,x,y,w,z⟩:=g aS H2 fl2 d2 B2 s2 hf r2 mr (λa ha m=>dj a ha (gX _ m)) λa ha m=>st a (gX _ ha) m;refine⟨A++iO,i7.mpr ⟨n1,x,λa ha b hb e=>?_⟩,λa h=>?_,λne q=>w ne (P9.mp q).2,.cons ((r.wk hf).fT s2 λa h=>st a (mz _ h) (hA a h)) z⟩
   ·subst e;rcases y a hb with q|q
    ·exact n3 a ha a q.1 rfl
    ·exact hA a ha (dj a q (mz _ ha))
   ·rcases fe.mp h with q|q
    ·exact .inl ⟨mz _ q,hA a q⟩
    ·exact(y a q).imp (λq=>⟨gX _ q.1,q.2⟩) id
def Hj{α:Type}{xs:List α}{i:Int}{x:α}(h:gi xs i=some x):∃ j,oS xs.length i=some j/\xs[j]? = some x:=by
 unfold L2.gi at h
 cases e:oS xs.length i with
 |none=>rw[e] at h;cases h
 |some j=>rw[e] at h;exact⟨j,rfl,h⟩
def Zg(p:WP)(t:WE):WP:=λρ Q=>p ρ λfl d up=>t ρ λ_ y=>fl=true/\match y with
 |.int i=>match d with
  |.list ds=>∃ j d',oS ds.length i=some j/\ds[j]? = some d'/\d'.flat=false/\Q true d' λfl2 d2=>up fl2 (.list (ds.set j d2))
  |.tup ds=>∃ j d',oS ds.length i=some j/\ds[j]? = some d'/\d'.flat=false/\Q true d' λfl2 d2=>up fl2 (.tup (ds.set j d2))
  |_=>False
 |_=>False
def vX{α:Type}{xs:List α}{i:Int}{j:Nat}{x:α}(h:oS xs.length i=some j)(e:xs[j]? = some x):gi xs i=some x:=by unfold L2.gi;rw[h];exact e
def Cv{ds:List D}{j:Nat}{d:D}(e:ds[j]? = some d)(h:d.flat=false):eJ ds=false:=by
 cases q:eJ ds with
 |false=>rfl
 |true=>rw[k_.mp q d (mB e)] at h;cases h
def zH{ds:List D}{j:Nat}{d d2:D}(e:ds[j]? = some d)(h:d2.flat=false):eJ (ds.set j d2)=false:=by have hj:j<ds.length:=(iF.mp e).1;exact Cv (j:=j) (by simp[hj]) h
def LK{X:Cx}{a b:Expr}{p:WP}{t:WE}{pos:Pos}(ha:QP X K a p)(hb:QE X K b t)(hs:TL b:=by exact λ_ _=>rfl)(hK:autoParam (X.K=K) bv)(hu:X.A.units+64<fE:=by assumption):QP X K (.Subscript a b pos) (Zg p t):=by
 refine PE.imp (Wb (cz' hu hK) ha hb hs) λσ H Qv hx=>k7 hx λHs ρ ah Q sr h f=>?_;refine⟨Hs,ρ,ah,_,sr,h,λv H1 aT fl d up g1 p1 q1=>⟨aT,ρ,ah,_,sr.grow g1,q1,λu H2 aS m y As g2 r2 f2 q2=>?_⟩⟩;have p2:=p1.grow g2;have gg:=g1.trans g2;obtain⟨rfl,q2⟩:=q2;have ry:=r2.rep g2.wf
 cases ry with
 |int i =>
  obtain⟨iX,r,ne,nd,own,k⟩:=p2.ex
  cases r with
  |sh hf _=>exact absurd rfl ne
  |@list a0 vs0 ds0 A0 hz e rs =>
   obtain⟨j,d',e1,e2,hd,q⟩:=q2;obtain⟨na,nb⟩:=ly.mp nd;obtain⟨w,B,e3,r3,sb,g⟩:=rs.at e2 nb;refine .inl (.inl ⟨_,w,.inl (.inl e),vX (by rw[<- rs.length];exact e1) e3,f w H2 aS true d' _ gg ⟨B,r3,r3.ne hd,sb.nodup nb,λa h=>own a (dP _ (sb.subset h)),λfz H3 Ry d3 LV s3 w3 n3 hf r4 ne3 Zh o3 st=>?_⟩ q⟩);have av:∀ x∈A0,x∉B->H3 x=H2 x:=λx hx m=>st x (rs.own x hx).ne m;obtain⟨Pz,x4,y4,z4,r5⟩:=g fz H3 Ry d3 LV s3 hf r4 Zh (λa ha m=>(o3 a ha).2.elim id λq=>absurd q (rs.own a m).ne) av;have eA:H3 a0=H2 a0:=st a0 (by rw[e];exact λz=>nomatch z) λm=>na (sb.subset m);have cl:∀ a∈Pz,fz a=none/\(a∈a0 :: A0\/H2 a=none):=λa h=>by
    rcases y4 a h with⟨m,_⟩|m
    ·exact⟨n3 a (own a (dP _ m)) (rs.own a m).ne,.inl (dP _ m)⟩
    ·exact⟨(o3 a m).1,(o3 a m).2.imp (λq=>dP _ (sb.subset q)) id⟩
   refine k fz H3 Ry (.list _) (_ :: Pz) s3 w3 n3 hf (.list hz (eA.trans e) r5) (by simp) (ly.mpr ⟨λm=>?_,x4⟩) (λa h=>?_) λa h1 h2=>st a h1 λm=>h2 (dP _ (sb.subset m))
   ·rcases y4 _ m with⟨q,_⟩|q
    ·exact na q
    ·rcases (o3 _ q).2 with q|q
     ·exact na (sb.subset q)
     ·rw[e] at q;cases q
   ·rcases eK.mp h with rfl|h
    ·exact⟨n3 _ (own _ dz) (by rw[e];exact λz=>nomatch z),.inl dz⟩
    ·exact cl a h
  |tup hz e hn rs =>
   obtain⟨j,d',e1,e2,hd,q⟩:=q2;obtain⟨w,B,e3,r3,sb,g⟩:=rs.at e2 nd;refine .inl (.inr ⟨_,w,.inl (.inl (g2.wf.sub _ _ e)),vX (by rw[<- rs.length];exact e1) e3,f w H2 aS true d' _ gg ⟨B,r3,r3.ne hd,sb.nodup nd,λa h=>own a (sb.subset h),λfz H3 Ry d3 LV s3 w3 n3 hf r4 ne3 Zh o3 st=>?_⟩ q⟩);obtain⟨Pz,x4,y4,z4,r5⟩:=g fz H3 Ry d3 LV s3 hf r4 Zh (λa ha m=>(o3 a ha).2.elim id λq=>absurd q (rs.own a m).ne) (λx hx m=>st x (rs.own x hx).ne m);have LD:eJ (List.set _ j d3)=false:=zH e2 (by
    cases hh:d3.flat with
    |false=>rfl
    |true=>exact absurd (r4.nil_of hh) ne3)
   refine k fz H3 Ry (.tup _) Pz s3 w3 n3 hf (.tup hz (s3 _ _ e) LD r5) (z4 ne3) x4 (λa h=>?_) λa h1 h2=>st a h1 λm=>h2 (sb.subset m);rcases y4 a h with⟨m,_⟩|m
   ·exact⟨n3 a (own a m) (rs.own a m).ne,.inl m⟩
   ·exact⟨(o3 a m).1,(o3 a m).2.imp (λq=>sb.subset q) id⟩
  |_=>exact q2.elim
 |_=>exact q2.elim
end
section
variable {X:Cx}{K:aE}{e:Expr}{p:WP}{te:WE}{apos fm pos:Pos}
def mY(fl:Bool)(m:Md)(d:D):Option Bool:=match m with
 |.sh=>some (fl && d.flat)
 |.ow b=>some (fl && b)
 |_=>bif d.flat then some fl else none
def sD(p:WP)(te:WE):WS:=λE ρ=>p ρ λfl d up=>match d with
 |.list xs=>te ρ λm x=>xs.length<bI/\match mY fl m x with
  |some fl2=>E.nx (up fl2 (.list (xs++[x])))
  |none=>False
 |_=>False
def z8(w:Wf Hs H)(r:RM K Hs H m d v As)(h:mY fl m d=some fl2):(fl2=true->fl=true)/\∃ B,B.Sublist As/\cS K Hs H fl2 d v B:=by
 cases m with
 |sh =>cases h;exact⟨λz=>by cases fl<;>simp_all,[],FP _,.sh (λz=>by cases fl<;>simp_all) r.2⟩
 |ow b =>cases h;refine⟨λz=>by cases fl<;>simp_all,As,List.Sublist.refl _,r.1.wk λz=>by cases fl<;>simp_all⟩
 |_ =>
  cases hf:d.flat with
  |true =>simp only[mY,hf,cond_true,Option.some.injEq] at h;subst h;exact⟨id,[],FP _,.sh (λ_=>hf) (r.flat w hf)⟩
  |false=>simp[mY,hf] at h
def Place.put(pl:Place K aT H1 σ fl (.list xs) v up)(g:fR aT H1 aS H2) :
  ∃ a vs A,v=.ref a/\H2 a=some (.lst vs)/\H1 a=some (.lst vs)/\aA K aS H2 fl xs vs A/\(a :: A).Nodup/\(∀ x∈a :: A,aS x=none/\H1 x≠none) /\
   ∀ fl2 ys ws C,(fl2=true->fl=true)->aA K aS H2 fl2 ys ws C->ws.length<=bI->C.Nodup->a∉C->(∀ x∈C,x∈A\/(aS x=none/\H1 x=none))->∃ fo,fw K aS (up fl2 (.list ys)) σ (upd H2 a (.lst ws)) fo:=by
 obtain⟨iX,r,ne,nd,own,k⟩:=pl.ex
 cases r with
 |sh hf _=>exact absurd rfl ne
 |@list a vs _ A hz e rs =>
  have e2:=g.all _ _ e;have UI:=rs.grow g.sh g.all;have hw:∀ x∈a :: A,aT x=none/\H1 x≠none:=λx hx=>⟨own x hx,by
   rcases eK.mp hx with rfl|hx
   ·rw[e];exact λz=>nomatch z
   ·exact(rs.own x hx).ne⟩
  exact⟨a,vs,A,rfl,e2,e,UI,nd,λx hx=>⟨g.mS (hw x hx).1 (hw x hx).2,(hw x hx).2⟩,λfl2 ys ws C hf mN hz ndC UH hC=>k.node g hw (λ_ z=>by cases z) hf (.list hz kf (mN.fT (bP.refl _) λb hb=>h9 λz=>UH (by subst z;exact hb))) ndC UH hC⟩
def Place.isL(w:Wf aT H1)(pl:Place K aT H1 σ fl (.list xs) v up):∃ a vs,v=.ref a/\gd K H1 a vs:=by
 obtain⟨iX,r,ne,nd,own,k⟩:=pl.ex
 cases r with
 |sh hf _=>exact absurd rfl ne
 |list hz e rs=>exact⟨_,_,rfl,.inl (.inl e)⟩
def dF (ho:QP X K e p) (he:QE X K e2 te) (hK:autoParam (X.K=K) bv) (hs:autoParam (rV (.Call (.Attribute e "append" apos) [e2] [] fm) none pos.line X.env=pure false) bv) (A9:autoParam (EA e "append" X.env (eI e X.env)=eI e X.env) bv) (Bi:autoParam (((ny fm (df [e2] X.env)).all (λx=>!x.1) && (backToKw fm (IX [] X.env)).all (λx=>x.1.isSome)
   && decide ([e2].length+([]:List wc).length+(if ([]:List wc).isEmpty then 0 else 1)<30))=true) bv)
  (hline:autoParam ((apos.endLine == fm.line)=true) bv) (Iy:autoParam (df (e2 :: []) X.env=(false,eI e2 X.env) :: df [] X.env) bv) (Lc:autoParam ((ny fm (df [] X.env)).any (·.1)=false) bv) :
  QS X K L (.Expr (.Call (.Attribute e "append" apos) [e2] [] fm) pos) (sD p te):=by
 subst hK;refine PS.imp (Qz (TQ PySem.F.plainAttrs_list PySem.F.slot_list_append PySem.F.type_list_append Wh ho (wt he A8 Iy) A9 Bi hline Iy Lc) hs) λD σ H hx=>bY hx λHs ρ ah E sr h k1 k2 k3 k4=>?_;refine⟨Hs,ρ,ah,_,sr,h,λv H1 aT fl d up g1 p1 q1=>?_⟩
 cases d with
 |list xs =>
  obtain⟨a1,vs1,e1,s1⟩:=p1.isL g1.wf;subst e1;refine⟨.inl ⟨rfl,_,s1⟩,aT,ρ,ah,_,sr.grow g1,q1,λy H2 aS m x As g2 r2 f2 q2=>?_⟩;obtain⟨hz,q2⟩:=q2;obtain⟨a,vs,A,ea,e2,_,rs,nd,hn,k⟩:=p1.put g2;cases ea;have hl:=rs.length;refine⟨a1,vs,y,rfl,rfl,e2,by lia,?_⟩
  cases hp:mY fl m x with
  |none=>rw[hp] at q2;exact q2.elim
  |some fl2 =>
   rw[hp] at q2;obtain⟨hf,B,sb,rb⟩:=z8 g2.wf r2 hp;obtain⟨na,nA⟩:=ly.mp nd;have fB:∀ x∈B,aS x=none/\H1 x=none:=λx hx=>f2.2 x (sb.subset hx);have c1:(A++(B++[])).Nodup:=by rw[sR];exact i7.mpr ⟨nA,sb.nodup f2.1,λx hx z hz e=>by subst e;exact(hn x (dP _ hx)).2 (fB x hz).2⟩
   have c2:a1∉A++(B++[]):=by
    rw[sR];intro m;rcases fe.mp m with m|m
    ·exact na m
    ·exact(hn _ dz).2 (fB _ m).2
   have c3:∀ x∈A++(B++[]),x∈A\/(aS x=none/\H1 x=none):=by rw[sR];intro x hx;exact(fe.mp hx).imp id λz=>fB x z
   obtain⟨fo,iN⟩:=k fl2 (xs++[x]) (vs++[y]) (A++(B++[])) hf ((rs.wk hf).append (.cons rb .nil)) (by rw[i6];simp;lia) c1 c2 c3;exact k1 σ _ aS _ fo (g1.sh.trans g2.sh) iN q2
 |_=>exact q1.elim
def uM:WE:=λ_ Q=>Q (.ow true) (.dK [])
def wQ:QE X K (.Dict [] [] pos) uM:=PE.imp hh' λσ H Qv hx=>k7 hx λHs ρ ah Q sr h f=>λa ha =>
 f _ _ Hs (.ow true) (.dK []) [a] (Rk sr.wf ha λ_ z=>nomatch z) ⟨.dK ⟨fS _,λp hp=>nomatch hp⟩ kf .nil,by simp⟩ ⟨by simp,λb hb=>by
  obtain rfl:b=a:=by simpa using hb
  exact⟨sr.wf.sub.free ha,ha⟩⟩ h
section
variable {κ:Type}[DecidableEq κ]
def wU{Hs H:Hp}{fl:Bool}{k:κ}{d:D}{v:V}(r:cS K Hs H fl d v []){kvs:List (κ × D)}{vs:List V}{As:List ai}(qs:aA K Hs H fl (kvs.map (·.2)) vs As):∃ ws Bs,Bs.Sublist As /\
  aA K Hs H fl ((kvs.map λkv=>if kv.1=k then (kv.1,d) else kv).map (·.2)) ws Bs/\((kvs.map (·.1)).zip vs).map (λkv=>if kv.1=k then (kv.1,v) else kv)=(((kvs.map λkv=>if kv.1=k then (kv.1,d) else kv)).map (·.1)).zip ws:=by
 induction kvs generalizing vs As with
 |nil=>exact⟨[],[],FP _,.nil,rfl⟩
 |cons p kvs ih =>
  obtain⟨u,vs,A,B,rfl,rfl,q,qs⟩:=aA.c qs;obtain⟨ws,Bs,sb,rs,e⟩:=ih qs;by_cases h:p.1=k
  ·refine⟨v :: ws,[]++Bs,by simpa using sb.trans (nE _ _),?_,?_⟩
   ·simp only[gS,h,if_true];exact .cons r rs
   ·simp only[gS,NC,h,if_true,e]
  ·refine⟨u :: ws,A++Bs,sb.append_left _,?_,?_⟩
   ·simp only[gS,h,if_false];exact .cons q rs
   ·simp only[gS,NC,h,if_false,e]
def Az{Hs H:Hp}{fl:Bool}{k:κ}{d:D}{v:V}(r:cS K Hs H fl d v []){kvs:List (κ × D)}{vs:List V}{As:List ai}(q:aA K Hs H fl (kvs.map (·.2)) vs As) :
  ∃ ws Bs,Bs.Sublist As/\aA K Hs H fl ((oo kvs k d).map (·.2)) ws Bs/\putK ((kvs.map (·.1)).zip vs) k v=((oo kvs k d).map (·.1)).zip ws:=by
 have hl:=q.length;rw[cx] at hl;unfold putK oo;rw[GK hl]
 cases h:kvs.any λkv=>decide (kv.1=k) with
 |true =>exact wU r q
 |false =>
  simp only[qA,if_false];refine⟨vs++[v],As++([]++[]),by simp,?_,?_⟩
  ·rw[oI];exact q.append (.cons r .nil)
  ·rw[oI,List.zip_append (by rw[cx];exact hl)];rfl
def sI{Hs H:Hp}{fl:Bool}{k:κ}{d:D}{v:V}(r:Rep K Hs d v)(hd:d.flat=true){kvs:List (κ × D)}{vs:List V}{As:List ai}(q:aA K Hs H fl (kvs.map (·.2)) vs As) :
  ∃ ws Bs,Bs.Sublist As/\aA K Hs H fl ((oo kvs k d).map (·.2)) ws Bs/\putK ((kvs.map (·.1)).zip vs) k v=((oo kvs k d).map (·.1)).zip ws:=Az (.sh (λ_=>hd) r) q
def iD{β:Type}(kvs:List (κ × β))(k:κ)(v:β):(oo kvs k v).length<=kvs.length+1:=by
 unfold oo;split
 ·rw[cx];exact Nat.le_add_right _ _
 ·simp
def oO{β:Type}{kvs:List (κ × β)}{k:κ}{v:β}{p:κ × β}(h:p∈oo kvs k v):p.1=k\/p.1∈kvs.map (·.1):=by
 unfold oo at h;split at h
 ·obtain⟨q,hq,e⟩:=cw.mp h;by_cases hk:q.1=k
  ·rw[if_pos hk] at e;subst e;exact .inl hk
  ·rw[if_neg hk] at e;subst e;exact .inr (cw.mpr ⟨q,hq,rfl⟩)
 ·rcases fe.mp h with h|h
  ·exact .inr (cw.mpr ⟨p,h,rfl⟩)
  ·have:p=(k,v):=by simpa using h
   subst this;exact .inl rfl
end
def zc(p:WP)(tk tv:WE):WS:=λE ρ=>tv ρ λ_ x=>p ρ λfl d up=>tk ρ λ_ y=>x.flat=true/\match d with
 |.dK kvs=>∃ k,y.key1=some k/\kvs.length<bI/\E.nx (up fl (.dK (oo kvs k x)))
 |.dT kvs=>match y with
  |.tup ys=>∃ ks,gq ys=some ks/\kvs.length<bI/\E.nx (up fl (.dT (oo kvs ks x)))
  |_=>False
 |_=>False
def oh(r:Rep K H d v)(h:d.key1=some k):BE k=true:=by
 cases r<;>simp[D.key1] at h<;>subst h
 ·rfl
 ·rename_i hz;simp[BE,hz]
def z_(r:b5 K H ds vs)(h:gq ds=some ks):ks.length=ds.length/\∀ k∈ks,BE k=true:=by
 induction ds generalizing vs ks with
 |nil=>simp[gq] at h;subst h;exact⟨rfl,λk hk=>nomatch hk⟩
 |cons d ds ih =>
  obtain⟨u,us,rfl,r,rs⟩:=r.c;unfold gq at h
  cases e1:d.key1 with
  |none=>rw[e1] at h;simp at h
  |some k =>
   cases e2:gq ds with
   |none=>rw[e1,e2] at h;simp at h
   |some eS =>
    rw[e1,e2] at h;simp at h;subst h;obtain⟨a,b⟩:=ih rs e2;refine⟨by simp[a],λj hj=>?_⟩;rcases eK.mp hj with rfl|hj
    ·exact oh r e1
    ·exact b j hj
def tO{a b c:Expr}{tk tv:WE}{pos':Pos}(ho:QP X K a p)(hi:QE X K b tk)(hv:QE X K c tv)(hs:autoParam (rV c (some (.Subscript a b pos')) pos.line X.env=pure false) bv)(hu:X.A.units+64<fE:=by assumption) :
  QS X K L (.Assign [.Subscript a b pos'] c pos) (zc p tk tv):=by
 refine PS.imp (ha' (by lia) ho hi hv hs) λD σ H hx=>bY hx λHs ρ ah E sr h k1 k2 k3 k4=>?_;refine⟨Hs,ρ,ah,_,sr,h,λv H1 aT m1 x As1 g1 r1 f1 q1=>⟨aT,ρ,ah,_,sr.grow g1,q1,λu H2 aS fl d up g2 p2 q2=>⟨aS,ρ,ah,_,(sr.grow g1).grow g2,q2,λy H3 fz m3 yd LV g3 r3 f3 q3=>?_⟩⟩⟩;obtain⟨hx,q3⟩:=q3;have rx:Rep K fz x v:=((r1.grow g2).grow g3).flat g3.wf hx;have ry:=r3.rep g3.wf;obtain⟨iX,r,ne,nd,own,k⟩:=p2.ex;have sm:bP Hs fz:=(g1.sh.trans g2.sh).trans g3.sh;have lv:∀ x∈iX,aS x=none/\H2 x≠none:=λx hx=>⟨own x hx,(r.own x hx).ne⟩
 cases r with
 |sh hf _=>exact absurd rfl ne
 |@dK a0 vs kvs A kk e rs =>
  obtain⟨key,hk,hz,q⟩:=q3;have ey:=ry.key hk;subst ey;obtain⟨na,nA⟩:=ly.mp nd;obtain⟨ws,Bs,sb,mN,ew⟩:=sI rx hx (rs.grow g3.sh g3.all);have hl:kvs.length=vs.length:=by have:=rs.length;rwa[cx] at this
  refine⟨a0,_,rfl,HC.k (g3.all _ _ e) (by rw[Qh,cx,<- hl,Qn];exact hz),?_⟩;rw[ew];have nB:a0∉Bs:=λz=>na (sb.subset z);obtain⟨fo,iN⟩:=k.node g3 lv (λ_ z=>by cases z) id (.dK ⟨jS (iD _ _ _) hz,λp hp=>(oO hp).elim (λz=>by rw[z];exact oh ry hk) λz=>by obtain⟨p',kA,e'⟩:=cw.mp z;rw[<- e'];exact kk.2 p' kA⟩ kf (mN.fT (bP.refl _) λb hb=>h9 λz=>nB (by subst z;exact hb))) (sb.nodup nA) nB λb hb=>.inl (sb.subset hb)
  exact k1 σ _ fz _ fo sm iN q
 |@dT a0 vs kvs A kk e rs =>
  cases ry with
  |tup t1 e1 PF =>
   obtain⟨key,hk,hz,q⟩:=q3;obtain⟨b,eb,e5⟩:=Rep.kM (.tup t1 e1 PF) hk;cases eb;obtain⟨kl,ko⟩:=z_ PF hk;obtain⟨na,nA⟩:=ly.mp nd;obtain⟨ws,Bs,sb,mN,ew⟩:=sI rx hx (rs.grow g3.sh g3.all);have hl:kvs.length=vs.length:=by have:=rs.length;rwa[cx] at this
   refine⟨a0,_,rfl,HC.t (g3.all _ _ e) e5 (by rw[Qh,cx,<- hl,Qn];exact hz),?_⟩;rw[ew];have nB:a0∉Bs:=λz=>na (sb.subset z);have l1:=PF.length;obtain⟨fo,iN⟩:=k.node g3 lv (λ_ z=>by cases z) id (.dT ⟨jS (iD _ _ _) hz,λp hp=>(oO hp).elim (λz=>by rw[z];exact⟨by lia,ko⟩) λz=>by obtain⟨p',kA,e'⟩:=cw.mp z;rw[<- e'];exact kk.2 p' kA⟩ kf (mN.fT (bP.refl _) λb hb=>h9 λz=>nB (by subst z;exact hb))) (sb.nodup nA) nB λb hb=>.inl (sb.subset hb)
   exact k1 σ _ fz _ fo sm iN q
  |_=>exact q3.elim
 |_=>exact q3.elim
end
abbrev WJ:=Env->Str->(Str->Prop)->Prop
section
variable {X:Cx}{K:aE}{e:Expr}{j:WJ}
def Kv:List D->Option (List Str)
 |[]=>some []
 |.str x :: xs=>(Kv xs).map (x :: ·)
 |_ :: _=>none
def kM(k:List Key):D:=.tup (k.map nk)
def uZ:W1:=λ_ x Q=>match x with
 |.list xs=>∃ ks sh,xs=ks.map kM/\(∀ k∈ks,ja k=true :: sh)/\∀ ms:List (List Key),ms.Perm ks->(ms.Pairwise λa b=>gy b a=false)->Q (.ow true) (.list (ms.map kM))
 |_=>False
def n6{H:Hp}{ks:List Key}{vs:List V}(r:b5 K H (ks.map nk) vs):vs=ks.map kV/\∀ k∈ks,BE k=true:=by
 induction ks generalizing vs with
 |nil=>exact⟨r.n0,λk h=>nomatch h⟩
 |cons k ks ih =>
  obtain⟨u,us,rfl,r1,rs⟩:=b5.c r;obtain⟨e,o⟩:=ih rs;subst e
  cases k with
  |inl i=>cases r1;exact⟨rfl,λj hj=>by rcases eK.mp hj with rfl|hj;rfl;exact o j hj⟩
  |inr x =>
   cases r1 with
   |str hz=>exact⟨rfl,λj hj=>by rcases eK.mp hj with rfl|hj;simp[BE,hz];exact o j hj⟩
def sV{H:Hp}{ks:List (List Key)}{vs:List V}(r:b5 K H (ks.map kM) vs):bZ H vs ks/\∀ k∈ks,k.length<=bI/\∀ j∈k,BE j=true:=by
 induction ks generalizing vs with
 |nil=>rw[r.n0];exact⟨.nil,λk h=>nomatch h⟩
 |cons k ks ih =>
  obtain⟨u,us,rfl,r1,rs⟩:=b5.c r;obtain⟨t,o⟩:=ih rs
  cases r1 with
  |tup hz e q =>
   obtain⟨e2,o2⟩:=n6 q;subst e2;exact⟨.cons ⟨_,rfl,e⟩ t,λj hj=>by
    rcases eK.mp hj with rfl|hj
    ·exact⟨by simpa using hz,o2⟩
    ·exact o j hj⟩
def uo:BI K (vq K) uZ:=by
 walk_at"e";have r1:=rx.rep w
 cases r1 with
 |list z s q =>obtain⟨ks,sh,rfl,hs,h⟩:=h;obtain⟨ta,ok⟩:=sV q;have hl:=q.length;rw[cx] at hl;refine⟨_,ks,sh,s,ta,hs,λzs ms l tz pm pw PK=>?_⟩;have rr:=jR (K:=K) tz λk hk=>ok k (pm.mem_iff.mp hk);exact f.lst w (by rw[cx,pm.length_eq];lia) rr (fu ms) (h ms pm pw) l PK
 |_=>exact h.elim
def Dm (hK:autoParam (X.K=K) bv):kL X (.builtin "sorted") (vq K):=by subst hK;exact vG
def du:kQ "sorted" = some (.builtin "sorted"):=by decide +kernel
end
def shF(A:List ai)(F:Nat->List ai):Nat->List ai
 |0=>A
 |i+1=>F i
def L7(K:aE)(Hs H:Hp)(ρ:Env)(σ:St)(ah:List ai)(F:Nat->List ai):Prop:=(∀ i fl d,ρ[i]? = some (some (.ow fl d))->∃ v,σ[i]? = some (some v)/\F i≠[]/\cS K Hs H fl d v (F i)) /\ (∀ i,(F i).Sublist ah)/\∀ i j,i≠j->∀ a∈F i,a∉F j
def L7.skip{K:aE}{F:Nat->List ai}(h:L7 K Hs H ρ σ ah F)(no:∀ fl d,o≠some (.ow fl d)):L7 K Hs H (o :: ρ) (u :: σ) ah (shF [] F):=by
 obtain⟨a,b,c⟩:=h;refine⟨λi fl d e=>?_,λi=>?_,λi j ne x hx=>?_⟩
 ·cases i with
  |zero=>simp at e;exact absurd e (no fl d)
  |succ i=>exact a i fl d (by simpa using e)
 ·cases i with
  |zero=>exact FP _
  |succ i=>exact b i
 ·cases i with
  |zero=>exact yk hx
  |succ i =>
   cases j with
   |zero=>exact λz=>yk z
   |succ j=>exact c i j (λz=>ne (by rw[z])) x hx
def L7.own{K:aE}{ah B:List ai}{F:Nat->List ai}(h:L7 K Hs H ρ σ ah F)(n:(B++ah).Nodup)(hs:∀ fl d,sl=.ow fl d->B≠[]/\cS K Hs H fl d v B):L7 K Hs H (some sl :: ρ) (some v :: σ) (B++ah) (shF B F):=by
 obtain⟨a,b,c⟩:=h;walk_at"c";refine⟨λi fl d e=>?_,λi=>?_,λi j ne x hx=>?_⟩
 ·cases i with
  |zero=>simp at e;exact⟨v,rfl,hs fl d e⟩
  |succ i=>exact a i fl d (by simpa using e)
 ·cases i with
  |zero=>exact Nc _ _
  |succ i=>exact(b i).trans (nE _ _)
 ·cases i with
  |zero =>
   cases j with
   |zero=>exact absurd rfl ne
   |succ j=>exact λz=>n3 x hx x ((b j).subset z) rfl
  |succ i =>
   cases j with
   |zero=>exact λz=>n3 x z x ((b i).subset hx) rfl
   |succ j=>exact c i j (λz=>ne (by rw[z])) x hx
def SR.addrs{K:aE}(s:SR K Hs H ρ σ ah):ah.Nodup->∃ F:Nat->List ai,L7 K Hs H ρ σ ah F:=by
 induction s with
 |nil=>exact λ_=>⟨λ_=>[],λi fl d e=>by simp at e,λi=>FP _,λi j _ a h=>yk h⟩
 |non s ih =>intro n;obtain⟨F,h⟩:=ih n;exact⟨_,h.skip λfl d z=>by cases z⟩
 |sh r s ih =>intro n;obtain⟨F,h⟩:=ih n;exact⟨_,h.skip λfl d z=>by cases z⟩
 |xc s ih =>intro n;obtain⟨F,h⟩:=ih n;exact⟨_,h.skip λfl d z=>by cases z⟩
 |ow ne r s ih =>intro n;obtain⟨F,h⟩:=ih (i7.mp n).2.1;exact⟨_,h.own n λfl d e=>by cases e;exact⟨ne,r⟩⟩
 |lk ne r s ih =>intro n;obtain⟨F,h⟩:=ih (i7.mp n).2.1;exact⟨_,h.own n λfl d e=>by cases e⟩
 |ob r s ih =>intro n;obtain⟨F,h⟩:=ih (i7.mp n).2.1;exact⟨_,h.own n λfl d e=>by cases e⟩
abbrev Plan:=List (WE ⊕ Nat)
def UJ:Plan->List Nat
 |[]=>[]
 |.inl _ :: r=>UJ r
 |.inr i :: r=>i :: UJ r
def UK:Option (Option Sl)->Option (Md × D)
 |some (some (.sh d))=>some (.sh,d)
 |some (some (.ow fl d))=>some (.ow fl,d)
 |_=>none
def kj:Plan->Env->(List (Md × D)->Prop)->Prop
 |[],_,Q=>Q []
 |.inl t :: r,ρ,Q=>t ρ λm x=>kj r ρ λps=>Q ((m,x) :: ps)
 |.inr i :: r,ρ,Q=>match UK ρ[i]? with
  |some p=>kj r ρ λps=>Q (p :: ps)
  |none=>False
def tpM(K:aE)(pl:Plan):TA:=λσ H Qv=>∃ (Hs:Hp) (ρ:Env) (ah:List ai) (F:Nat->List ai) (Q:List (Md × D)->Prop),fw K Hs ρ σ H ah/\(∀ i fl d,ρ[i]? = some (some (.ow fl d))->∃ v,σ[i]? = some (some v)/\F i≠[]/\cS K Hs H fl d v (F i))/\(∀ i,(F i).Sublist ah)/\(∀ i j,i≠j->∀ a∈F i,a∉F j) /\
 kj pl ρ Q/\∀ vs H' aC ps As,fR Hs H aC H'->BF K aC H' ps vs As->As.Nodup->(∀ a∈As,aC a=none/\(H a=none\/∃ i∈UJ pl,a∈F i))->Q ps->Qv vs H'
abbrev QM(X:Cx)(K:aE)(es:List Expr)(pl:Plan):Prop:=PA X es (tpM K pl)
section
variable {X:Cx}{K:aE}{e:Expr}{es:List Expr}{te:WE}{pl:Plan}{pos:Pos}
def ug:QM X K [] []:=PA.imp A8 λσ H Qv hx=>by obtain⟨Hs,ρ,ah,F,Q,sr,h1,h2,h3,h,f⟩:=hx;exact f [] H Hs [] [] (fR.refl sr.wf) .nil qk (λa h=>yk h) h
def UL(ha:QE X K e te)(hr:QM X K es pl)(hs:autoParam (df (e :: es) X.env=(false,eI e X.env) :: df es X.env) bv):QM X K (e :: es) (.inl te :: pl):=by
 refine PA.imp (wt ha hr hs) λσ H Qv eP=>?_;obtain⟨Hs,ρ,ah,F,Q,sr,h1,h2,h3,h,f⟩:=eP;refine⟨Hs,ρ,ah,_,sr,h,λv H1 aT m x As g1 r1 f1 q1=>⟨aT,ρ,ah,F,_,sr.grow g1,(λi fl d e=>?_),h2,h3,q1,λvs H2 aS ps Bs g2 r2 mr o2 q2=>?_⟩⟩
 ·obtain⟨v,a,b,c⟩:=h1 i fl d e;exact⟨v,a,b,c.grow g1.sh g1.all⟩
 ·refine f (v :: vs) H2 aS _ _ (g1.trans g2) (.cons (r1.grow g2) r2) (i7.mpr ⟨f1.1,mr,λa ha b hb e=>?_⟩) (λa ha=>?_) q2
  ·subst e;rcases (o2 a hb).2 with z|⟨i,_,z⟩
   ·exact(r1.own a ha).ne z
   ·exact(sr.sr.own a ((h2 i).subset z)).ne (f1.2 a ha).2
  ·rcases fe.mp ha with z|z
   ·exact⟨g2.mS (f1.2 a z).1 (r1.own a z).ne,.inl (f1.2 a z).2⟩
   ·exact⟨(o2 a z).1,(o2 a z).2.imp g1.all.free id⟩
def Rz(ha:PE X e (GB i))(hr:QM X K es pl)(hi:i∉UJ pl:=by decide)(hs:autoParam (df (e :: es) X.env=(false,eI e X.env) :: df es X.env) bv):QM X K (e :: es) (.inr i :: pl):=by
 refine PA.imp (wt ha hr hs) λσ H Qv eP=>?_;obtain⟨Hs,ρ,ah,F,Q,sr,h1,h2,h3,h,f⟩:=eP;unfold kj at h
 cases hm:UK ρ[i]? with
 |none=>rw[hm] at h;exact h.elim
 |some p =>
  rw[hm] at h;have key:∃ v A,σ[i]? = some (some v)/\RM K Hs H p.1 p.2 v A/\A.Nodup/\∀ a∈A,a∈F i:=by
   cases e1:ρ[i]? with
   |none=>rw[e1] at hm;cases hm
   |some o =>
    cases o with
    |none=>rw[e1] at hm;cases hm
    |some sl =>
     cases sl with
     |sh d =>rw[e1] at hm;cases hm;obtain⟨v,a,b⟩:=sr.sr.get e1;exact⟨v,[],a,⟨rfl,b⟩,qk,λa h=>nomatch h⟩
     |lk a fl d=>rw[e1] at hm;cases hm
     |xc a=>rw[e1] at hm;cases hm
     |ob a p=>rw[e1] at hm;cases hm
     |ow fl d =>rw[e1] at hm;cases hm;obtain⟨v,a,b,c⟩:=h1 i fl d e1;exact⟨v,F i,a,⟨c,b⟩,(h2 i).nodup sr.vv,λa h=>h⟩
  obtain⟨v,A,ev,rm,L8,hA⟩:=key;refine⟨v,ev,Hs,ρ,ah,F,_,sr,h1,h2,h3,h,λvs H2 aS ps Bs g2 r2 mr o2 q2=>?_⟩;refine f (v :: vs) H2 aS _ _ g2 (.cons (rm.grow g2) r2) (i7.mpr ⟨L8,mr,λa ha b hb e=>?_⟩) (λa ha=>?_) q2
  ·subst e;rcases (o2 a hb).2 with z|⟨j,hj,z⟩
   ·exact(rm.own a ha).ne z
   ·exact h3 i j (λz=>hi (by rw[z];exact hj)) a (hA a ha) z
  ·rcases fe.mp ha with z|z
   ·have:a∈ah:=(h2 i).subset (hA a z);exact⟨g2.mS (sr.own a this) (sr.sr.own a this).ne,.inr ⟨i,dz,hA a z⟩⟩
   ·exact⟨(o2 a z).1,(o2 a z).2.imp id λ⟨j,hj,q⟩=>⟨j,dP _ hj,q⟩⟩
def wN(pl:Plan):WS:=λE ρ=>kj pl ρ λps=>ps.length<=bI/\E.rt (wD ps) (.tup (ps.map (·.2)))
def oW{x1}(h:QM X K es pl):QS X K L (.Return (some (.Tuple es x1 nx')) pos) (wN pl):=by
 refine PS.imp (VM (aZ' h)) λD σ H hx=>bY hx λHs ρ ah E sr h k1 k2 k3 k4=>?_;obtain⟨F,h1,h2,h3⟩:=sr.sr.addrs sr.vv;refine⟨Hs,ρ,ah,F,_,sr,h1,h2,h3,h,λvs H1 aT ps As g1 r1 Zi o1 q1=>?_⟩;obtain⟨hz,q⟩:=q1;have rl:=r1.reps g1.wf;have hl:=rl.length;rw[cx] at hl;refine⟨by lia,λp hp=>?_⟩;have g2:=W6 (vs:=vs) g1.wf hp;have sm:bP Hs (upd aT p (.tup vs)):=g1.sh.trans g2.sh;unfold wD at q
 cases e1:ps.all BG with
 |true =>rw[e1] at q;exact k4 _ _ _ .sh _ [] sm g2.wf ⟨rfl,.tup (by lia) kf ((r1.sh g1.wf e1).same g2.sh)⟩ qk (λa h=>nomatch h) q
 |false =>
  rw[e1] at q
  cases e2:ps.all L4 with
  |false =>rw[e2] at q;exact k4 _ _ _ .bo _ [] sm g2.wf ⟨rfl,.tup (by lia) kf (rl.same g2.all)⟩ qk (λa h=>nomatch h) q
  |true =>
   rw[e2] at q;obtain⟨Bs,sb,nz,ro⟩:=r1.ow g1.wf e2 λz=>z;have ke:eJ (ps.map (·.2))=false:=by
    cases hf:eJ (ps.map (·.2)) with
    |false=>rfl
    |true=>rw[oG hf] at e1;cases e1
   exact k4 _ _ _ (.ow _) _ Bs sm g2.wf ⟨.tup (by lia) kf ke (ro.grow g2.sh g2.all),nz e1⟩ (sb.nodup Zi) (λa ha=>g2.mS (o1 a (sb.subset ha)).1 (ro.own a ha).ne) q
end
def cI':ip:=λds Q=>∃ ns:List Int,ds=[.list (ns.map .int)]/\ns.length<=63/\∀ m,Q m (.bl true)
theorem ints_rep{K:aE}:∀ (ns:List Int),b5 K H (ns.map .int) (ns.map V.int)
 |[]=>.nil
 |n :: ns=>.cons (.int n) (ints_rep ns)
def Bk{K:aE}{H:Hp}{a:ai}{ns:List Int}{E:XK}(hl:ns.length<=63)(hS:gd K H a (ns.map V.int)):gD K cI' [.ref a] H (λv _=>v=.bl true) E:=by refine⟨[.list (ns.map .int)],λ_ d=>d=.bl true,.cons (.list (by rw[cx];exact jS hl (by decide)) hS (ints_rep ns)) .nil,⟨ns,rfl,hl,λ_=>rfl⟩,?_⟩;intro v H' aC m d As s w r nd own q;subst q;have:=r.rep w;cases this;rfl
abbrev sg(x:Str):List Nat:=x.cps.toList
def Dh(x y:Str):sg (x++y)=sg x++sg y:=by show(x.cps++y.cps).toList=_;simp[sg]
def empty_app(x:Str):Str.empty++x=x:=xK (by rw[<- sg,Dh];rfl)
def UM(x:Str):Prop:=∀ c∈sg x,c<0x110000
def GQ(x:Str):PyData.strOk x=true↔UM x:=by unfold PyData.strOk UM sg;rw[Array.all_eq_true'];simp
def jE'{α:Type}(x:α)(l:List α):gi (x :: l) 0=some x:=by simp[L2.gi,oS]
def jF'{α:Type}(x y:α)(l:List α):gi (x :: y :: l) 1=some y:=by have:=GY (xs:=x :: y :: l) (j:=1) rfl;exact this
def jG'{α:Type}(x y z:α)(l:List α):gi (x :: y :: z :: l) 2=some z:=by have:=GY (xs:=x :: y :: z :: l) (j:=2) rfl;exact this
def Ij:Str.empty.length=0:=by decide
end L2.Q
namespace L2.Q.R
section
variable {f:D->Prop}{k:Kt f}
def Ma:dy .non k=f .non:=rfl
def Pg:dy (.bl b) k=f (.bl b):=rfl
def Ms:dy (.int i) k=f (.int i):=rfl
def M7:dy (.str x) k=f (.str x):=rfl
def Kl:dy (.list xs) k=f (.list xs):=rfl
def NP:dy (.tup xs) k=f (.tup xs):=rfl
def O1:dy (.dK xs) k=f (.dK xs):=rfl
end
def J_{f:Bool->Prop}{k:Kt f}:dy true k=f true:=rfl
def J5{f:Bool->Prop}{k:Kt f}:dy false k=f false:=rfl
def LR{d:D}{f:Md × D->Prop}{k:Kt f}:dy (Md.sh,d) k=f (.sh,d):=rfl
def MT{b:Bool}{d:D}{f:Md × D->Prop}{k:Kt f}:dy (Md.ow b,d) k=f (.ow b,d):=rfl
def NQ{d:D}{f:Option Sl->Prop}{k:Kt f}:dy (some (.sh d)) k=f (some (.sh d)):=rfl
def Mv{b:Bool}{d:D}{f:Option Sl->Prop}{k:Kt f}:dy (some (.ow b d)) k=f (some (.ow b d)):=rfl
def Mq{p:Md × D}{f:Option (Md × D)->Prop}{k:Kt f}:dy (some p) k=f (some p):=rfl
def Pk{p:Bool}{f:Option Bool->Prop}{k:Kt f}:dy (some p) k=f (some p):=rfl
def NT{d:D}{f:Option (Option Sl)->Prop}{k:Kt f}:dy (some (some (.sh d))) k=f (some (some (.sh d))):=rfl
def Mz{b:Bool}{d:D}{f:Option (Option Sl)->Prop}{k:Kt f}:dy (some (some (.ow b d))) k=f (some (some (.ow b d))):=rfl
section
variable {E:jD}{ρ:Env}{Q:Md->D->Prop}{B:Bool->Prop}{t u:WS}{te ta tb tc:WE}{tt tu:WT}{tar:WA}{i j n:Nat}{m m':Md}{d:D}{sp:ip}{p:WP}{R:List (Md × D)->Prop}
def Nb:bO E ρ=E.nx ρ:=rfl
def Ox:cq t u E ρ=t { E with nx:=u E } ρ:=rfl
def O8:k8 te E ρ=te ρ E.rt:=rfl
def Np:tM te E ρ=te ρ λ_ _=>E.nx ρ:=rfl
def put(sl:Option Sl)(k:Sl->Prop):Prop:=match sl with
 |some s=>k s
 |none=>False
def Nv:put (some (.sh d)) k=k (.sh d):=rfl
def Nu:put (some (.ow b d)) k=k (.ow b d):=rfl
def OD:eT i te E ρ=te ρ λm d=>dy (asg m d) (f:=λo=>put o λsl=>E.nx (ρ.set i (some sl))) ⟨⟩:=rfl
def Oc:j3 tt t u E ρ=tt ρ λb=>dy b (f:=λb=>if b=true then t E ρ else u E ρ) ⟨⟩:=rfl
def Kp:jt E ρ=False:=rfl
def Mu:gM i E ρ=dy ρ[i]? (f:=λo=>match o with
 |some (some (.sh d))=>E.rt .sh d
 |some (some (.ow fl d))=>E.rt (.ow fl) d
 |_=>False) ⟨⟩:=rfl
def M6:wN pl E ρ=kj pl ρ λps=>ps.length<=bI/\E.rt (wD ps) (.tup (ps.map (·.2))):=rfl
def IV:kj [] ρ R=R []:=rfl
def J9:kj (.inl te :: r) ρ R=te ρ λm x=>kj r ρ λps=>R ((m,x) :: ps):=rfl
def mov(o:Option (Md × D))(k:Md × D->Prop):Prop:=match o with
 |some p=>k p
 |none=>False
def J3{p:Md × D}{k:Md × D->Prop}:mov (some p) k=k p:=rfl
def KC:kj (.inr i :: r) ρ R=dy (UK ρ[i]?) (f:=λo=>mov o λp=>kj r ρ λps=>R (p :: ps)) ⟨⟩:=rfl
def O4:gv i t E ρ=t E (Rw i ρ):=rfl
-- tests
def bol(d:D)(B:Bool->Prop):Prop:=match d with
 |.bl b=>B b
 |_=>False
def M9:bol (.bl b) B=B b:=rfl
def wB_:wB te ρ B=te ρ λ_ x=>dy x (f:=λx=>bol x B) ⟨⟩:=rfl
def Od:W8 te ρ B=te ρ λ_ x=>dy x (f:=λx=>∃ b,Uw x=some b/\B b) ⟨⟩:=rfl
def N5:LW tt ρ B=tt ρ λc=>B (!c):=rfl
def Oh:Ro tt tu ρ B=tt ρ λc=>dy c (f:=λc=>if c=true then tu ρ B else B false) ⟨⟩:=rfl
def jI':PB tt tu ρ B=tt ρ λc=>dy c (f:=λc=>if c=true then B true else tu ρ B) ⟨⟩:=rfl
def Ph:vw ρ B=B true:=rfl
-- expressions
def O_:ag i ρ Q=dy ρ[i]? (f:=λo=>Uu o Q) ⟨⟩:=rfl
def KD:Uu (some (some (.sh d))) Q=Q .sh d:=rfl
def Lx:Uu (some (some (.ow b d))) Q=Q .bo d:=rfl
def wC_:wC d ρ Q=Q .sh d:=rfl
def jK':aw f ta tb ρ Q=ta ρ λm x=>tb ρ λn y=>f m x n y Q:=rfl
def jL':f7 f ta ρ Q=ta ρ λm x=>f m x Q:=rfl
def Lg:u_ f g ta tb tc ρ Q=ta ρ λm x=>tb ρ λn y=>f m x n y λ_ z=>dy z (f:=λz=>bol z λk=>dy k (f:=λk=>if k=true then tc ρ λl w=>g n y l w Q else Q .sh (.bl false)) ⟨⟩) ⟨⟩:=by rfl
def M8:Aj ta tb ρ Q=ta ρ λ_ x=>dy x (f:=λx=>bol x λc=>dy c (f:=λc=>if c=true then tb ρ Q else Q .sh (.bl false)) ⟨⟩) ⟨⟩:=by unfold Aj dy bol;rfl
def Ni:ak te tar ρ R=te ρ λm x=>tar ρ λps=>R ((m,x) :: ps):=rfl
def Oa:cv ρ R=R []:=rfl
def N_:kB tar ρ Q=tar ρ λps=>ps.length<=bI/\Q (wD ps) (.tup (ps.map (·.2))):=rfl
def Oo:mh tar ρ Q=tar ρ λps=>ps.length<=bI/\Q (Fx ps) (.list (ps.map (·.2))):=rfl
def Ny:aG sp tar ρ Q=tar ρ λps=>sp (ps.map (·.2)) λm d=>dy (m,d) (f:=λp=>Q (Iq p.1 p.2) p.2) ⟨⟩:=rfl
-- operators
section
variable {x y:Str}{a b:Int}{xs ys:List D}{kvs:List (Key × D)}
def K9:iA m (.int a) m' (.int b) Q=Q .sh (.int (a+b)):=rfl
def Ka:iA m (.str x) m' (.str y) Q=(x.length+y.length<=bI/\Q .sh (.str (x++y))):=rfl
def K4:iA m (.list xs) m' (.list ys) Q=(xs.length+ys.length<=bI/\((eJ xs=true/\eJ ys=true/\Q (.ow true) (.list (xs++ys)))\/(m=.sh/\m'=.sh/\Q (.ow false) (.list (xs++ys))))):=rfl
def Ly:nh m (.int a) m' (.int b) Q=(OL a b/\Q .sh (.int (a*b))):=rfl
def J7:DM m (.int a) m' (.int b) Q=((0<b/\b<1073741824)/\Q .sh (.int (a / b))):=rfl
def Kh:kN m (.int a) m' (.int b) Q=(0<b/\Q .sh (.int (a % b))):=rfl
def Mt:Ux m (.int a) m' (.int b) Q=Q .sh (.bl (decide (a<b))):=rfl
def Nf:PD m (.int a) m' (.int b) Q=Q .sh (.bl (decide (a<=b))):=rfl
def NK:LZ m (.int a) m' (.int b) Q=Q .sh (.bl (decide (b<a))):=rfl
def NZ:rj m (.int a) m' (.int b) Q=Q .sh (.bl (decide (a=b))):=rfl
def MJ:rj m (.str x) m' (.str y) Q=Q .sh (.bl (decide (x=y))):=rfl
def N7:rj m (.tup xs) m' d Q=(dc 12 (.tup xs)=true/\dc 12 d=true/\Q .sh (.bl (js (.tup xs) d))):=by cases d<;>rfl
def Nj:DS m (.int a) m' (.int b) Q=Q .sh (.bl (!decide (a=b))):=rfl
def OJ:DS m (.list xs) m' d Q=(dc 12 (.list xs)=true/\dc 12 d=true/\Q .sh (.bl (!js (.list xs) d))):=by cases d<;>rfl
def Ou:DS m (.tup xs) m' d Q=(dc 12 (.tup xs)=true/\dc 12 d=true/\Q .sh (.bl (!js (.tup xs) d))):=by cases d<;>rfl
def Mf:Bm m d m' .non Q=Q .sh (.bl (!d.HZ)):=rfl
def Px:yv neg m (.str x) m' (.str y) Q=Q .sh (.bl (if neg then !DI x y else DI x y)):=rfl
def O7:yv neg m d m' (.list ys) Q=(fX d=true/\ys.all fX=true/\Q .sh (.bl (if neg then !inD d ys else inD d ys))):=rfl
def Oi:yv neg m d m' (.tup ys) Q=(fX d=true/\ys.all fX=true/\Q .sh (.bl (if neg then !inD d ys else inD d ys))):=rfl
def Oe:yv neg m d m' (.dK kvs) Q = ∃ k,d.key1=some k/\Q .sh (.bl (if neg then !(fI kvs k).isSome else (fI kvs k).isSome)):=rfl
def Oq:Rq m (.int a) Q=Q .sh (.int (-a)):=rfl
def Pb:bX m (.list xs) m' (.int a) Q = ∃ d,gi xs a=some d/\dy d (f:=λd=>Q (tP m d) d) ⟨⟩:=rfl
def Pu:bX m (.tup xs) m' (.int a) Q = ∃ d,gi xs a=some d/\dy d (f:=λd=>Q (tP m d) d) ⟨⟩:=rfl
def Oj:bX m (.str x) m' (.int a) Q = ∃ c,gi x.cps.toList a=some c/\Q .sh (.str ⟨#[c]⟩):=rfl
def Mw:sC m (.str x) Q=Q .sh (.int x.length):=rfl
def Ng:sC m (.list xs) Q=Q .sh (.int xs.length):=rfl
def Mi:sC m (.dK kvs) Q=Q .sh (.int kvs.length):=rfl
def Ol{T:String}:Rt T m d Q=Q .sh (.bl (OU d.ty T)):=rfl
def Kq:lg m (.list xs) Q=((eJ xs=true/\Q (.ow true) (.list xs))\/(m=.sh/\Q (.ow false) (.list xs))):=rfl
def K6:lg m (.tup xs) Q=((eJ xs=true/\Q (.ow true) (.list xs))\/(m=.sh/\Q (.ow false) (.list xs))):=rfl
def jM':BH te tl th ρ Q=te ρ λm x=>tl ρ λlo=>th ρ λhi=>Uy m x lo hi Q:=rfl
def J4:gW ρ O=O none:=rfl
def int'(d:D)(k:Int->Prop):Prop:=match d with
 |.int i=>k i
 |_=>False
def Mm:int' (.int a) k=k a:=rfl
def Nr:gk te ρ O=te ρ λ_ x=>dy x (f:=λx=>int' x λi=>O (some i)) ⟨⟩:=by unfold gk dy int';rfl
def O5{lo hi:Option Int}:Uy m (.str x) lo hi Q=Q .sh (.str (pS x lo hi)):=rfl
def Py{lo hi:Option Int}:Uy m (.list xs) lo hi Q=((eJ xs=true/\Q (.ow true) (.list (nV xs lo hi)))\/(m=.sh/\Q (.ow false) (.list (nV xs lo hi)))):=rfl
end
-- texts
def Zj(d:D)(k:Str->Prop):Prop:=match d with
 |.str x=>k x
 |_=>False
def Mj:Zj (.str x) k=k x:=rfl
def yA(d:D)(k:List D->Prop):Prop:=match d with
 |.list x=>k x
 |_=>False
def Ln:yA (.list x) k=k x:=rfl
-- places
def jN'{P:Bool->D->(Bool->D->Env)->Prop}:k9 i ρ P=dy ρ[i]? (f:=λo=>match o with
 |some (some (.ow fl d))=>P fl d λfl2 d2=>ρ.set i (some (.ow fl2 d2))
 |_=>False) ⟨⟩:=rfl
def Zk(o:Option Bool)(k:Bool->Prop):Prop:=match o with
 |some b=>k b
 |none=>False
def JZ:Zk (some b) k=k b:=rfl
def Ov:sD p te E ρ=p ρ λfl d up=>dy d (f:=λd=>yA d λxs=>te ρ λm x=>xs.length<bI/\dy (mY fl m x) (f:=λo=>Zk o λfl2=>E.nx (up fl2 (.list (xs++[x])))) ⟨⟩) ⟨⟩:=by unfold sD dy yA Zk;rfl
def KH:uM ρ Q=Q (.ow true) (.dK []):=rfl
def dct(d y:D)(k1:List (Key × D)->Prop)(k2:List (List Key × D)->List D->Prop):Prop:=match d with
 |.dK kvs=>k1 kvs
 |.dT kvs=>match y with
  |.tup ys=>k2 kvs ys
  |_=>False
 |_=>False
def Om:dct (.dK kvs) y k1 k2=k1 kvs:=rfl
def Mx:zc p tk tv E ρ=tv ρ λ_ x=>p ρ λfl d up=>tk ρ λ_ y=>x.flat=true/\dy d (f:=λd=>dct d y (λkvs=>∃ k,y.key1=some k/\kvs.length<bI/\E.nx (up fl (.dK (oo kvs k x)))) (λkvs ys=>∃ ks,gq ys=some ks/\kvs.length<bI/\E.nx (up fl (.dT (oo kvs ks x))))) ⟨⟩:=by rfl
-- loops
variable {LQ:List D->Prop}
def N8:nv wi g b E ρ=wi ρ λds=>pK g b E ds ρ:=rfl
def KJ:cP te ρ LQ=te ρ λm d=>rP m/\dy d (f:=λd=>yA d LQ) ⟨⟩:=by unfold cP dy yA;rfl
def RA(d:D)(k:List D->Prop):Prop:=match d with
 |.tup x=>k x
 |_=>False
def Nx:RA (.tup x) k=k x:=rfl
def Mr:Ce te ρ LQ=te ρ λm d=>rP m/\dy d (f:=λd=>RA d LQ) ⟨⟩:=by unfold Ce dy RA;rfl
def Nq:Cd te ρ LQ=te ρ λ_ d=>dy d (f:=λd=>Zj d λz=>LQ (Zd z)) ⟨⟩:=by unfold Cd dy Zj;rfl
def Lr:cQ te ρ LQ=te ρ λ_ d=>dy d (f:=λd=>int' d λj=>j<=16777216/\-(2 ^ 62)<=j/\LQ (gH 0 j.toNat)) ⟨⟩:=by unfold cQ dy int';rfl
def J0:rP .sh=True:=rfl
def J2:rP (.ow b)=True:=rfl
def gN_:gN i d ρ N=N (ρ.set i (some (.sh d))):=rfl
def gT_:gT n gs d ρ N=dy d (f:=λd=>RA d λds=>ds.length=n/\gs ds ρ N) ⟨⟩:=by unfold gT dy RA;rfl
def M_:bj g gs (d :: ds) ρ N=g d ρ λdk=>gs ds dk N:=rfl
def Pj:j8 [] ρ N=N ρ:=by simp[j8]
def Nk:dM wi g tt te tn ix ρ Q=wi ρ λds=>iM g tt te ds (Fq tn ix ρ) λout=>Q (.ow true) (.list out):=rfl
end
def B{c:Bool}{f:Bool->Prop}{k:Kt f}(h1:c=true->f true)(h2:c=false->f false):dy c k:=by
 cases c with
 |true=>exact h1 rfl
 |false=>exact h2 rfl
def D{p:Prop}[Decidable p]{f:Bool->Prop}{k:Kt f}(h1:p->f true)(h2:¬ p->f false):dy (decide p) k :=
 B (λh=>h1 (of_decide_eq_true h)) λh=>h2 (of_decide_eq_false h)
def T{c:Bool}{f:Bool->Prop}{k:Kt f}(h:c=true)(h1:f true):dy c k:=by subst h;exact h1
def F{c:Bool}{f:Bool->Prop}{k:Kt f}(h:c=false)(h1:f false):dy c k:=by subst h;exact h1
end L2.Q.R
namespace L2
end L2
namespace L2.Q
section
variable {X:Cx}{K:aE}{e e2:Expr}{te Ze:WE}{pos p fm apos:Pos}
def UN(tk tv:WE):WE:=λρ Q=>tk ρ λ_ x=>tv ρ λ_ y=>∃ k,x.key1=some k/\y.flat=true/\Q (.ow true) (.dK [(k,y)])
def xx(he:QE X K e te)(he2:QE X K e2 Ze):QE X K (.Dict [some e] [e2] pos) (UN te Ze):=by
 refine PE.imp (hA' (hr' he he2 hq') rfl rfl (by simp) (by simp)) λσ H Qv hx=>k7 hx λHs ρ ah Q sr h fin=>λa ha=>?_;have g0:fR Hs H Hs (upd H a (.dK [])):=Rk sr.wf ha λ_ z=>nomatch z;refine⟨Hs,ρ,ah,_,sr.grow g0,h,λv H1 aT m x As g1 r1 f1 q1=>⟨aT,ρ,ah,_,(sr.grow g0).grow g1,q1,λu H2 aS n y Bs g2 r2 f2 q2=>?_⟩⟩;obtain⟨k,ek,fy,q2⟩:=q2;have rx:=(r1.grow g2).rep g2.wf;have ex:=rx.key ek;subst ex;have ry:=r2.flat g2.wf fy;have gg:=(g0.trans g1).trans g2;have e2:H2 a=some (.dK []):=g2.all _ _ (g1.all _ _ kf);have nH:Hs a=none:=sr.wf.sub.free ha;have n2:aS a=none:=g2.mS (g1.mS nH (by rw[kf];exact λz=>nomatch z)) (by rw[g1.all _ _ kf];exact λz=>nomatch z);refine⟨e2,[(k,u)],rfl,by simp,?_⟩;have g3:fR Hs H aS (upd H2 a (.dK [(k,u)])):=⟨λb o hb=>by rw[h9 (FX hb ha)];exact gg.all b o hb,gg.sh,⟨λb o hb=>by rw[h9 (FX hb n2)];exact gg.wf.sub b o hb,λb vs hb=>by
  by_cases z:b=a
  ·subst z;rw[kf] at hb;cases hb
  ·rw[h9 z] at hb;exact gg.wf.lP b vs hb⟩,gg.new⟩
 exact fin (.ref a) _ aS (.ow true) (.dK [(k,y)]) [a] g3 ⟨.dK ⟨by rw[kU];simp,λp hp=>by
  have:p=(k,y):=by simpa using hp
  subst this;exact oh rx ek⟩ kf (.cons (.sh (λ_=>fy) ry) .nil),by simp⟩ ⟨by simp,λb hb=>by
  obtain rfl:b=a:=by simpa using hb
  exact⟨n2,ha⟩⟩ q2
def xm:W1:=λ_ x Q=>match x with
 |.list xs=>∃ ks b,xs=ks.map nk/\(∀ k∈ks,pe k=b)/\∀ ms:List Key,ms.Perm ks->(ms.Pairwise λa b=>nS b a=false)->Q (.ow true) (.list (ms.map nk))
 |.dK kvs=>∃ b,(∀ p∈kvs,pe p.1=b)/\∀ ms:List Key,ms.Perm (kvs.map (·.1))->(ms.Pairwise λa b=>nS b a=false)->Q (.ow true) (.list (ms.map nk))
 |_=>False
def BR:BI K (uI K) xm:=by
 walk_at"e";have r1:=rx.rep w
 cases r1 with
 |list z s q =>obtain⟨ks,b,rfl,hb,h⟩:=h;obtain⟨e,ok⟩:=n6 q;subst e;exact⟨ks,b,.inl s,hb,λms l pm pw hl=>f.lst w (by rw[cx,pm.length_eq];simpa using z) (iI λk hk=>ok k (pm.mem_iff.mp hk)) (fM ms) (h ms pm pw) l hl⟩
 |@dK a vs kvs kk e q =>
  obtain⟨b,hb,h⟩:=h;have hlen:=q.length;rw[cx] at hlen;have ez:(((kvs.map (·.1)).zip vs).map (·.1))=kvs.map (·.1):=by rw[SJ (by rw[cx];lia)]
  refine⟨kvs.map (·.1),b,.inr ⟨_,e,ez.symm⟩,λk hk=>?_,λms l pm pw hl=>?_⟩
  ·obtain⟨p,hp,rfl⟩:=cw.mp hk;exact hb p hp
  ·refine f.lst w (by rw[cx,pm.length_eq,cx];exact kk.1) (iI λk hk=>?_) (fM ms) (h ms pm pw) l hl;obtain⟨p,hp,rfl⟩:=cw.mp (pm.mem_iff.mp hk);exact kk.2 p hp
 |_=>exact h.elim
def JT (hc:autoParam (X.calm=true) bv) (hK:autoParam (X.K=K) bv):kL X (.builtin "sorted") (uI K):=by subst hK;exact wF hc
section
variable {Hs H:Hp}{fl:Bool}
def aA.erase(k:Nat)(r:aA K Hs H fl ds vs As):∃ Bs,Bs.Sublist As/\aA K Hs H fl (ds.eraseIdx k) (vs.eraseIdx k) Bs:=by
 induction ds generalizing vs As k with
 |nil =>obtain⟨rfl,rfl⟩:=r.n0;exact⟨[],List.Sublist.refl _,.nil⟩
 |cons d ds ih =>
  obtain⟨u,us,A,B,rfl,rfl,r,rs⟩:=r.c
  cases k with
  |zero=>exact⟨B,nE _ _,rs⟩
  |succ k =>obtain⟨C,sb,q⟩:=ih k rs;exact⟨A++C,sb.append_left _,.cons r q⟩
def aA.jR'{ds:List D}{vs:List V}{As:List ai}{k:Nat}{d:D}(r:aA K Hs H fl ds vs As)(e:ds[k]? = some d)(hf:d.flat=true)(w:Wf Hs H):∃ v,vs[k]? = some v/\Rep K Hs d v:=by
 induction ds generalizing vs As k with
 |nil=>simp at e
 |cons x ds ih =>
  obtain⟨u,us,A,B,rfl,rfl,r,rs⟩:=r.c
  cases k with
  |zero =>simp at e;subst e;exact⟨_,rfl,(r.rep w.sub λ_ _=>rfl).fH w.lP hf⟩
  |succ k=>exact ih (k:=k) rs (by simpa using e)
end
def UO(i:Nat)(p:WP):WS:=λE ρ=>p ρ λfl d up=>match d with
 |.list xs=>∃ y,xs[xs.length-1]? = some y/\y.flat=true/\E.nx ((up fl (.list xs.dropLast)).set i (some (.sh y)))
 |_=>False
def rN{α:Type}(xs:List α):xs.eraseIdx (xs.length-1)=xs.dropLast:=by rw[List.dropLast_eq_take,List.eraseIdx_eq_take_drop_succ];rw[List.drop_eq_nil_of_le (by lia),sR]
def Hi{wp:WP}(i:Nat){x:Str}{pos':Pos}(ho:QP X K e wp)(hK:autoParam (X.K=K) bv) (A9:autoParam (EA e "pop" X.env (eI e X.env)=eI e X.env) bv) (hline:autoParam ((apos.endLine == fm.line)=true) bv) (hs:autoParam (rV (.Call (.Attribute e "pop" apos) [] [] fm) (some (.Name x pos')) pos.line X.env=pure false) bv) (hf:X.fn x=true\/X.env.scope.names.lookup x=some .local:=by first|exact .inl rfl|exact .inr rfl|assumption) (hN:X.N.Nodup:=by assumption) (hi:autoParam (X.N[i]? = some x) bv) (hx:Loc X.env.scope x:=by first|exact .inl rfl|exact .inr rfl) :
  QS X K L (.Assign [.Name x pos'] (.Call (.Attribute e "pop" apos) [] [] fm) pos) (UO i wp):=by
 refine PS.imp (Ts hN hi hx (gH' PySem.F.plainAttrs_list PySem.F.slot_list_pop PySem.F.type_list_pop gP' ho A9 hline) hs hf) λD σ H hx=>bY hx λHs ρ ah E sr h k1 k2 k3 k4=>?_;refine⟨Hs,ρ,ah,_,sr,h,λv H1 aT fl d up g1 p1 q1=>?_⟩
 cases d with
 |list xs =>
  obtain⟨y,ey,fy,q1⟩:=q1;obtain⟨a,vs,A,ea,e2,_,rs,nd,hn,k⟩:=p1.put (fR.refl g1.wf);subst ea;obtain⟨nA,L8⟩:=ly.mp nd;obtain⟨u,eu,ru⟩:=rs.jR' ey fy g1.wf;obtain⟨B,sb,rb⟩:=rs.erase (xs.length-1);have hl:=rs.length;rw[rN] at rb;rw[hl,rN] at rb;rw[hl] at eu;refine⟨.inl ⟨rfl,_,.inl (.inl e2)⟩,a,vs,u,rfl,rfl,e2,eu,?_⟩;have hz:vs.dropLast.length<=bI:=by
   rcases p1.ex with⟨iX,r,ne,_⟩
   cases r with
   |sh _ _=>exact absurd rfl ne
   |list hz e3 _=>rw[e2] at e3;cases e3;rw[List.length_dropLast];lia
  obtain⟨fo,iN⟩:=k fl _ _ B id rb hz (sb.nodup L8) (λz=>nA (sb.subset z)) (λx hx=>.inl (sb.subset hx));obtain⟨Zb,_,Zc⟩:=iN.JN i ru;exact k1 _ _ aT _ Zb g1.sh Zc q1
 |_=>exact q1.elim
end
abbrev WIL:=Env->(List D->Prop)->Prop
section
variable {X:Cx}{K:aE}
def dN(i:Nat)(hi:UB X K tg iter wi)(hg:∀ {C fp i5 kg} {q:(tn++cn).Nodup},QG (aZ X scope C (tn++cn) fp i5 kg) K tg g) (Au:∀ {C fp i5 kg},UG (aZ X scope C (tn++cn) fp i5 kg) K ifs tc) (he:∀ {C fp i5 kg},QE (aZ X scope C (tn++cn) fp i5 kg) K elt te)(Wu:autoParam (rV (.ListComp elt [⟨tg,iter,ifs,0⟩] scope pos) (some (.Name x pos')) T8.line X.env=pure true) bv) (hs:∀ x,IL iter X.env x=pure x:=by intro _;rfl) (hf:X.fn x=true\/X.env.scope.names.lookup x=some .local:=by first|exact .inl rfl|exact .inr rfl|assumption) (hN:X.N.Nodup:=by assumption) (ya:autoParam (X.N[i]? = some x) bv) (hx:Loc X.env.scope x:=by first|exact .inl rfl|exact .inr rfl) (nd:(tn++cn).Nodup:=by decide +kernel) (O:eZ X scope tn cn ix:=by exact eZ.by (by assumption) (by decide +kernel)) (hc:autoParam (X.calm=true) bv) :
  QS X K L (.Assign [.Name x pos'] (.ListComp elt [⟨tg,iter,ifs,0⟩] scope pos) T8) (eT i (dM wi g tc te tn.length ix)) :=
 PS.imp (vJ hN ya hx hc hi O (λ_ _ _ _=>hg (q:=nd)) (λ_ _ _ _=>Au) (λ_ _ _ _=>he) Wu hs hf) λD σ H hx=>bY hx λHs ρ ah E sr h k1 k2 k3 k4=>by
  refine qw ⟨Hs,ρ,ah,_,sr,h,λv H1 aT m d As g1 r1 f1 q1=>?_⟩
  cases e:asg m d with
  |none=>rw[e] at q1;exact q1.elim
  |some sl =>rw[e] at q1;obtain⟨dE,s'⟩:=(sr.grow g1).set i r1 f1.1 (λa ha=>⟨(f1.2 a ha).1,λm=>(sr.sr.own a m).ne (f1.2 a ha).2⟩) e;exact k1 _ H1 aT _ dE g1.sh s' q1
end
end L2.Q
namespace L2.Q.R
section
variable {E:jD}{ρ:Env}{Q:Md->L2.Q.D->Prop}{te tk:WE}{i:Nat}{d:L2.Q.D}{p:WP}{LQ:List L2.Q.D->Prop}
def jS':UN tk te ρ Q=tk ρ λ_ x=>te ρ λ_ y=>∃ k,x.key1=some k/\y.flat=true/\Q (.ow true) (.dK [(k,y)]):=rfl
def O9:UO i p E ρ=p ρ λfl d up=>dy d (f:=λd=>yA d λxs=>∃ y,xs[xs.length-1]? = some y/\y.flat=true/\dy y (f:=λy=>E.nx ((up fl (.list xs.dropLast)).set i (some (.sh y)))) ⟨⟩) ⟨⟩:=by unfold UO dy yA;rfl
def K3:dG te ρ LQ=te ρ λ_ d=>dy d (f:=λd=>yA d LQ) ⟨⟩:=by unfold dG dy yA;rfl
def wpAt(d:L2.Q.D)(i:Int)(P:Bool->L2.Q.D->(Bool->L2.Q.D->Env)->Prop)(up:Bool->L2.Q.D->Env):Prop:=match d with
 |.list ds=>∃ j d',oS ds.length i=some j/\ds[j]? = some d'/\d'.flat=false/\dy d' (f:=λd'=>P true d' λfl2 d2=>up fl2 (.list (ds.set j d2))) ⟨⟩
 |.tup ds=>∃ j d',oS ds.length i=some j/\ds[j]? = some d'/\d'.flat=false/\dy d' (f:=λd'=>P true d' λfl2 d2=>up fl2 (.tup (ds.set j d2))) ⟨⟩
 |_=>False
section
variable {P:Bool->L2.Q.D->(Bool->L2.Q.D->Env)->Prop}{up:Bool->L2.Q.D->Env}{ds:List L2.Q.D}{j:Int}
def NB:wpAt (.list ds) j P up = ∃ k d',oS ds.length j=some k/\ds[k]? = some d'/\d'.flat=false/\dy d' (f:=λd'=>P true d' λfl2 d2=>up fl2 (.list (ds.set k d2))) ⟨⟩:=rfl
def Ow:Zg p te ρ P=p ρ λfl d up=>te ρ λ_ y=>fl=true/\dy y (f:=λy=>int' y λi=>dy d (f:=λd=>wpAt d i P up) ⟨⟩) ⟨⟩:=by rfl
end
end
end L2.Q.R
namespace L2
open Builtin Builtin.Str Builtin.Int
end L2
namespace L2
end L2
namespace L2.Q
section
variable {X:Cx}{K:aE}{e a b:Expr}{ta tb:WE}{p pos:Pos}{x:Str}{id:String}
def Zm:W1:=λ_ x Q=>match x with
 |.list xs=>∃ bs:List Bool,xs=bs.map D.bl/\Q .sh (.bl (bs.all (λb=>b)))
 |_=>False
def Hr{H:Hp}{bs:List Bool}{vs:List V}(r:b5 K H (bs.map D.bl) vs):vs=bs.map V.bl:=by
 induction bs generalizing vs with
 |nil=>exact r.n0
 |cons b bs ih =>obtain⟨u,us,rfl,r1,rs⟩:=b5.c r;cases r1;rw[ih rs];rfl
def Jp:BI K (Ud K) Zm:=by
 walk_at"e";have r1:=rx.rep w
 cases r1 with
 |list z s q =>obtain⟨bs,rfl,h⟩:=h;cases Hr q;exact⟨bs,s,f.sh w (.bl _) h⟩
 |_=>exact h.elim
def Dc:kQ "max" = some (.builtin "max"):=by decide +kernel
def DW:R2:=λx y H Q=>match x,y with
 |.int i,.int j=>Q (.int (if j>i then j else i)) H
 |_,_=>False
def BL:W2:=λ_ x _ y Q=>match x,y with
 |.int i,.int j=>Q .sh (.int (if j>i then j else i))
 |_,_=>False
def yH:ng K DW BL:=by
 walk_at"a";have r1:=rx.rep w;have r2:=ry.rep w
 cases r1 with
 |int i=>cases r2 with
  |int j=>exact f.sh w (.int _) h
  |_=>exact h.elim
 |_=>cases r2<;>exact h.elim
def ym(hc:kL X (.builtin id) λxs H Q=>∃ x y,xs=[x,y]/\r x y H Q)(br:ng K r f)(hm:X.mg x=none)(hv:kQ x=some (.builtin id))(ha:QE X K a ta)(hb:QE X K b tb)(hs:autoParam (df [a,b] X.env=(false,eI a X.env) :: df [b] X.env) bv) (ot:autoParam (df [b] X.env=(false,eI b X.env) :: df [] X.env) bv) (hn:x ≠ "__name__" := by decide) (ve:(x == ("__debug__" : Str))=false:=by decide) (rh:autoParam ((ny pos (df [b] X.env)).any (·.1)=false) bv) (hg:autoParam (Gl X x) bv):QE X K (.Call (.Name x p) [a,b] [] pos) (aw f ta tb):=by
 refine PE.imp (V6 hc hg hm hv (wt ha (wt hb A8 ot) hs) hn ve hs rh) λσ H Qv h=>?_;obtain⟨Hs,ρ,ah,Q,sr,h,fin⟩:=lK br σ H Qv h;exact⟨Hs,ρ,ah,Q,sr,h,λv H1 aT m x As g1 r1 f1 q1=>by
  obtain⟨aS,iL,fo,Q2,iN,h2,fin2⟩:=fin v H1 aT m x As g1 r1 f1 q1;exact⟨aS,iL,fo,Q2,iN,h2,λu H2 fz n y Bs g2 r2 f2 q2=>⟨v,u,rfl,fin2 u H2 fz n y Bs g2 r2 f2 q2⟩⟩⟩
def Dl (hc:autoParam (X.calm=true) bv):kL X (.builtin "max") λxs H Q=>∃ x y,xs=[x,y]/\DW x y H Q:=λpins s σ H xs us Q I r eP=>by
 obtain⟨x,y,e,q⟩:=eP;subst e;unfold DW at q;split at q
 ·exact fK' hc pins s σ H _ us Q I r ⟨_,_,rfl,q⟩
 ·exact q.elim
end
end L2.Q
namespace L2.Q.R
section
variable {Q:Md->L2.Q.D->Prop}{m m':Md}{xs:List L2.Q.D}{a b:Int}
def Ob:Zm m (.list xs) Q = ∃ bs:List Bool,xs=bs.map L2.Q.D.bl/\Q .sh (.bl (bs.all (λb=>b))):=rfl
def Nm:BL m (.int a) m' (.int b) Q=Q .sh (.int (if b>a then b else a)):=rfl
end
end L2.Q.R
namespace L2.Q
theorem lA(O:Nat->List D->Prop)(Iv:Env->Prop):∀ (xs:List D) (i:Nat) (pre:List D) (ρ:Env) (k:List D->Prop),Iv ρ->O i pre -> (∀ j x,xs[j]? = some x->∀ ρ,Iv ρ->∀ out,O (i+j) out->∀ N1:Env->Prop,∀ N2:Env->D->Prop,(∀ dk d,Iv dk->O (i+j+1) (out++[d])->N2 dk d)->g x ρ λrn=>tc rn λb=>if b=true then te rn λm d=>UD m d/\N2 rn d else N1 rn) -> (∀ out,O (i+xs.length) (pre++out)->k out)->iM g tc te xs ρ k
 |[],i,pre,_,k,_,h0,_,h=>h [] (by simpa using h0)
 |x :: xs,i,pre,ρ,k,iv,h0,hs,h=>by
  refine hs 0 x rfl ρ iv pre h0 _ _ (λdk d Rx o'=>?_);refine lA O Iv xs (i+1) (pre++[d]) dk _ Rx o' (λj y hy ρ iv out ho=>?_) λout ho=>?_
  ·have:=hs (j+1) y (by simpa using hy) ρ iv out (by rwa[show i+(j+1)=i+1+j by lia]);rwa[show i+(j+1)+1=i+1+j+1 by lia] at this
  ·refine h (d :: out) ?_;rw[AW] at ho;rwa[qh,show i+(xs.length+1)=i+1+xs.length by lia]
end L2.Q
end
namespace TS
open PySem PySem.SetTable
def fk:Nat->Nat->Nat
 |0,s=>s
 |k+1,s=>5*fk k s+1
def HR(a b s:Nat):fk (a+b) s=fk b (fk a s):=by
 induction b with
 |zero=>rfl
 |succ b ih=>show 5*fk (a+b) s+1=5*fk b (fk a s)+1;rw[ih]
def xf(n s:Nat):4*fk n s+1=5 ^ n*(4*s+1):=by
 induction n with
 |zero=>simp[fk]
 |succ n ih =>
  show 4*(5*fk n s+1)+1=5 ^ (n+1)*(4*s+1)
  rw[CD,S6 (5 ^ n) 5,NM,<- ih];lia
def Cg(m:Nat):∃ q,5 ^ 2 ^ m=1+2 ^ (m+2)*q/\q % 2=1:=by
 induction m with
 |zero=>exact⟨1,by decide,by decide⟩
 |succ m ih =>
  obtain⟨q,e,o⟩:=ih;refine⟨q+2 ^ (m+1)*(q*q),?_,?_⟩
  ·have hp:5 ^ 2 ^ (m+1)=(5 ^ 2 ^ m) ^ 2:=by rw[CD 2 m,Nat.pow_mul]
   rw[hp,e];have e1:2 ^ (m+1+2)=2*2 ^ (m+2):=by rw[show m+1+2=(m+2)+1 by lia,CD];lia
   have e2:2 ^ (m+2)=2*2 ^ (m+1):=by rw[show m+2=(m+1)+1 by lia,CD];lia
   rw[e1,e2];generalize 2 ^ (m+1)=y;rw[Nat.pow_two];simp only[Nat.mul_add,Nat.add_mul,Nat.one_mul,Nat.mul_one];have a1:2*y*q*(2*y*q)=2*(2*y)*(y*(q*q)):=by simp only[NM,Nat.mul_left_comm,S6]
   have a2:2*(2*y)*q=2*y*q+2*y*q:=by rw[NM 2 (2*y) q];lia
   rw[a1,a2];lia
  ·have:2 ^ (m+1)*(q*q) % 2=0:=by rw[CD,S6 (2 ^ m) 2,NM,Nat.mul_mod_right]
   lia
def GC(m x:Nat):∃ r,fk (2 ^ m) x=x+2 ^ m*r/\r % 2=1:=by
 obtain⟨q,e,o⟩:=Cg m;have c:=xf (2 ^ m) x;rw[e] at c;refine⟨q*(4*x+1),?_,?_⟩
 ·have e2:2 ^ (m+2)=4*2 ^ m:=by rw[Nat.pow_add];lia
  rw[e2,Nat.add_mul,Nat.one_mul,NM,NM] at c;lia
 ·rw[Nat.mul_mod,o,Nat.one_mul];lia
def JH(m s e:Nat):∃ k,k+1<=2 ^ m/\fk k s % 2 ^ m=e % 2 ^ m:=by
 induction m with
 |zero=>exact⟨0,by decide,by simp[Nat.mod_one]⟩
 |succ m ih =>
  obtain⟨k,hk,h⟩:=ih;have hp:2 ^ (m+1)=2 ^ m*2:=CD ..;have jT':0<2 ^ m:=Nat.pow_pos (by decide);have key:∀ a:Nat,a % (2 ^ m*2)=a % 2 ^ m+2 ^ m*(a / 2 ^ m % 2):=λa=>Nat.mod_mul;by_cases c:fk k s / 2 ^ m % 2=e / 2 ^ m % 2
  ·exact⟨k,by lia,by rw[hp,key,key,h,c]⟩
  ·refine⟨k+2 ^ m,by lia,?_⟩;obtain⟨r,er,ro⟩:=GC m (fk k s);rw[HR,er,hp,key,key,Nat.add_mul_mod_self_left,h,Nat.add_mul_div_left _ _ jT'];have:(fk k s / 2 ^ m+r) % 2=e / 2 ^ m % 2:=by lia
   rw[this]
def tS(M:Nat)(p:Probe):Probe :=
 if p.more>0 then { p with j:=p.j+1,more:=p.more-1 } else
 { p with j:=(leap M p.i p.perturb).1,more:=runEnd M (leap M p.i p.perturb).1-(leap M p.i p.perturb).1,i:=(leap M p.i p.perturb).1,perturb:=(leap M p.i p.perturb).2 }
def ps(M:Nat)(h:Int):Nat->Probe
 |0=>{ j:=bits h % (M+1),more:=runEnd M (bits h % (M+1))-bits h % (M+1),i:=bits h % (M+1),perturb:=bits h,dummy:=none }
 |n+1=>tS M (ps M h n)
def J(M:Nat)(h:Int)(n:Nat):Nat:=(ps M h n).j
def uN(h:i<=M):i<=runEnd M i/\runEnd M i<=M/\runEnd M i<=i+9:=by unfold runEnd;split<;>lia
theorem Em(M:Nat)(h:Int):∀ n,(ps M h n).i<=M/\(ps M h n).j+(ps M h n).more<=M/\(ps M h n).dummy=none/\(ps M h n).more<=9
 |0=>by have h0:bits h % (M+1)<=M:=SY (NV _ (S7 _));have:=uN h0;exact⟨h0,by show bits h % (M+1)+(runEnd M (bits h % (M+1))-bits h % (M+1))<=M;lia,rfl,by show runEnd M (bits h % (M+1))-bits h % (M+1)<=9;lia⟩
 |n+1=>by
  obtain⟨a,b,c,d⟩:=Em M h n;show(tS M (ps M h n)).i<=M/\_/\(tS M (ps M h n)).dummy=none/\_;unfold tS;by_cases hm:(ps M h n).more>0
  ·simp only[hm,if_true];show _/\(tS M (ps M h n)).j+(tS M (ps M h n)).more<=M/\_/\(tS M (ps M h n)).more<=9;simp only[tS,hm,if_true];exact⟨a,by lia,c,by lia⟩
  ·simp only[hm,if_false];show _/\(tS M (ps M h n)).j+(tS M (ps M h n)).more<=M/\_/\(tS M (ps M h n)).more<=9;simp only[tS,hm,if_false];have h0:(leap M (ps M h n).i (ps M h n).perturb).1<=M:=SY (NV _ (S7 _));have:=uN h0;exact⟨h0,by lia,c,by lia⟩
def UQ(M:Nat)(h:Int)(n:Nat):J M h n<=M:=by have:=Em M h n;unfold J;lia
theorem zr(M:Nat)(h:Int)(n:Nat):∀ r,r<=(ps M h n).more->ps M h (n+r)={ ps M h n with j:=(ps M h n).j+r,more:=(ps M h n).more-r }
 |0,_=>rfl
 |r+1,hr=>by show tS M (ps M h (n+r))=_;rw[zr M h n r (by exact xS ‹_›)];unfold tS;rw[if_pos (show(ps M h n).more-r>0 by lia)];simp only[Probe.mk.injEq,true_and,and_true];lia
def lp(M:Nat)(h:Int):Nat->Nat × Nat
 |0=>(bits h % (M+1),bits h)
 |k+1=>leap M (lp M h k).1 (lp M h k).2
def kS(M:Nat)(h:Int):Nat->Nat
 |0=>0
 |k+1=>kS M h k+(runEnd M (lp M h k).1-(lp M h k).1)+1
theorem Fw(M:Nat)(h:Int):∀ k,(lp M h k).1<=M
 |0=>SY (NV _ (S7 _))
 |k+1=>SY (NV _ (S7 _))
theorem yZ(M:Nat)(h:Int):∀ k,kS M h k<=10*k
 |0=>c9 _
 |k+1=>by have:=yZ M h k;have:=uN (Fw M h k);show kS M h k+_+1<=_;lia
theorem uv(M:Nat)(h:Int):∀ k,ps M h (kS M h k)={ j:=(lp M h k).1,more:=runEnd M (lp M h k).1-(lp M h k).1,i:=(lp M h k).1,perturb:=(lp M h k).2,dummy:=none }
 |0=>rfl
 |k+1=>by have ih:=uv M h k;have e:=zr M h (kS M h k) (runEnd M (lp M h k).1-(lp M h k).1) (by rw[ih];exact c9 _);show tS M (ps M h (kS M h k+(runEnd M (lp M h k).1-(lp M h k).1)))=_;rw[e,ih];unfold tS;rw[if_neg (by simp)];rfl
theorem CG(M:Nat)(h:Int):∀ k,(lp M h k).2=bits h / 32 ^ k
 |0=>by simp[lp]
 |k+1=>by show(lp M h k).2 / 32=_;rw[CG M h k,Nat.div_div_eq_div_mul,CD]
def E_(h:Int):bits h<2 ^ 64:=by unfold bits;lia
theorem yp(M:Nat)(h:Int):∀ k,(lp M h (13+k)).1 % (M+1)=fk k (lp M h 13).1 % (M+1)
 |0=>rfl
 |k+1=>by
  have e:(lp M h (13+k)).2=0:=by rw[CG];exact Nat.div_eq_of_lt (px (E_ h) (jS (by decide:2 ^ 64<=32 ^ 13) (Nat.pow_le_pow_right (by decide) (by lia))))
  show(leap M (lp M h (13+k)).1 (lp M h (13+k)).2).1 % (M+1)=_;rw[e];show((lp M h (13+k)).1*5+1+0 / 32) % (M+1) % (M+1)=(5*fk k (lp M h 13).1+1) % (M+1);rw[Nat.mod_mod,Nat.zero_div,Qm,Nat.add_mod,Nat.mul_mod,yp M h k,<- Nat.mul_mod,<- Nat.add_mod,S6]
def cover(hM:M+1=2 ^ m)(h:Int)(he:e<=M):∃ k,k<=M+13/\(lp M h k).1=e:=by obtain⟨k,hk,q⟩:=JH m (lp M h 13).1 e;rw[<- hM] at hk q;refine⟨13+k,by lia,?_⟩;have:=yp M h k;rw[q] at this;rwa[Nat.mod_eq_of_lt (S0 (Fw M h _)),Nat.mod_eq_of_lt (S0 he)] at this
def Ji(M:Nat)(h:Int)(k:Nat):J M h (kS M h k)=(lp M h k).1:=by unfold J;rw[uv]
def mU(hM:M+1=2 ^ m)(h:Int)(kF:Nat->Bool)(he:e<=M)(hf:kF e=false):∃ n,n<=10*(M+13)/\kF (J M h n)=false/\∀ k<n,kF (J M h k)=true:=by
 obtain⟨k,hk,q⟩:=cover hM h he;have hb:=yZ M h k;have hB:kF (J M h (kS M h k))=false:=by rw[Ji,q];exact hf
 generalize kS M h k=b at hb hB;have go:∀ b,kF (J M h b)=false->∃ n,n<=b/\kF (J M h n)=false/\∀ k<n,kF (J M h k)=true:=by
  intro b
  induction b using Nat.strongRecOn with
  |ind b ih =>
   intro hB;by_cases c:∃ k,k<b/\kF (J M h k)=false
   ·obtain⟨k,h1,h2⟩:=c;obtain⟨n,a1,a2,a3⟩:=ih k h1 h2;exact⟨n,by lia,a2,a3⟩
   ·refine⟨b,c9 _,hB,λk hk=>?_⟩
    cases z:kF (J M h k) with
    |true=>rfl
    |false=>exact absurd ⟨k,hk,z⟩ c
 obtain⟨n,a1,a2,a3⟩:=go b hB;exact⟨n,by lia,a2,a3⟩
def Up(xs:Array Nat):Prop:=∀ i j:Nat,i<j->j<xs.size->xs.getD i 0<xs.getD j 0
def uV{xs:Array Nat}{i d d':Nat}(h:i<xs.size):xs.getD i d=xs.getD i d':=by simp[Array.getD,h]
def oU{xs:Array Nat}(U:Up xs)(j:Nat):∀ (fuel lo hi:Nat),hi-lo<=fuel->lo<=hi->hi<=xs.size->(∀ i<lo,xs.getD i 0<j)->(∀ i,hi<=i->i<xs.size->j<=xs.getD i 0) ->
  below.go xs j fuel lo hi<=xs.size/\(∀ i<below.go xs j fuel lo hi,xs.getD i 0<j)/\(∀ i,below.go xs j fuel lo hi<=i->i<xs.size->j<=xs.getD i 0)
 |0,lo,hi,hf,h1,h2,h3,h4=>by
  obtain rfl:lo=hi:=by lia
  exact⟨h2,h3,h4⟩
 |fuel+1,lo,hi,hf,h1,h2,h3,h4=>by
  unfold below.go;by_cases c:lo<hi
  ·rw[if_pos c];have hm:(lo+hi) / 2<xs.size:=by lia
   by_cases d:xs.getD ((lo+hi) / 2) j<j
   ·rw[if_pos d];rw[uV hm] at d;refine oU U j fuel _ _ (by lia) (by lia) h2 (λi kz=>?_) h4;by_cases e:i=(lo+hi) / 2
    ·rw[e];exact d
    ·exact Vv (U i _ (by lia) hm) d
   ·rw[if_neg d];rw[uV (d':=0) hm] at d;refine oU U j fuel _ _ (by lia) (by lia) (by lia) h3 λi kz hs=>?_;by_cases e:i=(lo+hi) / 2
    ·rw[e];lia
    ·have:=U ((lo+hi) / 2) i (by lia) hs;lia
  ·rw[if_neg c];obtain rfl:lo=hi:=by lia
   exact⟨h2,h3,h4⟩
def aR(U:Up xs)(j:Nat):below xs j<=xs.size/\(∀ i<below xs j,xs.getD i 0<j)/\(∀ i,below xs j<=i->i<xs.size->j<=xs.getD i 0) :=
 oU U j xs.size 0 xs.size (by lia) (by lia) (c9 _) (λi h=>absurd h (FR i)) λi h1 h2=>by lia
def below_at(U:Up xs)(h:i<xs.size):below xs (xs.getD i 0)=i:=by
 obtain⟨a,b,c⟩:=aR U (xs.getD i 0);by_cases h1:below xs (xs.getD i 0)<i
 ·have:=c _ (c9 _) (by lia);have:=U _ i h1 h;lia
 ·by_cases h2:i<below xs (xs.getD i 0)
  ·have:=b i h2;lia
  ·lia
def vY(U:Up xs)(h:i<xs.size):below xs (xs.getD i 0+1)=i+1:=by
 obtain⟨a,b,c⟩:=aR U (xs.getD i 0+1);by_cases h1:below xs (xs.getD i 0+1)<i+1
 ·have:=c i (by lia) h;lia
 ·by_cases h2:i+1<below xs (xs.getD i 0+1)
  ·have:=b (i+1) h2;have:=U i (i+1) (by lia) (by lia);lia
  ·lia
def taken(xs:Array Nat)(j:Nat):Bool:=xs[below xs j]? == some j
def yW{xs:Array Nat}{i j:Nat}(h:xs[i]? = some j):i<xs.size/\xs.getD i 0=j:=by obtain⟨h1,h2⟩:=NW.mp h;exact⟨h1,by simp[Array.getD,h1,h2]⟩
def zM{xs:Array Nat}{i:Nat}(h:i<xs.size):xs[i]? = some (xs.getD i 0):=by simp[Array.getD,h]
def fQ{xs:Array Nat}(U:Up xs){j:Nat}:taken xs j=true↔∃ i,i<xs.size/\xs.getD i 0=j:=by
 unfold taken;rw[beq_iff_eq];constructor
 ·intro h;exact⟨_,yW h⟩
 ·rintro⟨i,h,rfl⟩;rw[below_at U h];exact zM h
def oA{xs:Array Nat}(U:Up xs){j:Nat}(h:taken xs j=true):below xs j<xs.size/\xs.getD (below xs j) 0=j:=by unfold taken at h;rw[beq_iff_eq] at h;exact yW h
def bw{α:Type}(xs:Array α){p:Nat}(x:α)(h:p<=xs.size):(insertAt xs p x).size=xs.size+1:=by unfold insertAt;simp;lia
def TF{α:Type}(xs:Array α){p:Nat}(x:α)(h:p<=xs.size)(i:Nat):(insertAt xs p x)[i]? = if i<p then xs[i]? else if i=p then some x else xs[i-1]? := by
 unfold insertAt;have hs:((xs.extract 0 p).push x).size=p+1:=by simp;exact Nat.min_eq_left ‹_›
 by_cases h1:i<p
 ·rw[if_pos h1,Array.getElem?_append_left (by lia),Array.getElem?_push,if_neg (by simp;lia),Ta];rw[if_pos (by lia)];simp
 ·rw[if_neg h1];by_cases h2:i=p
  ·rw[if_pos h2,Array.getElem?_append_left (by lia),Array.getElem?_push,if_pos (by simp;lia)]
  ·rw[if_neg h2,Array.getElem?_append_right (by lia),hs,Ta];by_cases h3:i-(p+1)<min xs.size xs.size-p
   ·rw[if_pos h3];congr 1;lia
   ·rw[if_neg h3,NX (by lia)]
def dB(h:p<=xs.size)(i:Nat):(insertAt xs p x).getD i 0=if i<p then xs.getD i 0 else if i=p then x else xs.getD (i-1) 0:=by
 have e:∀ (ys:Array Nat) k,ys.getD k 0=ys[k]?.getD 0:=λys k=>by simp[JY]
 rw[e,TF xs x h];split
 ·rw[e]
 ·split
  ·rfl
  ·rw[e]
def Dk(U:Up xs)(hj:taken xs j=false):Up (insertAt xs (below xs j) j):=by
 obtain⟨a,b,c⟩:=aR U j;have ne:∀ i,i<xs.size->xs.getD i 0≠j:=λi hi e=>by have:=(fQ U).mpr ⟨i,hi,e⟩;rw[hj] at this;cases this
 intro i k hik hk;rw[bw xs j a] at hk;rw[dB a,dB a];by_cases h1:k<below xs j
 ·rw[if_pos (by lia),if_pos h1];exact U i k hik (by lia)
 ·rw[if_neg h1];by_cases h2:k=below xs j
  ·rw[if_pos h2,if_pos (by lia)];exact b i (by lia)
  ·rw[if_neg h2];by_cases h3:i<below xs j
   ·rw[if_pos h3];exact U i (k-1) (by lia) (by lia)
   ·rw[if_neg h3];by_cases h4:i=below xs j
    ·rw[if_pos h4];have:=c (k-1) (by lia) (by lia);have:=ne (k-1) (by lia);lia
    ·rw[if_neg h4];exact U (i-1) (k-1) (by lia) (by lia)
def wV(U:Up xs)(hj:taken xs j=false):taken (insertAt xs (below xs j) j) k=(decide (k=j) || taken xs k):=by
 have a:=(aR U j).1;have U':=Dk U hj;apply sT.mpr;rw[fQ U',Bool.or_eq_true,decide_eq_true_eq,fQ U];rw[bw xs j a];constructor
 ·rintro⟨i,hi,e⟩;rw[dB a] at e;by_cases h1:i<below xs j
  ·rw[if_pos h1] at e;exact .inr ⟨i,by lia,e⟩
  ·rw[if_neg h1] at e;by_cases h2:i=below xs j
   ·rw[if_pos h2] at e;exact .inl e.symm
   ·rw[if_neg h2] at e;exact .inr ⟨i-1,by lia,e⟩
 ·rintro(rfl|⟨i,hi,e⟩)
  ·exact⟨below xs k,by lia,by rw[dB a,if_neg (by lia),if_pos rfl]⟩
  ·by_cases h1:i<below xs j
   ·exact⟨i,by lia,by rw[dB a,if_pos h1];exact e⟩
   ·exact⟨i+1,by lia,by rw[dB a,if_neg (by lia),if_neg (by lia)];exact e⟩
def Reach(M:Nat)(place:Array Nat)(h:Int)(j:Nat):Prop:=∃ n,n<=10*(M+13)/\J M h n=j/\∀ k<n,taken place (J M h k)=true
structure TI{α:Type}(t:SetTable)(es:Array (Int × α)):Prop where
 pw:∃ m,t.mask+1=2 ^ m/\3<=m
 sz:t.place.size=es.size
 up:Up t.place
 le:∀ i,i<t.place.size->t.place.getD i 0<=t.mask
 dm:t.dummies = #[]
 few:es.size*5<t.mask*3
 path:∀ i h x,es[i]? = some (h,x)->Reach t.mask t.place h (t.place.getD i 0)
section
variable {α:Type}{t:SetTable}{es:Array (Int × α)}
def TI.slot(T:TI t es)(j:Nat):t.slot j=if taken t.place j then .live (below t.place j) else .empty:=by
 unfold SetTable.slot taken;dsimp only;split
 ·rfl
 ·have:has t.dummies j=false:=by rw[T.dm];rfl
  rw[this];rfl
def TI.fits(T:TI t es):t.fits es.size=true:=by have:=T.few;simp only[SetTable.fits,fill,T.dm,T.sz,n5,beq_iff_eq,decide_eq_true_eq,true_and];simp;lia
def TI.odd(T:TI t es):t.gaveWay=false:=by
 obtain⟨m,h,h3⟩:=T.pw;unfold SetTable.gaveWay;rw[beq_eq_false_iff_ne];have:2 ^ m=2*2 ^ (m-1):=by rw[show m=(m-1)+1 by lia,CD];simp;lia
 lia
def TI.free(T:TI t es):∃ e,e<=t.mask/\taken t.place e=false:=by
 have hf:=T.few;have hs:=T.sz;by_cases c:∃ e,e<=t.mask/\taken t.place e=false
 ·exact c
 ·exfalso;have all:∀ e,e<=t.mask->taken t.place e=true:=λe he=>by
   cases z:taken t.place e with
   |true=>rfl
   |false=>exact absurd ⟨e,he,z⟩ c
  -- slot e stands at place at most e
  have go:∀ e,e<=t.mask->e<=below t.place e:=by
   intro e
   induction e with
   |zero=>intro _;exact fS _
   |succ e ih =>
    intro he;have h1:=oA T.up (all e (by lia));obtain⟨_,b,c⟩:=aR T.up (e+1);by_cases z:below t.place e<below t.place (e+1)
    ·lia
    ·have:=c (below t.place e) (by lia) h1.1;lia
  have:=go t.mask (c9 _);have:=(oA T.up (all t.mask (c9 _))).1;lia
def TI.put(T:TI t es)(hj:j<=t.mask)(hn:taken t.place j=false)(hr:Reach t.mask t.place h j)(ht:t'.mask=t.mask)(hp:t'.place=insertAt t.place (below t.place j) j)(hd:t'.dummies = #[])(hf:(es.size+1)*5<t.mask*3):TI t' (insertAt es (below t.place j) (h,x)):=by
 have a:=(aR T.up j).1;have a':below t.place j<=es.size:=by rw[<- T.sz];exact a
 refine⟨by rw[ht];exact T.pw,by rw[hp,bw _ _ a,bw _ _ a',T.sz],by rw[hp];exact Dk T.up hn,λi hi=>?_,hd,by rw[bw _ _ a',ht];exact hf,λi g y e=>?_⟩
 ·rw[hp,bw _ _ a] at hi;rw[hp,dB a,ht];split
  ·exact T.le i (by lia)
  ·split
   ·exact hj
   ·exact T.le (i-1) (by lia)
 ·have mono:∀ {g:Int} {k:Nat},Reach t.mask t.place g k->Reach t'.mask t'.place g k:=λ{g k} ⟨n,h1,h2,h3⟩=>⟨n,by rw[ht];exact h1,by rw[ht];exact h2,λq hq=>by
   rw[hp,ht,wV T.up hn,h3 q hq,Bool.or_true]⟩
  rw[TF es _ a'] at e;rw[hp,dB a,<- hp];by_cases h1:i<below t.place j
  ·rw[if_pos h1] at e ⊢;exact mono (T.path i g y e)
  ·rw[if_neg h1] at e ⊢;by_cases h2:i=below t.place j
   ·rw[if_pos h2] at e ⊢;cases e;exact mono hr
   ·rw[if_neg h2] at e ⊢;exact mono (T.path (i-1) g y e)
end
theorem bH{α:Type}[DecidableEq α]:∀ {l m:List α},l.Nodup->(∀ x∈l,x∈m)->l.length<=m.length
 |[],_,_,_=>fS _
 |x :: l,m,nd,h=>by rw[ly] at nd;have hx:=h x dz;have:=bH (m:=m.erase x) nd.2 λy hy=>(List.mem_erase_of_ne (λe=>nd.1 (by rw[<- e];exact hy))).mpr (h y (dP _ hy));rw[List.length_erase_of_mem hx] at this;have:0<m.length:=Vk hx;simp only[qh];lia
def kF(owner:Array (Option Nat))(j:Nat):Bool:=(owner.getD j (some 0)).isSome
def qY(h:Int)(owner:Array (Option Nat)):∀ (fuel k:Nat),(∀ q<kS M h k,kF owner (J M h q)=true)->(∃ K,k<=K/\K<k+fuel/\K<=M+13/\kF owner (lp M h K).1=false) ->
  ∃ j n,layClean.free M owner fuel (lp M h k).1 (lp M h k).2=some j/\J M h n=j/\n<=10*(M+13)/\kF owner j=false/\∀ q<n,kF owner (J M h q)=true
 |0,k,_,⟨K,h1,h2,_⟩=>by lia
 |fuel+1,k,hq,⟨K,h1,h2,h3,h4⟩=>by
  have Zn:∀ r,r<=runEnd M (lp M h k).1-(lp M h k).1->J M h (kS M h k+r)=(lp M h k).1+r:=λr hr=>by unfold J;rw[zr M h (kS M h k) r (by rw[uv];exact hr),uv]
  have hle:=uN (Fw M h k);have e:∀ r,(owner.getD ((lp M h k).1+r) (some 0)).isNone = !kF owner ((lp M h k).1+r):=λr=>by unfold kF;cases owner.getD ((lp M h k).1+r) (some 0)<;>rfl
  unfold layClean.free
  cases hf:(List.range (runEnd M (lp M h k).1+1-(lp M h k).1)).find? λr=>(owner.getD ((lp M h k).1+r) (some 0)).isNone with
  |some r =>
   obtain⟨a1,a2,a3⟩:=List.find?_range_eq_some.mp hf;have a2:r<runEnd M (lp M h k).1+1-(lp M h k).1:=by simpa using a2
   rw[e] at a1;have a1:kF owner ((lp M h k).1+r)=false:=by simpa using a1
   have occs:∀ q<kS M h k+r,kF owner (J M h q)=true:=λq UR=>by
    by_cases z:q<kS M h k
    ·exact hq q z
    ·have:=a3 (q-kS M h k) (by lia);rw[e] at this;have hj:=Zn (q-kS M h k) (by lia);rw[show kS M h k+(q-kS M h k)=q by lia] at hj;rw[hj];simpa using this
   refine⟨_,kS M h k+r,rfl,Zn r (by lia),?_,a1,occs⟩;have hb:=yZ M h K;by_cases z:kS M h k+r<=kS M h K
   ·lia
   ·have:=occs (kS M h K) (by lia);rw[Ji,h4] at this;cases this
  |none =>
   have hn:=List.find?_eq_none.mp hf;have cK':∀ r,r<=runEnd M (lp M h k).1-(lp M h k).1->kF owner ((lp M h k).1+r)=true:=λr hr=>by have:=hn r (by simp;lia);rw[e] at this;simpa using this
   have hK:K≠k:=λz=>by subst z;have:=cK' 0 (fS _);rw[Qm,h4] at this;cases this
   refine qY h owner fuel (k+1) (λq UR=>?_) ⟨K,by lia,by lia,h3,h4⟩;by_cases z:q<kS M h k
   ·exact hq q z
   ·have UR:q<kS M h k+(runEnd M (lp M h k).1-(lp M h k).1)+1:=UR;have hj:=Zn (q-kS M h k) (by lia);rw[show kS M h k+(q-kS M h k)=q by lia] at hj;rw[hj];exact cK' _ (by lia)
structure OI(M:Nat)(hs:List Int)(owner:Array (Option Nat)):Prop where
 sz:owner.size=M+1
 lt:∀ j v:Nat,owner[j]? = some (some v)->v<hs.length
 inj:∀ j j' v:Nat,owner[j]? = some (some v)->owner[j']? = some (some v)->j=j'
 all:∀ v:Nat,v<hs.length->∃ j:Nat,owner[j]? = some (some v)
 path:∀ j v:Nat,owner[j]? = some (some v)->∃ n,n<=10*(M+13)/\J M (hs.getD v 0) n=j/\∀ q<n,kF owner (J M (hs.getD v 0) q)=true
def tW(h:j<owner.size):kF owner j=true↔∃ v,owner[j]? = some (some v):=by
 unfold kF;rw[CF h];simp only[Array.getD,h,dite_true,Option.some.injEq]
 cases hh:owner[j] with
 |none =>have:owner.getInternal j h=none:=hh;rw[this];simp
 |some v =>have:owner.getInternal j h=some v:=hh;rw[this];simp
def OI.free(O:OI M hs owner)(hl:hs.length<=M):∃ e,e<=M/\kF owner e=false:=by
 by_cases c:∃ e,e<=M/\kF owner e=false
 ·exact c
 ·exfalso;have all:∀ e,e<=M->∃ v,owner[e]? = some (some v):=λe he=>by
   refine(tW (by rw[O.sz];lia)).mp ?_
   cases z:kF owner e with
   |true=>rfl
   |false=>exact absurd ⟨e,he,z⟩ c
  have nd:((List.range (M+1)).map λj=>(owner.getD j none).getD 0).Nodup:=by rw[Sv,kC];refine List.Pairwise.imp_of_mem ?_ (Sv.mp SN);intro a b ha hb ke z;obtain⟨va,ea⟩:=all a (by have:=oP.mp ha;lia);obtain⟨vb,eb⟩:=all b (by have:=oP.mp hb;lia);rw[JY,JY,ea,eb] at z;subst z;exact ke (O.inj _ _ _ ea eb)
  have:=bH nd λx hx=>by obtain⟨j,hj,rfl⟩:=cw.mp hx;obtain⟨v,e⟩:=all j (by have:=oP.mp hj;lia);rw[JY,e];exact oP.mpr (O.lt _ _ e)
  simp at this;lia
def OI.lay(hM:M+1=2 ^ m)(O:OI M hs owner)(hl:hs.length<=M)(h:Int) :
  ∃ j,layClean.free M owner (turns M) (bits h % (M+1)) (bits h)=some j/\OI M (hs++[h]) (owner.setIfInBounds j (some hs.length)):=by
 obtain⟨e,he,hf⟩:=O.free hl;obtain⟨K,hK,hKe⟩:=cover hM h he;obtain⟨j,n,e1,e2,e3,e4,e5⟩:=qY h owner (turns M) 0 (λq hq=>absurd hq (FR q)) ⟨K,fS _,by unfold turns;lia,hK,by rw[hKe];exact hf⟩;refine⟨j,e1,?_⟩;have hj:j<owner.size:=by rw[O.sz,<- e2];exact S0 (UQ M h n)
 have get:∀ i,(owner.setIfInBounds j (some hs.length))[i]? = if j=i then some (some hs.length) else owner[i]? := λi=>by
  by_cases z:j=i
  ·subst z;simp[hj]
  ·simp[z]
 have oc:∀ i,kF owner i=true->kF (owner.setIfInBounds j (some hs.length)) i=true:=λi hi=>by
  unfold kF at hi ⊢;rw[JY] at hi ⊢;rw[get];split
  ·rfl
  ·exact hi
 have ke:∀ v,owner[j]?≠some (some v):=λv z=>by have:=(tW hj).mpr ⟨v,z⟩;rw[e4] at this;cases this
 refine⟨by rw[Array.size_setIfInBounds];exact O.sz,λi v z=>?_,λi i' v z z'=>?_,λv hv=>?_,λi v z=>?_⟩
 ·rw[get] at z;split at z
  ·cases z;simp
  ·have:=O.lt i v z;simp;lia
 ·rw[get] at z z';split at z
  ·cases z;split at z'
   ·lia
   ·exact absurd (O.lt _ _ z') (wo _)
  ·split at z'
   ·cases z';exact absurd (O.lt _ _ z) (wo _)
   ·exact O.inj i i' v z z'
 ·simp at hv;by_cases c:v=hs.length
  ·exact⟨j,by rw[get,if_pos rfl,c]⟩
  ·obtain⟨i,hi⟩:=O.all v (by lia);refine⟨i,?_⟩;rw[get,if_neg (λz=>ke v (by rw[z];exact hi))];exact hi
 ·rw[get] at z;split at z
  ·rename_i Zo;cases z;refine⟨n,e3,?_,λq hq=>oc _ ?_⟩
   ·rw[CB,Ct (c9 _)];simp[e2,Zo]
   ·have:=e5 q hq;simpa using this
  ·have hv:=O.lt i v z;obtain⟨n',a1,a2,a3⟩:=O.path i v z;have eg:(hs++[h]).getD v 0=hs.getD v 0:=by rw[CB,CB,FE hv]
   rw[eg];exact⟨n',a1,a2,λq hq=>oc _ (a3 q hq)⟩
def OI.nil(M:Nat):OI M [] (Array.replicate (M+1) none):=by
 have no:∀ (j v:Nat),¬ (Array.replicate (M+1) none)[j]? = some (some v):=λj v z=>by rw[Array.getElem?_replicate] at z;split at z<;>cases z
 exact⟨by simp,λj v z=>absurd z (no j v),λj j' v z _=>absurd z (no j v),λv hv=>absurd hv (FR v),λj v z=>absurd z (no j v)⟩
def Gz(hM:M+1=2 ^ m)(hs:Array Int)(hl:hs.size<=M):∃ owner,layClean M hs=some owner/\OI M hs.toList owner:=by
 have go:∀ (l pre:List Int) owner,OI M pre owner->pre.length+l.length<=M->∃ cL',l.foldl (λacc h=>do
   let (owner,k) ← acc
   let j ← layClean.free M owner (turns M) (bits h % (M+1)) (bits h)
   pure (owner.setIfInBounds j (some k),k+1)) (some (owner,pre.length))=some (cL',pre.length+l.length)/\OI M (pre++l) cL':=by
  intro l
  induction l with
  |nil=>intro pre owner O _;exact⟨owner,rfl,by rw[sR];exact O⟩
  |cons h l ih =>
   intro pre owner O hz;rw[qh] at hz;obtain⟨j,e,O'⟩:=O.lay hM (by lia) h;obtain⟨o2,e2,O2⟩:=ih (pre++[h]) _ O' (by simp;lia);refine⟨o2,?_,by rw[AW] at O2;exact O2⟩;rw[List.foldl_cons];have:(do
    let (owner,k) ← (some (owner,pre.length):Option (Array (Option Nat) × Nat))
    let j ← layClean.free M owner (turns M) (bits h % (M+1)) (bits h)
    pure (owner.setIfInBounds j (some k),k+1))=some (owner.setIfInBounds j (some pre.length),(pre++[h]).length):=by
    simp[e]
   rw[this,e2];simp;lia
 obtain⟨o,e,O⟩:=go hs.toList [] _ (OI.nil M) (by simpa using hl);refine⟨o,?_,by simpa using O⟩;unfold layClean;rw[<- Array.foldl_toList];have e':=e;simp only[SW] at e';rw[e'];rfl
theorem jq:∀ (fuel a:Nat),3<=a->n<2 ^ (a+fuel)->∃ b,3<=b/\sizeAbove.go n fuel (2 ^ a)=2 ^ b/\n<2 ^ b/\(2 ^ b<=2*n\/b=a)
 |0,a,ha,h=>⟨a,ha,rfl,by simpa using h,.inr rfl⟩
 |fuel+1,a,ha,h=>by
  unfold sizeAbove.go;by_cases c:2 ^ a<=n
  ·rw[if_pos c];obtain⟨b,h1,h2,h3,h4⟩:=jq fuel (a+1) (by lia) (by rw[show a+1+fuel=a+(fuel+1) by lia];exact h);refine⟨b,h1,by rw[CD] at h2;exact h2,h3,?_⟩;rcases h4 with h4|h4
   ·exact .inl h4
   ·left;rw[h4,CD];lia
  ·rw[if_neg c];exact⟨a,ha,rfl,by lia,.inr rfl⟩
def mK(h:n<2 ^ 60):∃ b,3<=b/\sizeAbove n=2 ^ b/\n<2 ^ b/\(2 ^ b<=2*n\/b=3) :=
 jq 64 3 (c9 _) (Vv h (by decide))
section
variable {α:Type}
def bB(M:Nat)(owner:Array (Option Nat)):List (Nat × Nat):=(List.range (M+1)).filterMap λj=>(owner.getD j none).map (j,·)
def eQ:p∈bB M owner↔p.1<M+1/\owner[p.1]? = some (some p.2):=by
 unfold bB;rw[Vo];constructor
 ·rintro⟨j,hj,e⟩;rw[JY] at e
  cases h:owner[j]? with
  |none=>rw[h] at e;cases e
  |some o =>
   rw[h] at e
   cases o with
   |none=>cases e
   |some v =>cases e;exact⟨oP.mp hj,h⟩
 ·rintro⟨h1,h2⟩;exact⟨p.1,oP.mpr h1,by rw[JY,h2];rfl⟩
def rY(M:Nat)(owner:Array (Option Nat)):((bB M owner).map (·.1)).Pairwise (· < ·):=by
 unfold bB;rw[kC,List.pairwise_filterMap];refine List.Pairwise.imp ?_ List.pairwise_lt_range;intro a b L9 p hp q hq
 cases h1:owner.getD a none with
 |none=>rw[h1] at hp;cases hp
 |some x =>
  cases h2:owner.getD b none with
  |none=>rw[h2] at hq;cases hq
  |some y =>rw[h1] at hp;rw[h2] at hq;cases hp;cases hq;exact L9
def ue{l:List Nat}(h:l.Pairwise (· < ·)):Up l.toArray:=λi j ki hj=>by
 have hj:j<l.length:=by simpa using hj
 have:=xD.mp h i j (by lia) hj ki;have e:∀ k hk,l.toArray.getD k 0=l[k]:=λk hk=>by simp[Array.getD,hk]
 rw[e i (by lia),e j hj];exact this
theorem uB{β:Type}{f:α->Option β}:∀ {l:List α},(∀ x∈l,(f x).isSome=true)->(l.filterMap f).length=l.length/\∀ i:Nat,(l.filterMap f)[i]? = (l[i]?).bind f
 |[],_=>⟨rfl,λi=>by simp⟩
 |x :: l,h=>by
  obtain⟨a,b⟩:=uB λy hy=>h y (dP _ hy);have hx:=h x dz
  cases e:f x with
  |none=>rw[e] at hx;cases hx
  |some y =>
   rw[Qf,e];refine⟨by simp[a],λi=>?_⟩
   cases i with
   |zero=>simp[e]
   |succ i=>simpa using b i
def um(es:Array (Int × α)):(List.range es.size).filterMap (λi=>es[i]?)=es.toList:=by
 apply FI;intro i;rw[(uB λx hx=>by
  have:=oP.mp hx;simp[this]).2 i]
 by_cases h:i<es.size
 ·rw[List.getElem?_range h,pE];rfl
 ·rw[xE (by simpa using h),xE (by simpa using h)];rfl
def Gw{M m finger moves:Nat}{led plain:Bool}(hM:M+1=2 ^ m)(hm:3<=m){es:Array (Int × α)}(hf:es.size*5<M*3) :
  ∃ t order,laid M finger moves led plain (es.map (·.1))=some (t,order)/\t.plain=plain/\t.led=led/\t.mask=M/\TI t (order.filterMap λi=>es[i]?)/\(order.filterMap λi=>es[i]?).size=es.size/\(order.filterMap λi=>es[i]?).toList.Perm es.toList/\order.toList.Perm (List.range es.size):=by
 obtain⟨owner,e,O⟩:=Gz hM (es.map (·.1)) (by rw[Array.size_map];lia);have hn:(es.map (·.1)).toList.length=es.size:=by simp
 refine⟨{ mask:=M,place:=((bB M owner).map (·.1)).toArray,dummies:=#[],finger,led,moves,plain },((bB M owner).map (·.2)).toArray,?_,rfl,rfl,rfl,?_⟩
 ·unfold laid;rw[e];rfl
 have vlt:∀ p∈bB M owner,p.2<es.size:=λp hp=>by have:=O.lt _ _ (eQ.mp hp).2;lia
 have nd:((bB M owner).map (·.2)).Nodup:=by rw[Sv,kC];have:=rY M owner;rw[kC] at this;refine List.Pairwise.imp_of_mem ?_ this;intro p q hp hq fA z;have:=O.inj _ _ _ (eQ.mp hp).2 (by rw[z];exact(eQ.mp hq).2);lia
 have pm:((bB M owner).map (·.2)).Perm (List.range es.size):=by
  refine(List.perm_ext_iff_of_nodup nd SN).mpr λv=>⟨λhv=>?_,λhv=>?_⟩
  ·obtain⟨p,hp,rfl⟩:=cw.mp hv;exact oP.mpr (vlt p hp)
  ·obtain⟨j,hj⟩:=O.all v (by rw[hn];exact oP.mp hv);have hjs:=(NW.mp hj).1;rw[O.sz] at hjs;exact cw.mpr ⟨(j,v),eQ.mpr ⟨hjs,hj⟩,rfl⟩
 have hlen:(bB M owner).length=es.size:=by have:=pm.length_eq;simpa using this
 have BU:(((bB M owner).map (·.2)).toArray.filterMap λi=>es[i]?).toList=(bB M owner).filterMap λp=>es[p.2]? := by rw[Array.toList_filterMap,Vp];rfl
 obtain⟨f1,f2⟩:=uB (l:=bB M owner) (f:=λp=>es[p.2]?) λp hp=>by simp[vlt p hp]
 have jW':∀ i:Nat,(((bB M owner).map (·.2)).toArray.filterMap λi=>es[i]?)[i]? = ((bB M owner)[i]?).bind λp=>es[p.2]? := λi=>by rw[<- pE,BU];exact f2 i
 have gL:(((bB M owner).map (·.2)).toArray.filterMap λi=>es[i]?).size=es.size:=by rw[<- CH,BU,f1,hlen]
 have rh:∀ i:Nat,∀ p,(bB M owner)[i]? = some p->((bB M owner).map (·.1)).toArray.getD i 0=p.1:=λi p hp=>by simp[hp]
 have tk:∀ j,kF owner j=true->j<=M->taken ((bB M owner).map (·.1)).toArray j=true:=λj hj hM'=>by
  obtain⟨v,hv⟩:=(tW (by rw[O.sz];lia)).mp hj;obtain⟨i,hi⟩:=IZ.mp (eQ.mpr (show((j,v):Nat × Nat).1<M+1/\owner[((j,v):Nat × Nat).1]? = some (some ((j,v):Nat × Nat).2) from⟨by lia,hv⟩));exact(fQ (ue (rY M owner))).mpr ⟨i,by
   have:=(iF.mp hi).1;simpa using this,rh i _ hi⟩
 refine⟨?_,gL,?_,by simpa using pm⟩
 ·refine⟨⟨m,hM,hm⟩,?_,ue (rY M owner),λi hi=>?_,rfl,by rw[gL];exact hf,λi h x hx=>?_⟩
  ·rw[gL];simp[hlen]
  ·have hi:i<(bB M owner).length:=by simpa using hi
   have e1:=lh hi;show((bB M owner).map (·.1)).toArray.getD i 0<=M;rw[rh i _ e1];have:=(eQ.mp (mB e1)).1;lia
  ·rw[jW'] at hx
   cases hp:(bB M owner)[i]? with
   |none=>rw[hp] at hx;cases hx
   |some p =>
    rw[hp] at hx;have hx:es[p.2]? = some (h,x):=hx;have RC:=eQ.mp (mB hp);obtain⟨n,a1,a2,a3⟩:=O.path _ _ RC.2;have hh:(es.map (·.1)).toList.getD p.2 0=h:=by rw[CB,pE,Array.getElem?_map,hx];rfl
    rw[hh] at a2 a3;refine⟨n,a1,?_,λq hq=>tk _ (a3 q hq) (UQ M h q)⟩;rw[rh i _ hp];exact a2
 ·rw[BU];have:=pm.filterMap λi=>es[i]?;rw[um,Vp] at this;exact this
def qu{t:SetTable}{es:Array (Int × α)}(hn:es.size<=10000) :
  ∃ t' order,t.relaid (es.map (·.1)) (grown es.size)=some (t',order)/\t'.plain=t.plain/\t'.led=t.led/\sizeAbove (grown es.size)<=16777216/\(es.size<=1000->t'.mask<=8191)/\TI t' (order.filterMap λi=>es[i]?)/\(order.filterMap λi=>es[i]?).size=es.size/\(order.filterMap λi=>es[i]?).toList.Perm es.toList/\order.toList.Perm (List.range es.size):=by
 have hg:grown es.size=es.size*4:=by unfold grown;rw[if_neg (by lia)]
 obtain⟨b,h3,e,fA,hle⟩:=mK (n:=es.size*4) (by lia);have h8:8<=2 ^ b:=Nat.pow_le_pow_right (n:=2) (by decide) h3;unfold relaid;rw[hg,e];obtain⟨t',order,q1,q2,q3,qm,q4⟩:=Gw (M:=2 ^ b-1) (by lia) h3 (es:=es) (by lia);refine⟨t',order,q1,q2,q3,?_,λhz=>?_,q4⟩
 ·rcases hle with hle|rfl
  ·lia
  ·decide
 ·rw[qm];rcases hle with hle|rfl
  ·lia
  ·decide
end
section
variable {α:Type}{t:SetTable}{es:Array (Int × α)}
def pI(T:TI t es)(hashAt:Nat->Int)(h:Int):∀ (fuel n:Nat),(∃ N,n<=N/\N<n+fuel/\taken t.place (J t.mask h N)=false) ->
  ∃ n',n<=n'/\n'<n+fuel/\(∀ q,n<=q->q<n'->taken t.place (J t.mask h q)=true/\hashAt (below t.place (J t.mask h q))≠h) /\ ((taken t.place (J t.mask h n')=false/\probe.go t hashAt h fuel (ps t.mask h n)=some (.empty (J t.mask h n') none)) \/ (taken t.place (J t.mask h n')=true/\hashAt (below t.place (J t.mask h n'))=h/\probe.go t hashAt h fuel (ps t.mask h n)=some (.candidate (J t.mask h n') (below t.place (J t.mask h n')) (ps t.mask h (n'+1)))))
 |0,n,⟨N,h1,h2,_⟩=>by lia
 |fuel+1,n,⟨N,h1,h2,h3⟩=>by
  unfold probe.go;have hs:=T.slot (J t.mask h n);have hd:=(Em t.mask h n).2.2.1;by_cases c:taken t.place (J t.mask h n)=true
  ·rw[if_pos c] at hs;have hs:t.slot (ps t.mask h n).j=.live (below t.place (J t.mask h n)):=hs;rw[hs];dsimp only;by_cases e:hashAt (below t.place (J t.mask h n))=h
   ·rw[if_pos (by simpa using e)];exact⟨n,c9 _,by lia,λq a b=>by lia,.inr ⟨c,e,rfl⟩⟩
   ·rw[if_neg (by simpa using e)];have hN:N≠n:=λz=>by rw[z,c] at h3;cases h3
    obtain⟨n',a1,a2,a3,a4⟩:=pI T hashAt h fuel (n+1) ⟨N,by lia,by lia,h3⟩;refine⟨n',by lia,by lia,λq b1 b2=>?_,a4⟩;by_cases z:q=n
    ·subst z;exact⟨c,e⟩
    ·exact a3 q (by lia) b2
  ·have c:taken t.place (J t.mask h n)=false:=by simpa using c
   rw[if_neg (by rw[c];exact kH)] at hs;have hs:t.slot (ps t.mask h n).j=.empty:=hs;rw[hs];rw[hd];exact⟨n,c9 _,by lia,λq a b=>by lia,.inl ⟨c,rfl⟩⟩
end
section
variable {prog:eL}{w:eR}{K:Type}[DecidableEq K]{knd:KeyKind prog w K}
abbrev aW(knd:KeyKind prog w K)(k:List K):Int:=tupleKeyHash knd k
def Aw(knd:KeyKind prog w K)(p:List K × ai):Int × ae:=(aW knd p.1,.ref p.2)
structure PL(knd:KeyKind prog w K)(h:eh)(a:ai)(ks:List (List K × ai)):Prop where
 ob:∃ o es ep t,h.get? a=some o/\o.ExactSet/\o.data=.set es ep t/\TI t es/\t.mask<=8191/\t.led=(!w.params.followText "set-order")/\es.toList=ks.map (Aw knd)
 nd:(ks.map (·.1)).Nodup
 is:∀ p∈ks,IsTupleKey knd h p.1 p.2
variable {A:fq}{E:ae->ay->Prop}{s:ay}
def lN(hk:IsTupleKey knd s.heap k a)(h:Q false s):bG (aI prog w) A (ofAClassStatement 8 (.ref a)) Q E s:=by
 have hT:=hk.typeIs;obtain⟨o,items,n,ho,_,hd,hi⟩:=hk;unfold ofAClassStatement;refine ax (wpAny_typeOf hT ?_);refine ax ?_;refine bE ?_;refine ax (wpAny_seqItems ho hd ?_);refine ax ?_;rw[<- Array.forIn_toList];refine wpAny_forIn_list _ (λrest r s'=>r.1=none/\s'=s/\∀ v∈rest,carriedByValue v=true) _ ?_ ?_ _ _ ⟨rfl,rfl,hi.byValue⟩
 ·rintro v rest r s' ⟨hr,rfl,og⟩;have hv:=og v dz;have e:ofAClassStatement 7 v=pure false:=by
   cases v with
   |ref a=>cases hv
   |_=>rfl
  rw[e];exact ax (bE (bE ⟨rfl,rfl,λu Mb=>og u (dP _ Mb)⟩))
 ·rintro⟨r1,r2⟩ s' ⟨hr,rfl,_⟩;subst hr;exact bE h
def je(hk:IsTupleKey knd s.heap k a)(vt:∀ k v,knd.is k v=true->v.scannable=true)(h:∀ b,Q b s):bG (aI prog w) A (hashByValue 8 (.ref a)) Q E s:=by
 have hT:=hk.typeIs;obtain⟨o,items,n,ho,_,hd,hi⟩:=hk;have jX':∀ v∈items.toList,v.scannable=true:=by
  generalize items.toList=l at hi
  induction hi with
  |nil=>intro v hv;cases hv
  |cons h1 _ ih =>
   intro v hv;rcases eK.mp hv with rfl|hv
   ·exact vt _ _ h1
   ·exact ih v hv
 refine ax (wpAny_specialOf hT F.slot_tuple_hash.lookup ?_);refine ax (wpAny_seqItems ho hd ?_);dsimp only[Option.getD];refine ax ?_;rw[<- Array.forIn_toList];refine wpAny_forIn_list _ (λrest r s'=>s'=s/\∀ v∈rest,v.scannable=true) _ ?_ ?_ _ _ ⟨rfl,jX'⟩
 ·rintro v rest r s' ⟨rfl,og⟩;rw[hashByValue_scannable 7 (og v dz)];refine ax (bE ?_);split
  ·exact bE (bE (h _))
  ·exact bE ⟨rfl,λu Mb=>og u (dP _ Mb)⟩
 ·rintro⟨r1,r2⟩ s' ⟨rfl,_⟩
  cases r1 with
  |none=>exact bE (h true)
  |some b=>exact bE (h b)
end
local macro_rules | `(tactic| walk_at $s:str) => do
 let x:=s.getString
 if x.startsWith "PV" then `(tactic| exact $(Lean.mkIdent (.str (.str (.num (.str (.str (.str .anonymous "_private") "PySem") "SetOps") 0) "PySem") (x.drop 2).toString)))
 else Lean.Macro.throwUnsupported
abbrev xj:Array (Int × ae)->Nat->Int:=by walk_at "PVstoredHashAt"
abbrev FJ:Array (Int × ae)->Option (SetTable × Array Nat)->Sem (Array (Int × ae) × SetTable):=by walk_at "PVreordered"
abbrev pC:Array (Int × ae)->SetTable->Bool:=by walk_at "PVdrawn"
abbrev JK:Bool->Sem Unit:=by walk_at "PVgaveWayHere"
def rZ:Array (Int × ae)->Nat->Int:=xj
def qy(es:Array (Int × ae))(i:Nat):rZ es i=(es[i]?.map (·.1)).getD 0:=rfl
section
variable {prog:eL}{w:eR}{K:Type}[DecidableEq K]{knd:KeyKind prog w K}{A:fq}{E:ae->ay->Prop}{s:ay}
def vN(hk:IsTupleKey knd s.heap k a)(hy:∀ y∈ys,∃ k' b,y=.ref b/\IsTupleKey knd s.heap k' b)(h:Q false s):bG (aI prog w) A (searchCouldBeSeen (.ref a) ys) Q E s:=by
 refine ax ?_;refine wpAny_forIn_list _ (λrest r s'=>r.1=none/\s'=s/\∀ y∈rest,∃ k' b,y=.ref b/\IsTupleKey knd s.heap k' b) _ ?_ ?_ _ _ ⟨rfl,rfl,hy⟩
 ·rintro y rest r s' ⟨hr,rfl,og⟩;obtain⟨k',b,rfl,hb⟩:=og y dz;dsimp only;split
  ·exact bE ⟨rfl,rfl,λu Mb=>og u (dP _ Mb)⟩
  ·exact ax (wpAny_eqIsQuiet_tuple hk (ax (wpAny_eqIsQuiet_tuple hb (ax (lN hk (ax (lN hb (bE ⟨rfl,rfl,λu Mb=>og u (dP _ Mb)⟩))))))))
 ·rintro⟨r1,r2⟩ s' ⟨hr,rfl,_⟩;subst hr;exact bE h
def Lz{K G:Prop}(pk:K)(h:K->G):G:=h pk
def rM{a x:ai}{k:List K}{ks:List (List K × ai)}{o:Obj}{es:Array (Int × ae)}{ep:Nat}{t:SetTable}(hu:A.units<fE)(ho:s.heap.get? a=some o)(hd:o.data=.set es ep t)(T:TI t es)(he:es.toList=ks.map (Aw knd))(vx:∀ p∈ks,IsTupleKey knd s.heap p.1 p.2) (hx:IsTupleKey knd s.heap k x) {Q:SetFound->ay->Prop} (cO':k∈ks.map (·.1)->Q (.there none) s)(nf:Nat) (hnf:nf<=10*(t.mask+13)) (HL:taken t.place (J t.mask (aW knd k) nf)=false) (hbf:∀ q<nf,taken t.place (J t.mask (aW knd k) q)=true)(GV:k∉ks.map (·.1)->Q (.free (J t.mask (aW knd k) nf) false) s) :
  ∀ (fuel n:Nat) (stand:Option Probe),stand.getD (t.probeStart (aW knd k))=ps t.mask (aW knd k) n->n<=nf->nf<n+fuel -> (∀ q<n,∀ p,ks[below t.place (J t.mask (aW knd k) q)]? = some p->p.1≠k)->bG (aI prog w) A (setSearchFrom a (.ref x) (aW knd k) true fuel stand) Q E s
 |0,n,stand,_,h1,h2,_=>by lia
 |fuel+1,n,stand,qS,h1,h2,hq=>by
  have PN:∀ i:Nat,es[i]? = (ks[i]?).map (Aw knd):=λi=>by rw[<- pE,he,nK]
  refine ax (AQ ho hd T.fits ?_);dsimp only;rw[if_neg (by rw[T.odd];exact kH)];obtain⟨n',a1,a2,a3,a4⟩:=pI T (rZ es) (aW knd k) (10*turns t.mask) n ⟨nf,h1,by unfold turns;lia,HL⟩;have To:n'<=nf:=by
   by_cases z:n'<=nf
   ·exact z
   ·have:=(a3 nf h1 (by lia)).1;rw[HL] at this;cases this
  rcases a4 with⟨c1,c2⟩|⟨c1,c2,c3⟩
  ·have c2:t.probe (rZ es) (aW knd k) (stand.getD (t.probeStart (aW knd k)))=some (.empty (J t.mask (aW knd k) n') none):=by rw[qS];exact c2
   have e:n'=nf:=by
    by_cases z:n'<nf
    ·have:=hbf n' z;rw[c1] at this;cases this
    ·lia
   have c2:t.probe (xj es) (aW knd k) (stand.getD (t.probeStart (aW knd k)))=some (.empty (J t.mask (aW knd k) n') none):=c2;rw[c2];rw[e];refine bE (GV λhm=>?_);obtain⟨p,hp,rfl⟩:=cw.mp hm;obtain⟨i,hi⟩:=IZ.mp hp;have ei:es[i]? = some (aW knd p.1,.ref p.2):=by rw[PN,hi];rfl
   have cQ':i<t.place.size:=by rw[T.sz];exact(NW.mp ei).1
   obtain⟨ni,b1,b2,b3⟩:=T.path i _ _ ei;have bt:below t.place (J t.mask (aW knd p.1) ni)=i:=by rw[b2];exact below_at T.up cQ'
   have tk:taken t.place (J t.mask (aW knd p.1) ni)=true:=by rw[b2];exact(fQ T.up).mpr ⟨i,cQ',rfl⟩
   have fA:ni<nf:=by
    by_cases z:nf<ni
    ·have:=b3 nf z;rw[HL] at this;cases this
    ·have:ni≠nf:=λz=>by rw[z,HL] at tk;cases tk
     lia
   by_cases z:ni<n
   ·exact hq ni z p (by rw[bt];exact hi) rfl
   ·refine(a3 ni (by lia) (by lia)).2 ?_;rw[bt,qy,ei];rfl
  ·have c3:t.probe (xj es) (aW knd k) (stand.getD (t.probeStart (aW knd k)))=some (.candidate (J t.mask (aW knd k) n') (below t.place (J t.mask (aW knd k) n')) (ps t.mask (aW knd k) (n'+1))):=by rw[qS];exact c3
   rw[c3];dsimp only;have tk:=oA T.up c1;have UT:t.slot (J t.mask (aW knd k) n')=.live (below t.place (J t.mask (aW knd k) n')):=by rw[T.slot,if_pos c1]
   generalize hi:below t.place (J t.mask (aW knd k) n')=i at tk c2 UT ⊢;have hil:i<es.size:=by rw[<- T.sz];exact tk.1
   obtain⟨p,hp⟩:∃ p,ks[i]? = some p:=by
    have:i<ks.length:=by have:=congrArg List.length he;simp at this;lia
    exact⟨_,lh this⟩
   have ei:es[i]? = some (aW knd p.1,.ref p.2):=by rw[PN,hp];rfl
   have hpm:=mB hp;have ke:n'≠nf:=λz=>by rw[z,HL] at c1;cases c1
   have again:¬ p.1=k->bG (aI prog w) A (setSearchFrom a (.ref x) (aW knd k) true fuel (some (ps t.mask (aW knd k) (n'+1)))) Q E s:=λhpk =>
    rM hu ho hd T he vx hx cO' nf hnf HL hbf GV fuel (n'+1) (some (ps t.mask (aW knd k) (n'+1))) rfl (by lia) (by lia) λq UR p' kA=>by
     by_cases z:q<n
     ·exact hq q z p' kA
     ·by_cases z2:q=n'
      ·subst z2;rw[hi,hp] at kA;cases kA;exact hpk
      ·intro e';have:=(a3 q (by lia) (by lia)).2;refine this ?_;rw[qy,PN,kA];show aW knd p'.1=_;rw[e']
   have bS:p.1=k->k∈ks.map (·.1):=λe=>e ▸ cw.mpr ⟨p,hpm,rfl⟩;have seen:∀ y∈List.map (λx=>x.snd) (Array.filter (λx=>x.fst == aW knd k) es).toList,∃ k' b,y=.ref b/\IsTupleKey knd s.heap k' b:=λy hy=>by obtain⟨e',Uj,rfl⟩:=cw.mp hy;rw[Array.toList_filter] at Uj;have:=(zD.mp Uj).1;rw[he] at this;obtain⟨p',kA,rfl⟩:=cw.mp this;exact⟨p'.1,p'.2,rfl,vx p' kA⟩
   refine Lz ?pk (K:=?K) λkey=>?main;case main =>
    split
    ·refine ax (vN hx seen ?_);exact key
    ·exact key
   rw[ei];refine ax (vT (wpAny_eqBool_tuple hu (vx p hpm) hx ?_));refine ax (AQ ho hd T.fits ?_);by_cases e:p.1=k
   ·rw[if_pos (by simp[e])];exact bE (cO' (bS e))
   ·rw[if_neg (by simp[e])];have WL:t.sameMemory t.moves t.mask=some true:=by unfold sameMemory;rw[if_pos (by simp)]
    rw[WL];dsimp only;rw[if_pos rfl,UT];dsimp only;rw[ei];refine ax ?_;unfold isSame;dsimp only;rw[if_pos (by simp)];refine bE (ax (bE ?_));rw[if_pos rfl];dsimp only;rw[if_neg (by simp[e])];exact again e
end
def fD{α β:Type}{f:α->β}:∀ {l l2:List β},l.Perm l2->∀ {m:List α},l2=m.map f->∃ m':List α,l=m'.map f/\m'.Perm m:=by
 intro l l2 p
 induction p with
 |nil=>intro m e;exact⟨m,by rw[<- e],.refl _⟩
 |cons x _ ih =>
  intro m e
  cases m with
  |nil=>cases e
  |cons y m =>simp only[gS,List.cons.injEq] at e;obtain⟨m',e1,p1⟩:=ih e.2;exact⟨y :: m',by rw[gS,<- e1,e.1],p1.cons _⟩
 |swap x y l =>
  intro m e
  match m,e with
  |a :: b :: m,e =>simp only[gS,List.cons.injEq] at e;exact⟨b :: a :: m,by simp[e.1,e.2.1,e.2.2],.swap ..⟩
 |trans _ _ ih1 W5 =>intro m e;obtain⟨m',e1,p1⟩:=W5 e;obtain⟨m2,e2,p2⟩:=ih1 e1;exact⟨m2,e2,p2.trans p1⟩
def m_{α:Type}(xs:Array α)(p:Nat)(x:α):(insertAt xs p x).toList=xs.toList.take p++x :: xs.toList.drop p:=by unfold insertAt;simp;rw[Sx (by simp)]
def qH(hz:(order.filterMap λi=>es[i]?).size=es.size)(h:Q (order.filterMap λi=>es[i]?,t) s):bG (aI prog w) A (FJ es (some (t,order))) Q E s:=by
 show bG _ _ (if ((order.filterMap λi=>es[i]?).size != es.size)=true then (do unsupported "internal:set-table-lost-an-element";pure (order.filterMap λi=>es[i]?,t)) else pure (order.filterMap λi=>es[i]?,t)) _ _ _;rw[if_neg (by simp[hz])];exact bE h
section
variable {prog:eL}{w:eR}{K:Type}[DecidableEq K]{knd:KeyKind prog w K}{A:fq}{E:ae->ay->Prop}{s:ay}
def IsTupleKey.fT(hk:IsTupleKey knd h k a)(e:∀ o,h.get? a=some o->h'.get? a=some o):IsTupleKey knd h' k a:=by obtain⟨o,items,n,ho,r⟩:=hk;exact⟨o,items,n,e o ho,r⟩
def PL.ne(S:PL knd h a ks)(hx:IsTupleKey knd h k x):x≠a:=by obtain⟨⟨o,es,ep,t,ho,hex,_⟩,_,_⟩:=S;obtain⟨o',items,n,oQ,hc,_⟩:=hx;intro z;subst z;rw[ho] at oQ;cases oQ;rw[hex.1] at hc;exact absurd hc (by decide)
def Jm(S:PL knd s.heap a ks)(hx:IsTupleKey knd s.heap k x)(hz:ks.length<1000)(hu:A.units<fE)(vt:∀ k v,knd.is k v=true->v.scannable=true)(h:∀ (b:Bool) (h':eh) (eS:List (List K × ai)),Heap.SameBut a s.heap h'->PL knd h' a eS->(k∈ks.map (·.1)/\eS=ks\/k∉ks.map (·.1)/\eS.Perm ((k,x) :: ks))->Q b { s with heap:=h' }) :
  bG (aI prog w) A (setAddHashed a (.ref x) (aW knd k)) Q E s:=by
 obtain⟨⟨o,es,ep,t,ho,hex,hd,T,hM,hL,he⟩,nd,is⟩:=id S;have hlen:es.size=ks.length:=by have:=congrArg List.length he;simpa using this
 obtain⟨m,hm,_⟩:=T.pw;obtain⟨e0,Zq,Zr⟩:=T.free;obtain⟨nf,n1,n2,n3⟩:=mU hm (aW knd k) (taken t.place) Zq Zr;refine vT (ax (AQ ho hd T.fits ?_));dsimp only;have hbs:byScan (.ref x) es=false:=rfl;refine ax ?_;refine rM hu ho hd T he is hx (λbS=>?_) nf n1 n2 n3 (λE9=>?_) 100000 0 none rfl (fS _) (by lia) λq hq=>absurd hq (FR q)
 ·dsimp only;refine bE ?_;have e:s={ s with heap:=s.heap }:=by cases s;rfl
  exact h _ _ ks (Heap.SameBut.refl a s.heap) S (.inl ⟨bS,rfl⟩)
 ·dsimp only;generalize hj:J t.mask (aW knd k) nf=j at n2 ⊢;have Zt:j<=t.mask:=by rw[<- hj];exact UQ ..
  have Zu:Reach t.mask t.place (aW knd k) j:=⟨nf,n1,hj,n3⟩
  refine ax (AQ ho hd T.fits ?_);have Zv:t.put j=({ t with place:=insertAt t.place (below t.place j) j,dummies:=#[] },below t.place j):=by
   unfold SetTable.put;have:has t.dummies j=false:=by rw[T.dm];rfl
   simp only[this,qA,if_false];rw[T.dm]
  rw[Zv];have bS:(insertAt es (below t.place j) (aW knd k,.ref x)).toList=(ks.take (below t.place j)++(k,x) :: ks.drop (below t.place j)).map (Aw knd):=by rw[m_,he,oI,gS,List.map_take,List.map_drop];rfl
  have yB:(ks.take (below t.place j)++(k,x) :: ks.drop (below t.place j)).Perm ((k,x) :: ks):=by refine List.perm_middle.trans ?_;rw[P_]
  have IA:below t.place j<=es.size:=by rw[<- T.sz];exact(aR T.up j).1
  have yi:(insertAt es (below t.place j) (aW knd k,Value.ref x)).size=es.size+1:=bw _ _ IA;have RD:∀ h',Heap.SameBut a s.heap h'->∀ eS:List (List K × ai),eS.Perm ((k,x) :: ks)->∀ p∈eS,IsTupleKey knd h' p.1 p.2:=λh' sb eS pm p hp=>by
   have:IsTupleKey knd s.heap p.1 p.2:=by
    rcases eK.mp (pm.mem_iff.mp hp) with rfl|hp
    ·exact hx
    ·exact is p hp
   exact IsTupleKey.fT this λo' oQ=>sb.extBut _ _ (S.ne this) oQ
  have RG:∀ eS:List (List K × ai),eS.Perm ((k,x) :: ks)->(eS.map (·.1)).Nodup:=λeS pm=>by rw[(pm.map _).nodup_iff,gS,ly];exact⟨E9,nd⟩
  -- behind the flag
  have main:∀ pl:Bool,bG (aI prog w) A (do
    storeSet a (insertAt es (below t.place j) (aW knd k,.ref x)) { t with place:=insertAt t.place (below t.place j) j,dummies:=#[],plain:=pl }
    if (!false && ({ t with place:=insertAt t.place (below t.place j) j,dummies:=#[],plain:=pl }:SetTable).tooFull)=true then do
      setRelay a (grown (es.size+1))
      pure true
     else pure true) Q E s:=λpl=>by
   generalize RH:({ t with place:=insertAt t.place (below t.place j) j,dummies:=#[],plain:=pl }:SetTable)=t';have tm:t'.mask=t.mask:=by rw[<- RH]
   have tp:t'.place=insertAt t.place (below t.place j) j:=by rw[<- RH]
   have td:t'.dummies = #[]:=by rw[<- RH]
   have UU:t'.fill=es.size+1:=by unfold SetTable.fill;rw[tp,td,bw _ _ (aR T.up j).1,T.sz];simp
   refine ax (wpAny_storeSet_of ho hd ?_ (by rw[yi,kU];lia));have xk:(s.heap.update a (Obj.putSet (insertAt es (below t.place j) (aW knd k,.ref x)) t')).get? a=some { o with data:=.set (insertAt es (below t.place j) (aW knd k,.ref x)) (ep+1) t' }:=by have:=JA (Obj.putSet (insertAt es (below t.place j) (aW knd k,.ref x)) t') ho (by rw[putSet_of _ _ hd];rfl);rw[putSet_of _ _ hd] at this;exact this
   have sF:=Heap.SameBut.update s.heap a (Obj.putSet (insertAt es (below t.place j) (aW knd k,.ref x)) t');by_cases c:t'.tooFull=true
   ·rw[if_pos (by rw[c];rfl)];have Uz:t'.fits (insertAt es (below t.place j) (aW knd k,Value.ref x)).size=true:=by have:=T.few;simp only[SetTable.fits,UU,n5,beq_iff_eq,decide_eq_true_eq];rw[tp,bw _ _ (aR T.up j).1,yi,T.sz,tm];exact⟨rfl,by lia⟩
    obtain⟨t2,order,r1,r2,r3,r4,r5,r6,r7,r8,_⟩:=qu (es:=insertAt es (below t.place j) (aW knd k,Value.ref x)) (by lia);rw[yi] at r1 r4;refine ax (ax (AQ xk rfl Uz ?_));dsimp only;rw[if_neg (by rw[kU];lia)];refine ax ?_;rw[r1];obtain⟨eS,ek,pk⟩:=fD r8 bS;refine qH r7 ?_;refine wpAny_storeSet_of xk rfl ?_ (by rw[r7,yi,kU];lia);refine bE ?_;have DT:=sF.trans (Heap.SameBut.update _ a (Obj.putSet (order.filterMap λi=>(insertAt es (below t.place j) (aW knd k,Value.ref x))[i]?) t2));have sq:=JA (Obj.putSet (order.filterMap λi=>(insertAt es (below t.place j) (aW knd k,Value.ref x))[i]?) t2) xk (by rw[putSet_of _ _ rfl];rfl);exact h true _ eS DT ⟨⟨_,_,_,_,sq,hex,rfl,r6,r5 (by lia),by rw[r3,<- RH];exact hL,ek⟩,RG eS (pk.trans yB),RD _ DT eS (pk.trans yB)⟩ (.inr ⟨E9,pk.trans yB⟩)
   ·rw[if_neg (by simpa using c)];refine bE ?_;have Bi:(es.size+1)*5<t.mask*3:=by unfold SetTable.tooFull at c;rw[UU,tm] at c;simpa using c
    exact h true _ _ sF ⟨⟨_,_,_,_,xk,hex,rfl,T.put Zt n2 Zu tm tp td Bi,by rw[tm];exact hM,by rw[<- RH];exact hL,bS⟩,RG _ yB,RD _ sF _ yB⟩ (.inr ⟨E9,yB⟩)
  split
  ·refine ax (je hx vt λb=>?_)
   cases b with
   |true=>exact main t.plain
   |false=>exact main false
  ·exact ax (bE (main t.plain))
end
end TS
namespace TS
open PySem PySem.SetTable PyProof.Rows
section
variable {prog:eL}{w:eR}{A:fq}{R:Result->ay->Prop}{I:ai}{fp wr:List ai}{n:Nat}{P:Nat->ae->Prop}{St:Nat->eh->Prop}
def zX(W:Walks prog w A.in1 I fp wr n P St)(S:ai)(PQ:S∉fp)(SI:Nat->eh->Prop)(keep:∀ i h h',SI i h->(∀ b o,b∉wr->h.get? b=some o->h'.get? b=some o)->SI i h')(step:∀ (i:Nat) (v:ae) (s':ay) (E':ae->ay->Prop) (Q:Bool->ay->Prop),P i v->SI i s'.heap->(∀ b h' tk,Heap.SameBut S s'.heap h'->SI (i+1) h'->Q b { s' with heap:=h',toks:=tk })->bG (aI prog w) A.in1 (setAdd S v) Q E' s') :
  ∀ (k i:Nat) (s:ay),n-i=k->i<=n->St i s.heap->SI i s.heap -> (∀ h' tk,SI n h'->(∀ b o,b∉wr->b≠S->s.heap.get? b=some o->h'.get? b=some o)->R (.ok (.ret .none)) { s with heap:=h',toks:=tk }) ->
   codeAny (aI prog w) A (.builtin "set.update.loop" ⟨[.ref S,.ref I],[]⟩) R s:=by
 intro k
 induction k with
 |zero =>
  intro i s hk hi qS hS hR;have bS:i=n:=by lia
  subst bS;refine Cb F.entry_set_update_loop ?_;refine ax (W.done s _ _ qS λh' tk kR=>?_);show bG _ A.in1 (ret Value.none) _ _ _;exact bE (hR h' tk (keep _ _ _ hS kR) λb o hb _ e=>kR b o hb e)
 |succ k ih =>
  intro i s hk hi qS hS hR;have fA:i<n:=by lia
  refine Cb F.entry_set_update_loop ?_;refine ax (W.item i s _ _ fA qS λv h' tk hP kb' kR=>?_);refine ax (vT (step i v _ _ _ hP (keep _ _ _ hS kR) λb h2 tk2 sb hS2=>?_));refine bE ⟨FC F.plain_set_update_loop _,ih (i+1) _ (by lia) fA (W.frame _ _ _ kb' λb hb o e=>?_) hS2 λh3 tk3 hS3 LS=>?_⟩
  ·exact sb.extBut b o (λz=>PQ (by rw[<- z];exact hb)) e
  ·exact hR h3 tk3 hS3 λb o hb RJ e=>LS b o hb RJ (sb.extBut b o RJ (kR b o hb e))
end
section
variable {prog:eL}{w:eR}{A:fq}{E:ae->ay->Prop}{s:ay}
def zV(a:ae)(h:Q₁ (.ref s.heap.objs.size) { s with heap:=s.heap.push { cls:=.type "set",dict:=none,data:=.set #[] 0 (.fresh 0 0 (!w.params.followText "set-order")) } }) :
  codeAny (aI prog w) A (.call (.builtin "set.__new__") ⟨[.type "set",a],[]⟩) (wants Q₁ E) s:=by
 refine codeAny_of_tree ?_;refine ax (wpAny_of_eq (F.newCall_set_1 a) (bE ⟨FC F.plain_set_new _,Cb F.entry_set_new ?_⟩));unfold Builtin.«set.__new__» Builtin.Frozenset.newClass;have kf':=sub_set_self;obtain⟨hp,g,d,tk,os⟩:=s
 wp_walk
 refine MY (bE ?_);dsimp only;refine ax (wpAny_alloc (bE ?_));exact bE h
def jr(hh:A.handled=none)(hl:s.heap.IsList l items)(SI:Nat->eh->Prop)(h0:∀ h,h.get? s.heap.objs.size=some { cls:=.type "set",dict:=none,data:=.set #[] 0 (.fresh 0 0 (!w.params.followText "set-order")) }->(∀ b o,s.heap.get? b=some o->h.get? b=some o)->SI 0 h) (keep:∀ i h h',SI i h->(∀ b o,b<=s.heap.objs.size->h.get? b=some o->h'.get? b=some o)->SI i h') (step:∀ (i:Nat) (v:ae) (s':ay) (E':ae->ay->Prop) (Q:Bool->ay->Prop),items[i]? = some v->SI i s'.heap->(∀ b h' tk,Heap.SameBut s.heap.objs.size s'.heap h'->SI (i+1) h'->Q b { s' with heap:=h',toks:=tk }) ->
   bG (aI prog w) A.in1.in1.in1 (setAdd s.heap.objs.size v) Q E' s')
  (h:∀ (h':eh) (tk:Nat),SI items.size h'->(∀ b o,b<s.heap.objs.size->s.heap.get? b=some o->h'.get? b=some o)->Q (.ref s.heap.objs.size) { s with heap:=h',toks:=tk }) :
  bG (aI prog w) A (call (.type "set") [.ref l]) Q E s:=by
 obtain⟨c,tl,nC'⟩:=F.called_set.mro;have nD':=F.called_set.made;have kf':=F.called_set.sub;refine wpAny_call (codeAny_of_tree ?_);show bG _ _ (callAny (.type "set") _) _ _ _;refine bE ⟨Code.quiet_builtin _ (by decide +kernel),Cb F.entry_type_call ?_⟩;rw[Around.under_plain (weight_type_call_type "set" [.ref l] []) rfl];have h1:=F.called_set.notType;have h2:=F.called_set.canCreate;have hct:=F.typeCall_set_1 (.ref l);repeat (any_goals (first|assumption|wp_step))
 refine codeAny_mono (zV (.ref l) (E:=E) (Q₁:=λobj gp=>obj=.ref s.heap.objs.size/\gp={ s with heap:=s.heap.push { cls:=.type "set",dict:=none,data:=.set #[] 0 (.fresh 0 0 (!w.params.followText "set-order")) } }) ⟨rfl,rfl⟩) λr gp hr=>?_
 cases r with
 |error e=>exact hr
 |ok fl =>
  cases fl with
  |ret obj =>
   obtain⟨rfl,rfl⟩:=hr;generalize nF':(!w.params.followText "set-order")=led at h0 ⊢;have hS:(s.heap.push { cls:=.type "set",dict:=none,data:=.set #[] 0 (.fresh 0 0 led) }).get? s.heap.objs.size=some { cls:=.type "set",dict:=none,data:=.set #[] 0 (.fresh 0 0 led) }:=kG _ rfl;have hT:Shared.TypeIs { s with heap:=s.heap.push { cls:=.type "set",dict:=none,data:=.set #[] 0 (.fresh 0 0 led) } } (.ref s.heap.objs.size) "set" := ⟨_,hS,rfl⟩
   have hli:=F.called_set.init.lookup;have hbi:=F.called_set.init.bind (.ref s.heap.objs.size);repeat (any_goals (first|assumption|wp_step))
   refine codeAny_mono (codeAny_call_builtin (R:=wants (λr KW=>r=.none/\∃ h' tk,KW={ s with heap:=h',toks:=tk }/\SI items.size h' /\ (∀ b o,b<s.heap.objs.size->s.heap.get? b=some o->h'.get? b=some o)) E) F.called_set.init.plain F.entry_set_init (check_set_init_1 hT ?_)) λkg' KW Zw=>?_
   ·obtain⟨ol,hol,tF,nl,hdl⟩:=hl;obtain⟨nI',kh',nJ',ki'⟩:=ol;simp only at tF hdl;subst tF;subst hdl;have kj':(s.heap.push { cls:=.type "set",dict:=none,data:=.set #[] 0 (.fresh 0 0 led) }).get? l=some { cls:=.type "list",dict:=kh',data:=.seq items nl,slots:=ki' }:=gx _ hol;have nK':=F.sub_list_set;have nL':=F.sub_list_frozenset;have ke:(Value.type "list" == Value.type "dict")=false:=by decide
    have Pl:(s.heap.push { cls:=.type "set",dict:=none,data:=.set #[] 0 (.fresh 0 0 led) }).IsList l items:=⟨_,kj',rfl,nl,rfl⟩
    unfold Builtin.«set.__init__» noKeywords Builtin.Frozenset.updateFrom;generalize hPI:pyIter=PI
    wp_walk
    subst hPI;refine wpAny_pyIter_list Pl ?_;refine ax (wpAny_runValue ?_);have hlS:l<s.heap.objs.size:=fF hol;have hh3:A.in1.in1.in1.handled=none:=by simp[hh]
    have gL:(s.heap.push { cls:=.type "set",dict:=none,data:=.set #[] 0 (.fresh 0 0 led) }).objs.size=s.heap.objs.size+1:=Heap.size_push ..;have km':l≠(s.heap.push { cls:=.type "set",dict:=none,data:=.set #[] 0 (.fresh 0 0 led) }).objs.size:=by rw[gL];exact hU (xI hlS)
    have PQ:s.heap.objs.size∉[(s.heap.push { cls:=.type "set",dict:=none,data:=.set #[] 0 (.fresh 0 0 led) }).objs.size,l]:=by rw[gL];simp only[eK,nI,ND,or_false,not_or];exact⟨hU (Nat.lt_succ_self _),Ql hlS⟩
    refine zX (Walks.list hh3 _ l km' items) s.heap.objs.size PQ SI (λi h h' hi hk=>keep i h h' hi λb o hb e=>hk b o ?_ e) (λi v s' E' Q' hP hi hq=>step i v s' E' Q' hP hi hq) (items.size-0) 0 _ (by lia) (fS _) ⟨⟨_,kG _ rfl,rfl,rfl⟩,(Pl.push _)⟩ ?hS0 ?hR
    ·rw[gL];simp only[eK,ND,or_false];exact hU (S0 hb)
    case hS0 =>
     exact h0 _ (gx _ hS) λb o e=>gx _ (gx _ e)
    case hR =>
     intro h' Mk B5 kR;show bG _ _ _ _ _ _;refine bE ?_;show bG _ _ (ret Value.none) _ _ _;refine bE ⟨rfl,h',Mk,rfl,B5,λb o hb e=>?_⟩;refine kR b o ?_ (hU hb) (gx _ (gx _ e));rw[gL];simp only[eK,ND,or_false];exact hU (xI hb)
   ·cases kg' with
    |error e=>exact Zw
    |ok ko' =>
     cases ko' with
     |ret r =>
      obtain⟨rfl,h',tk,rfl,B5,kR⟩:=Zw;repeat (any_goals (first|assumption|wp_step))
      exact h _ _ B5 kR
     |_=>exact Zw.elim
  |_=>exact hr.elim
end
def qU:Manifest.owners.lookup (String.ofList ['r','o','t','a','r','e','t','i','_','t','e','s'].reverse)=some Manifest.sig_set_iterator:=by kernel_rfl
def bz:Slot "set_iterator" "__next__" "set_iterator.__next__" :=
 .of (owner := "set_iterator") (n := "__next__") (by rw[typeLookup_type,builtinLookup_eq_fast];kernel_rfl) (by decide +kernel) (by decide +kernel) (by decide +kernel) (by first|exact .inl (by decide +kernel)|exact .inr (by decide +kernel)) (by rw[isSubtype_type];kernel_rfl)
def lR:entryFor table "set_iterator.__next__" = some Builtin.«set_iterator.__next__» := entryFor_of_tree (by kernel_rfl)
def pA (a:ae):argsOk "set_iterator.__next__" ⟨[a],[]⟩:=by unfold argsOk;rw[signature?_of (n:=['_','_','t','x','e','n','_','_']) (by kernel_rfl) qU];kernel_rfl
def iG:Slot "set_iterator" "__iter__" "set_iterator.__iter__" :=
 .of (owner := "set_iterator") (n := "__iter__") (by rw[typeLookup_type,builtinLookup_eq_fast];kernel_rfl) (by decide +kernel) (by decide +kernel) (by decide +kernel) (by first|exact .inl (by decide +kernel)|exact .inr (by decide +kernel)) (by rw[isSubtype_type];kernel_rfl)
def lY:entryFor table "set.__iter__" = some Builtin.«frozenset.__iter__» :=
 entryFor_alias (id' := "frozenset.__iter__") (by kernel_rfl) rfl (by decide +kernel) (by kernel_rfl)
theorem iR{α:Type}:∀ (l:List α) (i:Nat) (h:i<l.length),(l[i] :: l.eraseIdx i).Perm l
 |x :: l,0,_=>.refl _
 |x :: l,i+1,h=>by have ih:=iR l i (by simpa using h);exact(List.Perm.swap _ _ _).trans (ih.cons x)
theorem xU{α:Type}(next:Nat->Nat):∀ (fuel k:Nat) (left:List α) (out:Array α),left.length=fuel->(pickOrder.go next fuel k left out).toList.Perm (out.toList++left)
 |0,k,left,out,h=>by have:left=[]:=Sw.mp h;subst this;unfold pickOrder.go;rw[sR]
 |fuel+1,k,left,out,h=>by unfold pickOrder.go;have fA:next k % left.length<left.length:=NV _ (by lia);rw[lh fA];refine(xU next fuel (k+1) _ _ (by rw[List.length_eraseIdx];split<;>lia)).trans ?_;rw[qB,AW];exact List.Perm.append_left _ (iR _ _ fA)
def jX{α:Type}(next:Nat->Nat)(xs:Array α):(pickOrder next xs).toList.Perm xs.toList:=by unfold pickOrder;have:=xU next xs.size 0 xs.toList #[] (by simp);simpa using this
section
variable {prog:eL}{w:eR}{A:fq}{E:ae->ay->Prop}{s:ay}
def qX(hn:n≠0)(h:∀ i d,i<n->Q i { s with drawn:=d }):bG M A (choose src n) Q E s:=λΓ p _=>⟨hn,h _ _ (NV _ (Nat.pos_of_ne_zero hn))⟩
def FZ{α:Type}(n:Nat):∀ (xs:List α) (s:ay) (Q:List α->ay->Prop),xs.length=n->(∀ ys d,ys.Perm xs->Q ys { s with drawn:=d })->bG (aI prog w) A (drawOrder n xs) Q E s:=by
 induction n with
 |zero =>intro xs s Q h q;have:xs=[]:=Sw.mp h;subst this;exact bE (q [] s.drawn (.refl _))
 |succ n ih =>
  intro xs s Q h q
  cases xs with
  |nil=>cases h
  |cons x xs =>refine ax (qX (by simp) λi d hi=>?_);rw[lh hi];exact ax (ih _ _ _ (by rw[List.length_eraseIdx,if_pos hi];simp at h ⊢;lia) λys d' py=>bE (q _ d' ((py.cons _).trans (iR _ _ hi))))
def tT(h:eh)(I:ai)(first:ae)(i:Nat)(a:ai)(n ep:Nat):Prop :=
 h.get? I=some { cls:=.type "set_iterator",dict:=none,data:=.fields #[first,.int i 0,.ref a,.int n 0,.int ep 0],slots:=#[] }
def DU(h:eh)(a:ai)(es:Array (Int × ae))(ep:Nat)(t:SetTable):Prop:=∃ o,h.get? a=some o/\o.data=.set es ep t
variable {a I:ai}{es:Array (Int × ae)}{ep:Nat}{t:SetTable}{first:ae}{i n:Nat}
def tT.typeIs (h:tT s.heap I first i a n ep):s.TypeIs (.ref I) "set_iterator" := ⟨_,h,rfl⟩
def zy(hit:tT s.heap I first i a n ep)(h:bG (aI prog w) A.in1 (Builtin.«set_iterator.__next__» ⟨[.ref I],[]⟩) (λfin s'=>∃ v,fin=.done (.ret v)/\Q (some v) s') (λe s'=>bG (aI prog w) A (isInstance e (.type "StopIteration")) (λb GP=>b=true/\Q none GP) E s') s) :
  bG (aI prog w) A (pyNext (.ref I)) Q E s:=by
 refine ax (wpAny_attempt (P8 hit.typeIs bz (B9 bz hit.typeIs lR ?_ (pA _))))
 refine wa h (λfin s' ⟨v,e,q⟩=>⟨v,e,bE q⟩) λe s' q=>?_;refine ax (wa q (λb GP eP=>?_) λ_ _ x=>x);obtain⟨e,q⟩:=eP;subst e;exact bE q
def zP{P:Fin->ay->Prop}{Q:Option ae->ay->Prop}(hh:A.handled=none)(hQ:∀ h',(∀ b o,s.heap.get? b=some o->h'.get? b=some o)->Q none { s with heap:=h' }) :
  bG (aI prog w) A.in1 (newExc (.type "StopIteration") [] >>= λe=>raiseNew e) P (λe s'=>bG (aI prog w) A (isInstance e (.type "StopIteration")) (λb GP=>b=true/\Q none GP) E s') s:=by
 refine ax ?_;refine ax (sQ ?_ (by size_fits));refine ax (wpAny_of_eq (by first|rfl|(simp only[firstArgMember];rfl)) ?_);refine sQ ?_ (by size_fits);refine ax (wpAny_handled ?_);rw[show A.in1.handled=none from hh];refine ax (bE (wpAny_throw ?_));refine wpAny_isInstance ⟨_,kG _ rfl,rfl⟩ isSubtype_stop ⟨rfl,?_⟩;exact hQ _ λb o e=>gx _ (gx _ e)
def g8{Q:Option ae->ay->Prop}{slot:Nat}{r:Option (ae × Nat)}(hh:A.handled=none)(ke:a≠I)(hit:tT s.heap I (.int slot 0) i a es.size ep)(My:DU s.heap a es ep t)(hf:t.fits es.size=true)(hr:∀ (A':fq) (E':ae->ay->Prop) (Q':Option (ae × Nat)->ay->Prop),Q' r s->bG (aI prog w) A' (setNext a slot i ep) Q' E' s)(h1:∀ x nx h',r=some (x,nx)->tT h' I (.int nx 0) (i+1) a es.size ep->Heap.SameBut I s.heap h'->Q (some x) { s with heap:=h' }) (h2:∀ h',r=none->(∀ b o,b≠I->s.heap.get? b=some o->h'.get? b=some o)->Q none { s with heap:=h' }) :
  bG (aI prog w) A (pyNext (.ref I)) Q E s:=by
 obtain⟨o,ho,hd⟩:=My;refine zy hit ?_;refine ax (wpAny_of_eq rfl ?_);refine ax (wpAny_fieldsOf hit rfl ?_);refine ax (wpAny_setEntries_of ho hd hf ?_);rw[if_neg (by simp)];refine ax (hr _ _ _ ?_)
 cases r with
 |some p =>obtain⟨x,nx⟩:=p;exact ax (MX hit (by simp) λg1 e1 sF=>ax (MX e1 (by simp) λg2 e2 DT=>bE ⟨x,rfl,h1 x nx g2 rfl (by unfold tT;simpa[n4] using e2) (sF.trans DT)⟩))
 |none =>exact ax (MX hit (by simp) λg1 e1 sF=>zP hh λh' k=>h2 h' rfl λb o hb e=>k b o (sF.extBut b o hb e))
def nF{Q:Option ae->ay->Prop}{T:ai}{ix:List Nat}{oT:Obj}{kT:Nat}(hh:A.handled=none)(hit:tT s.heap I (.ref T) i a es.size ep)(My:DU s.heap a es ep t)(hf:t.fits es.size=true)(hT:s.heap.get? T=some oT) (hTd:oT.data=.seq (ix.map λ(k:Nat)=>Value.int k 0).toArray kT)(h1:∀ k e h',ix[i]? = some k->es[k]? = some e->tT h' I (.ref T) (i+1) a es.size ep->Heap.SameBut I s.heap h'->Q (some e.2) { s with heap:=h' }) (AA:∀ k∈ix,k<es.size) (h2:∀ h',ix[i]? = none->(∀ b o,b≠I->s.heap.get? b=some o->h'.get? b=some o)->Q none { s with heap:=h' }) :
  bG (aI prog w) A (pyNext (.ref I)) Q E s:=by
 obtain⟨o,ho,hd⟩:=My;refine zy hit ?_;refine ax (wpAny_of_eq rfl ?_);refine ax (wpAny_fieldsOf hit rfl ?_);refine ax (wpAny_setEntries_of ho hd hf ?_);rw[if_neg (by simp)];refine ax (wpAny_seqItems hT hTd ?_);simp only[FU,List.getElem?_toArray,nK]
 cases hk:ix[i]? with
 |some k =>have B6:=AA k (mB hk);refine ax ?_;refine ax (AQ ho hd hf ?_);simp only[FU];rw[if_neg (by simp),CF B6];exact bE (ax (MX hit (by simp) λg1 e1 sF=>bE ⟨_,rfl,h1 k es[k] g1 hk (CF B6) (by unfold tT;simpa[n4] using e1) sF⟩))
 |none =>exact ax (MX hit (by simp) λg1 e1 sF=>ax (MX e1 (by simp) λg2 e2 DT=>zP hh λh' k=>h2 h' hk λb o hb e=>k b o ((sF.trans DT).extBut b o hb e)))
def ph (a:ae):argsOk "set_iterator.__iter__" ⟨[a],[]⟩:=by unfold argsOk;rw[signature?_of (n:=['_','_','r','e','t','i','_','_']) (by kernel_rfl) qU];kernel_rfl
def mF:entryFor table "set_iterator.__iter__" = some Builtin.«dict_keyiterator.__iter__» :=
 entryFor_alias (id' := "dict_keyiterator.__iter__") (by kernel_rfl) rfl (by decide +kernel) (by kernel_rfl)
def lq(hit:tT s.heap I first i a n ep)(h:Q (.ref I) s):bG (aI prog w) A (pyIter (.ref I)) Q E s:=by exact wpAny_pyIter_slot hit.typeIs iG (B9 iG hit.typeIs mF (bE ⟨_,rfl, "set_iterator",_,hit.typeIs,bz.lookup,h⟩) (ph _))
def rB {slot:Nat} {Q:Option (ae × Nat)->ay->Prop} (hb:w.params.followText "set-order" = true) (My:DU s.heap a es ep t) (hf:t.fits es.size=true)(h:Q (((pickOrder (w.params.setOrder a ep) es)[i]?).map λe=>(e.2,slot)) s):bG (aI prog w) A (setNext a slot i ep) Q E s:=by
 obtain⟨o,ho,hd⟩:=My;refine ax (AQ ho hd hf ?_);refine ax (ax (MY (bE ?_)));rw[if_pos (by exact hb),if_neg (by simp)];refine ax ?_;refine ax (AQ ho hd hf ?_);refine ax (ax (MY (bE ?_)));rw[if_pos (by exact hb)];exact ax (MY (bE (bE h)))
def nq {slot:Nat} {Q:Option (ae × Nat)->ay->Prop} (hb:w.params.followText "set-order" = false) (hl:t.led=true) (PR:(!t.plain && decide (es.size>1))=false) (My:DU s.heap a es ep t) (hf:t.fits es.size=true)(h:Q (match es[below t.place slot]?,t.place[below t.place slot]? with
  |some (_,x),some j=>some (x,j+1)
  |_,_=>none) s):bG (aI prog w) A (setNext a slot i ep) Q E s:=by
 obtain⟨o,ho,hd⟩:=My;refine ax (AQ ho hd hf ?_);refine ax (ax (MY (bE ?_)));rw[if_neg (by rw[show(aI prog w).w.params.followText "set-order" = false from hb];exact kH)];have e0:pC es t=(!t.plain && decide (es.size>1)):=rfl;unfold pC at e0;rw[e0,PR,if_neg kH];refine ax ?_;show bG _ _ (if (!t.led && !es.isEmpty)=true then unsupported "set:maker-not-led" else pure ()) _ _ s;rw[if_neg (by rw[hl];simp)];exact bE (bE h)
def PV(ys:List (Int × ae))(i:Nat)(v:ae):Prop:=∃ e,ys[i]? = some e/\v=e.2
def tT.keep(x:tT h I first i a n ep)(e:∀ o,h.get? I=some o->h'.get? I=some o):tT h' I first i a n ep:=e _ x
def DU.keep(x:DU h a es ep t)(e:∀ o,h.get? a=some o->h'.get? a=some o):DU h' a es ep t:=let ⟨o,ho,r⟩:=x;⟨o,e _ ho,r⟩
def zT (hh:A.handled=none) (ke:a≠I) (hb:w.params.followText "set-order" = true) (hf:t.fits es.size=true) :
  Walks prog w A I [I,a] [I] es.size (PV (pickOrder (w.params.setOrder a ep) es).toList) (λi h=>(∃ slot:Nat,tT h I (.int slot 0) i a es.size ep)/\DU h a es ep t) where
 sub:=λb hb=>by simp at hb;simp[hb]
 frame:=λ_ _ _ ⟨⟨sl,x⟩,y⟩ hk=>⟨⟨sl,x.keep λo e=>hk I (by simp) o e⟩,y.keep λo e=>hk a (by simp) o e⟩
 item:=λi s Q E hi ⟨⟨sl,x⟩,y⟩ hQ=>by
  have hlen:(pickOrder (w.params.setOrder a ep) es).size=es.size:=by have:=(jX (w.params.setOrder a ep) es).length_eq;simpa using this
  refine g8 hh ke x y hf (r:=((pickOrder (w.params.setOrder a ep) es)[i]?).map λe=>(e.2,sl)) (λA' E' Q' q=>rB hb y hf q) (λv nx h' e x' sb=>?_) λh' e k=>?_
  ·rw[CF (by lia)] at e;cases e;exact hQ _ h' s.toks ⟨_,by rw[pE];exact CF (by lia),rfl⟩ ⟨⟨_,x'⟩,y.keep λo e=>sb.extBut _ _ ke e⟩ λb o hb e=>sb.extBut b o (λh=>hb (by simp[h])) e
  ·rw[CF (by lia)] at e;cases e
 done:=λs Q E ⟨⟨sl,x⟩,y⟩ hQ=>by
  have hlen:(pickOrder (w.params.setOrder a ep) es).size=es.size:=by have:=(jX (w.params.setOrder a ep) es).length_eq;simpa using this
  refine g8 hh ke x y hf (r:=((pickOrder (w.params.setOrder a ep) es)[es.size]?).map λe=>(e.2,sl)) (λA' E' Q' q=>rB hb y hf q) (λv nx h' e x' sb=>?_) λh' e k=>?_
  ·rw[NX (by lia)] at e;cases e
  ·exact hQ h' s.toks λb o hb e=>k b o (λh=>hb (by simp[h])) e
 self:=λ_ _ _ _ ⟨⟨sl,x⟩,y⟩ hQ=>lq x hQ
def slotAt(t:SetTable):Nat->Nat
 |0=>0
 |i+1=>t.place.getD i 0+1
def jn(U:Up t.place)(h:i<=t.place.size):below t.place (slotAt t i)=i:=by
 cases i with
 |zero =>
  obtain⟨_,b,_⟩:=aR U 0;by_cases z:below t.place 0=0
  ·exact z
  ·exact absurd (b 0 (Nat.pos_of_ne_zero z)) (FR _)
 |succ i=>exact vY U (by lia)
def v_ (hh:A.handled=none) (ke:a≠I) (hb:w.params.followText "set-order" = false) (hl:t.led=true) (PR:(!t.plain && decide (es.size>1))=false) (U:Up t.place) (hz:t.place.size=es.size) (hf:t.fits es.size=true) :
  Walks prog w A I [I,a] [I] es.size (PV es.toList) (λi h=>tT h I (.int (slotAt t i:Nat) 0) i a es.size ep/\DU h a es ep t) where
 sub:=λb hb=>by simp at hb;simp[hb]
 frame:=λ_ _ _ ⟨x,y⟩ hk=>⟨x.keep λo e=>hk I (by simp) o e,y.keep λo e=>hk a (by simp) o e⟩
 item:=λi s Q E hi ⟨x,y⟩ hQ=>by
  have IA:=jn (t:=t) U (i:=i) (by lia);have e1:es[below t.place (slotAt t i)]? = some es[i]:=by rw[IA];exact CF hi
  have e2:t.place[below t.place (slotAt t i)]? = some (t.place.getD i 0):=by rw[IA];exact zM (by lia)
  refine g8 hh ke x y hf (r:=some (es[i].2,t.place.getD i 0+1)) (λA' E' Q' q=>nq hb hl PR y hf (by rw[e1,e2];exact q)) (λv nx h' e x' sb=>?_) λh' e k=>nomatch e;cases e;exact hQ _ h' s.toks ⟨_,by rw[pE];exact CF hi,rfl⟩ ⟨x',y.keep λo e=>sb.extBut _ _ ke e⟩ λb o hb e=>sb.extBut b o (λh=>hb (by simp[h])) e
 done:=λs Q E ⟨x,y⟩ hQ=>by
  have IA:=jn (t:=t) U (i:=es.size) (by lia);have e1:es[below t.place (slotAt t es.size)]? = none:=by rw[IA];exact NX (c9 _)
  refine g8 hh ke x y hf (r:=none) (λA' E' Q' q=>nq hb hl PR y hf (by rw[e1];exact q)) (λv nx h' e x' sb=>nomatch e) λh' e k=>?_;exact hQ h' s.toks λb o hb e=>k b o (λh=>hb (by simp[h])) e
 self:=λ_ _ _ _ ⟨x,y⟩ hQ=>lq x hQ
def wM{T:ai}{ix:List Nat}{kT:Nat}(hh:A.handled=none)(ke:a≠I)(hTI:T≠I)(hf:t.fits es.size=true)(hp:ix.Perm (List.range es.size)) :
  Walks prog w A I [I,a,T] [I] es.size (PV (ix.filterMap λk=>es[k]?)) (λi h=>tT h I (.ref T) i a es.size ep/\DU h a es ep t/\∃ o,h.get? T=some o/\o.data=.seq (ix.map λ(k:Nat)=>Value.int k 0).toArray kT):=by
 have hlen:ix.length=es.size:=by simpa using hp.length_eq
 have AA:∀ k∈ix,k<es.size:=λk hk=>oP.mp (hp.mem_iff.mp hk);obtain⟨f1,f2⟩:=uB (l:=ix) (f:=λk=>es[k]?) λk hk=>by simp[AA k hk]
 exact {
  sub:=λb hb=>by simp at hb;simp[hb]
  frame:=λ_ _ _ ⟨x,y,o,z,zd⟩ hk=>⟨x.keep λo e=>hk I (by simp) o e,y.keep λo e=>hk a (by simp) o e,o,hk T (by simp) o z,zd⟩
  item:=λi s Q E hi ⟨x,y,o,z,zd⟩ hQ=>by
   refine nF hh x y hf z zd (λk e h' e1 e2 x' sb=>?_) AA λh' e k=>?_
   ·refine hQ _ h' s.toks ⟨e,by rw[f2,e1];exact e2,rfl⟩ ⟨x',y.keep λo e=>sb.extBut _ _ ke e,o,sb.extBut _ _ hTI z,zd⟩ λb o hb e=>sb.extBut b o (λh=>hb (by simp[h])) e
   ·rw[lh (by lia)] at e;cases e
  done:=λs Q E ⟨x,y,o,z,zd⟩ hQ=>by
   refine nF hh x y hf z zd (λk e h' e1 e2 x' sb=>?_) AA λh' e k=>?_
   ·rw[xE (by lia)] at e1;cases e1
   ·exact hQ h' s.toks λb o hb e=>k b o (λh=>hb (by simp[h])) e
  self:=λ_ _ _ _ ⟨x,_⟩ hQ=>lq x hQ }
end
section
variable {prog:eL}{w:eR}{A:fq}{E:ae->ay->Prop}{s:ay}{a:ai}{o:Obj}{es:Array (Int × ae)}{ep:Nat}{t:SetTable}
def BK (hh:A.handled=none) (ho:s.heap.get? a=some o) (hex:o.ExactSet) (hd:o.data=.set es ep t) (hf:t.fits es.size=true) (U:Up t.place) (hz:t.place.size=es.size) (hl:t.led=(!w.params.followText "set-order")) (hn:es.size<=bI)(h:∀ (I:ai) (h2:eh) d (fp:List ai) (St:Nat->eh->Prop) (ys:List (Int × ae)),(∀ b o,s.heap.get? b=some o->h2.get? b=some o)->s.heap.objs.size<=I->(∀ b∈fp,b=a\/s.heap.objs.size<=b)->ys.Perm es.toList ->
   Walks prog w A I fp [I] es.size (PV ys) St->St 0 h2->Q (.ref I) { s with heap:=h2,drawn:=d }):bG (aI prog w) A (pyIter (.ref a)) Q E s:=by
 have hT:s.TypeIs (.ref a) "set" := ⟨o,ho,hex.1⟩
 have fA:a<s.heap.objs.size:=fF ho;refine wpAny_pyIter_slot hT F.slot_set_iter (B9 F.slot_set_iter hT lY ?_ (F.args_set_iter_1 _));refine ax (wpAny_of_eq rfl ?_);refine ax ?_;refine ax (wpAny_setEntries_of ho hd hf (bE ?_));refine ax ?_;refine ax (AQ ho hd hf ?_);refine ax (ax (MY (bE ?_)));refine bE ?_;have e0:pC es t=(!t.plain && decide (es.size>1)):=rfl;unfold pC at e0;show bG _ _ (if (!w.params.followText "set-order" && (!t.plain && decide (es.size>1)))=true then _ else _) _ _ s
 cases hb:w.params.followText "set-order" with
 |true =>
  refine ax (bE ?_);refine ax (wpAny_setEpoch_of ho hd hf ?_);refine ax (sQ ?_);refine bE ⟨_,rfl, "set_iterator",_,⟨_,kG _ rfl,rfl⟩,bz.lookup,?_⟩;have oQ:(s.heap.push { cls:=.type "set_iterator",data:=.fields #[n4 0,n4 0,.ref a,n4 es.size,n4 ep] }).get? a=some o:=gx _ ho;exact h s.heap.objs.size _ s.drawn _ _ _ (λb o e=>gx _ e) (c9 _) (λb hb=>by
   rcases eK.mp hb with rfl|hb
   ·exact .inr (c9 _)
   ·exact .inl (nI.mp hb)) (jX _ _) (zT hh (hU fA) hb hf) ⟨⟨0,kG _ rfl⟩,o,oQ,hd⟩
 |false =>
  cases PR:(!t.plain && decide (es.size>1)) with
  |false =>
   refine ax (bE ?_);refine ax (wpAny_setEpoch_of ho hd hf ?_);refine ax (sQ ?_);refine bE ⟨_,rfl, "set_iterator",_,⟨_,kG _ rfl,rfl⟩,bz.lookup,?_⟩;have oQ:(s.heap.push { cls:=.type "set_iterator",data:=.fields #[n4 0,n4 0,.ref a,n4 es.size,n4 ep] }).get? a=some o:=gx _ ho;exact h s.heap.objs.size _ s.drawn _ _ _ (λb o e=>gx _ e) (c9 _) (λb hb=>by
    rcases eK.mp hb with rfl|hb
    ·exact .inr (c9 _)
    ·exact .inl (nI.mp hb)) (.refl _) (v_ hh (hU fA) hb (by rw[hl,hb];rfl) PR U hz hf) ⟨kG _ rfl,o,oQ,hd⟩
  |true =>
   refine ax (FZ es.size (List.range es.size) s _ (by simp) λix d hp=>?_);refine ax (sQ ?_ ?hzz);case hzz =>
    have:=hp.length_eq;rw[Qg] at this;show(ix.map λ(i:Nat)=>n4 i).toArray.size<=bI;rw[jI,cx,this];exact hn
   have xk:(s.heap.push { cls:=.type "tuple",data:=.seq (ix.map λ(i:Nat)=>n4 i).toArray }).get? a=some o:=gx _ ho;refine ax (wpAny_setEpoch_of xk hd hf ?_);refine ax (sQ ?_);refine bE ⟨_,rfl, "set_iterator",_,⟨_,kG _ rfl,rfl⟩,bz.lookup,?_⟩;have Fm:(s.heap.push { cls:=.type "tuple",data:=.seq (ix.map λ(i:Nat)=>n4 i).toArray }).objs.size=s.heap.objs.size+1:=Heap.size_push ..;refine h (s.heap.push { cls:=.type "tuple",data:=.seq (ix.map λ(i:Nat)=>n4 i).toArray }).objs.size _ d [(s.heap.push { cls:=.type "tuple",data:=.seq (ix.map λ(i:Nat)=>n4 i).toArray }).objs.size,a,s.heap.objs.size] _ (ix.filterMap λk=>es[k]?) (λb o e=>gx _ (gx _ e)) (by rw[Fm];exact FT _) (λb hb=>?_) ?_ (wM hh (by rw[Fm];exact hU (xI fA)) (by rw[Fm];exact hU (Nat.lt_succ_self _)) hf hp) ⟨kG _ rfl,⟨o,gx _ xk,hd⟩,_,gx _ (kG _ rfl),rfl⟩
   ·rcases eK.mp hb with rfl|hb
    ·exact .inr (by rw[Fm];exact FT _)
    ·rcases eK.mp hb with rfl|hb
     ·exact .inl rfl
     ·rw[nI.mp hb];exact .inr (c9 _)
   ·have:=hp.filterMap λk=>es[k]?;rw[um] at this;exact this
def zW (hT:s.TypeIs (.ref a) "set") (h:Q false s):bG (aI prog w) A (Builtin.List.listLengthHint (.ref a)) Q E s:=by
 refine ax (wpAny_specialOf hT PySem.F.slot_set_len.lookup ?_);generalize mv:("set.__len__" : String)=id0
 wp_delta
 subst mv;exact ax (wpAny_isInstance (b:=true) hT (by rw[isSubtype_type];kernel_rfl) (wpAny_ite_split (λL9=>absurd L9 (by decide)) (λ_=>wpAny_ite_split (λ_=>ax (wpAny_typeOf hT (bE h))) (λL9=>absurd (by decide +kernel) L9))))
def Gk {R:Result->ay->Prop} (hh:A.handled=none) (ho:s.heap.get? a=some o) (hex:o.ExactSet) (hd:o.data=.set es ep t) (hf:t.fits es.size=true) (U:Up t.place) (hz:t.place.size=es.size) (hl:t.led=(!w.params.followText "set-order")) (hn:es.size<=bI)(S:ai) (hSa:S≠a) (res:ae) (c₀:Nat) (hS:s.heap.get? S=some { cls:=.type "list",data:=.seq #[] c₀ }) (hR:∀ h' tk d BD c' ys,(∀ b o,b≠S->s.heap.get? b=some o->h'.get? b=some o)->h'.get? S=some { cls:=.type "list",dict:=none,data:=.seq BD c',slots:=#[] }->ys.Perm es.toList->ItemsOf (PV ys) BD es.size->R (.ok (.ret res)) { s with heap:=h',toks:=tk,drawn:=d }) :
  bG (aI prog w) A.in1 (Builtin.List.listExtendWith (.ref S) (.ref a) res) (λfin s'=>match fin with|.done f=>R (.ok f) s'|.again c'=>c'.quiet=true/\codeAny (aI prog w) A c' R s') (λe s'=>R (.error e) s') s:=by
 have hT:s.TypeIs (.ref a) "set" := ⟨o,ho,hex.1⟩
 have Zx:=fF hS;refine ax (wpAny_typeOf hT ?_);have h1:Builtin.List.listSameRef (.ref S) (.ref a)=false:=by simp[Builtin.List.listSameRef,hSa]
 simp only[h1,show(Value.type "set" == Value.type "list")=false by decide,show(Value.type "set" == Value.type "tuple")=false by decide,Bool.or_false,qA,if_false];refine ax (BK hh ho hex hd hf U hz hl hn λI h2 d fp St ys kp hI hfp hp W st=>?_);have PQ:S∉fp:=λhm=>by
  rcases hfp S hm with z|z
  ·exact hSa z
  ·exact absurd Zx (Nat.not_lt.mpr z)
 have key:∀ h (c₁ tk:Nat),St 0 h->(∀ b o,b≠S->s.heap.get? b=some o->h.get? b=some o) ->
   h.get? S=some { cls:=.type "list",data:=.seq #[] c₁ }->codeAny (aI prog w) A (.builtin "list.extend.loop" ⟨[.ref S,.ref I,res],[]⟩) R { s with heap:=h,toks:=tk,drawn:=d }:=by
  intro h c₁ tk qS hk RK;refine codeAny_extend_loopS W.toS hn S PQ res es.size 0 _ #[] c₁ rfl (fS _) qS RK (ItemsOf.nil _) λs' BD c' hm B5 HM=>?_;rw[Moved.eq_with hm];refine hR s'.heap s'.toks d BD c' ys (λb o hb e=>hm.heap b o (λRi=>?_) (hk b o hb e)) B5 hp HM;rcases eK.mp Ri with e'|Ri
  ·exact hb e'
  ·exact absurd (fF e) (by rw[nI.mp Ri];exact Nat.not_lt.mpr hI)
 have RK:h2.get? S=some { cls:=.type "list",data:=.seq #[] c₀ }:=kp _ _ hS;refine ax (vT (zW ⟨o,kp _ _ ho,hex.1⟩ ?_));refine wpAny_ite_split (λ_=>?_) (λ_=>bE ⟨FC PySem.F.plain_extend_loop _,key _ c₀ _ st (λb o _ e=>kp b o e) RK⟩);refine ax (EB ?_);refine ax ?_;refine ax (wpAny_updateSeq RK rfl ?_);have cX':=JA (Obj.mapSeq (·.push Value.none)) RK rfl;refine wpAny_updateSeq cX' rfl ?_;have kv':=JA (Obj.mapSeq (·.pop)) cX' rfl;refine bE ⟨FC PySem.F.plain_extend_loop _,key _ _ _ ?_ (λb o hb e=>?_) kv'⟩
 ·refine W.frame 0 _ _ st λb hb o e=>?_;have RJ:b≠S:=λh=>PQ (h ▸ hb);exact(Qj _ _ (Ne.symm RJ)).trans ((Qj _ _ (Ne.symm RJ)).trans e)
 ·exact(Qj _ _ (Ne.symm hb)).trans ((Qj _ _ (Ne.symm hb)).trans (kp _ _ e))
def wK(h:ItemsOf (PV ys) acc n)(hn:ys.length=n):acc.toList=ys.map (·.2):=by
 apply FI;intro i;rw[nK];by_cases hi:i<n
 ·have kz:i<acc.size:=by rw[h.1];exact hi
  have e1:acc[i]? = some acc[i]:=CF kz;obtain⟨e,he,hv⟩:=h.2 i acc[i] e1;rw[pE,e1,he,hv];rfl
 ·rw[xE (by rw[CH,h.1];lia),xE (by lia)];rfl
def jF {R:Result->ay->Prop} (hh:A.handled=none) (ho:s.heap.get? a=some o) (hex:o.ExactSet) (hd:o.data=.set es ep t) (hf:t.fits es.size=true) (U:Up t.place) (hz:t.place.size=es.size) (hl:t.led=(!w.params.followText "set-order")) (hn:es.size<=bI)(hR:∀ h' tk d BD c' ys,(∀ b o,s.heap.get? b=some o->h'.get? b=some o)->h'.get? s.heap.objs.size=some { cls:=.type "list",dict:=none,data:=.seq BD c',slots:=#[] }->ys.Perm es.toList->ItemsOf (PV ys) BD es.size->R (.ok (.ret (.ref s.heap.objs.size))) { s with heap:=h',toks:=tk,drawn:=d }) :
  codeAny (aI prog w) A (.builtin "proto.collect" ⟨[.ref a],[]⟩) R s:=by
 have fA:a<s.heap.objs.size:=fF ho;have hS:(s.heap.push { cls:=.type "list",data:=.seq ([]:List ae).toArray }).get? s.heap.objs.size=some { cls:=.type "list",data:=.seq ([]:List ae).toArray }:=kG _ rfl;refine Cb F.entry_proto_collect ?_;refine ax (sQ ?_);refine bE ⟨FC F.plain_list_iadd _,Cb F.entry_list_iadd ?_⟩;exact Gk hh (gx _ ho) hex hd hf U hz hl hn s.heap.objs.size (Ql fA) _ 0 hS λh' tk d BD c' ys kp eo hp ia =>
  hR h' tk d BD c' ys (λb o e=>kp b o (hU (fF e)) (gx _ e)) eo hp ia
def lH (hh:A.handled=none) (ho:s.heap.get? a=some o) (hex:o.ExactSet) (hd:o.data=.set es ep t) (hf:t.fits es.size=true) (U:Up t.place) (hz:t.place.size=es.size) (hl:t.led=(!w.params.followText "set-order")) (hn:es.size<=bI)(hQ:∀ h' tk d vs,(∀ b o,s.heap.get? b=some o->h'.get? b=some o)->s.heap.objs.size<=h'.objs.size->vs.Perm (es.toList.map (·.2))->Q vs { s with heap:=h',toks:=tk,drawn:=d }):bG (aI prog w) A (collect (.ref a)) Q E s:=by
 refine ax (wpAny_runValue (jF hh ho hex hd hf U hz hl hn λh' tk d acc c ys kp eo hp ia=>?_));refine ax (wpAny_load eo ?_);refine bE (hQ h' tk d _ kp (xS (fF eo)) ?_);rw[wK ia (by rw[hp.length_eq];simp)];exact hp.map _
end
end TS
namespace xh
open PySem PyProof.Rows
section
variable {prog:eL}{w:eR}{A:fq}{E:ae->ay->Prop}{s:ay}{κ:qo}{r:ae->Int}{P:ae->Prop}
def lL{R:List ae->Prop}(W3:∀ (A':fq) (E':ae->ay->Prop) (Q':List ae->ay->Prop),A'.handled=A.handled->(∀ vs h1 tk d,R vs->(∀ b o,s.heap.get? b=some o->h1.get? b=some o)->s.heap.objs.size<=h1.objs.size->Q' vs { s with heap:=h1,toks:=tk,drawn:=d })->bG (aI prog w) A' (collect v) Q' E' s) (gL:∀ vs,R vs->vs.length<=bI) (hP:∀ vs,R vs->∀ v∈vs,P v) (hk:∀ vs,R vs->2<=vs.length->∀ (A':fq) (E':ae->ay->Prop) (s':ay),(∀ b o,s.heap.get? b=some o->s'.heap.get? b=some o)->∀ (Q:qo->ay->Prop),Q κ s'->bG (aI prog w) A' (keyKind' vs.toArray) Q E' s') (C:∀ (s':ay),(∀ b o,s.heap.get? b=some o->s'.heap.get? b=some o)->oi prog w A.in1.in1 s' κ r P) (h:∀ (vs:List ae) (h':eh) (a:ai) (out:List ae) (n tk:Nat) d,R vs->out.Perm vs->(out.Pairwise λx y=>r x<=r y)->(∀ b o,s.heap.get? b=some o->h'.get? b=some o)->s.heap.objs.size<=a->h'.get? a=some (qq "list" out.toArray n)->Q (.ref a) { s with heap:=h',toks:=tk,drawn:=d }) :
  bG (aI prog w) A (call (.builtin "sorted") [v]) Q E s:=by
 refine Calls.call_function_entry kind_sorted plain_sorted entry_sorted (args_sorted1 _) ?_;refine ax (bE ?_);refine ax (W3 _ _ _ rfl λvs h1 tk d hR kp hz=>?_);have yi:=gL vs hR;refine ax (wpAny_newList ?_ (by simpa using yi));have zS:(h1.push (qq "list" vs.toArray 0)).get? h1.objs.size=some (qq "list" vs.toArray 0):=kG _ rfl;have old:∀ b o,s.heap.get? b=some o->(dI (h1.push (qq "list" vs.toArray 0)) h1.objs.size vs).get? b=some o:=λb o e=>by have fA:b<h1.objs.size:=fF (kp b o e);rw[gY (hU fA) (by rw[EF];exact xI fA)];exact gx _ (kp b o e)
 refine ax (vT (B9 slot_list_sort ⟨_,zS,rfl⟩ entry_list_sort (fV zS yi (hP vs hR) (λh2=>hk vs hR h2 _ _ _ old) (λh2=>C _ old) λout a1 a2=>⟨_,rfl,?_⟩) (args_list_sort _)))
 obtain⟨n,e⟩:=sortedHeap_at zS;refine bE ⟨_,rfl,h vs _ h1.objs.size out.toList n tk d hR a1 a2 (λb o e=>?_) hz (by rw[Tb];exact e)⟩;have fA:b<h1.objs.size:=fF (kp b o e);rw[sortedHeap_old (hU fA) (by rw[EF];exact xI fA)];exact gx _ (kp b o e)
end
end xh
namespace TS
open PySem PySem.SetTable PyProof.Rows
section
variable {prog:eL}{w:eR}{K:Type}[DecidableEq K]{knd:KeyKind prog w K}{A:fq}{E:ae->ay->Prop}{s:ay}
def uE{α:Type}(led:Bool):TI (α:=α) (SetTable.fresh 0 0 led) #[] :=
 ⟨⟨3,rfl,c9 _⟩,rfl,λi j h hj=>absurd hj (FR _),λi hi=>absurd hi (FR _),rfl,(by show 0*5<7*3;decide),λi h x e=>by simp at e⟩
def qR{l:ai}{items:Array ae}{xs:List (List K × ai)}{Q:ae->ay->Prop}(hh:A.handled=none)(hu:A.units+8<fE)(hl:s.heap.IsList l items)(hi:items.toList=xs.map λp=>Value.ref p.2)(vx:∀ p∈xs,IsTupleKey knd s.heap p.1 p.2) (hz:xs.length<=1000) (vt:∀ k v,knd.is k v=true->v.scannable=true)(h:∀ h' tk ks,PL knd h' s.heap.objs.size ks->(∀ k,k∈ks.map (·.1)↔k∈xs.map (·.1))->(∀ p∈ks,p∈xs)->(∀ b o,s.heap.get? b=some o->h'.get? b=some o)->Q (.ref s.heap.objs.size) { s with heap:=h',toks:=tk }) :
  bG (aI prog w) A (call (.type "set") [.ref l]) Q E s:=by
 have lt:∀ p∈xs,p.2<s.heap.objs.size:=λp hp=>by obtain⟨o,_,_,ho,_⟩:=vx p hp;exact fF ho
 refine jr hh hl (λi h=>∃ ks,PL knd h s.heap.objs.size ks/\(∀ k,k∈ks.map (·.1)↔k∈(xs.take i).map (·.1))/\(∀ p∈ks,p∈xs)/\ks.length<=i/\∀ p∈xs,IsTupleKey knd h p.1 p.2) (λh e k=>?_) (λi h h' ⟨ks,S,m1,m2,m3,m4⟩ k=>?_) (λi v s' E' Q' hv ⟨ks,S,m1,m2,m3,m4⟩ q=>?_) λh' tk ⟨ks,S,m1,m2,m3,m4⟩ k=>?_
 ·exact⟨[],⟨⟨_,#[],0,_,e,⟨rfl,rfl,rfl⟩,rfl,uE _,(by show 7<=8191;decide),rfl,rfl⟩,qk,λp hp=>nomatch hp⟩,λk=>by simp,(λp hp=>nomatch hp),c9 _,λp hp=>IsTupleKey.fT (vx p hp) λo ho=>k _ _ ho⟩
 ·obtain⟨⟨o,es,ep,t,ho,r⟩,nd,is⟩:=S;exact⟨ks,⟨⟨o,es,ep,t,k _ _ (c9 _) ho,r⟩,nd,λp hp=>IsTupleKey.fT (is p hp) λo ho=>k _ _ (xS (lt p (m2 p hp))) ho⟩,m1,m2,m3,λp hp=>IsTupleKey.fT (m4 p hp) λo ho=>k _ _ (xS (lt p hp)) ho⟩
 ·have w4:items.toList[i]? = some v:=by rw[pE];exact hv
  rw[hi,nK] at w4
  cases ex:xs[i]? with
  |none=>rw[ex] at w4;cases w4
  |some p =>
   rw[ex] at w4;cases w4;have hp:=mB ex;have hil:i<xs.length:=(iF.mp ex).1;have Zy:(xs.take (i+1)).map (·.1)=(xs.take i).map (·.1)++[p.1]:=by rw[wm,ex,oI];rfl
   refine vT (ax (wpAny_pyHash_tuple (by show A.units+3<fE;lia) (m4 p hp) ?_));refine Jm S (m4 p hp) (by lia) (by show A.units+3<fE;lia) vt λb h' eS sb S' c=>?_;refine q b h' _ sb ⟨eS,S',λk=>?_,λp' kA=>?_,?_,λp' kA=>IsTupleKey.fT (m4 p' kA) λo ho=>sb.extBut _ _ (hU (lt p' kA)) ho⟩
   ·rw[Zy,fe,nI,<- m1];rcases c with⟨c1,rfl⟩|⟨c1,c2⟩
    ·exact⟨.inl,λz=>z.elim id λe=>e ▸ c1⟩
    ·rw[(c2.map _).mem_iff,gS,eK];exact⟨λz=>z.symm,λz=>z.symm⟩
   ·rcases c with⟨c1,rfl⟩|⟨c1,c2⟩
    ·exact m2 p' kA
    ·rcases eK.mp (c2.mem_iff.mp kA) with rfl|z
     ·exact hp
     ·exact m2 p' z
   ·rcases c with⟨c1,rfl⟩|⟨c1,c2⟩
    ·lia
    ·rw[c2.length_eq];simp;lia
 ·have e:items.size=xs.length:=by have:=congrArg List.length hi;simpa using this
  rw[e,uj] at m1;exact h h' tk ks S m1 m2 λb o ho=>k b o (fF ho) ho
end
end TS
section
open PySem PySem.Spec PyProof.Rows
namespace L2
section
variable {X:Cx}{pins:List (ai × Obj)}{σ:St}{H:Hp}{s:ay}
def Inv.drawn{d}(I:Inv X pins σ H s):Inv X pins σ H { s with drawn:=d }:=⟨I.ok,I.os,I.bare,I.base,I.loc,I.cell,I.free,I.A5,I.pin,I.cy,I.len⟩
def pG:∀ (k:Key) (v:ae),(kK prog w).is k v=true->v.scannable=true:=λk v h=>by rcases AY h with⟨i,t,rfl,rfl⟩|⟨x,t,rfl,rfl⟩<;>rfl
def fC(K:aE):V->Hp->VK->Prop:=λx H Q=>match x with
 |.ref p=>∃ ys ks b0 sh,gd K H p ys/\ys.length<=1000/\bZ H ys ks/\(∀ k∈ks,ja k=b0 :: sh) /\
   ∀ zs ms l,bZ H zs ms->ms.Nodup->(∀ k,k∈ms↔k∈ks)->(ms.Pairwise λa b=>gy b a=false)->H l=none->Q (.ref l) (upd H l (.lst zs))
 |_=>False
def bZ.pairs(h:bZ H ys ks)(hv:Vals ys vs):∃ xs:List (List Key × ai),vs=xs.map (λp=>Value.ref p.2)/\xs.map (·.1)=ks/\∀ p∈xs,H p.2=some (.tup (p.1.map kV)):=by
 induction ys generalizing ks vs with
 |nil=>exact⟨[],Paired.n0 hv,(Paired.n0 h).symm,λp hp=>nomatch hp⟩
 |cons y ys ih =>
  obtain⟨k,ks,rfl,⟨b,rfl,g⟩,t⟩:=Paired.c h;obtain⟨v,vs,rfl,rfl,rs⟩:=Paired.c hv;obtain⟨xs,e1,e2,e3⟩:=ih t rs;refine⟨(k,b) :: xs,by rw[e1];rfl,by rw[<- e2];rfl,λp hp=>?_⟩;rcases eK.mp hp with rfl|hp
  ·exact g
  ·exact e3 p hp
end
section
variable {X:Cx}{e:Expr}{te:TE}{p p2 pos mw:Pos}
def lF (hc:X.calm=true) (hu:X.A.units+64<fE) (hg:Gl X "sorted") (hm:X.mg "sorted" = none) (yT:Gl X "set") (pT:X.mg "set" = none) (he:PE X e te)(hv:kQ "sorted" = some (.builtin "sorted")) (RL:kQ "set" = some (.type "set"))(ot:autoParam (df [e] X.env=(false,eI e X.env) :: df [] X.env) bv) (hs:autoParam (df [.Call (.Name "set" p2) [e] [] mw] X.env=(false,eI (.Call (.Name "set" p2) [e] [] mw) X.env) :: df [] X.env) bv) :
  PE X (.Call (.Name "sorted" p) [.Call (.Name "set" p2) [e] [] mw] [] pos) (TC (fC X.K) te):=by
 intro pins s σ H Q I h;refine Ee (CL I hg hm hv ?_ (by decide) (by decide));refine PyProof.Rows.callWith_builtin1 ?_ hs rfl;refine Calls.spliced_cons ?_;refine Ee (CL I yT pT RL ?_ (by decide) (by decide));refine PyProof.Rows.callWith_type1 ?_ ot rfl;rw[ot];walk_at"h";have q1:fC X.K x H1 Q:=q1;obtain⟨a,rfl⟩:∃ a,x=.ref a:=by
  unfold fC at q1;split at q1
  ·exact⟨_,rfl⟩
  ·exact q1.elim
 obtain⟨ys,ks,b0,sh,hl,PX,ht,OQ,q⟩:=q1;cases r1;obtain⟨vs,rv,pl,hz⟩:=I1.list hl;obtain⟨xs,ex,ek,hx⟩:=ht.pairs rv;have EX:X.A.handled=none:=I1.ok.hd hc;have hlen:xs.length=ys.length:=by rw[rv.length,ex,cx]
 have vx:∀ p∈xs,IsTupleKey (kK X.prog X.w) s1.heap p.1 p.2:=λp hp=>by obtain⟨us,ru,o,e1,c1,n1,d1⟩:=I1.tup (hx p hp);exact⟨o,us.toArray,n1,e1,c1,d1,by simpa using Wj ru⟩
 refine TS.qR EX (by lia) pl.isList (by simpa using ex) vx (by lia) pG λh2 tk eS S m1 m2 kp=>?_;refine Calls.spliced_nil ?_;obtain⟨⟨o,es,ep,t,ho,hex,hd,T,hM,hL,BU⟩,nd,is⟩:=S;have Zz:es.toList.map (·.2)=eS.map λp=>Value.ref p.2:=by rw[BU,fN];rfl
 have cY':eS.length<=1000:=by
  have:=TS.bH nd (m:=ks) λk hk=>by rw[<- ek];exact(m1 k).mp hk
  rw[cx] at this;have:ks.length=xs.length:=by rw[<- ek,cx]
  lia
 have RN:es.size=eS.length:=by have:=congrArg List.length BU;simpa using this
 have ZC:∀ p∈eS,p.1∈ks:=λp hp=>by rw[<- ek];exact cw.mpr ⟨p,m2 p hp,rfl⟩
 have mem:∀ gE:List ae,gE.Perm (eS.map λp=>Value.ref p.2)->∀ v∈gE,∃ b k,v=.ref b/\H1 b=some (.tup (k.map kV))/\k∈ks:=λgE pv v hv=>by obtain⟨p,hp,rfl⟩:=cw.mp (pv.mem_iff.mp hv);exact⟨p.2,p.1,rfl,hx p (m2 p hp),ZC p hp⟩
 have RP:s1.heap.objs.size<=h2.objs.size:=xS (fF ho);refine xh.lL (κ:=tuples' true) (R:=λgE=>gE.Perm (eS.map λp=>Value.ref p.2)) (P:=λv=>∃ b k,v=.ref b/\H1 b=some (.tup (k.map kV))/\ja k=b0 :: sh/\k∈ks) (λA' E' Q' hA hQ=>TS.lH (hA.trans EX) ho hex hd T.fits T.up T.sz hL (by rw[RN,kU];lia) λh' Mk d gE y6 UW pv=>hQ gE h' Mk d (by rw[<- Zz];exact pv) y6 UW) (λgE pv=>by rw[pv.length_eq,cx,kU];lia) (λgE pv v hv=>?_) (λgE pv h2' A' E' s' y6 Q' q'=>?_) (λs' y6=>uK I1 λb o e=>y6 b o (kp b o e)) λgE h' a' out n Mk d pv pm pw y6 ha eo=>?_
 ·obtain⟨b,k,e1,e2,e3⟩:=mem gE pv v hv;exact⟨b,k,e1,e2,OQ k e3,e3⟩
 ·obtain⟨zs,z1,z2⟩:=bZ.of gE (mem gE pv);obtain⟨fs,f1,f2,f3⟩:=kat_tups I1 (λb o e=>y6 b o (kp b o e)) z1 z2 λk hk=>by obtain⟨v,hv,rfl⟩:=cw.mp hk;obtain⟨b,k,rfl,e2,e3⟩:=mem gE pv v hv;rw[cD e2];exact OQ k e3
  cases b0 with
  |true =>refine Ss (T:=.type "int") f1 (by lia) (λf hf=>?_) (by decide) q';obtain⟨i,t,rfl⟩:=(f3 f hf).1 rfl;exact .now
  |false =>refine Ss (T:=.type "str") f1 (by lia) (λf hf=>?_) (by decide) q';obtain⟨i,t,rfl⟩:=(f3 f hf).2 rfl;exact .now
 ·have IB:=pm.trans pv;obtain⟨zs,z1,z2⟩:=bZ.of out λv hv=>mem _ IB v hv;have zl:=z2.length;have ol:=IB.length_eq;rw[cx] at ol;have ZD:(eS.map λp=>Value.ref p.2).map (qj H1)=eS.map (·.1):=by rw[fN];exact Nn λp hp=>cD (hx p (m2 p hp))
  have Uq:(out.map (qj H1)).Perm (eS.map (·.1)):=by rw[<- ZD];exact IB.map _
  refine⟨.ref a',_,(I1.laid (λb o e=>y6 b o (kp b o e)) (jS RP ha) (show lI X.prog X.w _ h' _ (.lst zs) from⟨by rw[kU];lia,out,n,z2,eo⟩)).drawn,rfl,
   q zs _ _ z1 (Uq.nodup_iff.mpr nd) (λk=>by rw[Uq.mem_iff,m1,ek]) ?_ (I1.cy.fresh (jS RP ha))⟩
  rw[kC];refine pw.imp_of_mem λ{x y} mx my hle=>?_;obtain⟨b,k,rfl,hb,kk⟩:=mem _ IB x mx;obtain⟨c,m,rfl,ti,km⟩:=mem _ IB y my;rw[cD hb,cD ti] at *
  have:=mQ ((OQ m km).trans (OQ k kk).symm) km;rw[<- this];exact decide_eq_false (by lia)
end
end L2
end
namespace TS
open PySem PySem.SetTable PyProof.Rows
section
variable {t:SetTable}{es:Array (Int × ae)}
def yh(T:TI t es)(h:Int)(x:ae):∃ j,j<=t.mask/\taken t.place j=false/\Reach t.mask t.place h j /\
  layNew t es h x=(insertAt es (below t.place j) (h,x),{ t with place:=insertAt t.place (below t.place j) j,dummies:=#[] },false,false):=by
 obtain⟨m,hm,_⟩:=T.pw;obtain⟨e0,Zq,Zr⟩:=T.free;obtain⟨nf,n1,n2,n3⟩:=mU hm h (taken t.place) Zq Zr;obtain⟨n',a1,a2,a3,a4⟩:=pI T (λ_=>h+1) h (10*turns t.mask) 0 ⟨nf,fS _,by unfold turns;lia,n2⟩;rcases a4 with⟨c1,c2⟩|⟨_,c2,_⟩
 ·have To:n'<=nf:=by
   by_cases z:n'<=nf
   ·exact z
   ·have:=(a3 nf (fS _) (by lia)).1;rw[n2] at this;cases this
  refine⟨J t.mask h n',UQ ..,c1,⟨n',by lia,rfl,λq hq=>(a3 q (fS _) hq).1⟩,?_⟩;have Wr:t.freeSlot h=some (J t.mask h n',false):=by unfold SetTable.freeSlot;have:t.probe (λ_=>h+1) h (t.probeStart h)=some (.empty (J t.mask h n') none):=c2;rw[this];rfl
  have Zv:t.put (J t.mask h n')=({ t with place:=insertAt t.place (below t.place (J t.mask h n')) (J t.mask h n'),dummies:=#[] },below t.place (J t.mask h n')):=by
   unfold SetTable.put;have:has t.dummies (J t.mask h n')=false:=by rw[T.dm];rfl
   simp only[this,qA,if_false];rw[T.dm]
  have hb:=(aR T.up (J t.mask h n')).1;have Uz:({ t with place:=insertAt t.place (below t.place (J t.mask h n')) (J t.mask h n'),dummies:=#[] }:SetTable).fits (insertAt es (below t.place (J t.mask h n')) (h,x)).size=true:=by have:=T.few;have gL:(insertAt es (below t.place (J t.mask h n')) (h,x)).size=es.size+1:=bw _ _ (by rw[<- T.sz];exact hb);simp only[SetTable.fits,SetTable.fill,bw _ _ hb,T.sz];simp;lia
  unfold layNew;rw[Wr];dsimp only;rw[Zv];unfold SetTable.orStandIn;rw[Uz];rfl
 ·exact absurd c2 (by lia)
end
section
variable {prog:eL}{w:eR}{K:Type}[DecidableEq K]{knd:KeyKind prog w K}
def RQ(knd:KeyKind prog w K)(p:K × ae):Int × ae:=(knd.hash p.1,p.2)
structure UX(knd:KeyKind prog w K)(h:eh)(a:ai)(ks:List (K × ae)):Prop where
 ob:∃ o es ep t,h.get? a=some o/\o.ExactSet/\o.data=.set es ep t/\TI t es/\t.mask<=8191/\t.led=(!w.params.followText "set-order")/\es.toList=ks.map (RQ knd)
 nd:(ks.map (·.1)).Nodup
 is:∀ p∈ks,knd.is p.1 p.2=true
variable {A:fq}{E:ae->ay->Prop}{s:ay}
def Fo(S:UX knd s.heap a ks)(hx:knd.is k x=true)(hz:ks.length<1000)(vt:∀ k v,knd.is k v=true->v.scannable=true)(h:∀ (b:Bool) (h':eh) (eS:List (K × ae)),Heap.SameBut a s.heap h'->UX knd h' a eS->(k∈ks.map (·.1)/\eS=ks\/k∉ks.map (·.1)/\eS.Perm ((k,x) :: ks))->Q b { s with heap:=h' }) :
  bG (aI prog w) A (setAddHashed a x (knd.hash k)) Q E s:=by
 obtain⟨⟨o,es,ep,t,ho,hex,hd,T,hM,hL,he⟩,nd,is⟩:=id S;have hlen:es.size=ks.length:=by have:=congrArg List.length he;simpa using this
 have PN:ElemsOf knd es.toList:=λe hm=>by rw[he] at hm;obtain⟨p,hp,rfl⟩:=cw.mp hm;exact⟨⟨p.1,is p hp,rfl⟩,vt _ _ (is p hp)⟩
 have T7:scanBound=4096:=rfl;refine vT (ax (AQ ho hd T.fits ?_));dsimp only;rw[byScan_of (vt _ _ hx) (by lia) PN];refine ax ?_;refine ax (EB ?_);refine ax (wpAny_setScan_of hx ho hd T.fits PN ?_)
 cases hr:List.findIdx? (λe=>knd.is k e.2) es.toList with
 |some j =>
  refine bE (bE ?_);obtain⟨hj,hpj,_⟩:=List.findIdx?_eq_some_iff_getElem.mp hr;have hm:es.toList[j]∈ks.map (RQ knd):=by rw[<- he];exact ui hj
  obtain⟨p,hp,Qy⟩:=cw.mp hm;rw[<- Qy] at hpj;have hk:k=p.1:=knd.inj p.2 k p.1 hpj (is p hp);have e:s={ s with heap:=s.heap }:=by cases s;rfl
  exact h _ _ ks (Heap.SameBut.refl a s.heap) S (.inl ⟨cw.mpr ⟨p,hp,hk.symm⟩,rfl⟩)
 |none =>
  have E9:k∉ks.map (·.1):=λhm=>by obtain⟨p,hp,rfl⟩:=cw.mp hm;have:=List.findIdx?_eq_none_iff.mp hr (RQ knd p) (by rw[he];exact cw.mpr ⟨p,hp,rfl⟩);rw[show knd.is p.1 (RQ knd p).2=true from is p hp] at this;cases this
  obtain⟨j,Zt,n2,Zu,hlay⟩:=yh T (knd.hash k) x;rw[hlay];dsimp only;refine ax (bE ?_);have bS:(insertAt es (below t.place j) (knd.hash k,x)).toList=(ks.take (below t.place j)++(k,x) :: ks.drop (below t.place j)).map (RQ knd):=by rw[m_,he,oI,gS,List.map_take,List.map_drop];rfl
  have yB:(ks.take (below t.place j)++(k,x) :: ks.drop (below t.place j)).Perm ((k,x) :: ks):=by refine List.perm_middle.trans ?_;rw[P_]
  have IA:below t.place j<=es.size:=by rw[<- T.sz];exact(aR T.up j).1
  have yi:(insertAt es (below t.place j) (knd.hash k,x)).size=es.size+1:=bw _ _ IA;have RD:∀ eS:List (K × ae),eS.Perm ((k,x) :: ks)->∀ p∈eS,knd.is p.1 p.2=true:=λeS pm p hp=>by
   rcases eK.mp (pm.mem_iff.mp hp) with rfl|hp
   ·exact hx
   ·exact is p hp
  have RG:∀ eS:List (K × ae),eS.Perm ((k,x) :: ks)->(eS.map (·.1)).Nodup:=λeS pm=>by rw[(pm.map _).nodup_iff,gS,ly];exact⟨E9,nd⟩
  have main:∀ t':SetTable,t'.mask=t.mask->t'.place=insertAt t.place (below t.place j) j->t'.dummies = #[]->t'.led=t.led->bG (aI prog w) A (do
    storeSet a (insertAt es (below t.place j) (knd.hash k,x)) t'
    if (!false && t'.tooFull)=true then do
      JK (relayAll t' (insertAt es (below t.place j) (knd.hash k,x)) (grown (insertAt es (below t.place j) (knd.hash k,x)).size)).2.2
      storeSet a (relayAll t' (insertAt es (below t.place j) (knd.hash k,x)) (grown (insertAt es (below t.place j) (knd.hash k,x)).size)).1 (relayAll t' (insertAt es (below t.place j) (knd.hash k,x)) (grown (insertAt es (below t.place j) (knd.hash k,x)).size)).2.1
      pure (some true)
     else pure (some true)) (λr s'=>bG (aI prog w) A (match r with|some added=>pure added|none=>setAddHashedIn a x (knd.hash k) 99999) Q E s') E s:=λt' tm tp td tl=>by
   have UU:t'.fill=es.size+1:=by unfold SetTable.fill;rw[tp,td,bw _ _ (aR T.up j).1,T.sz];simp
   refine ax (wpAny_storeSet_of ho hd ?_ (by rw[yi,kU];lia));have xk:(s.heap.update a (Obj.putSet (insertAt es (below t.place j) (knd.hash k,x)) t')).get? a=some { o with data:=.set (insertAt es (below t.place j) (knd.hash k,x)) (ep+1) t' }:=by have:=JA (Obj.putSet (insertAt es (below t.place j) (knd.hash k,x)) t') ho (by rw[putSet_of _ _ hd];rfl);rw[putSet_of _ _ hd] at this;exact this
   have sF:=Heap.SameBut.update s.heap a (Obj.putSet (insertAt es (below t.place j) (knd.hash k,x)) t');by_cases c:t'.tooFull=true
   ·rw[if_pos (by rw[c];rfl)];obtain⟨t2,order,r1,r2,r3,r4,r5,r6,r7,r8,r9⟩:=qu (es:=insertAt es (below t.place j) (knd.hash k,x)) (by lia);have kw':relayAll t' (insertAt es (below t.place j) (knd.hash k,x)) (grown (insertAt es (below t.place j) (knd.hash k,x)).size)=(order.filterMap λi=>(insertAt es (below t.place j) (knd.hash k,x))[i]?,t2,false):=by unfold relayAll;rw[r1];dsimp only;rw[if_pos];rw[n5];refine⟨?_,r6.fits⟩;unfold coversAll;rw[List.isPerm_iff];exact r9
    rw[kw'];refine ax (bE ?_);obtain⟨eS,ek,pk⟩:=fD r8 bS;refine ax (wpAny_storeSet_of xk rfl ?_ (by rw[r7,yi,kU];lia));refine bE (bE ?_);have DT:=sF.trans (Heap.SameBut.update _ a (Obj.putSet (order.filterMap λi=>(insertAt es (below t.place j) (knd.hash k,x))[i]?) t2));have sq:=JA (Obj.putSet (order.filterMap λi=>(insertAt es (below t.place j) (knd.hash k,x))[i]?) t2) xk (by rw[putSet_of _ _ rfl];rfl);exact h true _ eS DT ⟨⟨_,_,_,_,sq,hex,rfl,r6,r5 (by lia),by rw[r3,tl];exact hL,ek⟩,RG eS (pk.trans yB),RD eS (pk.trans yB)⟩ (.inr ⟨E9,pk.trans yB⟩)
   ·rw[if_neg (by simpa using c)];refine bE (bE ?_);have Bi:(es.size+1)*5<t.mask*3:=by unfold SetTable.tooFull at c;rw[UU,tm] at c;simpa using c
    exact h true _ _ sF ⟨⟨_,_,_,_,xk,hex,rfl,T.put Zt n2 Zu tm tp td Bi,by rw[tm];exact hM,by rw[tl];exact hL,bS⟩,RG _ yB,RD _ yB⟩ (.inr ⟨E9,yB⟩)
  split
  ·refine ax ?_;rw[hashByValue_scannable 8 (vt _ _ hx)];refine bE ?_;split
   ·exact main _ rfl rfl rfl rfl
   ·exact main _ rfl rfl rfl rfl
  ·exact ax (bE (main _ rfl rfl rfl rfl))
end
section
variable {prog:eL}{w:eR}{K:Type}[DecidableEq K]{knd:KeyKind prog w K}{A:fq}{E:ae->ay->Prop}{s:ay}
def ie{l:ai}{items:Array ae}{xs:List (K × ae)}{Q:ae->ay->Prop}(hh:A.handled=none)(hl:s.heap.IsList l items)(hi:items.toList=xs.map (·.2))(vx:∀ p∈xs,knd.is p.1 p.2=true) (hz:xs.length<=1000) (vt:∀ k v,knd.is k v=true->v.scannable=true)(h:∀ h' tk ks,UX knd h' s.heap.objs.size ks->(∀ k,k∈ks.map (·.1)↔k∈xs.map (·.1))->(∀ p∈ks,p∈xs)->(∀ b o,s.heap.get? b=some o->h'.get? b=some o)->Q (.ref s.heap.objs.size) { s with heap:=h',toks:=tk }) :
  bG (aI prog w) A (call (.type "set") [.ref l]) Q E s:=by
 refine jr hh hl (λi h=>∃ ks,UX knd h s.heap.objs.size ks/\(∀ k,k∈ks.map (·.1)↔k∈(xs.take i).map (·.1))/\(∀ p∈ks,p∈xs)/\ks.length<=i) (λh e k=>?_) (λi h h' ⟨ks,S,m1,m2,m3⟩ k=>?_) (λi v s' E' Q' hv ⟨ks,S,m1,m2,m3⟩ q=>?_) λh' tk ⟨ks,S,m1,m2,m3⟩ k=>?_
 ·exact⟨[],⟨⟨_,#[],0,_,e,⟨rfl,rfl,rfl⟩,rfl,uE _,(by show 7<=8191;decide),rfl,rfl⟩,qk,λp hp=>nomatch hp⟩,λk=>by simp,(λp hp=>nomatch hp),c9 _⟩
 ·obtain⟨⟨o,es,ep,t,ho,r⟩,nd,is⟩:=S;exact⟨ks,⟨⟨o,es,ep,t,k _ _ (c9 _) ho,r⟩,nd,is⟩,m1,m2,m3⟩
 ·have w4:items.toList[i]? = some v:=by rw[pE];exact hv
  rw[hi,nK] at w4
  cases ex:xs[i]? with
  |none=>rw[ex] at w4;cases w4
  |some p =>
   rw[ex] at w4;cases w4;have hp:=mB ex;have hil:i<xs.length:=(iF.mp ex).1;have Zy:(xs.take (i+1)).map (·.1)=(xs.take i).map (·.1)++[p.1]:=by rw[wm,ex,oI];rfl
   refine vT (ax (knd.pyHash (vx p hp) ?_));refine Fo S (vx p hp) (by lia) vt λb h' eS sb S' c=>?_;refine q b h' _ sb ⟨eS,S',λk=>?_,λp' kA=>?_,?_⟩
   ·rw[Zy,fe,nI,<- m1];rcases c with⟨c1,rfl⟩|⟨c1,c2⟩
    ·exact⟨.inl,λz=>z.elim id λe=>e ▸ c1⟩
    ·rw[(c2.map _).mem_iff,gS,eK];exact⟨λz=>z.symm,λz=>z.symm⟩
   ·rcases c with⟨c1,rfl⟩|⟨c1,c2⟩
    ·exact m2 p' kA
    ·rcases eK.mp (c2.mem_iff.mp kA) with rfl|z
     ·exact hp
     ·exact m2 p' z
   ·rcases c with⟨c1,rfl⟩|⟨c1,c2⟩
    ·lia
    ·rw[c2.length_eq];simp;lia
 ·have e:items.size=xs.length:=by have:=congrArg List.length hi;simpa using this
  rw[e,uj] at m1;exact h h' tk ks S m1 m2 λb o ho=>k b o (fF ho) ho
end
end TS
section
open PySem PySem.Spec PyProof.Rows
namespace L2
def iC(K:aE):V->Hp->VK->Prop:=λx H Q=>match x with
 |.ref p=>∃ (ks:List Key) (b:Bool),gd K H p (ks.map kV)/\ks.length<=1000/\(∀ k∈ks,pe k=b) /\
   ∀ (ms:List Key) (l:ai),ms.Nodup->(∀ k,k∈ms↔k∈ks)->(ms.Pairwise λa b=>nS b a=false)->H l=none->Q (.ref l) (upd H l (.lst (ms.map kV)))
 |_=>False
def mZ(h:Vals (ks.map kV) vs):∃ xs:List (Key × ae),vs=xs.map (·.2)/\xs.map (·.1)=ks/\∀ p∈xs,RelV (kV p.1) p.2:=by
 induction ks generalizing vs with
 |nil=>exact⟨[],Paired.n0 h,rfl,λp hp=>nomatch hp⟩
 |cons k ks ih =>
  obtain⟨v,vs,rfl,r,rs⟩:=Paired.c h;obtain⟨xs,e1,e2,e3⟩:=ih rs;refine⟨(k,v) :: xs,by rw[e1];rfl,by rw[<- e2];rfl,λp hp=>?_⟩;rcases eK.mp hp with rfl|hp
  ·exact r
  ·exact e3 p hp
section
variable {X:Cx}{e:Expr}{te:TE}{p p2 pos mw:Pos}
def sU (hc:X.calm=true) (hg:Gl X "sorted") (hm:X.mg "sorted" = none) (yT:Gl X "set") (pT:X.mg "set" = none) (he:PE X e te)(hv:kQ "sorted" = some (.builtin "sorted")) (RL:kQ "set" = some (.type "set"))(ot:autoParam (df [e] X.env=(false,eI e X.env) :: df [] X.env) bv) (hs:autoParam (df [.Call (.Name "set" p2) [e] [] mw] X.env=(false,eI (.Call (.Name "set" p2) [e] [] mw) X.env) :: df [] X.env) bv) :
  PE X (.Call (.Name "sorted" p) [.Call (.Name "set" p2) [e] [] mw] [] pos) (TC (iC X.K) te):=by
 intro pins s σ H Q I h;refine Ee (CL I hg hm hv ?_ (by decide) (by decide));refine PyProof.Rows.callWith_builtin1 ?_ hs rfl;refine Calls.spliced_cons ?_;refine Ee (CL I yT pT RL ?_ (by decide) (by decide));refine PyProof.Rows.callWith_type1 ?_ ot rfl;rw[ot];walk_at"h";have q1:iC X.K x H1 Q:=q1;obtain⟨a,rfl⟩:∃ a,x=.ref a:=by
  unfold iC at q1;split at q1
  ·exact⟨_,rfl⟩
  ·exact q1.elim
 obtain⟨ks,b,hl,PX,hb,q⟩:=q1;cases r1;obtain⟨vs,rv,pl,hz⟩:=I1.list hl;obtain⟨xs,ex,ek,hx⟩:=mZ rv;have EX:X.A.handled=none:=I1.ok.hd hc;have hlen:xs.length=ks.length:=by rw[<- ek,cx]
 have vx:∀ p∈xs,(kK X.prog X.w).is p.1 p.2=true:=λp hp=>by
  obtain⟨k,v⟩:=p;have r:=hx _ hp;rw[an']
  cases k with
  |inl i=>obtain⟨t,e⟩:=r;rw[show v=_ from e];exact VC ..
  |inr x=>obtain⟨t,e⟩:=r;rw[show v=_ from e];exact VD ..
 refine TS.ie EX pl.isList (by simpa using ex) vx (by lia) pG λh2 tk eS S m1 m2 kp=>?_;refine Calls.spliced_nil ?_;obtain⟨⟨o,es,ep,t,ho,hex,hd,T,hM,hL,BU⟩,nd,is⟩:=S;have Zz:es.toList.map (·.2)=eS.map (·.2):=by rw[BU,fN];rfl
 have cY':eS.length<=1000:=by
  have:=TS.bH nd (m:=ks) λk hk=>by rw[<- ek];exact(m1 k).mp hk
  rw[cx] at this;lia
 have RN:es.size=eS.length:=by have:=congrArg List.length BU;simpa using this
 have ZC:∀ p∈eS,p.1∈ks:=λp hp=>by rw[<- ek];exact cw.mpr ⟨p,m2 p hp,rfl⟩
 have mem:∀ gE:List ae,gE.Perm (eS.map (·.2))->∀ v∈gE,∃ k,RelV (kV k) v/\k∈ks:=λgE pv v hv=>by obtain⟨p,hp,rfl⟩:=cw.mp (pv.mem_iff.mp hv);exact⟨p.1,hx p (m2 p hp),ZC p hp⟩
 have RP:s1.heap.objs.size<=h2.objs.size:=xS (fF ho);refine xh.lL (κ:=oneType') (R:=λgE=>gE.Perm (eS.map (·.2))) (P:=λv=>∃ k,RelV (kV k) v/\pe k=b/\k∈ks) (λA' E' Q' hA hQ=>TS.lH (hA.trans EX) ho hex hd T.fits T.up T.sz hL (by rw[RN,kU];lia) λh' Mk d gE y6 UW pv=>hQ gE h' Mk d (by rw[<- Zz];exact pv) y6 UW) (λgE pv=>by rw[pv.length_eq,cx,kU];lia) (λgE pv v hv=>?_) (λgE pv h2' A' E' s' y6 Q' q'=>?_) (λs' y6=>t_) λgE h' a' out n Mk d pv pm pw y6 ha eo=>?_
 ·obtain⟨k,rk,mk⟩:=mem gE pv v hv;exact⟨k,rk,hb k mk,mk⟩
 ·obtain⟨ms,rm⟩:=lB gE (mem gE pv);refine qJ (b:=b) rm (λk hk=>?_) h2' q';have:(gE.map jy)=ms.map λk=>[k]:=keys_map rm;have xi:[k]∈gE.map jy:=by rw[this];exact cw.mpr ⟨k,hk,rfl⟩
  obtain⟨v,hv,e⟩:=cw.mp xi;obtain⟨k',rk,mk⟩:=mem gE pv v hv;rw[lM rk] at e;cases e;exact hb _ mk
 ·have IB:=pm.trans pv;obtain⟨ms,rm⟩:=lB out (mem _ IB);have ZD:(eS.map (·.2)).map jy=(eS.map (·.1)).map λk=>[k]:=by rw[fN,fN];exact Nn λp hp=>lM (hx p (m2 p hp))
  have pk:ms.Perm (eS.map (·.1)):=p7 (by rw[<- keys_map rm,<- ZD];exact IB.map _);have hml:ms.length=eS.length:=by simpa using pk.length_eq
  have db':∀ k∈ms,k∈ks:=λk hk=>by rw[<- ek];exact(m1 k).mp (pk.mem_iff.mp hk)
  refine⟨.ref a',_,(I1.laid (λb o e=>y6 b o (kp b o e)) (jS RP ha) (show lI X.prog X.w _ h' _ (.lst (ms.map kV)) from⟨by rw[cx,kU];lia,out,n,rm,eo⟩)).drawn,rfl,
   q ms _ (pk.nodup_iff.mpr nd) (λk=>by rw[pk.mem_iff,m1,ek]) ?_ (I1.cy.fresh (jS RP ha))⟩
  have Rj:(out.map jy).Pairwise λx y=>Fc (ks.map λk=>[k]) x<=Fc (ks.map λk=>[k]) y:=kC.mpr pw;rw[keys_map rm,kC] at Rj;refine Rj.imp_of_mem λ{x y} mx my hle=>?_;have mx:=db' x mx;have my:=db' y my;rw[<- tU,<- mQ (L:=ks.map λk=>[k]) (by simp[ja,hb x mx,hb y my]) (cw.mpr ⟨y,my,rfl⟩)];exact decide_eq_false (by lia)
end
end L2
namespace L2.Q
section
variable {X:Cx}{K:aE}{e:Expr}{te:WE}{p p2 pos mw:Pos}
def uO:kQ "set" = some (.type "set"):=by decide +kernel
def d7:W1:=λ_ x Q=>match x with
 |.list xs=>∃ (ks:List (List Key)) (sh:List Bool),xs=ks.map kM/\ks.length<=1000/\(∀ k∈ks,ja k=true :: sh)/\∀ ms:List (List Key),ms.Nodup->(∀ k,k∈ms↔k∈ks)->(ms.Pairwise λa b=>gy b a=false)->Q (.ow true) (.list (ms.map kM))
 |_=>False
def fG:W1:=λ_ x Q=>match x with
 |.list xs=>∃ (ks:List (List Key)) (sh:List Bool),xs=ks.map kM/\ks.length<=1000/\(∀ k∈ks,ja k=false :: sh)/\∀ ms:List (List Key),ms.Nodup->(∀ k,k∈ms↔k∈ks)->(ms.Pairwise λa b=>gy b a=false)->Q (.ow true) (.list (ms.map kM))
 |_=>False
def fO:W1:=λ_ x Q=>match x with
 |.list xs=>∃ (ks:List Key) (b:Bool),xs=ks.map nk/\ks.length<=1000/\(∀ k∈ks,pe k=b)/\∀ ms:List Key,ms.Nodup->(∀ k,k∈ms↔k∈ks)->(ms.Pairwise λa b=>nS b a=false)->Q (.ow true) (.list (ms.map nk))
 |_=>False
def t6:Pt K (fC K) d7:=by
 walk_at"e";have r1:=rx.rep w
 cases r1 with
 |list z s q =>obtain⟨ks,sh,rfl,hz,hs,h⟩:=h;obtain⟨ta,ok⟩:=sV q;have hl:=q.length;rw[cx] at hl;refine⟨_,ks,true,sh,s,by lia,ta,hs,λzs ms l tz nd mm pw PK=>?_⟩;have rr:=jR (K:=K) tz λk hk=>ok k ((mm k).mp hk);have:ms.length<=ks.length:=TS.bH nd λk hk=>(mm k).mp hk;exact f.lst w (by rw[cx,kU];lia) rr (fu ms) (h ms nd mm pw) l PK
 |_=>exact h.elim
def tV:Pt K (fC K) fG:=by
 walk_at"e";have r1:=rx.rep w
 cases r1 with
 |list z s q =>obtain⟨ks,sh,rfl,hz,hs,h⟩:=h;obtain⟨ta,ok⟩:=sV q;have hl:=q.length;rw[cx] at hl;refine⟨_,ks,false,sh,s,by lia,ta,hs,λzs ms l tz nd mm pw PK=>?_⟩;have rr:=jR (K:=K) tz λk hk=>ok k ((mm k).mp hk);have:ms.length<=ks.length:=TS.bH nd λk hk=>(mm k).mp hk;exact f.lst w (by rw[cx,kU];lia) rr (fu ms) (h ms nd mm pw) l PK
 |_=>exact h.elim
def sS:Pt K (iC K) fO:=by
 walk_at"e";have r1:=rx.rep w
 cases r1 with
 |list z s q =>obtain⟨ks,b,rfl,hz,hb,h⟩:=h;obtain⟨e,ok⟩:=n6 q;subst e;refine⟨ks,b,s,hz,hb,λms l nd mm pw hl=>?_⟩;have:ms.length<=ks.length:=TS.bH nd λk hk=>(mm k).mp hk;exact f.lst w (by rw[cx,kU];lia) (iI λk hk=>ok k ((mm k).mp hk)) (fM ms) (h ms nd mm pw) l hl
 |_=>exact h.elim
def iU (hm:X.mg "sorted" = none) (pT:X.mg "set" = none) (he:QE X K e te) (hc:autoParam (X.calm=true) bv) (hK:autoParam (X.K=K) bv) (ot:autoParam (df [e] X.env=(false,eI e X.env) :: df [] X.env) bv) (hs:autoParam (df [.Call (.Name "set" p2) [e] [] mw] X.env=(false,eI (.Call (.Name "set" p2) [e] [] mw) X.env) :: df [] X.env) bv) (hu:X.A.units+64<fE:=by assumption) (hg:Gl X "sorted" := by rfl) (yT:Gl X "set" := by rfl) :
  QE X K (.Call (.Name "sorted" p) [.Call (.Name "set" p2) [e] [] mw] [] pos) (f7 d7 te):=by
 subst hK;exact PE.imp (lF hc hu hg hm yT pT he du uO ot hs) λσ H Qv ⟨Hs,ρ,ah,Q,sr,h,fin⟩=>⟨Hs,ρ,ah,_,sr,h,λv H1 aT m x As g1 r1 f1 q1=>t6 aT H1 m x v As Q Qv g1.wf r1 q1 (Fin.after fin g1)⟩
def wy (hm:X.mg "sorted" = none) (pT:X.mg "set" = none) (he:QE X K e te) (hc:autoParam (X.calm=true) bv) (hK:autoParam (X.K=K) bv) (ot:autoParam (df [e] X.env=(false,eI e X.env) :: df [] X.env) bv) (hs:autoParam (df [.Call (.Name "set" p2) [e] [] mw] X.env=(false,eI (.Call (.Name "set" p2) [e] [] mw) X.env) :: df [] X.env) bv) (hu:X.A.units+64<fE:=by assumption) (hg:Gl X "sorted" := by rfl) (yT:Gl X "set" := by rfl) :
  QE X K (.Call (.Name "sorted" p) [.Call (.Name "set" p2) [e] [] mw] [] pos) (f7 fG te):=by
 subst hK;exact PE.imp (lF hc hu hg hm yT pT he du uO ot hs) λσ H Qv ⟨Hs,ρ,ah,Q,sr,h,fin⟩=>⟨Hs,ρ,ah,_,sr,h,λv H1 aT m x As g1 r1 f1 q1=>tV aT H1 m x v As Q Qv g1.wf r1 q1 (Fin.after fin g1)⟩
def nP (hm:X.mg "sorted" = none) (pT:X.mg "set" = none) (he:QE X K e te) (hc:autoParam (X.calm=true) bv) (hK:autoParam (X.K=K) bv) (ot:autoParam (df [e] X.env=(false,eI e X.env) :: df [] X.env) bv) (hs:autoParam (df [.Call (.Name "set" p2) [e] [] mw] X.env=(false,eI (.Call (.Name "set" p2) [e] [] mw) X.env) :: df [] X.env) bv) (hg:Gl X "sorted" := by rfl) (yT:Gl X "set" := by rfl) :
  QE X K (.Call (.Name "sorted" p) [.Call (.Name "set" p2) [e] [] mw] [] pos) (f7 fO te):=by
 subst hK;exact PE.imp (sU hc hg hm yT pT he du uO ot hs) λσ H Qv ⟨Hs,ρ,ah,Q,sr,h,fin⟩=>⟨Hs,ρ,ah,_,sr,h,λv H1 aT m x As g1 r1 f1 q1=>sS aT H1 m x v As Q Qv g1.wf r1 q1 (Fin.after fin g1)⟩
end
end L2.Q
namespace L2.Q.R
section
variable {Q:Md->L2.Q.D->Prop}{m:Md}{xs:List L2.Q.D}
def Hc:d7 m (.list xs) Q = ∃ (ks:List (List Key)) (sh:List Bool),xs=ks.map kM/\ks.length<=1000/\(∀ k∈ks,ja k=true :: sh)/\∀ ms:List (List Key),ms.Nodup->(∀ k,k∈ms↔k∈ks)->(ms.Pairwise λa b=>gy b a=false)->Q (.ow true) (.list (ms.map kM)):=rfl
def Hd:fG m (.list xs) Q = ∃ (ks:List (List Key)) (sh:List Bool),xs=ks.map kM/\ks.length<=1000/\(∀ k∈ks,ja k=false :: sh)/\∀ ms:List (List Key),ms.Nodup->(∀ k,k∈ms↔k∈ks)->(ms.Pairwise λa b=>gy b a=false)->Q (.ow true) (.list (ms.map kM)):=rfl
def Hb:fO m (.list xs) Q = ∃ (ks:List Key) (b:Bool),xs=ks.map nk/\ks.length<=1000/\(∀ k∈ks,pe k=b)/\∀ ms:List Key,ms.Nodup->(∀ k,k∈ms↔k∈ks)->(ms.Pairwise λa b=>nS b a=false)->Q (.ow true) (.list (ms.map nk)):=rfl
end
end L2.Q.R
namespace L2
end L2
namespace L2.Q
end L2.Q
namespace L2.Q.R
end L2.Q.R
namespace L2
open Builtin Builtin.Str Builtin.Int
end L2
namespace L2.Q
section
variable {X:Cx}{K:aE}
def DV(ys:List D)(x:D):Bool:=ys.any λz=>js z x
def RT(neg:Bool):W2:=λ_ x _ y Q=>∃ ys,(y=.list ys\/y=.tup ys)/\dc 12 x=true/\dc 12 y=true/\Q .sh (.bl (if neg then !DV ys x else DV ys x))
def ZE(K:aE)(neg:Bool):R2:=λx y H Q=>∃ d e xs,L2.Rep K H d x/\L2.Rep K H e y/\(e=.list xs\/e=.tuple xs)/\d.canLay0=true/\PyData.canLayAll0 xs=true/\d.depth<=60/\Q (.bl (if neg then !(xs.any λz=>PyData.eqv z d) else xs.any λz=>PyData.eqv z d)) H
def yq(hu:X.A.units+64<fE):fi X (iE .NotIn) (ZE X.K true):=by
 walk_at"b";obtain⟨d,e,xs,h1,h2,h3,h4,h5,h6,q⟩:=h;obtain⟨as,r1⟩:=h1.reads I rx;obtain⟨bs,r2⟩:=h2.reads I ry;rcases h3 with rfl|rfl
 ·exact PySem.SeqAt.notIn_list_reads r2 r1 h5 h4 (by lia) ⟨.bl _,H,I,rfl,q⟩
 ·exact PySem.SeqAt.notIn_tuple_reads r2 r1 h5 h4 (by lia) ⟨.bl _,H,I,rfl,q⟩
def rQ(hK:autoParam (X.K=K) bv)(hu:X.A.units+64<fE:=by assumption):fi X (iE .NotIn) (ZE K true):=by subst hK;exact yq hu
def Eu(ys:List D)(x:D):((oz ys).any λz=>PyData.eqv z x.py)=DV ys x:=by
 induction ys with
 |nil=>rfl
 |cons y ys ih =>rw[oz,CC,ih];rfl
def za:ng K (ZE K neg) (RT neg):=by
 walk_at"a";obtain⟨ys,hy,o1,o2,q⟩:=h;have l1:=ju 12 x o1;have l2:=ju 12 y o2;refine⟨x.py,y.py,oz ys,(rx.rep w).l2 o1,(ry.rep w).l2 o2,?_,l1.1,?_,by lia,?_⟩
 ·rcases hy with rfl|rfl
  ·exact .inl rfl
  ·exact .inr rfl
 ·rcases hy with rfl|rfl
  ·exact l2.1
  ·exact l2.1
 ·rw[Eu];exact f.sh w (.bl _) q
def MA(o:Option (Option Sl))(k:List D->Prop):Prop:=match o with
 |some (some (.ow true (.list xs)))=>k xs
 |_=>False
def intD(y:D)(k:Int->Prop):Prop:=match y with
 |.int i=>k i
 |_=>False
def RV(d:D):Md:=bif d.flat then .sh else .ow true
end
end L2.Q
namespace L2.Q.R
section
variable {m m':Md}{x:L2.Q.D}{ys:List L2.Q.D}{Q:Md->L2.Q.D->Prop}
def Ml:MA (some (some (.ow true (.list ys)))) k=k ys:=rfl
def Nz:intD (.int i) k=k i:=rfl
def L_:RT neg m x m' (.list ys) Q=(dc 12 x=true/\dc 12 (.list ys)=true/\Q .sh (.bl (if neg then !DV ys x else DV ys x))):=by apply propext;exact⟨λ⟨zs,h,a,b,c⟩=>by rcases h with h|h<;>cases h;exact⟨a,b,c⟩,λ⟨a,b,c⟩=>⟨ys,.inl rfl,a,b,c⟩⟩
end
end L2.Q.R
namespace L2
end L2
namespace L2.Q
section
variable {X:Cx}{K:aE}{a b c:Expr}{ta tb tc:WE}{apos fm:Pos}
def ZF(x:D)(f:List (Key × D)->Prop)(g:List (List Key × D)->Prop):Prop:=match x with
 |.dK kvs=>f kvs
 |.dT kvs=>g kvs
 |_=>False
def dc'(y:D)(k:List D->Prop):Prop:=match y with
 |.tup ys=>k ys
 |_=>False
def IC(o:Option D)(m n:Md)(z:D)(Q:Md->D->Prop):Prop:=match o with
 |some d=>Q (tP m d) d
 |none=>Q n z
def PY(ta tb tc:WE):WE:=λρ Q=>ta ρ λm x=>ZF x (λkvs=>tb ρ λ_ y=>tc ρ λn z=>∃ k,y.key1=some k/\IC (fI kvs k) m n z Q) (λkvs=>tb ρ λ_ y=>tc ρ λn z=>dc' y λys=>∃ ks,gq ys=some ks/\IC (fI kvs ks) m n z Q)
def vf(hx:om K (PY ta tb tc) σ H Qv):bv' (om K ta) (om K tb) (om K tc) σ H Qv:=k7 hx λHs ρ ah Q sr h fin=>by
 walk_at"d"
 have got:∀ {o:Option V} {d? : Option D} {H2 H3 aS fz:Hp} {w:V} {n:Md} {z:D} {Cs:List ai},fR aT H1 aS H2->fR aS H2 fz H3->RM K fz H3 n z w Cs->cM fz H2 Cs->(match d? with
   |some d=>∃ v,o=some v/\Rep K H3 d v/\(m=.sh->Rep K fz d v)
   |none=>o=none)->IC d? m n z Q->Qv (o.getD w) H3:=by
  intro o d? H2 H3 aS fz w n z Cs g2 g3 r3 f3 l q
  cases d? with
  |none=>rw[show o=none from l];exact fin w H3 fz n z Cs ((g1.trans g2).trans g3) r3 (f3.of (g1.trans g2).all) q
  |some d =>obtain⟨v',e,u1,u2⟩:=l;rw[e];exact(Fin.after fin ((g1.trans g2).trans g3)).tP g3.wf u1 u2 q
 have core:∀ G:Hp,bP G H1->(∀ H3 fz,fR aT H1 fz H3->∀ d v,Rep K G d v->Rep K H3 d v/\(m=.sh->Rep K fz d v))->Rep K G x v->∃ a,v=.ref a/\QZ H1 a/\om K tb σ H1 λy H2=>om K tc σ H2 λz H3=>∃ o,lT H3 a y o/\Qv (o.getD z) H3:=by
  intro G sg up r
  cases r with
  |dK kk s q =>
   refine⟨_,rfl,.inl ⟨_,bP.rd sg s⟩,aT,ρ,ah,_,sr.grow g1,q1,λu H2 aS n y Bs g2 r2 f2 q2=>⟨aS,ρ,ah,_,(sr.grow g1).grow g2,q2,λw H3 fz n3 z Cs g3 r3 f3 q3=>?_⟩⟩;have ry:=(r2.grow g3).rep g3.wf;obtain⟨k,hk,q4⟩:=q3;have ev:=ry.key hk;subst ev;refine⟨_,lT.k' (bP.rd (g2.trans g3).all (bP.rd sg s)),got g2 g3 r3 f3 ?_ q4⟩;have z:=zip_get (k:=k) q;split
   ·rename_i d e;rw[e] at z;obtain⟨v',e',r'⟩:=z;exact⟨v',e',up _ _ (g2.trans g3) _ _ r'⟩
   ·rename_i e;rw[e] at z;exact z
  |dT kk s q =>
   refine⟨_,rfl,.inr ⟨_,bP.rd sg s⟩,aT,ρ,ah,_,sr.grow g1,q1,λu H2 aS n y Bs g2 r2 f2 q2=>⟨aS,ρ,ah,_,(sr.grow g1).grow g2,q2,λw H3 fz n3 z Cs g3 r3 f3 q3=>?_⟩⟩;have ry:=(r2.grow g3).rep g3.wf
   cases ry with
   |tup t2 e2 p2 =>
    obtain⟨k,hk,q4⟩:=q3;obtain⟨b',eb,e3⟩:=Rep.kM (.tup t2 e2 p2) hk;cases eb;refine⟨_,lT.t' (bP.rd (g2.trans g3).all (bP.rd sg s)) e3,got g2 g3 r3 f3 ?_ q4⟩;have z:=zip_get (k:=k) q;split
    ·rename_i d e;rw[e] at z;obtain⟨v',e',r'⟩:=z;exact⟨v',e',up _ _ (g2.trans g3) _ _ r'⟩
    ·rename_i e;rw[e] at z;exact z
   |_=>exact q3.elim
  |_=>exact q1.elim
 rcases r1.here g1.wf with⟨hm,r⟩|⟨hm,r⟩
 ·exact core aT g1.wf.sub (λH3 fz g d v q=>⟨q.same (g1.wf.sub.trans g.all),λ_=>q.same g.sh⟩) r
 ·exact core H1 (bP.refl H1) (λH3 fz g d v q=>⟨q.same g.all,λz=>absurd z hm⟩) r
def Km (ha:QE X K a ta) (hb:QE X K b tb) (hc:QE X K c tc) (hm:M2 X a "get" apos b c fm:=by exact⟨rfl,rfl,rfl,rfl⟩) (hu:X.A.units+64<fE:=by assumption):QE X K (.Call (.Attribute a "get" apos) [b,c] [] fm) (PY ta tb tc) :=
 PE.imp (hI' (by lia) ha hb hc hm) λσ H Qv hx=>vf hx
def Ht (ha:QE X K a ta) (hb:QE X K b tb) (hm:M1 X a "get" apos b fm:=by exact⟨rfl,rfl,rfl,rfl⟩) (hu:X.A.units+64<fE:=by assumption):QE X K (.Call (.Attribute a "get" apos) [b] [] fm) (PY ta tb (wC .non)) :=
 PE.imp (hH' (by lia) ha hb hm) λσ H Qv hx=>uR (vf hx) λx H1 ⟨a,e,d,q⟩=>⟨a,e,d,uR q λy H2 q2=>k7 q2 λHs ρ ah Q sr q f=>f .non H2 Hs .sh .non [] (fR.refl sr.wf) ⟨rfl,.non⟩ ⟨qk,λ_ h=>yk h⟩ q⟩
def dZ{κ β:Type}[DecidableEq κ](p:κ × β)(r:List (κ × β))(k:κ):fI (p :: r) k=if p.1=k then some p.2 else fI r k:=by by_cases h:p.1=k<;>simp[fI,h]
end
end L2.Q
namespace L2
end L2
namespace L2.Q
section
variable {K:aE}{a b c:Expr}
def ZG(d:D)(k:List (Key × D)->Prop):Prop:=match d with
 |.dK kvs=>k kvs
 |_=>False
def SR.take(i:Nat)(s:SR K Hs H ρ σ ah):ρ[i]? = some (some (.ow fl d))->ah.Nodup ->
  ∃ (v:V) (As dE:List ai),σ[i]? = some (some v)/\cS K Hs H fl d v As/\As.Sublist ah/\dE.Sublist ah/\(∀ a∈As,a∉dE)/\SR K Hs H (ρ.set i none) σ dE:=by
 induction s generalizing i with
 |nil=>intro e;simp at e
 |non q ih =>
  intro e n
  cases i with
  |zero=>simp at e
  |succ i =>obtain⟨v,As,t,o,a,b,c,d,f⟩:=ih i e n;exact⟨v,As,t,o,a,b,c,d,.non f⟩
 |sh r q ih =>
  intro e n
  cases i with
  |zero=>simp at e
  |succ i =>obtain⟨v,As,t,o,a,b,c,d,f⟩:=ih i e n;exact⟨v,As,t,o,a,b,c,d,.sh r f⟩
 |xc q ih =>
  intro e n
  cases i with
  |zero=>simp at e
  |succ i =>obtain⟨v,As,t,o,a,b,c,d,f⟩:=ih i e n;exact⟨v,As,t,o,a,b,c,d,.xc f⟩
 |ow ne r q ih =>
  intro e n;walk_at"c"
  cases i with
  |zero =>obtain⟨rfl,rfl⟩:=e;exact⟨_,_,_,rfl,r,Nc _ _,nE _ _,λa h m=>n3 a h a m rfl,.non q⟩
  |succ i =>obtain⟨v,As,t,o,a,b,c,d,f⟩:=ih i e n2;exact⟨v,As,_,o,a,b.trans (nE _ _),c.append_left _,iZ n b d,.ow ne r f⟩
 |lk ne r q ih =>
  intro e n;walk_at"c"
  cases i with
  |zero=>simp at e
  |succ i =>obtain⟨v,As,t,o,a,b,c,d,f⟩:=ih i e n2;exact⟨v,As,_,o,a,b.trans (nE _ _),c.append_left _,iZ n b d,.lk ne r f⟩
 |ob r q ih =>
  intro e n;walk_at"c"
  cases i with
  |zero=>simp at e
  |succ i =>obtain⟨v,As,t,o,a,b,c,d,f⟩:=ih i e n2;exact⟨v,As,_,o,a,b.trans (nE _ _),c.append_left _,iZ n b d,.ob r f⟩
def Dd(h:MA o k):∃ xs,o=some (some (.ow true (.list xs)))/\k xs:=by
 unfold MA at h;split at h
 ·exact⟨_,rfl,h⟩
 ·exact h.elim
def Eh(ki:i≠j)(sr:fw K Hs ρ σ H ah)(ei:ρ[i]? = some (some (.ow true (.list hs))))(ej:ρ[j]? = some (some (.ow true (.list xs))))(fl:eJ xs=true) (PX:hs.length<bI) :
  ∃ a ws c vs fo,σ[i]? = some (some (.ref a))/\H a=some (.lst ws)/\ws.length<bI/\σ[j]? = some (some (.ref c))/\upd H a (.lst (ws++[.ref c])) c=some (.lst vs)/\b5 K Hs xs vs/\vs.length<=bI /\
   fw K Hs ((ρ.set j none).set i (some (.ow true (.list (hs++[.list xs]))))) σ (upd H a (.lst (ws++[.ref c]))) fo:=by
 obtain⟨v,As,dE,e1,r,sb,st,dj,s1⟩:=SR.take j sr.sr ej sr.vv;have ei':(ρ.set j none)[i]? = some (some (.ow true (.list hs))):=by rw[Qb (Ne.symm ki)];exact ei
 obtain⟨u,Ai,_,e2,ne,ri,si,g⟩:=SR.put i s1 ei' (st.nodup sr.vv)
 cases r with
 |sh hf _=>exact absurd (hf rfl) (by simp[D.flat])
 |@list c vs _ B hz ec rs =>
  cases ri with
  |sh _ _=>exact absurd rfl ne
  |@list a ws _ A hw ea ra =>
   have hac:c≠a:=λz=>dj c dz (si.subset (z ▸ dz));have Zi:=si.nodup (st.nodup sr.vv);obtain⟨na,nA⟩:=ly.mp Zi;have ndj:=sb.nodup sr.vv;have dA:∀ x∈c :: B,x∉a :: A:=λx hx m=>dj x hx (si.subset m);have nB:∀ x∈c :: B,x≠a:=λx hx z=>dA x hx (z ▸ dz);have hl:=ra.length;have r3:cS K Hs (upd H a (.lst (ws++[.ref c]))) true (.list (hs++[.list xs])) (.ref a) (a :: (A++((c :: B)++[]))):=by refine .list (by rw[i6,<- hl];exact PX) kf ((ra.fT (bP.refl _) λb hb=>h9 λz=>na (by subst z;exact hb)).append (.cons (.list hz ((h9 hac).trans ec) (rs.fT (bP.refl _) λb hb=>h9 (nB b (dP _ hb)))) .nil))
   obtain⟨fo,n2,i2,s2⟩:=g Hs _ true _ _ (bP.refl _) r3 (by simp) (ly.mpr ⟨λm=>(fe.mp m).elim na λm=>nB a (by simpa using m) rfl,i7.mpr ⟨nA,by simpa using ndj,λx hx y hy e=>dA y (by simpa using hy) (e ▸ dP _ hx)⟩⟩) (λb hb m=>by
     rcases eK.mp hb with rfl|hb
     ·exact dz
     ·rcases fe.mp hb with hb|hb
      ·exact dP _ hb
      ·exact absurd m (dj b (by simpa using hb)))
    (λb _ nb=>h9 λz=>nb (z ▸ dz))
   have Ha:Hs a=none:=sr.own a (st.subset (si.subset dz));refine⟨a,ws,c,vs,fo,e2,ea,by lia,e1,(h9 hac).trans ec,(rs.reps sr.wf.sub λ_ _=>rfl).fH sr.wf.lP fl,hz,s2,yz sr.wf Ha (λ_ z=>nomatch z),n2,λb hb=>?_⟩;rcases i2 b hb with m|m
   ·exact sr.own b (st.subset m)
   ·rcases eK.mp m with rfl|m
    ·exact Ha
    ·rcases fe.mp m with m|m
     ·exact sr.own b (st.subset (si.subset (dP _ m)))
     ·exact sr.own b (sb.subset (by simpa using m))
end
end L2.Q
namespace L2.Q.R
section
variable {ρ:Env}{te tb tc:WE}{m:Md}{x y:L2.Q.D}{ys:List L2.Q.D}{Q:Md->L2.Q.D->Prop}{k:Nat}
def N6{kvs:List (Key × L2.Q.D)}{k:List (Key × L2.Q.D)->Prop}:ZG (.dK kvs) k=k kvs:=rfl
def Og:PY te tb tc ρ Q=te ρ λm x=>dy x (f:=λx=>ZF x (λkvs=>tb ρ λ_ y=>tc ρ λn z=>∃ k,y.key1=some k/\IC (fI kvs k) m n z Q) (λkvs=>tb ρ λ_ y=>tc ρ λn z=>dy y (f:=λy=>dc' y λys=>∃ ks,gq ys=some ks/\IC (fI kvs ks) m n z Q) ⟨⟩)) ⟨⟩:=rfl
def Pn:ZF (.dK kvs) f g=f kvs:=rfl
end
end L2.Q.R
namespace L2
section
def nN'{α:Type}(xs:List α)(k:Nat)(y:α):List α:=xs.take k++y :: xs.drop k
end
end L2
namespace L2.Q
section
variable {X:Cx}{K:aE}{L:Str->Hp->Prop}{e e2 e3:Expr}{p:WP}{te:WE}{apos fm pos:Pos}
def CJ:kQ "int" = some (.type "int"):=by decide +kernel
def ZH:W1:=λ_ x Q=>match x with
 |.int i=>Q .sh (.int i)
 |.bl b=>Q .sh (.int (if b then 1 else 0))
 |_=>False
def Hh:BI K (λxs H Q=>(∃ i,xs=[.int i]/\Q (.int i) H)\/∃ k,xs=[.bl k]/\Q (.int (if k then 1 else 0)) H) ZH:=by
 walk_at"e";have r1:=rx.rep w
 cases r1 with
 |int i=>exact .inl ⟨i,rfl,f.sh w (.int _) h⟩
 |bl b=>exact .inr ⟨b,rfl,f.sh w (.int _) h⟩
 |_=>exact h.elim
def Place.short(pl:Place K aT H1 σ fl (.list xs) v up)(e:v=.ref a)(h:H1 a=some (.lst vs)):vs.length<=bI:=by
 subst e;rcases pl.ex with⟨iX,r,ne,_⟩
 cases r with
 |sh _ _=>exact absurd rfl ne
 |list hz e3 _=>rw[h] at e3;cases e3;exact hz
def RW(p:WP)(te:WE):WS:=λE ρ=>p ρ λfl d up=>match d with
 |.list xs=>te ρ λm y=>m=.ow true/\match y with
  |.list ys=>eJ ys=true/\xs.length+ys.length<=bI/\E.nx (up fl (.list (xs++ys)))
  |_=>False
 |_=>False
def zN (ho:QP X K e p) (he:QE X K e2 te) (hK:autoParam (X.K=K) bv) (hs:autoParam (rV (.Call (.Attribute e "extend" apos) [e2] [] fm) none pos.line X.env=pure false) bv) (A9:autoParam (EA e "extend" X.env (eI e X.env)=eI e X.env) bv) (Bi:autoParam (((ny fm (df [e2] X.env)).all (λx=>!x.1) && (backToKw fm (IX [] X.env)).all (λx=>x.1.isSome)
   && decide ([e2].length+([]:List wc).length+(if ([]:List wc).isEmpty then 0 else 1)<30))=true) bv)
  (hline:autoParam ((apos.endLine == fm.line)=true) bv) (Iy:autoParam (df (e2 :: []) X.env=(false,eI e2 X.env) :: df [] X.env) bv) (Lc:autoParam ((ny fm (df [] X.env)).any (·.1)=false) bv) :
  QS X K L (.Expr (.Call (.Attribute e "extend" apos) [e2] [] fm) pos) (RW p te):=by
 subst hK;refine PS.imp (Qz (TQ PySem.F.plainAttrs_list PySem.F.slot_list_extend PySem.F.type_list_extend gM' ho (wt he A8 Iy) A9 Bi hline Iy Lc) hs) λD σ H hx=>bY hx λHs ρ ah E sr h k1 k2 k3 k4=>?_;refine⟨Hs,ρ,ah,_,sr,h,λv H1 aT fl d up g1 p1 q1=>?_⟩
 cases d with
 |list xs =>
  obtain⟨a1,vs1,e1,s1⟩:=p1.isL g1.wf;refine⟨by subst e1;exact .inl ⟨rfl,_,s1⟩,aT,ρ,ah,_,sr.grow g1,q1,λy H2 aS m x As g2 r2 f2 q2=>?_⟩;obtain⟨rfl,q2⟩:=q2;obtain⟨a,vs,A,ea,e2,e21,rs,nd,hn,k⟩:=p1.put g2;obtain⟨r,ne⟩:=r2
  cases r with
  |sh _ _=>exact absurd rfl ne
  |list hz e3 UI =>obtain⟨fy,hl,q2⟩:=q2;obtain⟨nA,L8⟩:=ly.mp nd;have l1:=rs.length;have l2:=UI.length;refine⟨a,_,vs,_,ea,rfl,e2,e3,by lia,?_⟩;obtain⟨fo,iN⟩:=k fl (xs++_) (vs++_) (A++[]) id (rs.append (b5.owned ((UI.reps g2.wf.sub λ_ _=>rfl).fH g2.wf.lP fy) fy)) (by rw[i6];lia) (by simpa using L8) (by simpa using nA) (λx hx=>.inl (by simpa using hx));exact k1 _ _ aS _ fo (g1.sh.trans g2.sh) iN q2
  |_=>exact q2.elim
 |_=>exact q1.elim
end
end L2.Q
namespace L2.Q.R
section
variable {ρ:Env}{E:jD}{te:WE}{m:Md}{Q:Md->L2.Q.D->Prop}{p:WP}{xs ys:List L2.Q.D}{k:List L2.Q.D->Prop}
def RX(d:L2.Q.D)(k:List L2.Q.D->Prop):Prop:=match d with
 |.list xs=>k xs
 |_=>False
def Oz:RX (.list xs) k=k xs:=rfl
def O3:RW p te E ρ=p ρ λfl d up=>dy d (f:=λd=>RX d λxs=>te ρ λm y=>m=.ow true/\dy y (f:=λy=>RX y λys=>eJ ys=true/\xs.length+ys.length<=bI/\E.nx (up fl (.list (xs++ys)))) ⟨⟩) ⟨⟩:=rfl
def Nh:IC (some d) m n z Q=Q (tP m d) d:=rfl
def MN:IC none m n z Q=Q n z:=rfl
def Nt:ZH m (.bl b) Q=Q .sh (.int (if b then 1 else 0)):=rfl
end
end L2.Q.R
namespace L2
section
variable {X:Cx}{pins:List (ai × Obj)}{σ:St}{H:Hp}{s:ay}{a:ai}{A:fq}{E:ae->ay->Prop}
def yL{kvs:List (Key × V)}{k:Key}{v:V}{u r:ae}{Q:ae->ay->Prop}(I:Inv X pins σ H s)(e:H a=some (.dK kvs))(ry:RelV (kV k) u)(hl:kvs.length<bI)(rv:RelV v r)(h1:∀ v' w' s',mP kvs k=some v'->Inv X pins σ H s'->RelV v' w'->Q w' s') (h2:mP kvs k=none->∀ s',Inv X pins σ (upd H a (.dK (putK kvs k v))) s'->Q r s') :
  bG (aI X.prog X.w) A (call (.builtin "dict.setdefault") [.ref a,u,r]) Q E s:=by
 obtain⟨z,hd,vs,rel,dd⟩:=Wk I.cy e;have hz:vs.length<=bI:=by rw[<- rel.length];exact z
 have hp:(putK kvs k v).length<=bI:=by have:=TY kvs k v;lia
 have vl:=rel.val k;refine call_meetsIn PySem.F.slot_dict_setdefault dd.typeIs PySem.F.entry_dict_setdefault (PySem.F.args_dict_setdefault_3 _ _ _) (kt_meets_setdefault (kK X.prog X.w) a (ER ry) hd r) ⟨vs,dd,hz,λw' hw=>?_,λhn h' DB hs=>?_⟩
 ·rw[hw] at vl
  cases ev:mP kvs k with
  |none=>rw[ev] at vl;exact(vl:False).elim
  |some v'=>rw[ev] at vl;exact h1 v' _ _ ev (I.tok _) vl
 ·have ev:mP kvs k=none:=by
   rw[hn] at vl
   cases ev:mP kvs k with
   |none=>rfl
   |some v'=>rw[ev] at vl;exact(vl:False).elim
  have he:∃ q,h'.get? a=some q:=let ⟨q,_,_,hq,_⟩:=DB;⟨q,hq⟩
  exact h2 ev _ (T1 I (by rw[e];exact True.intro) hs he (Wl hp hd (rel.put k rv) DB))
end
def kA'(td ty tx:TE):TE:=λσ H Q=>td σ H λx H1=>∃ a,x=.ref a/\QZ H1 a/\ty σ H1 λy H2=>tx σ H2 λz H3=>∃ kvs k,H3 a=some (.dK kvs)/\y=kV k/\kvs.length<bI /\ (∀ v,mP kvs k=some v->Q v H3)/\(mP kvs k=none->Q z (upd H3 a (.dK (putK kvs k z))))
def JR {X:Cx} {o e f:Expr} {apos fm:Pos} {td ty tx:TE} (ho:PE X o td) (he:PE X e ty) (hf:PE X f tx) (m:M2 X o "setdefault" apos e f fm):PE X (.Call (.Attribute o "setdefault" apos) [e,f] [] fm) (kA' td ty tx):=by intro pins s σ H Q I h;refine wpAny_Call_method m.base m.few m.line PySem.F.plainAttrs_dict PySem.F.slot_dict_setdefault PySem.F.type_dict_setdefault (dQ (ho pins s σ H _ I h) λu s1 eP=>?_);obtain⟨x,H1,I1,rx,a,ex,d,q1⟩:=eP;subst ex;cases (show u=Value.ref a from rx);have td:=Wn I1 d;refine⟨td.1,td.2.1,?_⟩;rw[m.trees];refine Calls.callWith_builtin rfl (Calls.evalArgs_plain (Calls.spliced_cons (dQ (he pins s1 σ H1 _ I1 q1) λiv s2 dS=>L2.hG dS λy H2 I2 ry q2=>Calls.spliced_cons (dQ (hf pins s2 σ H2 _ I2 q2) λfv s3 ⟨z,H3,I3,rz,kvs,k,e1,e2,hl,q3,q4⟩=>Calls.spliced_nil ?_))));subst e2;exact yL I3 e1 ry hl rz (λv' w' s' ev I' r'=>⟨v',H3,I',r',q3 v' ev⟩) λev s' I'=>⟨z,_,I',rz,q4 ev⟩
end L2
namespace L2.Q
section
variable {X:Cx}{K:aE}{a b c e:Expr}{pos apos fm p:Pos}
def DZ(kvs:List (Key × D))(k:Key)(x:D):List (Key × D):=if (fI kvs k).isSome then kvs else oo kvs k x
def ZI(p:WP)(tk tv:WE):WS:=λE ρ=>p ρ λfl d up=>ZG d λkvs=>tk ρ λ_ y=>tv ρ λ_ x=>x.flat=true/\∃ k,y.key1=some k/\kvs.length<bI/\E.nx (up fl (.dK (DZ kvs k x)))
def Jd {L:Str->Hp->Prop} {p:WP} {tk tv:WE} (ho:QP X K a p) (hb:QE X K b tk) (hc:QE X K c tv) (hm:M2 X a "setdefault" apos b c fm:=by exact⟨rfl,rfl,rfl,rfl⟩) (hs:autoParam (rV (.Call (.Attribute a "setdefault" apos) [b,c] [] fm) none pos.line X.env=pure false) bv):QS X K L (.Expr (.Call (.Attribute a "setdefault" apos) [b,c] [] fm) pos) (ZI p tk tv):=by
 refine PS.imp (Qz (JR ho hb hc hm) hs) λD σ H hx=>bY hx λHs ρ ah E sr h k1 k2 k3 k4=>?_;refine⟨Hs,ρ,ah,_,sr,h,λu H1 aT fl d up g1 p1 q1=>?_⟩;obtain⟨iX,r,ne,nd,own,k⟩:=p1.ex;have lv:∀ x∈iX,aT x=none/\H1 x≠none:=λx hx=>⟨own x hx,(r.own x hx).ne⟩
 cases r with
 |sh hf _=>exact absurd rfl ne
 |@dK a0 vs kvs A kk e rs =>
  refine⟨a0,rfl,.inl ⟨_,.inl e⟩,aT,ρ,ah,_,sr.grow g1,q1,λy H2 aS m2 yd iO g2 r2 f2 q2=>⟨aS,ρ,ah,_,(sr.grow g1).grow g2,q2,λx H3 fz m3 xd LV g3 r3 f3 q3=>?_⟩⟩;obtain⟨hx,key,hk,hz,q⟩:=q3;have ry:=(r2.grow g3).rep g3.wf;have ey:=ry.key hk;subst ey;have rx:Rep K fz xd x:=r3.flat g3.wf hx;have g:=g2.trans g3;have sm:bP Hs fz:=g1.sh.trans g.sh;have hl:kvs.length=vs.length:=by have:=rs.length;rwa[cx] at this
  have zg:=zip_get (k:=key) (rs.reps (G:=H1) g1.wf.sub λ_ _=>rfl);obtain⟨na,nA⟩:=ly.mp nd;refine⟨_,key,g.all _ _ e,rfl,by rw[Qh,cx,<- hl,Qn];exact hz,λv' ev=>?_,λev=>?_⟩
  ·have e0:DZ kvs key xd=kvs:=by
    unfold DZ
    cases hg:fI kvs key with
    |none=>rw[hg] at zg;rw[zg] at ev;cases ev
    |some d=>rfl
   rw[e0] at q;obtain⟨fo,iN⟩:=k fz H3 fl (.dK kvs) (a0 :: A) g.sh g.wf (λx h1 h2=>g.mS h1 h2) id (.dK kk (g.all _ _ e) (rs.grow g.sh g.all)) (by simp) nd (λb hb=>⟨g.mS (own b hb) (lv b hb).2,.inl hb⟩) λb h1 _=>by
    cases q:H1 b with
    |none=>exact absurd q h1
    |some o=>exact g.all b o q
   exact k1 σ _ fz _ fo sm iN q
  ·have e0:DZ kvs key xd=oo kvs key xd:=by
    unfold DZ
    cases hg:fI kvs key with
    |none=>rfl
    |some d=>rw[hg] at zg;obtain⟨v',e',_⟩:=zg;rw[e'] at ev;cases ev
   rw[e0] at q;obtain⟨ws,Bs,sb,mN,ew⟩:=sI (k:=key) rx hx (rs.grow g.sh g.all);rw[ew];have nB:a0∉Bs:=λz=>na (sb.subset z);obtain⟨fo,iN⟩:=k.node (fl2:=fl) (d2:=.dK (oo kvs key xd)) g lv (λ_ z=>by cases z) id (.dK ⟨jS (iD _ _ _) hz,λp hp=>(oO hp).elim (λz=>by rw[z];exact oh ry hk) λz=>by obtain⟨p',kA,e'⟩:=cw.mp z;rw[<- e'];exact kk.2 p' kA⟩ kf (mN.fT (bP.refl _) λb hb=>h9 λz=>nB (by subst z;exact hb))) (sb.nodup nA) nB λb hb=>.inl (sb.subset hb)
   exact k1 σ _ fz _ fo sm iN q
 |_=>exact q1.elim
end
end L2.Q
namespace L2.Q.R
section
variable {ρ:Env}{E:jD}{tk tv:WE}{p:WP}
def Ot:ZI p tk tv E ρ=p ρ λfl d up=>dy d (f:=λd=>ZG d λkvs=>tk ρ λ_ y=>tv ρ λ_ x=>x.flat=true/\∃ k,y.key1=some k/\kvs.length<bI/\E.nx (up fl (.dK (DZ kvs k x)))) ⟨⟩:=rfl
end
end L2.Q.R
end
namespace PySem.SeqAt
open AutoSeq1 (wpAny_loadPart')
open MeetsSeq MeetsSeq2 MeetsSeq3 SeqRoads2
def pf(A:fq)(s:ay)(u v:ae)(b:Bool):Prop:=∀ (prog:eL) (w:eR) (Q:ae->ay->Prop) (E:ae->ay->Prop),Q (.bool b) s->bG (aI prog w) A (richCompare .Lt u v) Q E s
def xl(e f:Nat->Bool)(m n:Nat):Nat->Nat->Bool
 |0,_=>decide (m<n)
 |k+1,i=>if e i then xl e f m n k (i+1) else f i
def yV(l b:ai)(items fh:Array ae)(n n2:Nat)(dd vi:Option ai)(sl vj:Array (Option ae))(e f:Nat->Bool)(k:Nat) :
  ∀ i:Nat,min items.size fh.size-i=k->i<=min items.size fh.size->Meets (Builtin.«list.__eq__.loop» ⟨[.ref l,.ref b,n4 i,n4 0],[]⟩) (λA R s=>s.heap.get? l=some { cls:=.type "list",dict:=dd,data:=.seq items n,slots:=sl }/\s.heap.get? b=some { cls:=.type "list",dict:=vi,data:=.seq fh n2,slots:=vj } /\ (∀ j (h1:j<items.size) (h2:j<fh.size),EqAt A.in1 s items[j] fh[j] (e j))/\(∀ j (h1:j<items.size) (h2:j<fh.size),e j=false->pf A.in1 s items[j] fh[j] (f j)) /\
    R (.ok (.ret (.bool (xl e f items.size fh.size k i)))) s):=by
 induction k with
 |zero =>
  intro i hk hle prog w A R s h;obtain⟨hp,g,d,tk,os⟩:=s;obtain⟨hl,hb,he,hf,h⟩:=h
  wp_walk using wpAny_loadPart' hl,wpAny_loadPart' hb
  rcases (show items.size<=i\/fh.size<=i by lia) with z|z
  ·have nc:items[(i:Int).toNat]? = none:=by simp;lia
   rw[nc]
   wp_walk using wpAny_loadPart' hl,wpAny_loadPart' hb
   exact h
  ·have k6:fh[(i:Int).toNat]? = none:=by simp;lia
   rw[k6];cases items[(i:Int).toNat]?<;>wp_walk using wpAny_loadPart' hl,wpAny_loadPart' hb<;>exact h
 |succ k ih =>
  intro i hk hle prog w A R s h;obtain⟨hp,g,d,tk,os⟩:=s;obtain⟨hl,hb,he,hf,h⟩:=h
  wp_walk using wpAny_loadPart' hl,wpAny_loadPart' hb
  have fA:i<items.size:=by lia
  have ZJ:i<fh.size:=by lia
  have nc:items[((i:Nat):Int).toNat]? = some items[i]:=by simp[fA]
  have k6:fh[((i:Nat):Int).toNat]? = some fh[i]:=by simp[ZJ]
  have hc:((i:Int)+1)=((i+1:Nat):Int):=by push_cast;rfl
  rw[nc,k6];refine ax (he i fA ZJ prog w _ _ ?_)
  cases MB:e i with
  |true =>
   rw[xl,MB,if_pos rfl] at h
   wp_walk
   rw[hc];exact⟨FC plain_eq_loop _,Cb entry_eq_loop (by
    rw[Around.under_plainId plain_eq_loop _];exact ih (i+1) (by lia) (by lia) prog w A R _ ⟨hl,hb,he,hf,h⟩)⟩
  |false =>
   rw[xl,MB,if_neg kH] at h
   wp_walk using wpAny_loadPart' hl,wpAny_loadPart' hb
   rw[nc,k6];refine ax (hf i fA ZJ MB prog w _ _ ?_)
   wp_walk
   exact h
def xu(l b:ai)(items fh:Array ae)(n n2:Nat)(dd vi:Option ai)(sl vj:Array (Option ae))(e f:Nat->Bool) :
  Meets (Builtin.«list.__lt__» ⟨[.ref l,.ref b],[]⟩) (λA R s=>s.heap.get? l=some { cls:=.type "list",dict:=dd,data:=.seq items n,slots:=sl }/\s.heap.get? b=some { cls:=.type "list",dict:=vi,data:=.seq fh n2,slots:=vj } /\ (∀ j (h1:j<items.size) (h2:j<fh.size),EqAt A.in1 s items[j] fh[j] (e j))/\(∀ j (h1:j<items.size) (h2:j<fh.size),e j=false->pf A.in1 s items[j] fh[j] (f j)) /\
    R (.ok (.ret (.bool (xl e f items.size fh.size (min items.size fh.size) 0)))) s):=by
 intro prog w A R s h;obtain⟨hp,g,d,tk,os⟩:=s;obtain⟨hl,hb,he,hf,h⟩:=h;have f3:=AutoSeq1.sub_list_list
 wp_walk using wpAny_loadPart' hl,wpAny_loadPart' hb
 exact⟨FC plain_eq_loop _,Cb entry_eq_loop (by
  rw[Around.under_plainId plain_eq_loop _];exact yV l b items fh n n2 dd vi sl vj e f _ 0 (Nat.sub_zero _) (fS _) prog w A R _ ⟨hl,hb,he,hf,h⟩)⟩
def vH(l b:ai)(items fh:Array ae)(n n2:Nat)(dd vi:Option ai)(sl vj:Array (Option ae))(e f:Nat->Bool) :
  Meets (Builtin.«tuple.__lt__» ⟨[.ref l,.ref b],[]⟩) (λA R s=>s.heap.get? l=some { cls:=.type "tuple",dict:=dd,data:=.seq items n,slots:=sl }/\s.heap.get? b=some { cls:=.type "tuple",dict:=vi,data:=.seq fh n2,slots:=vj } /\ (∀ j (h1:j<items.size) (h2:j<fh.size),EqAt A.in1 s items[j] fh[j] (e j))/\(∀ j (h1:j<items.size) (h2:j<fh.size),e j=false->pf A.in1 s items[j] fh[j] (f j)) /\
    R (.ok (.ret (.bool (xl e f items.size fh.size (min items.size fh.size) 0)))) s) :=
 .of_wp λprog w A R s h=>by
  obtain⟨hp,g,d,tk,os⟩:=s;obtain⟨hl,hb,he,hf,h⟩:=h;have f2:=AutoSeq1.sub_tuple_tuple;have hZ:(items.toList.zip fh.toList).length=min items.size fh.size:=by simp
  wp_walk using wpAny_loadPart' hl,wpAny_loadPart' hb,wpAny_forIn_list _ (λrest b s'=>b.1=none/\s'=⟨hp,g,d,tk,os⟩/\∃ i,rest=(items.toList.zip fh.toList).drop i/\i<=min items.size fh.size /\
   R (.ok (.ret (.bool (xl e f items.size fh.size (min items.size fh.size-i) i)))) ⟨hp,g,d,tk,os⟩) _
  case turn =>
   rintro⟨y,x⟩ rest b s' ⟨MB,rfl,i,hz,hi,hR⟩;have fA:i<(items.toList.zip fh.toList).length:=by
    rcases NS i (items.toList.zip fh.toList).length with h'|h'
    ·exact h'
    ·rw[Vl h'] at hz;cases hz
   have hm:i<min items.size fh.size:=hZ ▸ fA;have h1:i<items.size:=px hm (Nat.min_le_left _ _);have h2:i<fh.size:=px hm (Nat.min_le_right _ _);rw[xC fA] at hz;injection hz with hyx kB';have hy:y=items[i]:=by have:=congrArg Prod.fst hyx;simpa using this
   have hx:x=fh[i]:=by have:=congrArg Prod.snd hyx;simpa using this
   subst hy hx;rw[show min items.size fh.size-i=(min items.size fh.size-(i+1))+1 by lia,xl] at hR;refine ax (he i h1 h2 prog w _ _ ?_)
   cases hy:e i with
   |true =>
    rw[hy,if_pos rfl] at hR
    wp_walk
    exact⟨rfl,rfl,i+1,kB',hm,hR⟩
   |false =>
    rw[hy,if_neg kH] at hR;simp only[Bool.not_false,if_true];refine ax (EB ?_);refine ax (hf i h1 h2 hy prog w _ _ ?_)
    wp_walk
    exact⟨_,rfl,hR⟩
  case fin =>
   rintro⟨b1,b2⟩ s' ⟨MB,rfl,i,hz,hi,hR⟩;simp only at MB;subst MB;have sv:min items.size fh.size<=i:=by
    rcases NS i (items.toList.zip fh.toList).length with h'|h'
    ·rw[xC h'] at hz;cases hz
    ·exact hZ ▸ h'
   rw[show min items.size fh.size-i=0 by lia,xl] at hR
   wp_walk
   exact⟨_,rfl,by simpa[Builtin.Tuple.tupleCompareSizes] using hR⟩
  case h =>
   exact⟨rfl,rfl,0,rfl,fS _,h⟩
section
variable {A:fq}{s:ay}
def pf.tuples(hl:s.heap.IsTuple l items)(hb:s.heap.IsTuple b fh)(hu:A.units<fE)(he:∀ j (h1:j<items.size) (h2:j<fh.size),EqAt A.in1 s items[j] fh[j] (e j)) (hf:∀ j (h1:j<items.size) (h2:j<fh.size),e j=false->pf A.in1 s items[j] fh[j] (f j)) :
  pf A s (.ref l) (.ref b) (xl e f items.size fh.size (min items.size fh.size) 0):=λprog w Q E h=>by
 obtain⟨⟨cls,dd,data,sl⟩,ho,hc,n,hd⟩:=id hl;obtain⟨⟨V7,vi,data2,vj⟩,sq,EK,n2,hd2⟩:=id hb;simp only at hc hd EK hd2;subst hc hd EK hd2;exact richCompare_meets_room ⟨_,ho,rfl⟩ ⟨_,sq,rfl⟩ F.slot_tuple_lt F.entry_tuple_lt (F.args_tuple_lt_2 _ _) (vH l b items fh n n2 dd vi sl vj e f) ⟨ho,sq,he,hf,show Value.bool _≠Value.notImplemented/\Q (.bool _) s from⟨(λx=>nomatch x),h⟩⟩ hu
def pf.lists(hl:s.heap.IsList l items)(hb:s.heap.IsList b fh)(hu:A.units<fE)(he:∀ j (h1:j<items.size) (h2:j<fh.size),EqAt A.in1 s items[j] fh[j] (e j)) (hf:∀ j (h1:j<items.size) (h2:j<fh.size),e j=false->pf A.in1 s items[j] fh[j] (f j)) :
  pf A s (.ref l) (.ref b) (xl e f items.size fh.size (min items.size fh.size) 0):=λprog w Q E h=>by
 obtain⟨⟨cls,dd,data,sl⟩,ho,hc,n,hd⟩:=id hl;obtain⟨⟨V7,vi,data2,vj⟩,sq,EK,n2,hd2⟩:=id hb;simp only at hc hd EK hd2;subst hc hd EK hd2;exact richCompare_meets_room ⟨_,ho,rfl⟩ ⟨_,sq,rfl⟩ F.slot_list_lt F.entry_list_lt (F.args_list_lt_2 _ _) (xu l b items fh n n2 dd vi sl vj e f) ⟨ho,sq,he,hf,show Value.bool _≠Value.notImplemented/\Q (.bool _) s from⟨(λx=>nomatch x),h⟩⟩ hu
def pf.int(a:Int)(t:Tok)(b:Int)(u:Tok):pf A s (.int a t) (.int b u) (decide (a<b)):=λprog w Q E h=>(PyProof.Rows.lt_int h)
def pf.str(a:Str)(t:Tok)(b:Str)(u:Tok):pf A s (.str a t) (.str b u) (decide (a.cps.toList<b.cps.toList)):=λprog w Q E h=>(PySem.P.lt_str h)
end
def oB(lt:eC->eC->Bool):List eC->List eC->Bool
 |[],ys=>!ys.isEmpty
 |_ :: _,[]=>false
 |x :: xs,y :: ys=>if PyData.eqv x y then oB lt xs ys else lt x y
def d4:Nat->eC->eC->Bool
 |_,.int i,.int j=>decide (i<j)
 |_,.str x,.str y=>decide (x.cps.toList<y.cps.toList)
 |n+1,.list xs,.list ys=>oB (d4 n) xs ys
 |n+1,.tuple xs,.tuple ys=>oB (d4 n) xs ys
 |_,_,_=>false
def sL:Nat->eC->eC->Prop
 |_,.int _,.int _=>True
 |_,.str _,.str _=>True
 |n+1,.list xs,.list ys=>∀ (j:Nat) (x y:eC),xs[j]? = some x->ys[j]? = some y->PyData.eqv x y=false->sL n x y
 |n+1,.tuple xs,.tuple ys=>∀ (j:Nat) (x y:eC),xs[j]? = some x->ys[j]? = some y->PyData.eqv x y=false->sL n x y
 |_,_,_=>False
def at2(g:eC->eC->Bool)(xs ys:List eC)(j:Nat):Bool:=match xs[j]?,ys[j]? with
 |some x,some y=>g x y
 |_,_=>false
def mO(hx:xs[j]? = some x)(hy:ys[j]? = some y):at2 g xs ys j=g x y:=by unfold at2;rw[hx,hy]
def Cz(lt:eC->eC->Bool)(xs ys:List eC)(k:Nat):∀ i,min xs.length ys.length-i=k->i<=min xs.length ys.length->xl (at2 PyData.eqv xs ys) (at2 lt xs ys) xs.length ys.length k i=oB lt (xs.drop i) (ys.drop i):=by
 induction k with
 |zero =>
  intro i hk hi;rw[xl];rcases NS xs.length ys.length with z|z
  ·rw[decide_eq_true z,Vl (by lia),xC (by lia)];rfl
  ·rw[decide_eq_false (by lia),Vl (show ys.length<=i by lia)];cases xs.drop i<;>rfl
 |succ k ih =>
  intro i hk hi;have h1:i<xs.length:=by lia
  have h2:i<ys.length:=by lia
  rw[xl,mO (lh h1) (lh h2),mO (lh h1) (lh h2),ih (i+1) (by lia) (by lia),
   xC h1,xC h2,oB]
def cX:∀ {vs:List ae} {as:List ai},ReadsAll h vs xs as->∀ (j:Nat) (v:ae),vs[j]? = some v->∃ x bs,xs[j]? = some x/\Reads h v x bs:=by
 induction xs with
 |nil =>intro vs as r j v hv;cases r;simp at hv
 |cons x xs ih =>
  intro vs as r j v hv
  cases r with
  |cons r rs =>
   cases j with
   |zero =>simp at hv;subst hv;exact⟨x,_,rfl,r⟩
   |succ j=>exact ih rs j v (by simpa using hv)
def jz{xs:List eC}(h:PyData.canLayAll0 xs=true){j:Nat}{x:eC}(hx:xs[j]? = some x):x.canLay0=true:=by
 induction xs generalizing j with
 |nil=>simp at hx
 |cons y xs ih =>
  have h:y.canLay0=true/\PyData.canLayAll0 xs=true:=by simpa[PyData.canLayAll0] using h
  cases j with
  |zero=>simp at hx;subst hx;exact h.1
  |succ j=>exact ih h.2 (by simpa using hx)
def pD{xs:List eC}{j:Nat}{x:eC}(hx:xs[j]? = some x):x.depth<=PyData.depthAll xs:=by
 induction xs generalizing j with
 |nil=>simp at hx
 |cons y xs ih =>
  simp only[PyData.depthAll]
  cases j with
  |zero=>simp at hx;subst hx;lia
  |succ j=>have:=ih (by simpa using hx);lia
def zY(n:Nat):∀ (d e:eC) (A:fq) (s:ay) (a b:ae) (as bs:List ai),Reads s.heap a d as->Reads s.heap b e bs->d.canLay0=true->e.canLay0=true->sL n d e->d.depth<=20->A.units+n+30<fE->pf A s a b (d4 n d e):=by
 induction n with
 |zero =>intro d e A s a b as bs ra rb _ _ c _ _;cases ra<;>cases rb<;>first|(rw[d4];exact pf.int _ _ _ _)|(rw[d4];exact pf.str _ _ _ _)|exact absurd c (by simp[sL])
 |succ n ih =>
  intro d e A s a b as bs ra rb la lb c dd hu
  cases ra with
  |int i t=>cases rb<;>first|(rw[d4];exact pf.int _ _ _ _)|exact absurd c (by simp[sL])
  |str x t=>cases rb<;>first|(rw[d4];exact pf.str _ _ _ _)|exact absurd c (by simp[sL])
  |@list l o vs m xs ZK h1 h2 h3 h4 =>
   cases rb with
   |@list l' o' gE m' ys bs1 k1 k2 k3 k4 =>
    have n1:vs.size=xs.length:=by simpa using ReadsAll.length _ _ _ h4
    have n2:gE.size=ys.length:=by simpa using ReadsAll.length _ _ _ k4
    have RZ:∀ j (h1:j<vs.size),∃ x cs,xs[j]? = some x/\Reads s.heap vs[j] x cs:=λj hj=>cX h4 j vs[j] (by simp[hj]);have R0:∀ j (h1:j<gE.size),∃ x cs,ys[j]? = some x/\Reads s.heap gE[j] x cs:=λj hj=>cX k4 j gE[j] (by simp[hj]);have dx:PyData.depthAll xs<20:=by simp only[PyData.depth] at dd;lia
    have:=pf.lists (A:=A) (s:=s) (e:=at2 PyData.eqv xs ys) (f:=at2 (d4 n) xs ys) ⟨_,h1,h2,_,h3⟩ ⟨_,k1,k2,_,k3⟩ (by lia) (λj j1 j2=>by
     obtain⟨x,cs,ex,rx⟩:=RZ j j1;obtain⟨y,ZL,ey,ry⟩:=R0 j j2;rw[mO ex ey];have:=pD ex;exact eqAt_reads x y A.in1 s _ _ _ _ rx ry (jz la ex) (jz lb ey) (by show A.units+1+_<fE;lia)) (λj j1 j2 ne=>by
     obtain⟨x,cs,ex,rx⟩:=RZ j j1;obtain⟨y,ZL,ey,ry⟩:=R0 j j2;rw[mO ex ey] at ne ⊢;have:=pD ex;exact ih x y A.in1 s _ _ _ _ rx ry (jz la ex) (jz lb ey) (c j x y ex ey ne) (by lia) (by show A.units+1+n+30<fE;lia))
    rw[n1,n2,Cz (d4 n) xs ys _ 0 (Nat.sub_zero _) (fS _)] at this;exact this
   |_=>exact absurd c (by simp[sL])
  |@tuple l o vs m xs ZK h1 h2 h3 h4 =>
   cases rb with
   |@tuple l' o' gE m' ys bs1 k1 k2 k3 k4 =>
    have n1:vs.size=xs.length:=by simpa using ReadsAll.length _ _ _ h4
    have n2:gE.size=ys.length:=by simpa using ReadsAll.length _ _ _ k4
    have RZ:∀ j (h1:j<vs.size),∃ x cs,xs[j]? = some x/\Reads s.heap vs[j] x cs:=λj hj=>cX h4 j vs[j] (by simp[hj]);have R0:∀ j (h1:j<gE.size),∃ x cs,ys[j]? = some x/\Reads s.heap gE[j] x cs:=λj hj=>cX k4 j gE[j] (by simp[hj]);have dx:PyData.depthAll xs<20:=by simp only[PyData.depth] at dd;lia
    have:=pf.tuples (A:=A) (s:=s) (e:=at2 PyData.eqv xs ys) (f:=at2 (d4 n) xs ys) ⟨_,h1,h2,_,h3⟩ ⟨_,k1,k2,_,k3⟩ (by lia) (λj j1 j2=>by
     obtain⟨x,cs,ex,rx⟩:=RZ j j1;obtain⟨y,ZL,ey,ry⟩:=R0 j j2;rw[mO ex ey];have:=pD ex;exact eqAt_reads x y A.in1 s _ _ _ _ rx ry (jz la ex) (jz lb ey) (by show A.units+1+_<fE;lia)) (λj j1 j2 ne=>by
     obtain⟨x,cs,ex,rx⟩:=RZ j j1;obtain⟨y,ZL,ey,ry⟩:=R0 j j2;rw[mO ex ey] at ne ⊢;have:=pD ex;exact ih x y A.in1 s _ _ _ _ rx ry (jz la ex) (jz lb ey) (c j x y ex ey ne) (by lia) (by show A.units+1+n+30<fE;lia))
    rw[n1,n2,Cz (d4 n) xs ys _ 0 (Nat.sub_zero _) (fS _)] at this;exact this
   |_=>exact absurd c (by simp[sL])
  |_=>cases rb<;>exact absurd c (by simp[sL])
end PySem.SeqAt
section
open PySem PySem.Spec PyProof.Rows
namespace L2
open PySem.SeqAt
structure iP(lt:eC->eC->Bool)(S:eC->Prop):Prop where
 sM:∀ x,S x->lt x x=false
 tr:∀ x y z,S x->S y->S z->lt x y=true->lt y z=true->lt x z=true
 ah:∀ x y,S x->S y->lt x y=false->lt y x=false->x=y
 eqv:∀ x y,S x->S y->(PyData.eqv x y=true↔x=y)
def iP.int(n:Nat):iP (d4 n) λx=>∃ i,x=.int i where
 sM:=by rintro x ⟨i,rfl⟩;rw[d4];simp
 tr:=by rintro x y z ⟨i,rfl⟩ ⟨j,rfl⟩ ⟨k,rfl⟩;rw[d4,d4,d4];simp only[decide_eq_true_eq];lia
 ah:=by rintro x y ⟨i,rfl⟩ ⟨j,rfl⟩;rw[d4,d4];simp only[decide_eq_false_iff_not,PyData.int.injEq];lia
 eqv:=by rintro x y ⟨i,rfl⟩ ⟨j,rfl⟩;simp[PyData.eqv]
def iP.str(n:Nat):iP (d4 n) λx=>∃ s,x=.str s where
 sM:=by rintro x ⟨i,rfl⟩;rw[d4];exact xW i
 tr:=by rintro x y z ⟨i,rfl⟩ ⟨j,rfl⟩ ⟨k,rfl⟩;rw[d4,d4,d4];exact λh g=>Ds (y:=j) h g
 ah:=by rintro x y ⟨i,rfl⟩ ⟨j,rfl⟩;rw[d4,d4];exact λh g=>by rw[xV (x:=i) (y:=j) h g]
 eqv:=by rintro x y ⟨i,rfl⟩ ⟨j,rfl⟩;simp[PyData.eqv]
section
variable {lt:eC->eC->Bool}{S:eC->Prop}
def Bh(T:iP lt S)(xs:List eC)(h:∀ x∈xs,S x):oB lt xs xs=false:=by
 induction xs with
 |nil=>rfl
 |cons x xs ih =>rw[oB,if_pos ((T.eqv x x (h x dz) (h x dz)).mpr rfl)];exact ih λy hy=>h y (dP _ hy)
open Classical in
def cJ(T:iP lt S)(hx:S x)(hy:S y):oB lt (x :: xs) (y :: ys)=if x=y then oB lt xs ys else lt x y:=by
 rw[oB];by_cases e:x=y
 ·rw[if_pos e,if_pos ((T.eqv x y hx hy).mpr e)]
 ·rw[if_neg e,if_neg λz=>e ((T.eqv x y hx hy).mp z)]
def Cu(T:iP lt S)(xs:List eC):∀ ys:List eC,(∀ x∈xs,S x)->(∀ y∈ys,S y)->oB lt xs ys=false->oB lt ys xs=false->xs=ys:=by
 induction xs with
 |nil =>
  intro ys _ _ h _
  cases ys with
  |nil=>rfl
  |cons y ys=>cases h
 |cons x xs ih =>
  intro ys hx hy h1 h2
  cases ys with
  |nil=>cases h2
  |cons y ys =>
   have sx:=hx x dz;have sy:=hy y dz;rw[cJ T sx sy] at h1;rw[cJ T sy sx] at h2;by_cases e:x=y
   ·subst e;rw[if_pos rfl] at h1 h2;rw[ih ys (λz hz=>hx z (dP _ hz)) (λz hz=>hy z (dP _ hz)) h1 h2]
   ·rw[if_neg e] at h1;rw[if_neg λz=>e z.symm] at h2;exact absurd (T.ah x y sx sy h1 h2) e
def Fz(T:iP lt S)(xs:List eC):∀ ys zs:List eC,(∀ x∈xs,S x)->(∀ y∈ys,S y)->(∀ z∈zs,S z)->oB lt xs ys=true->oB lt ys zs=true->oB lt xs zs=true:=by
 induction xs with
 |nil =>
  intro ys zs _ _ _ h1 h2
  cases zs with
  |cons z zs=>rfl
  |nil =>
   cases ys with
   |nil=>cases h1
   |cons y ys=>cases h2
 |cons x xs ih =>
  intro ys zs hx hy hz h1 h2
  cases ys with
  |nil=>cases h1
  |cons y ys =>
   cases zs with
   |nil=>cases h2
   |cons z zs =>
    have sx:=hx x dz;have sy:=hy y dz;have sz:=hz z dz;rw[cJ T sx sy] at h1;rw[cJ T sy sz] at h2;rw[cJ T sx sz];have tl:=ih ys zs (λz hz=>hx z (dP _ hz)) (λz hz=>hy z (dP _ hz)) λw hw=>hz w (dP _ hw);by_cases e1:x=y
    ·subst e1;rw[if_pos rfl] at h1;by_cases e2:x=z
     ·subst e2;rw[if_pos rfl] at h2 ⊢;exact tl h1 h2
     ·rw[if_neg e2] at h2 ⊢;exact h2
    ·rw[if_neg e1] at h1;by_cases e2:y=z
     ·subst e2;rw[if_neg e1];exact h1
     ·rw[if_neg e2] at h2;have t:=T.tr x y z sx sy sz h1 h2;by_cases e3:x=z
      ·subst e3;rw[T.sM x sx] at t;cases t
      ·rw[if_neg e3];exact t
def vP(T:iP lt S)(xs:List eC):∀ ys:List eC,(∀ x∈xs,S x)->(∀ y∈ys,S y)->(PyData.eqvAll xs ys=true↔xs=ys):=by
 induction xs with
 |nil=>intro ys _ _;cases ys<;>simp[PyData.eqvAll]
 |cons x xs ih =>
  intro ys hx hy
  cases ys with
  |nil=>simp[PyData.eqvAll]
  |cons y ys =>have h1:=T.eqv x y (hx x dz) (hy y dz);have h2:=ih ys (λz hz=>hx z (dP _ hz)) λz hz=>hy z (dP _ hz);simp only[PyData.eqvAll,n5,List.cons.injEq];exact and_congr h1 h2
end
def iP.list{S:eC->Prop}(T:iP (d4 n) S):iP (d4 (n+1)) λx=>∃ xs,x=.list xs/\∀ y∈xs,S y where
 sM:=by rintro x ⟨xs,rfl,h⟩;rw[d4];exact Bh T xs h
 tr:=by rintro x y z ⟨xs,rfl,h⟩ ⟨ys,rfl,h'⟩ ⟨zs,rfl,h''⟩;rw[d4,d4,d4];exact Fz T xs ys zs h h' h''
 ah:=by rintro x y ⟨xs,rfl,h⟩ ⟨ys,rfl,h'⟩;rw[d4,d4];exact λh1 h2=>by rw[Cu T xs ys h h' h1 h2]
 eqv:=by rintro x y ⟨xs,rfl,h⟩ ⟨ys,rfl,h'⟩;rw[PyData.list.injEq];exact vP T xs ys h h'
open Classical in
def cI{S U:eC->Prop}(T:iP (d4 n) S)(T2:iP (d4 n) U)(ha:S a)(hb:U b)(hc:S c)(hd:U d):oB (d4 n) [a,b] [c,d]=if a=c then d4 n b d else d4 n a c:=by
 rw[cJ T ha hc,cJ T2 hb hd];by_cases e:b=d
 ·subst e;rw[if_pos rfl,show oB (d4 n) [] []=false from rfl,T2.sM b hb]
 ·rw[if_neg e]
def iP.pair{S U:eC->Prop}(T:iP (d4 n) S)(T2:iP (d4 n) U):iP (d4 (n+1)) λx=>∃ a b,x=.tuple [a,b]/\S a/\U b where
 sM:=by rintro x ⟨a,b,rfl,ha,hb⟩;rw[d4,cI T T2 ha hb ha hb,if_pos rfl];exact T2.sM b hb
 tr:=by
  rintro x y z ⟨a,b,rfl,ha,hb⟩ ⟨c,d,rfl,hc,hd⟩ ⟨e,f,rfl,he,hf⟩;rw[d4,d4,d4,cI T T2 ha hb hc hd,cI T T2 hc hd he hf,cI T T2 ha hb he hf];intro h1 h2;by_cases e1:a=c
  ·subst e1;rw[if_pos rfl] at h1;by_cases e2:a=e
   ·subst e2;rw[if_pos rfl] at h2 ⊢;exact T2.tr b d f hb hd hf h1 h2
   ·rw[if_neg e2] at h2 ⊢;exact h2
  ·rw[if_neg e1] at h1;by_cases e2:c=e
   ·subst e2;rw[if_neg e1];exact h1
   ·rw[if_neg e2] at h2;have t:=T.tr a c e ha hc he h1 h2;by_cases e3:a=e
    ·subst e3;rw[T.sM a ha] at t;cases t
    ·rw[if_neg e3];exact t
 ah:=by
  rintro x y ⟨a,b,rfl,ha,hb⟩ ⟨c,d,rfl,hc,hd⟩;rw[d4,d4,cI T T2 ha hb hc hd,cI T T2 hc hd ha hb];intro h1 h2;by_cases e:a=c
  ·subst e;rw[if_pos rfl] at h1 h2;rw[T2.ah b d hb hd h1 h2]
  ·rw[if_neg e] at h1;rw[if_neg λz=>e z.symm] at h2;exact absurd (T.ah a c ha hc h1 h2) e
 eqv:=by rintro x y ⟨a,b,rfl,ha,hb⟩ ⟨c,d,rfl,hc,hd⟩;have h1:=T.eqv a c ha hc;have h2:=T2.eqv b d hb hd;simp only[PyData.eqv,PyData.eqvAll,n5,S9,PyData.tuple.injEq,List.cons.injEq,and_true];exact and_congr h1 h2
section
variable {prog:eL}{w:eR}{A:fq}{E:ae->ay->Prop}{s:ay}{Q:Bool->ay->Prop}
def Ar(xs:List eC):∀ (ys:List eC) (us vs:List ae) (as bs:List ai) (i:Nat),ReadsAll s.heap us xs as->ReadsAll s.heap vs ys bs->PyData.canLayAll0 xs=true->PyData.canLayAll0 ys=true->PyData.depthAll xs<=20 -> (∀ (j:Nat) (x y:eC),xs[j]? = some x->ys[j]? = some y->PyData.eqv x y=false->sL n x y)->(i=0->∀ x y,xs[0]? = some x->ys[0]? = some y->(∃ k,x=.int k)/\∃ k,y=.int k)->xs.length=ys.length->A.units+n+30<fE->Q (oB (d4 n) xs ys) s ->
  PySem.W.KatLex prog w A true false Q (us.zip vs) i s:=by
 induction xs with
 |nil =>
  intro ys us vs as bs i ra rb _ _ _ _ _ hl _ q
  cases ys with
  |cons y ys=>cases hl
  |nil =>cases ra;exact PySem.W.kat_nil q
 |cons x xs ih =>
  intro ys us vs as bs i ra rb la lb dp c hi hl hu q
  cases ys with
  |nil=>cases hl
  |cons y ys =>
   cases ra with
   |cons r rs =>
    cases rb with
    |cons r' ZM =>
     have ZN:x.canLay0=true/\PyData.canLayAll0 xs=true:=by simpa[PyData.canLayAll0] using la
     have ZO:y.canLay0=true/\PyData.canLayAll0 ys=true:=by simpa[PyData.canLayAll0] using lb
     have dp':x.depth<=20/\PyData.depthAll xs<=20:=by simp only[PyData.depthAll] at dp;lia
     rw[oB] at q;refine PySem.W.kat_cons (eqAt_reads x y A s _ _ _ _ r r' ZN.1 ZO.1 (by lia) prog w _ _ (PySem.W.kat_go (λh=>PySem.W.kat_yes ?_) (λh=>PySem.W.kat_no ?_)))
     ·rw[if_pos h] at q;exact ih ys _ _ _ _ (i+1) rs ZM ZN.2 ZO.2 dp'.2 (λj=>c (j+1)) (λz=>by lia) (by simpa using hl) hu q
     ·rw[if_neg (by rw[h];exact kH)] at q;by_cases h0:i=0
      ·obtain⟨⟨a,rfl⟩,⟨b,rfl⟩⟩:=hi h0 x y rfl rfl;subst h0;cases r;cases r';rw[d4] at q;exact oneLt_int q
      ·rw[show(true && i == 0)=false by simp[h0]];exact PySem.W.kat_one _ _ (zY n x y A s _ _ _ _ r r' ZN.1 ZO.1 (c 0 x y rfl rfl h) dp'.1 (by lia) prog w _ _ q)
structure MD(n:Nat)(S:eC->Prop):Prop where
 ah:iP (d4 (n+1)) S
 tup:∀ x,S x->∃ i xs,x=.tuple (.int i :: xs)/\x.canLay0=true/\x.depth<=20
 len:∀ xs ys,S (.tuple xs)->S (.tuple ys)->xs.length=ys.length
 cm:∀ x y,S x->S y->sL (n+1) x y
open Classical in
def lU(h:eh)(v:ae):eC:=if z:∃ d as,Reads h v d as/\d.canLay0=true then z.choose else .none
def fZ(r:Reads h v d as)(l:d.canLay0=true):lU h v=d:=by
 have z:∃ d as,Reads h v d as/\d.canLay0=true:=⟨d,as,r,l⟩
 unfold lU;rw[dif_pos z];obtain⟨bs,r2,l2⟩:=z.choose_spec;exact Reads.unique _ _ _ _ _ l2 r2 r
def PZ(n:Nat)(L:List eC)(d:eC):Int:=(L.countP λe=>d4 n e d:Nat)
def Dt{S:eC->Prop}(T:iP (d4 n) S)(hL:∀ d∈L,S d)(ha:a∈L)(hb:S b):decide (PZ n L a<PZ n L b)=d4 n a b:=by
 have sa:=hL a ha;unfold PZ
 cases h:d4 n a b with
 |true =>have:=pq (λj=>d4 n j a) (λj=>d4 n j b) a (T.sM a sa) h L ha λx hx z=>T.tr x a b (hL x hx) sa hb z h;exact decide_eq_true (by lia)
 |false =>
  refine decide_eq_false ?_
  cases g:d4 n b a with
  |false =>rw[T.ah a b sa hb h g];lia
  |true =>have:=count_le (λj=>d4 n j b) (λj=>d4 n j a) L λx hx z=>T.tr x b a (hL x hx) hb sa z g;lia
def Bc{S:eC->Prop}(K:MD n S)(kp:∀ b o,h0.get? b=some o->s.heap.get? b=some o)(hL:∀ d∈L,S d)(hu:A.units+n+31<fE) :
  xh.oi prog w A s (tuples' true) (λv=>PZ (n+1) L (lU h0 v)) (λv=>∃ d as,d∈L/\Reads h0 v d as):=by
 rintro x y ⟨d,as,md,rd⟩ ⟨e,bs,me,re⟩ Q E q;have sd:=hL d md;have se:=hL e me;obtain⟨i,xs,rfl,ld,dd⟩:=K.tup d sd;obtain⟨j,ys,rfl,le,de⟩:=K.tup e se
 replace q:Q (decide (PZ (n+1) L (lU h0 x)<PZ (n+1) L (lU h0 y))) s:=q
 rw[fZ rd ld,fZ re le,Dt K.ah hL md se,d4] at q;have rd':=PyProof.Rows.Reads.keeps kp rd;have re':=PyProof.Rows.Reads.keeps kp re;have cm:=K.cm _ _ sd se;have hl:=K.len _ _ sd se
 cases rd' with
 |@tuple a o us m _ ZK h1 h2 h3 h4 =>
  cases re' with
  |@tuple b o' vs m' _ bs1 k1 k2 k3 k4 =>
   have n1:us.size=(PyData.int i :: xs).length:=by simpa using ReadsAll.length _ _ _ h4
   have n2:vs.size=(PyData.int j :: ys).length:=by simpa using ReadsAll.length _ _ _ k4
   refine PySem.W.kat_lt h1 h3 k1 k3 ?_;rw[show decide (us.size<vs.size)=false from decide_eq_false (by lia)];exact Ar _ _ _ _ _ _ 0 h4 k4 ld le (by simp only[PyData.depth] at dd;lia) cm (λ_ x y hx hy=>by cases hx;cases hy;exact⟨⟨_,rfl⟩,_,rfl⟩) hl (by lia) q
end
section
variable {X:Cx}{pins:List (ai × Obj)}{σ:St}{H:Hp}{s:ay}
theorem yK(I:Inv X pins σ H s):∀ {ds:List eC} {ys:List V} {vs:List ae},b5 X.K H ds ys->Vals ys vs->∀ v∈vs,∃ d y as,d∈ds/\Rep X.K H d y/\RelV y v/\Reads s.heap v d as
 |_,_,_,.nil,.nil,v,hv=>nomatch hv
 |_,_,_,.cons r rs,.cons q qs,v,hv=>by
  rcases eK.mp hv with rfl|hv
  ·obtain⟨as,z⟩:=r.reads I q;exact⟨_,_,as,dz,r,q,z⟩
  ·obtain⟨d,y,as,a,b,c,z⟩:=yK I rs qs v hv;exact⟨d,y,as,dP _ a,b,c,z⟩
theorem uP{S:eC->Prop}(K:MD n S):∀ (vs:List ae),(∀ v∈vs,∃ d as,S d/\Reads h0 v d as)->∃ fs:List ae,PySem.W.KatTups h0 vs fs/\fs.length=vs.length/\∀ f∈fs,∃ i t,f=Value.int i t
 |[],_=>⟨[],.nil,rfl,λf hf=>nomatch hf⟩
 |v :: vs,h=>by
  obtain⟨fs,f1,f2,f3⟩:=uP K vs λu hu=>h u (dP _ hu);obtain⟨d,as,sd,r⟩:=h v dz;obtain⟨i,xs,rfl,_,_⟩:=K.tup d sd
  cases r with
  |@tuple a o us m _ ZK h1 h2 h3 h4 =>
   obtain⟨us⟩:=us
   cases h4 with
   |cons r rs =>
    cases r with
    |int _ t =>
     exact⟨_ :: fs,.cons h1 h2 h3 rfl f1,by simp[f2],λf hf=>by
      rcases eK.mp hf with rfl|hf
      ·exact⟨_,_,rfl⟩
      ·exact f3 f hf⟩
def MG:ae->V
 |.ref a=>.ref a
 |_=>.non
def xT{S:eC->Prop}(K:MD n S)(sd:S d)(q:RelV y v)(r:Reads h0 v d as):MG v=y:=by
 obtain⟨i,xs,rfl,_,_⟩:=K.tup d sd
 cases r with
 |tuple h1 h2 h3 h4 =>
  cases y with
  |ref b=>cases (q);rfl
  |_=>simp[RelV] at q
theorem uW{S:eC->Prop}(K:MD n S)(I:Inv X pins σ H s):∀ {ds:List eC} {ys:List V} {vs:List ae},b5 X.K H ds ys->Vals ys vs->(∀ d∈ds,S d)->vs.map (λv=>(lU s.heap v,MG v))=ds.zip ys
 |_,_,_,.nil,.nil,_=>rfl
 |_,_,_,.cons r rs,.cons q qs,h=>by obtain⟨as,z⟩:=r.reads I q;have sd:=h _ dz;obtain⟨_,_,_,l,_⟩:=K.tup _ sd;rw[gS,fZ z l,xT K sd q z,uW K I rs qs λd hd=>h d (dP _ hd),NC]
def nO(K:aE)(n:Nat)(S:eC->Prop):List V->Hp->VK->Prop:=λxs H Q=>match xs with
 |[.ref p]=>∃ ys ds,gd K H p ys/\b5 K H ds ys/\(∀ d∈ds,S d)/\∀ (ps:List (eC × V)) l,ps.Perm (ds.zip ys)->(ps.Pairwise λa b=>d4 (n+1) b.1 a.1=false)->H l=none->Q (.ref l) (upd H l (.lst (ps.map (·.2))))
 |_=>False
def vW {S:eC->Prop} (K:MD n S) (hu:X.A.units+n+40<fE):kL X (.builtin "sorted") (nO X.K n S):=by
 walk_at"f";unfold nO at h;split at h
 ·rename_i p;obtain⟨ys,ds,hl,hr,hS,q⟩:=h;obtain⟨u,rfl,ru⟩:=Vals.one r;cases ru;obtain⟨vs,rv,pl,hz⟩:=I.list hl;have lay:∀ d∈ds,d.canLay0=true:=λd hd=>by obtain⟨_,_,_,l,_⟩:=K.tup d (hS d hd);exact l
  have mem:=yK I hr rv;have hlen:=rv.length;refine xh.pU (κ:=tuples' true) pl.isList (by lia) (λv hv=>?_) (λh2 A' E' s' kp Q' q'=>?_) (λh2 s' kp=>Bc K kp hS (by show X.A.units+1+1+n+31<fE;lia)) λh' out m pm pw kp eo=>?_
  ·obtain⟨d,y,as,a,b,c,z⟩:=mem v hv;exact⟨d,as,a,z⟩
  ·obtain⟨fs,f1,f2,f3⟩:=uP K vs λv hv=>by obtain⟨d,y,as,a,b,c,z⟩:=mem v hv;exact⟨d,as,hS d a,PyProof.Rows.Reads.keeps kp z⟩
   refine Ss (T:=.type "int") f1 (by lia) (λf hf=>?_) (by decide) q';obtain⟨i,t,rfl⟩:=f3 f hf;exact .now
  ·have back:∀ v∈out,∃ d y as,d∈ds/\Rep X.K H d y/\RelV y v/\Reads s.heap v d as:=λv hv=>mem v (pm.mem_iff.mp hv);have rel:∀ l:List ae,(∀ v∈l,v∈out)->Vals (l.map MG) l:=by
    intro l
    induction l with
    |nil=>exact λ_=>.nil
    |cons v l ih =>intro hm;obtain⟨d,y,as,a,b,c,z⟩:=back v (hm v dz);exact .cons (by rw[xT K (hS d a) c z];exact c) (ih λu hu=>hm u (dP _ hu))
   have z2:=rel out λ_ h=>h;have ol:=pm.length_eq;have e2:(out.map λv=>(lU s.heap v,MG v)).map (·.2)=out.map MG:=by rw[fN];rfl
   have q':=q (out.map λv=>(lU s.heap v,MG v)) (s.heap.objs.size+1) (by rw[<- uW K I hr rv hS];exact pm.map _) ?_ (I.cy.fresh (FT _))
   ·rw[e2] at q';exact⟨.ref (s.heap.objs.size+1),_,I.laid kp (FT _) (show lI X.prog X.w _ h' _ (.lst (out.map MG)) from⟨by rw[cx];lia,out,m,z2,eo⟩),rfl,q'⟩
   rw[kC];refine pw.imp_of_mem λ{x y} mx my hle=>?_;obtain⟨d,_,as,md,_,_,rd⟩:=back x mx;obtain⟨e,_,bs,me,_,_,re⟩:=back y my;rw[fZ rd (lay d md),fZ re (lay e me)] at *
   have:=Dt K.ah hS me (hS d md);rw[<- this];exact decide_eq_false (by lia)
 ·exact h.elim
end
end L2
namespace L2.Q
open PySem.SeqAt
section
variable {X:Cx}{K:aE}{Hs H:Hp}
def jb(xs:List D):oz xs=xs.map D.py:=by
 induction xs with
 |nil=>rfl
 |cons x xs ih=>rw[oz,ih];rfl
def Bu:∀ {vs:List V},b5 K H xs vs->∀ p∈xs.zip vs,Rep K H p.1 p.2:=by
 induction xs with
 |nil=>intro vs r p hp;simp at hp
 |cons x xs ih =>
  intro vs r p hp;obtain⟨u,us,rfl,r1,rs⟩:=r.c;rcases eK.mp hp with rfl|hp
  ·exact r1
  ·exact ih rs p hp
def v9(l:List (D × V))(h:∀ p∈l,Rep K H p.1 p.2):b5 K H (l.map (·.1)) (l.map (·.2)):=by
 induction l with
 |nil=>exact .nil
 |cons p l ih=>exact .cons (h p dz) (ih λq hq=>h q (dP _ hq))
def CK(n:Nat)(S:eC->Prop):W1:=λm x Q=>match x with
 |.list xs=>m=.sh/\(∀ d∈xs,dc 12 d=true/\S d.py)/\∀ ms:List D,ms.Perm xs->(ms.Pairwise λa b=>d4 (n+1) b.py a.py=false)->Q (.ow false) (.list ms)
 |_=>False
def Cr{S:eC->Prop}:BI K (nO K n S) (CK n S):=by
 walk_at"e";have r1:=rx.rep w
 cases r1 with
 |@list _ _ UY z s q =>
  obtain⟨rfl,hS,h⟩:=h;obtain⟨_,rx⟩:=rx
  cases rx with
  |@list _ gE _ z' s' q' =>
   have hl:=q'.length;have ez:(oz UY).zip gE=(UY.zip gE).map λp=>(p.1.py,p.2):=by rw[jb,List.zip_map_left];rfl
   refine⟨_,oz UY,bP.seq w.sub s',Rep.W4.2 (q'.same w.sub) 12 λd hd=>(hS d hd).1,λd hd=>?_,λps l hp hw hn=>?_⟩
   ·rw[jb] at hd;obtain⟨e,he,rfl⟩:=cw.mp hd;exact(hS e he).2
   ·obtain⟨m',rfl,pm⟩:=TS.fD hp ez;have p1:(m'.map (·.1)).Perm UY:=by have:=pm.map (·.1);rwa[SJ (S4 hl)] at this
    have rr:=v9 m' λp hp=>Bu q' p (pm.mem_iff.mp hp);rw[show(m'.map λp=>(p.1.py,p.2)).map (·.2)=m'.map (·.2) by rw[fN];rfl];refine f.Rl w (by rw[p1.length_eq];lia) rr (h _ p1 ?_) l hn;rw[kC] at hw ⊢;exact hw
 |_=>exact h.elim
def HQ {S:eC->Prop} (KS:MD n S) (hu:X.A.units+n+40<fE) (hK:autoParam (X.K=K) bv):kL X (.builtin "sorted") (nO K n S):=by subst hK;exact vW KS hu
end
end L2.Q
namespace L2
open PySem.SeqAt
section
variable {X:Cx}
def Gu(K:aE):V->List V->Hp->VK->Prop:=λx xs H Q=>∃ l ys ds y d,∃ j:Nat,x=.ref l/\xs=[y]/\gd K H l ys/\b5 K H ds ys/\Rep K H d y/\(∀ e∈ds,e.canLay0=true/\e.depth<=20)/\d.canLay0=true /\ (∃ e,ds[j]? = some e/\PyData.eqv e d=true)/\(∀ (m:Nat) e,m<j->ds[m]? = some e->PyData.eqv e d=false)/\Q (.int j) H
def BZ (hu:X.A.units+64<fE):Wa X "list.index" (Gu X.K):=by
 intro pins s σ H x vs v us Q I rx rv h;obtain⟨l,ys,ds,y,d,j,rfl,rfl,hl,hr,hd,hS,ld,⟨e,ej,eq⟩,GV,q⟩:=h;cases rx;obtain⟨u,rfl,ru⟩:=Vals.one rv;obtain⟨its,rv',pl,hz⟩:=I.list hl;obtain⟨as,rd⟩:=hd.reads I ru;obtain⟨bs,ra⟩:=b5.reads I hr rv';have len:its.length=ds.length:=ReadsAll.length _ _ _ ra;have at':∀ m v,its[m]? = some v->∃ e cs,ds[m]? = some e/\Reads s.heap v e cs/\lU s.heap v=e:=λm v hv=>by obtain⟨e,cs,h1,h2⟩:=cX ra m v hv;exact⟨e,cs,h1,h2,fZ h2 (hS e (mB h1)).1⟩
 have jl:j<ds.length:=(iF.mp ej).1;have jl':j<its.toArray.size:=by rw[jI];lia
 have zs:bI<2 ^ 62:=by rw[kU];decide
 have hlen:=rv'.length;obtain⟨⟨cls,dd,data,sl⟩,ho,hc,n,hdt⟩:=id pl.isList;subst hc hdt;refine call_meets F.slot_list_index ⟨_,ho,rfl⟩ F.entry_list_index (F.args_list_index_2 _ _) (list_indexAt l its.toArray n dd sl u (λv=>PyData.eqv (lU s.heap v) d) j jl' (by lia) ?_ λm hm h'=>?_) ⟨ho,λv hv=>?_,⟨.int j,H,I.tok _,⟨_,rfl⟩,q⟩⟩
 ·obtain⟨e',cs,h1,_,h3⟩:=at' j its.toArray[j] (by simp at jl' ⊢);rw[h3];rw[ej] at h1;cases h1;exact eq
 ·obtain⟨e',cs,h1,_,h3⟩:=at' m its.toArray[m] (by simp at hm ⊢);rw[h3];exact GV m e' h' h1
 ·obtain⟨m,hm⟩:=IZ.mp (by simpa using hv);obtain⟨e',cs,h1,h2,h3⟩:=at' m v hm;rw[h3];have:=hS e' (mB h1);exact eqAt_reads e' d X.A.in1 s _ _ _ _ h2 rd this.1 ld (by show X.A.units+1+_<fE;lia)
end
end L2
namespace L2.Q
open PySem.SeqAt
end L2.Q
namespace L2.Q.R
open PySem.SeqAt
end L2.Q.R
namespace L2
open PySem.SeqAt
section
variable {X:Cx}
def FQ(K:aE):R2:=λx y H Q=>∃ l xs n,x=.ref l/\y=.int n/\gd K H l xs/\0<=n/\n<=4000/\xs.length<=1000/\∀ p,H p=none->Q (.ref p) (upd H p (.lst (List.replicate n.toNat xs).flatten))
def Bf(h:Vals xs vs)(k:Nat):Vals (List.replicate k xs).flatten (List.replicate k vs).flatten:=by
 induction k with
 |zero=>exact .nil
 |succ k ih=>rw[FH,FH,I0,I0];exact h.append ih
def uG{α:Type}(xs:List α)(k:Nat):(List.replicate k xs).flatten.length=xs.length*k:=by
 induction k with
 |zero=>rfl
 |succ k ih=>rw[FH,I0,i6,ih,Nat.mul_succ];lia
def DR:fi X (rX .Mult) (FQ X.K):=by
 walk_at"b";obtain⟨l,xs,n,rfl,rfl,hH,h0,h1,h2,q⟩:=h;cases rx;obtain⟨t,rfl⟩:=ry;obtain⟨its,r,pl,z⟩:=I.list hH;have hl:=r.length;obtain⟨⟨cls,dd,data,sl⟩,ho,hc,k,hd⟩:=id pl.isList;subst hc hd;have hm:its.toArray.size*n.toNat<=1000*4000:=NJ (by rw[jI];lia) (by lia);have gL:=kU;refine wpAny_binaryOp_repeat_ref (by decide) ⟨_,ho,rfl⟩ (λs'=>typeIs_int s' n t) noFill_list_mul PySem.F.fills_int_mul PySem.F.slot_int_rmul repeat_list PySem.F.slot_int_index.lookup (call_meets PySem.F.slot_int_rmul (typeIs_int s n t) PySem.F.entry_int_rmul (PySem.F.args_int_rmul_2 _ _) (lm_int_rmul_list_any n t l its.toArray k dd sl) ⟨ho,rfl,⟨_,ho,rfl⟩,call_meets PySem.F.slot_list_mul ⟨_,ho,rfl⟩ PySem.F.entry_list_mul (PySem.F.args_list_mul_2 _ _) (lm_list_mul_any l its.toArray k dd sl n t (by simp[Builtin.List.listFitsIndex];lia) (by lia) (by simp only[Builtin.List.listTooLong,decide_eq_true_eq];lia)) ⟨ho,?_⟩⟩)
 rw[listMul_foldl_if];exact⟨.ref _,_,I.Wg (Bf r _) (by
  rw[uG];have:xs.length*n.toNat<=1000*4000:=NJ h2 (by lia);lia),rfl,q _ I.fresh⟩
end
def iP.sub{S U:eC->Prop}(T:iP lt S)(h:∀ x,U x->S x):iP lt U :=
 ⟨λx a=>T.sM x (h x a),λx y z a b c=>T.tr x y z (h x a) (h y b) (h z c),λx y a b=>T.ah x y (h x a) (h y b),λx y a b=>T.eqv x y (h x a) (h y b)⟩
def eU(p:Str × Int):eC:=.tuple [.str p.1,.int p.2]
def xo(x:eC):Prop:=∃ (i:Int) (ps:List (Str × Int)),x=.tuple [.int i,.list (ps.map eU)]/\∀ p∈ps,PyData.strOk p.1=true
def El(p q:Str × Int):sL 1 (eU p) (eU q):=by
 unfold eU;intro j x y hx hy _
 match j with
 |0=>cases hx;cases hy;rw[sL];trivial
 |1=>cases hx;cases hy;rw[sL];trivial
 |j+2=>simp at hx
def Gs(ps:List (Str × Int))(h:∀ p∈ps,PyData.strOk p.1=true):PyData.canLayAll0 (ps.map eU)=true/\PyData.depthAll (ps.map eU)<=2:=by
 induction ps with
 |nil=>exact⟨rfl,by simp[PyData.depthAll]⟩
 |cons p ps ih =>
  have ih:=ih λq hq=>h q (dP _ hq);have hp:=h p dz;rw[gS];constructor
  ·simp only[PyData.canLayAll0,n5];refine⟨?_,ih.1⟩;simp[eU,PyData.canLay0,PyData.canLayAll0,hp]
  ·have h2:=ih.2;simp only[PyData.depthAll];have:(eU p).depth<=2:=by simp[eU,PyData.depth,PyData.depthAll]
   lia
def UZ:MD 2 xo where
 ah:=((iP.pair (iP.int 2) (iP.list (iP.pair (iP.str 0) (iP.int 0)))).sub) λx ⟨i,ps,e,_⟩=>⟨_,_,e,⟨i,rfl⟩,_,rfl,λy hy=>by
  obtain⟨p,_,rfl⟩:=cw.mp hy;exact⟨_,_,rfl,⟨_,rfl⟩,_,rfl⟩⟩
 tup:=by
  rintro x ⟨i,ps,rfl,h⟩;have:=Gs ps h;refine⟨i,_,rfl,?_,?_⟩
  ·simp[PyData.canLay0,PyData.canLayAll0,this.1]
  ·simp only[PyData.depth,PyData.depthAll];lia
 len:=by rintro xs ys ⟨i,ps,e,_⟩ ⟨j,qs,e2,_⟩;cases e;cases e2;rfl
 cm:=by
  rintro x y ⟨i,ps,rfl,_⟩ ⟨j,qs,rfl,_⟩;rw[sL];intro k x y hx hy _
  match k with
  |0=>cases hx;cases hy;rw[sL];trivial
  |1 =>cases hx;cases hy;rw[sL];intro k x y hx hy _;obtain⟨p,_,rfl⟩:=cw.mp (mB hx);obtain⟨q,_,rfl⟩:=cw.mp (mB hy);exact El p q
  |k+2=>simp at hx
end L2
namespace L2.Q
open PySem.SeqAt
section
variable {X:Cx}{K:aE}{a b:Expr}{ta tb:WE}{pos:Pos}
def Ca:W2:=λ_ x _ y Q=>match x with
 |.list xs=>match y with
  |.int n=>(0<=n/\n<=4000/\xs.length<=1000)/\eJ xs=true/\Q (.ow true) (.list (List.replicate n.toNat xs).flatten)
  |_=>False
 |_=>False
def z7(h:b5 K H xs vs)(k:Nat):b5 K H (List.replicate k xs).flatten (List.replicate k vs).flatten:=by
 induction k with
 |zero=>exact .nil
 |succ k ih=>rw[FH,FH,I0,I0];exact h.append ih
def wR(h:eJ xs=true)(k:Nat):eJ (List.replicate k xs).flatten=true:=by
 induction k with
 |zero=>rfl
 |succ k ih=>rw[FH,I0,fW,h,ih];rfl
def Ed:ng K (FQ K) Ca:=by
 walk_at"a";have r1:=rx.rep w;have r2:=ry.rep w
 cases r1 with
 |list z s q=>cases r2 with
  |int n =>obtain⟨⟨h0,h1,h2⟩,fl,h⟩:=h;have hl:=q.length;refine⟨_,_,_,rfl,rfl,s,h0,h1,by lia,?_⟩;refine f.lst w ?_ (z7 q _) (wR fl _) h;rw[uG,kU];have:List.length _*n.toNat<=1000*4000:=NJ h2 (by lia);exact jS this (by decide)
  |_=>exact h.elim
 |_=>exact h.elim
def K7(hK:autoParam (X.K=K) bv):fi X (rX .Mult) (FQ K):=by subst hK;exact DR
def I_(ha:QE X K a ta)(hb:QE X K b tb)(hK:autoParam (X.K=K) bv):QE X K (.BinOp a .Mult b pos) (aw Ca ta tb):=Rn (K7 hK) Ed ha hb
def vd(to te:WE):WE:=λρ Q=>to ρ λ_ x=>match x with
 |.list xs=>te ρ λ_ y=>dc 12 (.list xs)=true/\dc 12 y=true/\∃ j:Nat,(∃ z,xs[j]? = some z/\js z y=true)/\(∀ (i:Nat) z,i<j->xs[i]? = some z->js z y=false)/\Q .sh (.int j)
 |_=>False
def Eo(ho:QE X K o to)(he:QE X K e te)(hK:autoParam (X.K=K) bv) (A9:autoParam (EA o "index" X.env (eI o X.env)=eI o X.env) bv) (Bi:autoParam (((ny fm (df [e] X.env)).all (λx=>!x.1) && (backToKw fm (IX [] X.env)).all (λx=>x.1.isSome)
   && decide ([e].length+([]:List wc).length+(if ([]:List wc).isEmpty then 0 else 1)<30))=true) bv)
  (hline:autoParam ((apos.endLine == fm.line)=true) bv) (Iy:autoParam (df (e :: []) X.env=(false,eI e X.env) :: df [] X.env) bv) (Lc:autoParam ((ny fm (df [] X.env)).any (·.1)=false) bv) (hu:X.A.units+64<fE:=by assumption) :
  QE X K (.Call (.Attribute o "index" apos) [e] [] fm) (vd to te):=by
 subst hK;refine PE.imp (TQ PySem.F.plainAttrs_list PySem.F.slot_list_index PySem.F.type_list_index (BZ hu) ho (wt he A8 Iy) A9 Bi hline Iy Lc) λσ H Qv hx=>k7 hx λHs ρ ah Q sr h f=>?_;walk_at"d";have r:=r1.rep g1.wf
 cases r with
 |list hz s rs =>
  refine⟨.inl ⟨rfl,_,s⟩,aT,ρ,ah,_,sr.grow g1,q1,λy H2 aS m2 x2 iO g2 r2 f2 q2=>?_⟩;obtain⟨o1,o2,j,⟨z,ez,eq⟩,GV,q⟩:=q2;have rr:=(r1.grow g2).rep g2.wf
  cases rr with
  |list UW s' ZM =>
   have l2:=ju 12 _ o2;have o1':∀ d∈_,dc 11 d=true:=AX.mp (o1);refine⟨_,_,_,_,_,j,rfl,rfl,s',Rep.W4.2 ZM 11 o1',(r2.rep g2.wf).l2 o2,λe he=>?_,l2.1,⟨z.py,?_,eq⟩,λm e hm he=>?_,Fin.sh (Fin.after f (g1.trans g2)) g2.wf (.int _) q⟩
   ·rw[jb] at he;obtain⟨d,hd,rfl⟩:=cw.mp he;have:=ju 11 d (o1' d hd);exact⟨this.1,by lia⟩
   ·rw[jb,nK,ez];rfl
   ·rw[jb,nK] at he;obtain⟨d,hd,rfl⟩:=N0.mp he;exact GV m d hm hd
 |_=>exact q1.elim
abbrev zL:W1:=CK 2 xo
def Hy (hK:autoParam (X.K=K) bv) (hu:X.A.units+64<fE:=by assumption):kL X (.builtin "sorted") (nO K 2 xo):=HQ UZ (by lia) hK
def Ab:BI K (nO K 2 xo) zL:=Cr
end
end L2.Q
namespace L2.Q.R
open PySem.SeqAt
section
variable {Q:Md->L2.Q.D->Prop}{m m':Md}{x y:L2.Q.D}{xs:List L2.Q.D}{to' te:WE}{ρ:Env}{a:Int}
def MP:Ca m (.list xs) m' (.int a) Q=((0<=a/\a<=4000/\xs.length<=1000)/\eJ xs=true/\Q (.ow true) (.list (List.replicate a.toNat xs).flatten)):=rfl
def Kc:vd to' te ρ Q=to' ρ λ_ x=>dy x (f:=λx=>yA x λxs=>te ρ λ_ y=>dc 12 (.list xs)=true/\dc 12 y=true/\∃ j:Nat,(∃ z,xs[j]? = some z/\js z y=true)/\(∀ (i:Nat) z,i<j->xs[i]? = some z->js z y=false)/\Q .sh (.int j)) ⟨⟩:=by unfold vd dy yA;rfl
def Kr:zL m (.list xs) Q=(m=.sh/\(∀ d∈xs,dc 12 d=true/\xo d.py)/\∀ ms:List L2.Q.D,ms.Perm xs->(ms.Pairwise λa b=>PySem.SeqAt.d4 3 b.py a.py=false)->Q (.ow false) (.list ms)):=rfl
end
end L2.Q.R
namespace L2
def jM(K:aE):V->Hp->VK->Prop:=λx H Q=>match x with
 |.ref p=>∃ ks:List Key,gd K H p (ks.map kV)/\ks.length<=1000/\∀ ms:List Key,ms.Nodup->(∀ k,k∈ms↔k∈ks)->Q (.int ms.length) H
 |_=>False
section
variable {X:Cx}{e:Expr}{te:TE}{p p2 pos mw:Pos}
def vZ (hc:X.calm=true) (hg:Gl X "len") (hm:X.mg "len" = none) (yT:Gl X "set") (pT:X.mg "set" = none) (he:PE X e te)(hv:kQ "len" = some (.builtin "len")) (RL:kQ "set" = some (.type "set"))(ot:autoParam (df [e] X.env=(false,eI e X.env) :: df [] X.env) bv) (hs:autoParam (df [.Call (.Name "set" p2) [e] [] mw] X.env=(false,eI (.Call (.Name "set" p2) [e] [] mw) X.env) :: df [] X.env) bv) :
  PE X (.Call (.Name "len" p) [.Call (.Name "set" p2) [e] [] mw] [] pos) (TC (jM X.K) te):=by
 intro pins s σ H Q I h;refine Ee (CL I hg hm hv ?_ (by decide) (by decide));refine PyProof.Rows.callWith_builtin1 ?_ hs rfl;refine Calls.spliced_cons ?_;refine Ee (CL I yT pT RL ?_ (by decide) (by decide));refine PyProof.Rows.callWith_type1 ?_ ot rfl;rw[ot];walk_at"h";have q1:jM X.K x H1 Q:=q1;obtain⟨a,rfl⟩:∃ a,x=.ref a:=by
  unfold jM at q1;split at q1
  ·exact⟨_,rfl⟩
  ·exact q1.elim
 obtain⟨ks,hl,PX,q⟩:=q1;cases r1;obtain⟨vs,rv,pl,hz⟩:=I1.list hl;obtain⟨xs,ex,ek,hx⟩:=mZ rv;have EX:X.A.handled=none:=I1.ok.hd hc;have hlen:xs.length=ks.length:=by rw[<- ek,cx]
 have vx:∀ p∈xs,(kK X.prog X.w).is p.1 p.2=true:=λp hp=>by
  obtain⟨k,v⟩:=p;have r:=hx _ hp;rw[an']
  cases k with
  |inl i=>obtain⟨t,e⟩:=r;rw[show v=_ from e];exact VC ..
  |inr x=>obtain⟨t,e⟩:=r;rw[show v=_ from e];exact VD ..
 refine TS.ie EX pl.isList (by simpa using ex) vx (by lia) pG λh2 tk eS S m1 m2 kp=>?_;refine Calls.spliced_nil ?_;obtain⟨⟨o,es,ep,t,ho,hex,hd,T,hM,hL,BU⟩,nd,is⟩:=S;have cY':eS.length<=1000:=by
  have:=TS.bH nd (m:=ks) λk hk=>by rw[<- ek];exact(m1 k).mp hk
  rw[cx] at this;lia
 have RN:es.size=eS.length:=by have:=congrArg List.length BU;simpa using this
 refine call_len_set ho hex hd T.fits (by lia) ?_;have I2:Inv X pins σ H1 { s1 with heap:=h2,toks:=tk+1+1 }:=I1.kept kp;refine⟨.int eS.length,H1,I2,⟨_,by rw[RN]⟩,?_⟩;have:=q (eS.map (·.1)) nd λk=>by rw[m1,ek]
 rwa[cx] at this
end
end L2
namespace L2.Q
section
variable {X:Cx}{K:aE}{a b c e:Expr}{ta tb te:WE}{pos p p2 mw:Pos}
def n8:W1:=λ_ x Q=>match x with
 |.list xs=>∃ ks:List Key,xs=ks.map nk/\ks.length<=1000/\∀ ms:List Key,ms.Nodup->(∀ k,k∈ms↔k∈ks)->Q .sh (.int ms.length)
 |_=>False
def zA:Pt K (jM K) n8:=by
 walk_at"e";have r1:=rx.rep w
 cases r1 with
 |list z s q =>obtain⟨ks,rfl,hz,h⟩:=h;obtain⟨e,ok⟩:=n6 q;subst e;exact⟨ks,s,hz,λms nd mm=>f.sh w (.int _) (h ms nd mm)⟩
 |_=>exact h.elim
def Cq (hg:Gl X "len") (hm:X.mg "len" = none) (yT:Gl X "set") (pT:X.mg "set" = none) (he:QE X K e te) (hc:autoParam (X.calm=true) bv) (hK:autoParam (X.K=K) bv) (ot:autoParam (df [e] X.env=(false,eI e X.env) :: df [] X.env) bv) (hs:autoParam (df [.Call (.Name "set" p2) [e] [] mw] X.env=(false,eI (.Call (.Name "set" p2) [e] [] mw) X.env) :: df [] X.env) bv) :
  QE X K (.Call (.Name "len" p) [.Call (.Name "set" p2) [e] [] mw] [] pos) (f7 n8 te):=by
 subst hK;exact PE.imp (vZ hc hg hm yT pT he dD uO ot hs) λσ H Qv ⟨Hs,ρ,ah,Q,sr,h,fin⟩=>⟨Hs,ρ,ah,_,sr,h,λv H1 aT m x As g1 r1 f1 q1=>zA aT H1 m x v As Q Qv g1.wf r1 q1 (Fin.after fin g1)⟩
def U0(ta tb:WE):WE:=λρ Q=>ta ρ λm x=>m=.ow true/\match x with
 |.list xs=>tb ρ λ_ y=>intD y λk=>∃ d,L2.gi xs k=some d/\Q (RV d) d
 |_=>False
def Kg(ha:QE X K a ta)(hb:QE X K b tb)(hs:TL b:=by exact λ_ _=>rfl)(hK:autoParam (X.K=K) bv):QE X K (.Subscript a b pos) (U0 ta tb):=by
 refine PE.imp (Wb (kIx hK) ha hb hs) λσ H Qv hx=>k7 hx λHs ρ ah Q sr h f=>?_;walk_at"d";obtain⟨rfl,q1⟩:=q1;obtain⟨r1,ne⟩:=r1
 cases r1 with
 |sh _ r=>exact absurd rfl ne
 |@list a vs xs As z e rs =>
  refine⟨aT,ρ,ah,_,sr.grow g1,q1,λu H2 aS m2 y Bs g2 r2 f2 q2=>?_⟩;have ry:=r2.rep g2.wf
  cases ry with
  |int k =>
   obtain⟨d,e3,q⟩:=q2;obtain⟨j,ej,ed⟩:=Hj e3;have nd:As.Nodup:=(ly.mp f1.1).2;obtain⟨w,B,ew,mN,sB,_⟩:=rs.at ed nd;have r3:=mN.grow g2.sh g2.all;refine .inl ⟨vs,w,.inl (.inl (g2.all _ _ e)),vX (by rw[<- rs.length];exact ej) ew,?_⟩
   cases hf:d.flat with
   |true =>rw[RV,hf] at q;exact f w H2 aS .sh d [] (g1.trans g2) ⟨rfl,(r3.rep g2.wf.sub λ_ _=>rfl).fH g2.wf.lP hf⟩ ⟨qk,λ_ h=>yk h⟩ q
   |false =>rw[RV,hf] at q;refine f w H2 aS (.ow true) d B (g1.trans g2) ⟨r3,r3.ne hf⟩ ⟨sB.nodup nd,λc hc=>?_⟩ q;have:=f1.2 c (dP _ (sB.subset hc));exact⟨g2.mS this.1 (mN.own c hc).ne,this.2⟩
  |_=>exact q2.elim
 |_=>exact q1.elim
def SR.view(G:Hp)(s:bP Hs H)(r:SR K Hs H ρ σ ah):SR K H G (ρ.map (Option.map Rv)) σ []:=by
 induction r with
 |nil=>exact .nil
 |non _ ih=>exact .non ih
 |sh r _ ih=>exact .sh (r.same s) ih
 |xc _ ih=>exact .xc ih
 |ow _ r _ ih=>exact .sh (r.rep s λ_ _=>rfl) ih
 |lk _ r _ ih=>exact .sh (r.rep s λ_ _=>rfl) ih
 |ob _ _ ih=>exact .xc ih
def U4(i j:Nat)(hs xs:List D)(ρ:Env):Env:=(ρ.set j none).set i (some (.ow true (.list (hs++[.list xs]))))
def ZP(i j:Nat)(hs xs:List D)(ρ:Env):Env:=((U4 i j hs xs ρ).map (Option.map Rv)).set j (some (.sh (.list xs)))
def kG'(o:Option Sl)(k:Sl->Prop):Prop:=match o with
 |some s=>k s
 |none=>False
def xP(i j:Nat)(te:WE):WS:=λE ρ=>MA ρ[i]? λhs=>MA ρ[j]? λxs=>eJ xs=true/\hs.length<bI /\
 te (ZP i j hs xs ρ) λm d=>kG' (asg (Iq m d) d) λsl=>E.nx ((U4 i j hs xs ρ).set j (some sl))
def Ax(hN:X.N.Nodup)(hj0:X.N[j]? = some x)(hx:Loc X.env.scope x)(hi:PE X a (GB i))(hj:PE X b (GB j))(he:QE X K e te)(ke:i≠j:=by decide)(hK:autoParam (X.K=K) bv) (s1:autoParam (rV (.Call (.Attribute a "append" p1) [b] [] p2) none pos.line X.env=pure false) bv) (b1:autoParam (EA a "append" X.env (eI a X.env)=eI a X.env) bv) (f1:autoParam (((ny p2 (df [b] X.env)).all (λx=>!x.1) && (backToKw p2 (IX [] X.env)).all (λx=>x.1.isSome) && decide ([b].length+([]:List wc).length+(if ([]:List wc).isEmpty then 0 else 1)<30))=true) bv) (l1:autoParam ((p1.endLine == p2.line)=true) bv) (t1:autoParam (df (b :: []) X.env=(false,eI b X.env) :: df [] X.env) bv) (q1:autoParam ((ny p2 (df [] X.env)).any (·.1)=false) bv) (hs:autoParam (rV e (some (.Name x p3)) pos'.line X.env=pure false) bv) (hf:X.fn x=true\/X.env.scope.names.lookup x=some .local:=by first|exact .inl rfl|exact .inr rfl|assumption) :
  AB X K L [.Expr (.Call (.Attribute a "append" p1) [b] [] p2) pos,.Assign [.Name x p3] e pos'] (xP i j te):=by
 subst hK;refine n9.imp (aH' (Qz (TQ PySem.F.plainAttrs_list PySem.F.slot_list_append PySem.F.type_list_append Wh hi (wt hj A8 t1) b1 f1 l1 t1 q1) s1) (aI' (Ts hN hj0 hx he hs hf))) λD σ H hx=>bY hx λHs ρ ah E sr h k1 k2 k3 k4=>?_
 obtain⟨hs,ei,h⟩:=Dd h;obtain⟨xs,ej,fl,PX,h⟩:=Dd h;obtain⟨a,ws,c,vs,fo,u1,u2,u3,u4,u5,u6,u7,iN⟩:=Eh ke sr ei ej fl PX;refine⟨_,u1,.inl ⟨rfl,_,.inl (.inl u2)⟩,_,u4,a,ws,_,rfl,rfl,u2,u3,?_⟩;have rc:Rep X.K (upd H a (.lst (ws++[.ref c]))) (.list xs) (.ref c):=.list u7 (.inl (.inl u5)) (u6.same iN.wf.sub);have v0:=SR.view (upd H a (.lst (ws++[.ref c]))) iN.wf.sub iN.sr;obtain⟨t,st,v1⟩:=v0.zO rc j;have e0:σ.set j (some (.ref c))=σ:=by
  apply FI;intro m;by_cases hm:j=m
  ·subst hm;rw[Vj (by have:=(iF.mp u4).1;exact this),u4]
  ·rw[Qb hm]
 rw[e0] at v1;have et:t=[]:=List.eq_nil_of_subset_nil st.subset;subst et;refine⟨upd H a (.lst (ws++[.ref c])),_,[],_,⟨v1,⟨bP.refl _,λ_ _ z=>z⟩,qk,λ_ h=>yk h⟩,h,λv H1 aT m d As g1 r1 f1 q1=>?_⟩;obtain⟨iX,r',fr⟩:=sH iN.wf g1.sh g1.wf r1 f1.1 λa ha=>(f1.2 a ha).1;have gb:=iy iN.wf g1.sh g1.wf
 cases ea:asg (Iq m d) d with
 |none=>rw[ea] at q1;exact q1.elim
 |some sl =>rw[ea] at q1;obtain⟨dE,s'⟩:=(iN.grow gb).set j r' fr.1 (λa ha=>⟨(fr.2 a ha).1,λm=>(iN.sr.own a m).ne (fr.2 a ha).2⟩) ea;exact k1 _ H1 _ _ dE gb.sh s' q1
end
end L2.Q
namespace L2.Q.R
section
variable {Q:Md->L2.Q.D->Prop}{m:Md}{x y:L2.Q.D}{xs:List L2.Q.D}{ta tb te:WE}{ρ:L2.Q.Env}{E:jD}{i j:Nat}
def J1:n8 m (.list xs) Q = ∃ ks:List Key,xs=ks.map nk/\ks.length<=1000/\∀ ms:List Key,ms.Nodup->(∀ k,k∈ms↔k∈ks)->Q .sh (.int ms.length):=rfl
def Pa:U0 ta tb ρ Q=ta ρ λm x=>m=.ow true/\dy x (f:=λx=>yA x λxs=>tb ρ λ_ y=>dy y (f:=λy=>intD y λk=>∃ d,L2.gi xs k=some d/\dy d (f:=λd=>Q (RV d) d) ⟨⟩) ⟨⟩) ⟨⟩:=by unfold U0 dy yA;rfl
def Lq:xP i j te E ρ=dy ρ[i]? (f:=λo=>MA o λhs=>dy ρ[j]? (f:=λo=>MA o λxs=>eJ xs=true/\hs.length<bI /\
 te (ZP i j hs xs ρ) λm d=>dy (asg (Iq m d) d) (f:=λo=>put o λsl=>E.nx ((U4 i j hs xs ρ).set j (some sl))) ⟨⟩) ⟨⟩) ⟨⟩:=rfl
end
end L2.Q.R
namespace L2
section
variable {X:Cx}{o i value:Expr}{pos pos':Pos}{td ty tv:TE}
def J8(td ty tv:TE):TS:=λD σ H=>tv σ H λv H1=>td σ H1 λx H2=>ty σ H2 λy H3=>∃ a xs,∃ j:Int,x=.ref a/\y=.int j/\H3 a=some (.lst xs)/\0<=j/\j<xs.length/\D.nx σ (upd H3 a (.lst (xs.set j.toNat v)))
def BJ(r:RelV v u)(h:Vals xs us)(k:Nat):Vals (xs.set k v) (us.set k u):=by
 induction h generalizing k with
 |nil=>exact .nil
 |cons a _ ih =>
  cases k with
  |zero=>exact .cons r ‹_›
  |succ k=>exact .cons a (ih k)
def FN(ho:PE X o td)(hi:PE X i ty)(hv:PE X value tv)(hs:rV value (some (.Subscript o i pos')) pos.line X.env=pure false) :
  PS X (.Assign [.Subscript o i pos'] value pos) (J8 td ty tv):=by
 intro pins s σ H D I h;walk_at"g";obtain⟨y,H3,I3,ry,a,xs,j,ex,ey,g,h0,h1,q3⟩:=eP;subst ex ey;obtain rfl:u=Value.ref a:=rx;obtain⟨t,rfl⟩:=ry;obtain⟨z,its,n,r',hl,e⟩:=I3.QV g;have UT:bI<2 ^ 62:=by rw[kU];decide
 exact PySem.W.ki_setAt e h0 (by lia) (by rw[jI];lia) ⟨σ,_,I3.TR g e (by simp) (BJ rv r' _) (by simpa using z),q3⟩
end
end L2
namespace L2.Q
section
variable {X:Cx}{K:aE}{L:Str->Hp->Prop}{a b c e2:Expr}{p:WP}{tk tv:WE}{pos pos':Pos}
def aA.put(r:cS K Hs H fl d v [])(k:Nat)(q:aA K Hs H fl ds vs As):∃ Bs,Bs.Sublist As/\aA K Hs H fl (ds.set k d) (vs.set k v) Bs:=by
 induction k generalizing ds vs As with
 |zero =>
  cases ds with
  |nil=>obtain⟨rfl,rfl⟩:=q.n0;exact⟨[],List.Sublist.refl _,q⟩
  |cons x ds =>obtain⟨u,us,A,B,rfl,rfl,_,q2⟩:=q.c;exact⟨[]++B,nE _ _,aA.cons r q2⟩
 |succ k ih =>
  cases ds with
  |nil=>obtain⟨rfl,rfl⟩:=q.n0;exact⟨[],List.Sublist.refl _,q⟩
  |cons x ds =>obtain⟨u,us,A,B,rfl,rfl,r1,q2⟩:=q.c;obtain⟨Bs,sb,q3⟩:=ih q2;exact⟨A++Bs,List.Sublist.append (List.Sublist.refl _) sb,aA.cons r1 q3⟩
def Ei(p:WP)(tk tv:WE):WS:=λE ρ=>tv ρ λ_ x=>p ρ λfl d up=>tk ρ λ_ j=>x.flat=true/\R.RX d λxs=>intD j λj=>0<=j/\j<xs.length/\E.nx (up fl (.list (xs.set j.toNat x)))
def F_(ho:QP X K a p)(hi:QE X K b tk)(hv:QE X K c tv)(hs:autoParam (rV c (some (.Subscript a b pos')) pos.line X.env=pure false) bv) :
  QS X K L (.Assign [.Subscript a b pos'] c pos) (Ei p tk tv):=by
 refine PS.imp (FN ho hi hv hs) λD σ H hx=>bY hx λHs ρ ah E sr h k1 k2 k3 k4=>?_;refine⟨Hs,ρ,ah,_,sr,h,λv H1 aT m1 x As1 g1 r1 f1 q1=>⟨aT,ρ,ah,_,sr.grow g1,q1,λu H2 aS fl d up g2 p2 q2=>⟨aS,ρ,ah,_,(sr.grow g1).grow g2,q2,λy H3 fz m3 yd LV g3 r3 f3 q3=>?_⟩⟩⟩;obtain⟨hx,q3⟩:=q3;have rx:Rep K fz x v:=((r1.grow g2).grow g3).flat g3.wf hx;have ry:=r3.rep g3.wf
 cases d with
 |list xs =>
  cases ry with
  |int j =>obtain⟨h0,h1,q3⟩:=q3;obtain⟨a,vs,A,ea,e2,e21,rs,nd,hn,k⟩:=p2.put g3;obtain⟨nA,L8⟩:=ly.mp nd;have hl:=rs.length;have hz0:=p2.short ea e21;obtain⟨B,sb,rb⟩:=aA.put (cS.sh (λ_=>hx) rx) j.toNat rs;refine⟨a,vs,j,ea,rfl,e2,h0,by lia,?_⟩;obtain⟨fo,iN⟩:=k fl _ _ B id rb (by rw[List.length_set];lia) (sb.nodup L8) (λz=>nA (sb.subset z)) (λx hx=>.inl (sb.subset hx));exact k1 _ _ fz _ fo ((g1.sh.trans g2.sh).trans g3.sh) iN q3
  |_=>exact q3.elim
 |_=>exact q3.elim
end
end L2.Q
namespace L2.Q.R
section
variable {tk tv:WE}{ρ:L2.Q.Env}{E:jD}{p:WP}
def MK:Ei p tk tv E ρ=tv ρ λ_ x=>p ρ λfl d up=>tk ρ λ_ j=>x.flat=true/\dy d (f:=λd=>RX d λxs=>dy j (f:=λj=>intD j λj=>0<=j/\j<xs.length/\E.nx (up fl (.list (xs.set j.toNat x)))) ⟨⟩) ⟨⟩:=rfl
end
end L2.Q.R
namespace L2
end L2
namespace L2.Q
section
variable {X:Cx}{K:aE}{e:Expr}{te:WE}{pos:Pos}
def U5(m:Md)(P:Prop):Prop:=match m with
 |.sh=>P
 |_=>False
def Ew(te:WE)(g:WG):WS:=λE ρ=>te ρ λm d=>U5 m (g d ρ E.nx)
def Fp{L:Str->Hp->Prop}{tg:Expr}{g:WG}(he:QE X K e te)(hg:QG X K tg g)(hs:autoParam (swapsWithSole [tg] e pos.line X.env=pure false) bv)(hw:autoParam (swappedStores [tg] e X.env=pure none) bv) (h1:autoParam ((AR [tg] X.env).map (·.2)=[assign tg X.env]) bv) (hK:autoParam (X.K=K) bv):QS X K L (.Assign [tg] e pos) (Ew te g):=by
 subst hK;refine PS.imp (eP' he hg hs hw h1) λD σ H hx=>bY hx λHs ρ ah E sr h k1 k2 k3 k4=>?_;refine⟨Hs,ρ,ah,_,sr,h,λv H1 aT m d As g1 r1 f1 q1=>?_⟩;unfold U5 at q1;split at q1
 ·exact⟨aT,ρ,ah,d,E.nx,sr.grow g1,r1.2,q1,λcK dk dE s _ q=>k1 cK H1 aT dk dE g1.sh s q⟩
 ·exact q1.elim
end
end L2.Q
namespace L2.Q.R
def MF{te:WE}{g:WG}{E:jD}{ρ:L2.Q.Env}:Ew te g E ρ=te ρ λm d=>dy (m,d) (f:=λp=>U5 p.1 (g p.2 ρ E.nx)) ⟨⟩:=rfl
def Mp{P:Prop}:U5 .sh P=P:=rfl
end L2.Q.R
namespace L2.Q
def dq'(o:Option Sl):Bool:=match o with
 |none=>true
 |some (.sh _)=>true
 |_=>false
def h_(ρ:Env):Bool:=ρ.all dq'
section
variable {X:Cx}{K:aE}{L:Str->Hp->Prop}{pos:Pos}{e:Expr}{te:WE}
def SR.h_{Hs H aC H':Hp}{ρ:Env}{σ:St}{ah:List ai}(s:SR K Hs H ρ σ ah)(h:h_ ρ=true)(g:bP Hs aC):SR K aC H' ρ σ []:=by
 induction s with
 |nil=>exact .nil
 |non _ ih=>exact .non (ih h)
 |sh r _ ih=>exact .sh (r.same g) (ih h)
 |_=>simp[L2.Q.h_,dq'] at h
def fw.h_{Hs H:Hp}{ρ:Env}{σ:St}{ah:List ai}(s:fw K Hs ρ σ H ah)(h:h_ ρ=true):fw K H ρ σ H [] :=
 ⟨s.sr.h_ h s.wf.sub,⟨λ_ _ z=>z,λ_ _ z=>z⟩,qk,λ_ m=>nomatch m⟩
def iK(i:Nat)(te:WE):WS:=λE ρ=>te ρ λ_ d=>h_ ρ=true/\E.nx (ρ.set i (some (.sh d)))
def cN(i:Nat){x:Str}{pos':Pos}(he:QE X K e te)(hs:autoParam (rV e (some (.Name x pos')) pos.line X.env=pure false) bv) (hf:X.fn x=true\/X.env.scope.names.lookup x=some .local:=by first|exact .inl rfl|exact .inr rfl|assumption) (hN:X.N.Nodup:=by assumption) (hi:autoParam (X.N[i]? = some x) bv) (hx:Loc X.env.scope x:=by first|exact .inl rfl|exact .inr rfl):QS X K L (.Assign [.Name x pos'] e pos) (iK i te):=PS.imp (Ts hN hi hx he hs hf) λD σ H hx=>bY hx λHs ρ ah E sr h k1 k2 k3 k4=>by
 refine⟨Hs,ρ,ah,_,sr,h,λv H1 aT m d As g1 r1 f1 q1=>?_⟩;obtain⟨a,q1⟩:=q1;obtain⟨dE,s'⟩:=((sr.grow g1).h_ a).set i (m:=.sh) (As:=[]) ⟨rfl,r1.rep g1.wf⟩ qk (λ_ m=>nomatch m) rfl;exact k1 _ H1 H1 _ dE (g1.sh.trans g1.wf.sub) s' q1
end
end L2.Q
namespace L2.Q.R
def Mh{te:WE}{i:Nat}{E:jD}{ρ:L2.Q.Env}:iK i te E ρ=te ρ λ_ d=>dy d (f:=λd=>h_ ρ=true/\E.nx (ρ.set i (some (.sh d)))) ⟨⟩:=rfl
def Lh{ρ:L2.Q.Env}:h_ (none :: ρ)=h_ ρ:=rfl
def Lk{d:L2.Q.D}{ρ:L2.Q.Env}:h_ (some (.sh d) :: ρ)=h_ ρ:=rfl
def Ld:h_ []=true:=rfl
end L2.Q.R
namespace L2.Q
def Za.mk{P:eL}{w:eR}{K:aE}{mg:Str->Option ae}{base:eh}{x:Str}{st:Stmt}{f:ai}{fd:FuncData}{sp:ip}{t:WS}(m:mg x=some (.ref f))(F:DE K x x st f fd)(N:List Str)(n k:Nat)(len:∀ ds Q,sp ds Q->ds.length=n)(hp:∀ ds Q,sp ds Q->t { nx:=λ_=>Q .sh .non,rt:=Q } (aL N.length ds)) (hb:∀ {gI:ae} {A:fq} {outer:List PySem.Env} {s:ay} {H:Hp} {E:XK},{_:oa k (A.deeper (envOfC x (nL st) s.heap.objs.size f gI))}->{_:(A.deeper (envOfC x (nL st) s.heap.objs.size f gI)).units+64<fE}->{_:N.Nodup} -> {_:(CY wx P w K mg base N x (nL st) f gI A outer s H E).GH.env.scope=nL st/\(CY wx P w K mg base N x (nL st) f gI A outer s H E).GH.N=N}->AB (CY wx P w K mg base N x (nL st) f gI A outer s H E).GH K L0 (x8 st) t) (S:QH N (N.take n) (nL st):=by exact⟨rfl,rfl,rfl,by decide +kernel,rfl,by decide +kernel,by decide +kernel⟩) (hl:autoParam ((N.take n).length=n) bv) (bi:∀ (kV doc pm:ae) (an:Option ai) (gI ct:ae) (us:List ae),us.length=(N.take n).length->bindArgs (zC x x (DC st) (x8 st) (nL st) .none kV doc pm an gI ct) ⟨us,[]⟩=pure ((N.take n).zip us):=by
   intro _ _ _ _ _ _ us h;iterate 13 all_goals rcases us with _|⟨_,us⟩<;>first|rfl|(simp at h;done)|skip):Ug P w K mg base (k+1) x (N.take n) (gD K sp)/\Ap P w K mg base wx (k+1) f fd (N.take n) (gD K sp) :=
 have G:=Za.ok F S (λds Q h=>(len ds Q h).trans hl.symm) (λ_ _ _ _ _ _ hr=>@hb _ _ _ _ _ _ hr hr.units S.nd ⟨rfl,rfl⟩) hp
 ⟨F.cal m G bi,G⟩
end L2.Q
end
local macro_rules | `(tactic| walk_at "q") => do
 let nm (s:String):Lean.Ident:=Lean.mkIdent ((s.splitOn ".").foldl Lean.Name.mkStr .anonymous)
 let ds ← ("Ma Pg Ms M7 Kl NP O1 J_ J5 LR MT NQ Mv Mq Pk NT Mz Nb Ot O3 Oz Nh MN Nt N6 Og Pn Ox O8 Np Nv Nu OD Oc Kp Mu M6 IV J9 J3 KC O4 M9 wB_ Od N5 Oh jI' Ph O_ KD Lx wC_ jK' jL' Lg M8 Mh Ni Oa N_ Oo Ny K9 Ka K4 Ly J7 Kh Mt Nf NK NZ MJ N7 Nj OJ Ou Ob Nm Hc Hd MP Kc Kr J1 Pa Lq MK MF Mp Hb Mf Px O7 Oi Oe Oq Pb Pu Oj Mw Ng Mi Ol Kq K6 jM' J4 Mm Nr O5 Py Mj Ln jN' JZ Ov KH Om Mx N8 KJ Nx Mr Nq Lr J0 J2 gN_ gT_ M_ Pj Nk jS' O9 K3 Ow NB Ml Nz L_".splitOn " ").toArray.mapM fun s=>`(Lean.Parser.Tactic.simpLemma| ↓$(nm ("L2.Q.R." ++ s)):ident)
 let us ← ("L2.Q.R.Lh L2.Q.R.Lk L2.Q.R.Ld L2.Q.U4 L2.Q.ZP L2.Q.UK L2.Q.RV L2.Q.wD L2.Q.Fx L2.Q.BG L2.Q.L4 L2.Q.Rr L2.Q.Iq L2.Q.Kv L2.Q.Rw L2.Q.Ru L2.Q.Rv L2.Q.mY L2.Q.Fq L2.Q.asg L2.Q.tP L2.Q.aL L2.Q.D.flat L2.Q.eJ L2.Q.D.HZ L2.Q.D.ty L2.Q.Uw L2.Q.D.key1 L2.Q.gq L2.Q.uZ L2.Q.xm List.length_map List.map_cons List.map_nil List.length_cons List.length_nil List.replicate_succ List.replicate_zero List.cons_append List.nil_append List.append_nil List.getElem?_cons_zero List.getElem?_cons_succ List.getElem?_nil List.set_cons_zero List.set_cons_succ List.all_cons List.all_nil Option.some.injEq Option.join_some Option.map_some Option.map_none Nat.reduceAdd Nat.reduceSub true_and and_true Bool.and_true Bool.true_and Bool.and_false Bool.false_and Bool.not_true Bool.not_false Bool.false_eq_true if_true if_false decide_true decide_false reduceIte cond_true cond_false PySem.sizeLine_eq L2.Q.jE' L2.Q.jF' L2.Q.jG' L2.Q.j6 L2.Q.Ij L2.Q.empty_app Nat.zero_add exists_eq_left' Int.reduceLT Int.reduceLE Int.reducePow Int.reduceNeg Int.reduceToNat Int.reduceAdd Int.reduceMul Int.reduceSub Nat.reduceLeDiff Nat.reduceLT false_or or_false and_self L2.O6".splitOn " ").toArray.mapM fun s=>`(Lean.Parser.Tactic.simpLemma| $(nm s):ident)
 let as:Lean.TSyntaxArray [`Lean.Parser.Tactic.simpStar,`Lean.Parser.Tactic.simpErase,`Lean.Parser.Tactic.simpLemma]:=(ds++us).map fun x=>⟨x.raw⟩
 `(tactic| simp -dsimp only [$as,*])
local macro_rules | `(tactic| walk_at "o") => `(tactic| repeat (refine And.intro (by first | omega | exact ⟨by omega, by omega⟩ | decide) ?_))
section
open PySem PySem.Spec PyProof.Rows
namespace L2.Q.U6
def isLet(c:Nat):Bool:=decide (97<=c/\c<=122)
abbrev abc:Str := "abcdefghijklmnopqrstuvwxyz"
def uQ:sg abc=(List.range 26).map (97 + ·):=by decide +kernel
def Il(h0:0<=i)(h1:i<26):∃ c,gi (sg abc) i=some c/\isLet c=true:=by
 refine⟨97+i.toNat,?_,?_⟩
 ·have:gi (sg abc) i.toNat=some (97+i.toNat):=GY (by
   rw[uQ];have:i.toNat<26:=by lia
   simp[this])
  rwa[tf h0] at this
 ·simp[isLet];lia
def EY(x:Int):∃ c,gi (sg abc) (x % 26)=some c/\isLet c=true:=Il (Qp _ (by decide)) (Qo _ (by decide))
def lets(x:Str):Prop:=∀ c∈sg x,isLet c=true
def Open(x:Str):Prop:=1<=x.length/\x.length<=6/\lets x
def xt (x:Str):Prop:=x = "*"\/Open x
def Cj(hx:lets x)(hy:lets y):lets (x++y):=λc hc=>by rw[Dh] at hc;exact(fe.mp hc).elim (hx c) (hy c)
def Bj(h:isLet c=true):lets ⟨#[c]⟩:=λd hd=>by
 have:d=c:=by simpa[sg] using hd
 rw[this];exact h
def Ao(h:lets x)(lo hi:Option Int):lets (pS x lo hi):=λc hc=>by exact h c (SD (Qe hc))
def jc(c:Nat):(⟨#[c]⟩:Str).length=1:=rfl
def xt.ok(h:xt x):PyData.strOk x=true:=by
 rw[GQ];rcases h with rfl|h
 ·have:sg "*" = [42]:=by decide +kernel
  intro c hc;rw[this] at hc;have:c=42:=by simpa using hc
  lia
 ·intro c hc;have:=h.2.2 c hc;simp[isLet] at this;lia
abbrev Stp:=Int × Str × Int
def kr(s:Stp):List Key:=[.inl s.1,.inr s.2.1,.inl s.2.2]
def b6(s:Stp):D:=.tup [.int s.1,.str s.2.1,.int s.2.2]
def mD(many:Int)(steps:List Stp):D:=.tup [.int many,.list (steps.map b6)]
theorem aV:∀ (l:List Stp),eJ (l.map b6)=true
 |[]=>rfl
 |x :: l=>by simp[eJ,aV l,b6,D.flat]
def xv(many:Int)(s:Stp):Prop:=0<=s.1/\s.1<many/\xt s.2.1/\0<=s.2.2/\s.2.2<many
def zJ(n:Nat)(h:xv many s):dc (n+1) (b6 s)=true:=by have:=h.2.2.1.ok;simp[dc,b6,this]
def tD{many:Int}{l:List Stp}(n:Nat)(h:∀ s∈l,xv many s):dc (n+2) (.list (l.map b6))=true:=by simp only[dc,Jn,AX];intro s hs;exact zJ n (h s hs)
theorem zz:∀ (l:List Stp),oq (l.map b6)=true
 |[]=>rfl
 |x :: l=>by simp[oq,zz l,b6,D.nb]
def D3(many:Int)(l:List Stp):(mD many l).nb=true:=by simp[mD,D.nb,oq,zz]
def eq_self(h:x.nb=true):js x x=true:=(cC x x h h).mpr rfl
def vy(h:b6 s=b6 t):s=t:=by obtain⟨a,b,c⟩:=s;obtain⟨a',b',c'⟩:=t;obtain⟨rfl,rfl,rfl⟩:=h;rfl
theorem uD:∀ {l m:List Stp},l.map b6=m.map b6->l=m
 |[],[],_=>rfl
 |[],_ :: _,h=>by simp at h
 |_ :: _,[],h=>by simp at h
 |x :: l,y :: m,h=>by simp only[gS,List.cons.injEq] at h;rw[vy h.1,uD h.2]
def jU(h:kr s=kr t):s=t:=by obtain⟨a,b,c⟩:=s;obtain⟨a',b',c'⟩:=t;obtain⟨rfl,rfl,rfl⟩:=h;rfl
def d4(s t:Stp):Bool:=gy (kr s) (kr t)
theorem kJ{P:Stp->Prop}:∀ {ks:List (List Key)},(∀ k∈ks,∃ s,k=kr s/\P s)->∃ l:List Stp,ks=l.map kr/\∀ s∈l,P s
 |[],_=>⟨[],rfl,λs h=>nomatch h⟩
 |k :: ks,h=>by
  obtain⟨s,rfl,p⟩:=h k dz;obtain⟨l,rfl,q⟩:=kJ λk hk=>h k (dP _ hk);refine⟨s :: l,rfl,λt ht=>?_⟩;rcases eK.mp ht with rfl|ht
  ·exact p
  ·exact q t ht
abbrev Kn:=List (List Key × D)
def StD(P:Stp->Prop)(kvs:Kn):Prop:=(∀ p∈kvs,∃ s,p.1=kr s/\P s)/\(kvs.map (·.1)).Nodup
def StD.sorted{P:Stp->Prop}(h:StD P kvs)(k:∀ steps:List Stp,(steps.map kr).Perm (kvs.map (·.1))->(∀ s∈steps,P s)->steps.Pairwise (λa b=>d4 a b=true)->steps.length=kvs.length->Q (.ow true) (.list (steps.map b6))) :
  uZ (.ow true) (.list (kvs.map λkv=>.tup (kv.1.map nk))) Q:=by
 refine⟨kvs.map (·.1),[false,true],by rw[fN];rfl,λk hk=>?_,λms pm pw=>?_⟩
 ·obtain⟨p,hp,rfl⟩:=cw.mp hk;obtain⟨s,e,_⟩:=h.1 p hp;rw[e];rfl
 ·obtain⟨l,rfl,hl⟩:=kJ λk hk=>by obtain⟨p,hp,e⟩:=cw.mp (pm.mem_iff.mp hk);rw[<- e];exact h.1 p hp
  have e:(l.map kr).map kM=l.map b6:=by rw[fN];rfl
  rw[e];refine k l pm hl ?_ (by have:=pm.length_eq;simpa using this);have nd:(l.map kr).Nodup:=pm.nodup_iff.mpr h.2;rw[kC] at pw;have R4:l.Pairwise λa b=>kr a≠kr b:=by rw[List.Nodup,kC] at nd;exact nd
  refine(pw.and R4).imp λ{a b} ⟨h1,h2⟩=>?_;unfold d4
  cases h3:gy (kr a) (kr b) with
  |true=>rfl
  |false=>exact absurd (iY (a:=kr a) (b:=kr b) rfl h3 h1) h2
theorem dg:∀ (l:List Str),eJ (l.map D.str)=true
 |[]=>rfl
 |x :: l=>by simp[eJ,dg l,D.flat]
theorem fK:∀ (l:List Int),eJ (l.map D.int)=true
 |[]=>rfl
 |x :: l=>by simp[eJ,fK l,D.flat]
def dh{lo:Int}(h:(gH lo n)[i]? = some x):i<n/\x=.int (lo+(i:Nat)):=by
 unfold gH at h;rw[nK] at h;by_cases hi:i<n
 ·rw[List.getElem?_range hi] at h;exact⟨hi,(Option.some.inj h).symm⟩
 ·rw[xE (by simpa using hi)] at h;cases h
def eF(lo:Int)(n:Nat):(gH lo n).length=n:=by simp[gH]
def oK{lo:Int}(h:x∈gH lo n):∃ i:Nat,i<n/\x=.int (lo+i):=by obtain⟨i,hi⟩:=IZ.mp h;exact⟨i,dh hi⟩
def Gn{names:List Str}{i:Int}(h0:0<=i)(h1:i<names.length):∃ n,n∈names/\gi (names.map D.str) i=some (.str n):=by
 have hn:i.toNat<names.length:=by lia
 refine⟨names[i.toNat],ui hn,?_⟩;have:=GY (xs:=names.map D.str) (j:=i.toNat) (v:=.str names[i.toNat]) (by simp[hn]);rwa[tf h0] at this
def name_mod{names:List Str}(x:Int)(h:1<=names.length):∃ n,n∈names/\gi (names.map D.str) (x % (names.length:Int))=some (.str n) :=
 Gn (Qp _ (by lia)) (Qo _ (by lia))
def Bp{n d:Nat}{k:Int}(h0:0<=k)(h1:k<=n):HT.dr n d (some k)=k.toNat:=by simp only[HT.dr];rw[if_neg (by lia)];lia
def G6{x:Str}{k:Int}(h0:0<=k)(h1:k<=x.length):(pS x none (some k)).length=k.toNat:=by
 unfold pS;rw[Bp h0 h1];unfold Str.length at *
 simp[HT.dr];lia
theorem aF{α:Type}[DecidableEq α]:∀ {l m:List α},l.Nodup->(∀ x∈l,x∈m)->l.length<=m.length
 |[],_,_,_=>fS _
 |x :: l,m,nd,h=>by obtain⟨hx,nd⟩:=ly.mp nd;have hm:=h x dz;have:=aF nd λy hy=>(List.mem_erase_of_ne (λe=>by subst e;exact hx hy)).mpr (h y (dP _ hy));rw[List.length_erase_of_mem hm] at this;have:=Vk hm;simp only[qh];lia
def dY(n:Nat):List Int:=(List.range n).map λi=>((i:Nat):Int)
def gh(n:Nat):(dY n).length=n:=by simp[dY]
def d8:x∈dY n↔0<=x/\x<n:=by
 unfold dY;rw[cw];constructor
 ·rintro⟨i,hi,rfl⟩;have:=oP.mp hi;lia
 ·intro ⟨h0,h1⟩;exact⟨x.toNat,oP.mpr (by lia),by lia⟩
theorem o_:∀ {l m:List Int},l.Pairwise (· < ·)->m.Pairwise (· < ·)->(∀ x,x∈l↔x∈m)->l=m
 |[],[],_,_,_=>rfl
 |[],y :: m,_,_,h=>absurd ((h y).mpr dz) (by simp)
 |x :: l,[],_,_,h=>absurd ((h x).mp dz) (by simp)
 |x :: l,y :: m,hl,hm,h=>by
  obtain⟨a1,a2⟩:=SF.mp hl;obtain⟨b1,b2⟩:=SF.mp hm;have e:x=y:=by
   rcases eK.mp ((h x).mp dz) with e|e
   ·exact e
   ·rcases eK.mp ((h y).mpr dz) with e'|e'
    ·exact e'.symm
    ·have:=b1 x e;have:=a1 y e';lia
  subst e;rw[o_ a2 b2 λz=>⟨λhz=>by
   rcases eK.mp ((h z).mp (dP _ hz)) with e|e
   ·subst e;exact absurd (a1 z hz) (by lia)
   ·exact e,λhz=>by
   rcases eK.mp ((h z).mpr (dP _ hz)) with e|e
   ·subst e;exact absurd (b1 z hz) (by lia)
   ·exact e⟩]
def oF{l:List Int}(h:l.Pairwise (· < ·)):l.Nodup:=h.imp λh=>by lia
def eW(many:Int)(steps:List Stp):Prop:=∀ s∈steps,xv many s
def y8(ks:List Int):List (Key × D):=ks.map λx=>(.inl x,.bl true)
def iw(ks:List Int):(y8 ks).map (·.1)=ks.map λx=>(Sum.inl x:Key):=by simp[y8,fN,Function.comp_def]
def uX(ks:List Int):(y8 ks).length=ks.length:=by simp[y8]
def dw{ks:List Int}{x:Int}:((Sum.inl x:Key)∈ks.map λx=>(Sum.inl x:Key))↔x∈ks:=by rw[cw];exact⟨λ⟨y,hy,e⟩=>by cases e;exact hy,λh=>⟨x,h,rfl⟩⟩
def insI(ks:List Int)(x:Int):List Int:=if x∈ks then ks else ks++[x]
def tK{κ β:Type}[DecidableEq κ]{kvs:List (κ × β)}{k:κ}:(kvs.any λkv=>decide (kv.1=k))=true↔k∈kvs.map (·.1):=by rw[SQ,cw];exact⟨λ⟨p,hp,e⟩=>⟨p,hp,of_decide_eq_true e⟩,λ⟨p,hp,e⟩=>⟨p,hp,decide_eq_true e⟩⟩
def GD(ks:List Int)(x:Int):oo (y8 ks) (.inl x) (.bl true)=y8 (insI ks x):=by
 unfold oo insI;by_cases h:x∈ks
 ·rw[if_pos h,if_pos (tK.mpr (by rw[iw];exact dw.mpr h))];unfold y8;rw[fN];apply Nn;intro y _;show(if (Sum.inl y:Key)=Sum.inl x then ((Sum.inl y:Key),D.bl true) else (.inl y,.bl true))=_;split<;>rfl
 ·rw[if_neg h,if_neg (λz=>h (dw.mp (by rw[<- iw];exact tK.mp z)))];simp[y8]
theorem sO{κ β:Type}[DecidableEq κ]:∀ {kvs:List (κ × β)} {k:κ},(fI kvs k).isSome=true↔k∈kvs.map (·.1)
 |[],k=>by simp[fI]
 |p :: kvs,k=>by
  have ih:=sO (kvs:=kvs) (k:=k);rw[gS,eK];by_cases h:p.1=k
  ·subst h;simp[fI]
  ·have:fI (p :: kvs) k=fI kvs k:=by simp[fI,h]
   rw[this,ih];exact⟨.inr,λz=>z.elim (λe=>absurd e.symm h) id⟩
def get_set(ks:List Int)(x:Int):(fI (y8 ks) (.inl x)).isSome=decide (x∈ks):=by rw[sT,sO,iw,dw,decide_eq_true_iff]
def t8:y∈insI ks x↔y∈ks\/y=x:=by
 unfold insI;split
 ·rename_i h;exact⟨.inl,λz=>z.elim id λe=>by subst e;exact h⟩
 ·simp
def wu(h:ks.Nodup):(insI ks x).Nodup:=by
 unfold insI;split
 ·exact h
 ·rename_i hx;exact i7.mpr ⟨h,by simp,λa ha b hb e=>by
   have:b=x:=by simpa using hb
   subst this;subst e;exact hx ha⟩
inductive Reach(steps:List Stp):Int->Prop
 |zero:Reach steps 0
 |step {s:Stp}:Reach steps s.1->s∈steps->Reach steps s.2.2
def Reach.lt(h:eW many steps)(hm:1<=many)(r:Reach steps x):0<=x/\x<many:=by
 cases r with
 |zero=>lia
 |step r hs=>exact⟨(h _ hs).2.2.2.1,(h _ hs).2.2.2.2⟩
def sN(ms:List Int):List (Key × D):=ms.mapIdx λk x=>(.inl x,.int k)
def rH(ms:List Int):(sN ms).map (·.1)=ms.map λx=>(Sum.inl x:Key):=by apply FI;intro i;simp[sN];cases ms[i]?<;>rfl
def yg(ms:List Int)(x:Int):sN (ms++[x])=sN ms++[(.inl x,.int ms.length)]:=by simp[sN,List.mapIdx_append]
def DX{ms:List Int}{x:Int}(h:x∉ms):oo (sN ms) (.inl x) (.int ms.length)=sN (ms++[x]):=by unfold oo;rw[if_neg (λz=>h (dw.mp (by rw[<- rH];exact tK.mp z))),yg]
def BW(ms:List Int):(sN ms).length=ms.length:=by simp[sN]
def y9(ms:List Int)(x:Int):Int:=(ms.idxOf x:Nat)
theorem xF:∀ (l ms:List Int) {x:Int},x∈ms->(l++ms).Nodup->fI (ms.mapIdx λk y=>((Sum.inl y:Key),D.int ((l.length+k:Nat):Int))) (.inl x)=some (.int ((l.length+ms.idxOf x:Nat):Int))
 |_,[],_,h,_=>nomatch h
 |l,y :: ms,x,h,nd=>by
  rw[List.mapIdx_cons];by_cases e:y=x
  ·subst e;simp[fI]
  ·have hx:x∈ms:=by
    rcases eK.mp h with z|z
    ·exact absurd z.symm e
    ·exact z
   have ih:=xF (l++[y]) ms hx (by simpa using nd);have:∀ (v:D) r,fI (((Sum.inl y:Key),v) :: r) (.inl x)=fI r (.inl x):=λv r=>by simp[fI,e]
   rw[this];rw[List.idxOf_cons];have hb:(y == x)=false:=by simpa using e
   rw[hb];simp only[cond_false];simp only[i6,FG] at ih;rw[show(λk y'=>((Sum.inl y':Key),D.int ((l.length+(k+1):Nat):Int)))=λk y'=>((Sum.inl y':Key),D.int ((l.length+1+k:Nat):Int)) by funext k y';rw[show l.length+(k+1)=l.length+1+k by lia]];rw[ih];rw[show l.length+1+ms.idxOf x=l.length+(ms.idxOf x+1) by lia]
def Ja(h:x∈ms)(nd:ms.Nodup):fI (sN ms) (.inl x)=some (.int (y9 ms x)):=by have:=xF [] ms h (by simpa using nd);simpa[sN,y9] using this
def zu(ms:List Int)(x:Int):(fI (sN ms) (.inl x)).isSome=decide (x∈ms):=by rw[sT,sO,rH,dw,decide_eq_true_iff]
structure Met(steps:List Stp)(ms:List Int):Prop where
 up:ms.Pairwise (· < ·)
 mem:∀ x,x∈ms↔Reach steps x
def Met.uniq(a:Met steps l)(b:Met steps m):l=m:=o_ a.up b.up λx=>(a.mem x).trans (b.mem x).symm
def Met.to(a:Met steps ms)(hs:s∈steps)(h:s.1∈ms):s.2.2∈ms:=(a.mem _).mpr (.step ((a.mem _).mp h) hs)
def Met.zero(a:Met steps ms):0∈ms:=(a.mem 0).mpr .zero
def Met.len{many:Int}{steps:List Stp}{ms:List Int}(a:Met steps ms)(h:eW many steps)(hm:1<=many):1<=ms.length/\(ms.length:Int)<=many:=by
 refine⟨Vk a.zero,?_⟩;have:=aF (m:=dY many.toNat) (oF a.up) λx hx=>by have:=((a.mem x).mp hx).lt h hm;exact d8.mpr (by lia)
 rw[gh] at this;lia
def IW(h:x∈ms):0<=y9 ms x/\y9 ms x<ms.length:=by have:=List.idxOf_lt_length_of_mem h;unfold y9;lia
def Ef{ms:List Int}(nd:ms.Nodup){k:Nat}(hk:k<ms.length):y9 ms ms[k]=k:=by unfold y9;rw[nd.idxOf_getElem k hk]
abbrev Pr:=Str × Int
abbrev Ky:=Int × List Pr
def p5(p:Pr):List Key:=[.inr p.1,.inl p.2]
def ox(p:Pr):D:=.tup [.str p.1,.int p.2]
def jv(k:Ky):D:=.tup [.int k.1,.list (k.2.map ox)]
def D4(r:List Int):D:=.list (r.map .int)
def rS(a b:Ky):Bool:=PySem.SeqAt.d4 3 (jv a).py (jv b).py
def vE(k:Ky):Prop:=∀ p∈k.2,PyData.strOk p.1=true
def zR(k:Ky):(jv k).py=.tuple [.int k.1,.list (k.2.map L2.eU)]:=by show PyData.tuple [.int k.1,.list (oz (k.2.map ox))]=_;rw[jb,fN];rfl
def vE.xo(h:vE k):L2.xo (jv k).py:=⟨k.1,k.2,zR k,h⟩
def lQ(a:Ky)(h:vE a):rS a a=false:=L2.UZ.ah.sM _ h.xo
def CZ(ha:vE a)(hb:vE b)(hc:vE c):rS a b=true->rS b c=true->rS a c=true:=L2.UZ.ah.tr _ _ _ ha.xo hb.xo hc.xo
def Fi(h:ox p=ox q):p=q:=by obtain⟨a,b⟩:=p;obtain⟨c,d⟩:=q;simp[ox] at h;rw[h.1,h.2]
def Fj(h:p5 p=p5 q):p=q:=by obtain⟨a,b⟩:=p;obtain⟨c,d⟩:=q;simp[p5] at h;rw[h.1,h.2]
theorem map_inj{α β:Type}{f:α->β}(hf:∀ a b,f a=f b->a=b):∀ {l m:List α},l.map f=m.map f->l=m
 |[],[],_=>rfl
 |[],_ :: _,h=>by simp at h
 |_ :: _,[],h=>by simp at h
 |x :: l,y :: m,h=>by simp only[gS,List.cons.injEq] at h;rw[hf _ _ h.1,map_inj hf h.2]
def yD(h:jv a=jv b):a=b:=by simp only[jv,D.tup.injEq,List.cons.injEq,D.int.injEq,D.list.injEq] at h;exact Prod.ext h.1 (map_inj (λ_ _=>Fi) h.2.1)
theorem CW:∀ l:List Pr,oq (l.map ox)=true
 |[]=>rfl
 |x :: l=>by simp[oq,CW l,ox,D.nb]
def Hn(k:Ky):(jv k).nb=true:=by simp[jv,D.nb,oq,CW]
def vC(a b:Ky):js (jv a) (jv b)=decide (a=b):=by rw[sT,cC _ _ (Hn a) (Hn b),decide_eq_true_iff];exact⟨yD,λe=>by rw[e]⟩
def Ea(ha:vE a)(hb:vE b)(h1:rS a b=false)(h2:rS b a=false):a=b:=by
 have e:=L2.UZ.ah.ah _ _ ha.xo hb.xo h1 h2;have:js (jv a) (jv b)=js (jv a) (jv a):=by unfold js;rw[e]
 rw[vC,vC] at this;simpa using this
def Fy(h:a.1<b.1):rS a b=true:=by
 unfold rS;rw[zR,zR,PySem.SeqAt.d4,PySem.SeqAt.oB];have:PyData.eqv (.int a.1) (.int b.1)=false:=by
  have:a.1≠b.1:=by lia
  simpa[PyData.eqv] using this
 rw[this,if_neg kH,PySem.SeqAt.d4];exact decide_eq_true h
def Bw(h:vE k)(n:Nat):dc (n+3) (jv k)=true:=by
 have:∀ p∈k.2.map ox,dc (n+1) p=true:=λd hd=>by obtain⟨p,hp,rfl⟩:=cw.mp hd;simp[ox,dc,h p hp]
 simp only[jv,dc,ED,List.all_nil,S9,Bool.true_and,AX];exact this
def Dw{l:List Ky}(h:∀ k∈l,vE k)(n:Nat):dc (n+4) (.list (l.map jv))=true:=by simp only[dc,Jn,AX];exact λk hk=>Bw (h k hk) n
def Jt(l:List Ky)(k:Ky):DV (l.map jv) (jv k)=decide (k∈l):=by
 unfold DV;rw[List.any_map,sT,SQ,decide_eq_true_iff];constructor
 ·rintro⟨j,hj,e⟩;have e:js (jv j) (jv k)=true:=e;rw[vC,decide_eq_true_iff] at e;rwa[<- e]
 ·exact λhk=>⟨k,hk,by show js (jv k) (jv k)=true;rw[vC];exact decide_eq_true rfl⟩
theorem rO:∀ l:List Int,oq (l.map D.int)=true
 |[]=>rfl
 |x :: l=>by simp[oq,rO l,D.nb]
def LC(a b:List Int):js (.list (a.map .int)) (.list (b.map .int))=decide (a=b):=by rw[sT,cC _ _ (by simp[D.nb,rO]) (by simp[D.nb,rO]),decide_eq_true_iff];refine⟨λh=>map_inj (λ_ _=>D.int.inj) (D.list.inj h),λe=>by rw[e]⟩
def yl(l:List Int)(n:Nat):dc (n+1) (.list (l.map .int))=true:=by simp[dc,Jn]
theorem R5{α β:Type}{f:β->α}{P:β->Prop}:∀ {ks:List α},(∀ k∈ks,∃ s,k=f s/\P s)->∃ l:List β,ks=l.map f/\∀ s∈l,P s
 |[],_=>⟨[],rfl,λs h=>nomatch h⟩
 |k :: ks,h=>by
  obtain⟨s,rfl,p⟩:=h k dz;obtain⟨l,rfl,q⟩:=R5 λk hk=>h k (dP _ hk);refine⟨s :: l,rfl,λt ht=>?_⟩;rcases eK.mp ht with rfl|ht
  ·exact p
  ·exact q t ht
theorem f9{α:Type}{lt:α->α->Prop}:∀ {l m:List α},(∀ a∈l,∀ b∈l,lt a b->lt b a->False)->l.Pairwise lt->m.Pairwise lt->(∀ x,x∈l↔x∈m)->l=m
 |[],[],_,_,_,_=>rfl
 |[],y :: m,_,_,_,h=>absurd ((h y).mpr dz) (by simp)
 |x :: l,[],_,_,_,h=>absurd ((h x).mp dz) (by simp)
 |x :: l,y :: m,as,hl,hm,h=>by
  obtain⟨a1,a2⟩:=SF.mp hl;obtain⟨b1,b2⟩:=SF.mp hm;have e:x=y:=by
   rcases eK.mp ((h x).mp dz) with e|e
   ·exact e
   ·rcases eK.mp ((h y).mpr dz) with e'|e'
    ·exact e'.symm
    ·exact(as x dz y (dP _ e') (a1 y e') (b1 x e)).elim
  subst e;have sM:¬ lt x x:=λz=>as x dz x dz z z;rw[f9 (λa ha b hb=>as a (dP _ ha) b (dP _ hb)) a2 b2 λz=>⟨λhz=>by
   rcases eK.mp ((h z).mp (dP _ hz)) with e|e
   ·subst e;exact absurd (a1 z hz) sM
   ·exact e,λhz=>by
   rcases eK.mp ((h z).mpr (dP _ hz)) with e|e
   ·subst e;exact absurd (b1 z hz) sM
   ·exact e⟩]
def rk(e7:List Int)(s:Int):Int:=e7.getD s.toNat 0
structure D5(steps:List Stp)(e7:List Int)(s:Int)(k:Ky):Prop where
 fst:k.1=rk e7 s
 up:k.2.Pairwise fun a b=>gy (p5 a) (p5 b)=true
 mem:∀ p,p∈k.2↔∃ t∈steps,t.1=s/\p=(t.2.1,rk e7 t.2.2)
def D5.uniq(a:D5 steps e7 s k)(b:D5 steps e7 s j):k=j:=by have h2:k.2=j.2:=f9 (λx _ y _ h1 h2=>by have:=lD h1 h2;rw[gG] at this;cases this) a.up b.up λp=>(a.mem p).trans (b.mem p).symm;exact Prod.ext (a.fst.trans b.fst.symm) h2
def D5.ok(a:D5 steps e7 s k)(h:eW many steps):vE k:=λp hp=>by obtain⟨t,ht,_,rfl⟩:=(a.mem p).mp hp;exact(h t ht).2.2.1.ok
structure t5(many:Int)(steps:List Stp)(e7 r:List Int)(ky:Int->Ky)(diff:List Ky):Prop where
 len:r.length=many.toNat
 key:∀ s,0<=s->s<many->D5 steps e7 s (ky s)
 up:diff.Pairwise fun a b=>rS a b=true
 mem:∀ k,k∈diff↔∃ s,(0<=s/\s<many)/\k=ky s
 pos:∀ s,0<=s->s<many->0<=rk r s/\diff[(rk r s).toNat]? = some (ky s)
def RB(many:Int)(steps:List Stp)(e7 r:List Int):Prop:=∃ ky diff,t5 many steps e7 r ky diff
section
variable {many:Int}{steps:List Stp}{e7 r r2:List Int}{ky ZQ:Int->Ky}{diff ZR:List Ky}
def t5.ok(h:t5 many steps e7 r ky diff)(bS:eW many steps)(hk:k∈diff):vE k:=by obtain⟨s,hs,rfl⟩:=(h.mem k).mp hk;exact(h.key s hs.1 hs.2).ok bS
def t5.as(h:t5 many steps e7 r ky diff)(bS:eW many steps):∀ a∈diff,∀ b∈diff,rS a b=true->rS b a=true->False:=λa ha b hb h1 h2=>by have:=CZ (h.ok bS ha) (h.ok bS hb) (h.ok bS ha) h1 h2;rw[lQ a (h.ok bS ha)] at this;cases this
def Jf(hl:l.length=many.toNat)(hm:m.length=many.toNat)(h:∀ s,0<=s->s<many->rk l s=rk m s):l=m:=by apply List.ext_getElem (by lia);intro i h1 h2;have:=h i (by lia) (by lia);unfold rk at this;simpa[List.getD,h1,h2] using this
def t5.inj(h:t5 many steps e7 r ky diff)(bS:eW many steps){i j:Nat}{k:Ky}(hi:diff[i]? = some k)(hj:diff[j]? = some k):i=j:=by
 obtain⟨nc,k6⟩:=iF.mp hi;obtain⟨OX,R6⟩:=iF.mp hj;have hk:k∈diff:=mB hi;have sM:=lQ k (h.ok bS hk);have pw:=xD.mp h.up;rcases Nat.lt_trichotomy i j with e|e|e
 ·have:=pw i j nc OX e;rw[k6,R6,sM] at this;cases this
 ·exact e
 ·have:=pw j i OX nc e;rw[k6,R6,sM] at this;cases this
def t5.same(h:t5 many steps e7 r ky diff)(h2:t5 many steps e7 r2 ZQ ZR)(bS:eW many steps):r=r2:=by
 have ek:∀ s,0<=s->s<many->ky s=ZQ s:=λs a b=>(h.key s a b).uniq (h2.key s a b);have ed:diff=ZR:=f9 (h.as bS) h.up h2.up λk=>by rw[h.mem,h2.mem];exact⟨λ⟨s,a,e⟩=>⟨s,a,e.trans (ek s a.1 a.2)⟩,λ⟨s,a,e⟩=>⟨s,a,e.trans (ek s a.1 a.2).symm⟩⟩
 subst ed;refine Jf h.len h2.len λs a b=>?_;have p1:=h.pos s a b;have p2:=h2.pos s a b;rw[<- ek s a b] at p2;have:=h.inj bS p1.2 p2.2;lia
def RB.uniq(h:RB many steps e7 r)(h2:RB many steps e7 r2)(bS:eW many steps):r=r2:=by obtain⟨_,_,h⟩:=h;obtain⟨_,_,h2⟩:=h2;exact h.same h2 bS
def t5.Dj(h:t5 many steps e7 r ky diff)(hs:0<=s/\s<many)(ht:0<=t/\t<many)(e:rk r s=rk r t):ky s=ky t:=by have p1:=(h.pos s hs.1 hs.2).2;have p2:=(h.pos t ht.1 ht.2).2;rw[e,p2] at p1;exact(Option.some.inj p1).symm
def t5.lt(h:t5 many steps e7 r ky diff)(bS:eW many steps)(hs:0<=s/\s<many)(ht:0<=t/\t<many):rk r s<rk r t↔rS (ky s) (ky t)=true:=by
 have p1:=h.pos s hs.1 hs.2;have p2:=h.pos t ht.1 ht.2;have k1:=h.ok bS (mB p1.2);have k2:=h.ok bS (mB p2.2);obtain⟨a1,a2⟩:=iF.mp p1.2;obtain⟨b1,b2⟩:=iF.mp p2.2;have pw:=xD.mp h.up;constructor
 ·intro l;have:=pw _ _ a1 b1 (by lia);rwa[a2,b2] at this
 ·intro l;by_cases z:rk r t<rk r s
  ·have:=pw _ _ b1 a1 (by lia);rw[a2,b2] at this;have:=CZ k1 k2 k1 l this;rw[lQ _ k1] at this;cases this
  ·by_cases z2:rk r s=rk r t
   ·have:=h.Dj hs ht z2;rw[this,lQ _ k2] at l;cases l
   ·lia
def RB.mono(h:RB many steps e7 r)(bS:eW many steps)(hs:0<=s/\s<many)(ht:0<=t/\t<many)(l:rk e7 s<rk e7 t):rk r s<rk r t:=by obtain⟨ky,diff,h⟩:=h;refine(h.lt bS hs ht).mpr (Fy ?_);rw[(h.key s hs.1 hs.2).fst,(h.key t ht.1 ht.2).fst];exact l
def RB.stp(h:RB many steps e7 r)(bS:eW many steps)(ht:t∈steps)(hs:0<=s/\s<many)(e:rk r t.1=rk r s):∃ u∈steps,u.1=s/\u.2.1=t.2.1/\rk e7 u.2.2=rk e7 t.2.2:=by obtain⟨ky,diff,h⟩:=h;have hk:=h.Dj ⟨(bS t ht).1,(bS t ht).2.1⟩ hs e;have hm:=((h.key t.1 (bS t ht).1 (bS t ht).2.1).mem (t.2.1,rk e7 t.2.2)).mpr ⟨t,ht,rfl,rfl⟩;rw[hk] at hm;obtain⟨u,hu,e1,e2⟩:=((h.key s hs.1 hs.2).mem _).mp hm;exact⟨u,hu,e1,(Prod.mk.inj e2).1.symm,(Prod.mk.inj e2).2.symm⟩
def vU(many:Int)(r:List Int):Prop:=r.length=many.toNat/\(∀ s,0<=s->s<many->0<=rk r s/\rk r s<many)/\∀ s,0<=s->s<many->0<rk r s->∃ t,(0<=t/\t<many)/\rk r t=rk r s-1
def t5.short(h:t5 many steps e7 r ky diff)(bS:eW many steps):diff.length<=many.toNat:=by
 have nd:diff.Nodup:=by rw[Sv];have:=xD.mp h.up;rw[xD];intro i j hi hj ki e;have z:=this i j hi hj ki;rw[e,lQ _ (h.ok bS (ui hj))] at z;cases z
 have:=aF (m:=(dY many.toNat).map ky) nd λk hk=>by obtain⟨s,hs,rfl⟩:=(h.mem k).mp hk;exact cw.mpr ⟨s,d8.mpr (by lia),rfl⟩
 rwa[cx,gh] at this
def RB.Af(h:RB many steps e7 r)(bS:eW many steps):vU many r:=by
 obtain⟨ky,diff,h⟩:=h;have sh:=h.short bS;refine⟨h.len,λs a b=>?_,λs a b c=>?_⟩
 ·have p:=h.pos s a b;have:=(iF.mp p.2).1;lia
 ·have p:=h.pos s a b;have l:=(iF.mp p.2).1;have l2:(rk r s-1).toNat<diff.length:=by lia
  obtain⟨t,ht,e⟩:=(h.mem _).mp (ui l2);have p2:=h.pos t ht.1 ht.2;have:=h.inj bS p2.2 (iF.mpr ⟨l2,e⟩);exact⟨t,ht,by lia⟩
theorem RB.grows(h:RB many steps e7 r)(bS:eW many steps)(d:vU many e7):∀ (n:Nat) (s:Int),0<=s->s<many->rk e7 s=n->rk e7 s<=rk r s
 |0,s,a,b,e=>by rw[e];exact((h.Af bS).2.1 s a b).1
 |n+1,s,a,b,e=>by obtain⟨t,ht,et⟩:=d.2.2 s a b (by lia);have:=RB.grows h bS d n t ht.1 ht.2 (by lia);have:=h.mono bS ht ⟨a,b⟩ (by lia);lia
def RB.le(h:RB many steps e7 r)(bS:eW many steps)(d:vU many e7)(a:0<=s)(b:s<many):rk e7 s<=rk r s :=
 h.grows bS d (rk e7 s).toNat s a b (by have:=(d.2.1 s a b).1;lia)
end
theorem CN:∀ {l m:List Int},l.length=m.length->(∀ (i:Nat) (h1:i<l.length) (h2:i<m.length),l[i]<=m[i])->l.sum<=m.sum/\(l≠m->l.sum<m.sum)
 |[],[],_,_=>⟨by simp,λh=>absurd rfl h⟩
 |[],y :: m,h,_=>by simp at h
 |x :: l,[],h,_=>by simp at h
 |x :: l,y :: m,h,hl=>by
  have ih:=CN (by simpa using h) λi h1 h2=>by have:=hl (i+1) (by simp;lia) (by simp;lia);simpa using this
  have h0:x<=y:=by have:=hl 0 (by simp) (by simp);simpa using this
  simp only[List.sum_cons];refine⟨by have:=ih.1;lia,λne=>?_⟩;by_cases e:x=y
  ·subst e;have:l≠m:=λz=>ne (by rw[z]);have:=ih.2 this;lia
  ·have:=ih.1;lia
def sum_bound{l:List Int}{b:Int}(h:∀ x∈l,x<=b)(hb:0<=b):l.sum<=l.length*b:=by
 induction l with
 |nil=>simp
 |cons x l ih =>
  have:=ih λy hy=>h y (dP _ hy);have:=h x dz;simp only[List.sum_cons,qh];have e:((l.length+1:Nat):Int)*b=l.length*b+b:=by rw[Int.natCast_add,Int.add_mul];simp
  lia
def Fd{r:List Int}{i:Nat}(h:i<r.length):r[i]=rk r i:=by simp[rk,List.getD,h]
def RB.sum{many:Int}{steps:List Stp}{e7 r:List Int}(h:RB many steps e7 r)(bS:eW many steps)(d:vU many e7)(hm:0<=many)(ne:r≠e7):e7.sum<r.sum/\r.sum<=many*many:=by
 have d2:=h.Af bS;have hl:=d.1;have tq:=d2.1;refine⟨(CN (by lia) λi h1 h2=>?_).2 λe=>ne e.symm,?_⟩
 ·rw[Fd h1,Fd h2];exact h.le bS d (by lia) (by lia)
 ·have:=sum_bound (l:=r) (λx hx=>by
   obtain⟨i,hi,rfl⟩:=Sy.mp hx;rw[Fd hi];have:=(d2.2.1 i (by lia) (by lia)).2;lia) hm
  rwa[tq,tf hm] at this
def Chain(many:Int)(steps:List Stp):List Int->List (List Int)->Prop
 |cur,[]=>RB many steps cur cur
 |cur,oC :: rest=>RB many steps cur oC/\oC≠cur/\Chain many steps oC rest
theorem Chain.uniq(bS:eW many steps):∀ {cur:List Int} {a b:List (List Int)},Chain many steps cur a->Chain many steps cur b->a=b
 |_,[],[],_,_=>rfl
 |_,[],y :: b,h,g=>absurd (g.1.uniq h bS) g.2.1
 |_,x :: a,[],h,g=>absurd (h.1.uniq g bS) h.2.1
 |_,x :: a,y :: b,h,g=>by have:=h.1.uniq g.1 bS;subst this;rw[Chain.uniq bS h.2.2 g.2.2]
def g_(cur:List Int)(rest:List (List Int)):List Int:=(cur :: rest).getLast (by simp)
def vK(cur oC:List Int)(rest:List (List Int)):g_ cur (oC :: rest)=g_ oC rest:=by simp[g_]
theorem Chain.last:∀ {cur:List Int} {rest:List (List Int)},Chain many steps cur rest->RB many steps (g_ cur rest) (g_ cur rest)
 |_,[],h=>h
 |cur,oC :: rest,h=>by rw[vK];exact h.2.2.last
def zeros(many:Int):List Int:=List.replicate many.toNat 0
def gf(many s:Int):rk (zeros many) s=0:=by
 unfold rk zeros;by_cases h:s.toNat<many.toNat
 ·simp[List.getD,h]
 ·rw[List.getD,xE (by simpa using h)];rfl
def tE(h:1<=many):vU many (zeros many) :=
 ⟨by simp[zeros],λs _ _=>by rw[gf];lia,λs _ _ z=>by rw[gf] at z;lia⟩
def Kinds(many:Int)(steps:List Stp)(k:List Int):Prop:=∃ rest,Chain many steps (zeros many) rest/\k=g_ (zeros many) rest
def Kinds.uniq(bS:eW many steps)(h:Kinds many steps k)(g:Kinds many steps l):k=l:=by obtain⟨a,ha,rfl⟩:=h;obtain⟨b,hb,rfl⟩:=g;rw[ha.uniq bS hb]
def Kinds.fT(h:Kinds many steps k):RB many steps k k:=by obtain⟨a,ha,rfl⟩:=h;exact ha.last
def Kinds.len(h:Kinds many steps k):k.length=many.toNat:=by obtain⟨ky,diff,r⟩:=h.fT;exact r.len
def By{ps:List Pr}(hl:ps.length<=1000)(k:∀ l:List Pr,l.Pairwise (λa b=>gy (p5 a) (p5 b)=true)->(∀ p,p∈l↔p∈ps)->Q (.ow true) (.list (l.map ox))) :
  fG m (.list (ps.map ox)) Q:=by
 refine⟨ps.map p5,[true],by rw[fN];rfl,by rw[cx];exact hl,λk hk=>?_,λms nd mm pw=>?_⟩
 ·obtain⟨p,_,rfl⟩:=cw.mp hk;rfl
 ·obtain⟨l,rfl,hp⟩:=R5 λk hk=>by obtain⟨p,hp,e⟩:=cw.mp ((mm k).mp hk);exact⟨p,e.symm,hp⟩
  have e:(l.map p5).map kM=l.map ox:=by rw[fN];rfl
  rw[e];refine k l ?_ λp=>⟨hp p,λkA=>?_⟩
  ·rw[kC] at pw;have R4:l.Pairwise λa b=>p5 a≠p5 b:=by rw[List.Nodup,kC] at nd;exact nd
   refine(pw.and R4).imp λ{a b} ⟨h1,h2⟩=>?_
   cases h3:gy (p5 a) (p5 b) with
   |true=>rfl
   |false=>exact absurd (iY (a:=p5 a) (b:=p5 b) rfl h3 h1) h2
  ·obtain⟨q,hq,e⟩:=cw.mp ((mm (p5 p)).mpr (cw.mpr ⟨p,kA,rfl⟩));rw[<- Fj e];exact hq
def t9(steps:List Stp)(s:Int):List Pr:=(steps.filter λt=>decide (t.1=s)).map (·.2)
def vF(many:Int)(steps:List Stp):List D:=(dY many.toNat).map λs=>.list ((t9 steps s).map ox)
def U7(many:Int)(steps:List Stp):D:=.list (vF many steps)
def Ib(many:Int):((gH 0 many.toNat).filter λ_=>true).map (λ_=>D.list [])=vF many []:=by unfold vF gH dY;rw[Nw.mpr λ_ _=>rfl,fN,fN];rfl
def Fg(steps:List Stp)(h0:0<=s)(h1:s<many):(vF many steps)[s.toNat]? = some (.list ((t9 steps s).map ox)):=by
 have:s.toNat<many.toNat:=by lia
 simp[vF,dY,this,tf h0]
def pL(many:Int)(steps:List Stp):(vF many steps).length=many.toNat:=by simp[vF,dY]
def ur{n:Nat}{i:Int}(h0:0<=i)(h1:i<n):oS n i=some i.toNat:=by unfold oS;rw[if_pos h0,if_pos h1]
def zZ(steps:List Stp)(p:Int)(d:Str)(r s:Int):t9 (steps++[(p,d,r)]) s=if p=s then t9 steps s++[(d,r)] else t9 steps s:=by
 unfold t9;by_cases h:p=s
 ·simp[h]
 ·simp[h]
def H_(steps:List Stp)(d:Str)(r:Int)(h0:0<=p)(h1:p<many):(vF many steps).set p.toNat (.list ((t9 steps p).map ox++[.tup [.str d,.int r]]))=vF many (steps++[(p,d,r)]):=by
 apply FI;intro i;by_cases hi:i<many.toNat
 ·have e:∀ st,(vF many st)[i]? = some (.list ((t9 st i).map ox)):=λst=>by have:=Fg (many:=many) (s:=i) st (by lia) (by lia);simpa using this
  rw[e,zZ];by_cases hp:p=i
  ·subst hp;simp[pL,hi,ox]
  ·rw[if_neg hp,Qb (by lia),e]
 ·rw[xE (by rw[List.length_set,pL];lia),xE (by rw[pL];lia)]
def La{many s:Int}(steps:List Stp)(h0:0<=s)(h1:s<many):gi (vF many steps) s=some (.list ((t9 steps s).map ox)) :=
 vX (ur h0 (by rw[pL];lia)) (Fg steps h0 h1)
def xq{many s:Int}{r:List Int}(hl:r.length=many.toNat)(h0:0<=s)(h1:s<many):gi (r.map D.int) s=some (.int (rk r s)):=by
 have h:s.toNat<r.length:=by lia
 refine vX (ur h0 (by rw[cx];lia)) ?_;simp[rk,List.getD,h]
def wX(h:p∈t9 steps s):∃ t∈steps,t.1=s/\t.2=p:=by obtain⟨t,ht,e⟩:=cw.mp h;obtain⟨ht,hs⟩:=zD.mp ht;exact⟨t,ht,of_decide_eq_true hs,e⟩
def Ep(h:t∈steps):t.2∈t9 steps t.1:=cw.mpr ⟨t,zD.mpr ⟨h,decide_eq_true rfl⟩,rfl⟩
def yu(steps:List Stp)(s:Int):(t9 steps s).length<=steps.length:=by unfold t9;rw[cx];exact Qa _ _
def zQ(many:Int):(List.replicate many.toNat [D.int 0]).flatten=(zeros many).map D.int:=by
 unfold zeros;generalize many.toNat=n
 induction n with
 |zero=>rfl
 |succ n ih=>rw[FH,I0,ih,FH];rfl
theorem Chain.at:∀ {cur:List Int} {rest:List (List Int)},Chain many steps cur rest->∀ (i:Nat) (a b:List Int),(cur :: rest)[i]? = some a->(cur :: rest)[i+1]? = some b->RB many steps a b/\b≠a
 |_,[],_,i,a,b,_,hb=>by simp at hb
 |cur,oC :: rest,h,0,a,b,ha,hb=>by cases ha;cases hb;exact⟨h.1,h.2.1⟩
 |cur,oC :: rest,h,i+1,a,b,ha,hb=>h.2.2.at i a b (by simpa using ha) (by simpa using hb)
def Chain.end{rest:List (List Int)}(h:Chain many steps cur rest)(ha:(cur :: rest)[rest.length]? = some a):RB many steps a a:=by have:=h.last;unfold g_ at this;rw[List.getLast_eq_getElem] at this;have e:=(iF.mp ha).2;simp only[qh,Nat.add_sub_cancel] at this;rwa[e] at this
def dU(nums:List Int)(k:Int):Option Int:=if k∈nums then some (y9 nums k) else none
def numsOf(k0:Int)(gV:List Int):List Int:=k0 :: gV.filter λx=>decide (x≠k0)
def hm(hs:List (Option Int))(s:Int):Option Int:=hs.getD s.toNat none
structure j5(many:Int)(steps:List Stp)(kinds ms gV:List Int)(hs:List (Option Int)):Prop where
 wq:Kinds many steps kinds
 met:Met steps ms
 up:gV.Pairwise (· < ·)
 mem:∀ x,x∈gV↔∃ s∈ms,x=rk kinds s
 eq:hs=kinds.map (dU (numsOf (rk kinds 0) gV))
def bJ(many:Int)(steps:List Stp)(hs:List (Option Int)):Prop:=∃ kinds ms gV,j5 many steps kinds ms gV hs
def bJ.uniq(bS:eW many steps)(h:bJ many steps hs)(g:bJ many steps gs):hs=gs:=by obtain⟨k,m,s,h⟩:=h;obtain⟨k2,m2,s2,g⟩:=g;have ek:=h.wq.uniq bS g.wq;subst ek;have em:=h.met.uniq g.met;subst em;have es:=o_ h.up g.up λx=>(h.mem x).trans (g.mem x).symm;subst es;rw[h.eq,g.eq]
def bJ.len(h:bJ many steps hs):hs.length=many.toNat:=by obtain⟨k,m,s,h⟩:=h;rw[h.eq,cx,h.wq.len]
def j5.at(h:j5 many steps kinds ms gV hs)(h0:0<=s)(h1:s<many):hm hs s=dU (numsOf (rk kinds 0) gV) (rk kinds s):=by
 have hl:=h.wq.len;have:s.toNat<kinds.length:=by lia
 unfold hm rk;rw[h.eq];simp[List.getD,this,rk]
def j5.nums(h:j5 many steps kinds ms gV hs):x∈numsOf (rk kinds 0) gV↔∃ s∈ms,x=rk kinds s:=by
 unfold numsOf;rw[eK,zD,h.mem];constructor
 ·rintro(rfl|⟨a,_⟩)
  ·exact⟨0,h.met.zero,rfl⟩
  ·exact a
 ·intro a;by_cases e:x=rk kinds 0
  ·exact .inl e
  ·exact .inr ⟨a,by simpa using e⟩
def c7(h:dU nums k=some i):k∈nums/\i=y9 nums k:=by
 unfold dU at h;split at h
 ·rename_i hk;exact⟨hk,(Option.some.inj h).symm⟩
 ·cases h
def bJ.step(h:bJ many steps hs)(bS:eW many steps)(h1:1<=many)(ht:t∈steps)(e:hm hs t.1=some i):∃ j,hm hs t.2.2=some j:=by obtain⟨k,m,gV,h⟩:=h;have ok:=bS t ht;rw[h.at ok.1 ok.2.1] at e;obtain⟨s,hs,es⟩:=h.nums.mp (c7 e).1;have g7:=((h.met.mem s).mp hs).lt bS h1;obtain⟨u,hu,e1,e2,e3⟩:=h.wq.fT.stp bS ht g7 es;refine⟨y9 (numsOf (rk k 0) gV) (rk k t.2.2),?_⟩;rw[h.at ok.2.2.2.1 ok.2.2.2.2,dU,if_pos];exact h.nums.mpr ⟨u.2.2,h.met.to hu (by rw[e1];exact hs),e3.symm⟩
structure d9(steps:List Stp)(hs:List (Option Int))(c:Int)(out:List Stp):Prop where
 cnt:∃ l:List Int,l.Nodup/\(∀ x,x∈l↔some x∈hs)/\c=l.length
 up:out.Pairwise fun a b=>d4 a b=true
 mem:∀ s,s∈out↔∃ t∈steps,hm hs t.1=some s.1/\s.2.1=t.2.1/\hm hs t.2.2=some s.2.2
def d9.uniq(h:d9 steps hs c out)(g:d9 steps hs d ZS):c=d/\out=ZS:=by obtain⟨l,n1,m1,rfl⟩:=h.cnt;obtain⟨m,n2,m2,rfl⟩:=g.cnt;refine⟨?_,f9 (λa _ b _ h1 h2=>by have:=lD h1 h2;rw[gG] at this;cases this) h.up g.up λs=>(h.mem s).trans (g.mem s).symm⟩;have a:=aF n1 λx hx=>(m2 x).mpr ((m1 x).mp hx);have b:=aF n2 λx hx=>(m1 x).mpr ((m2 x).mp hx);lia
def p9:Option Int->D
 |some i=>.int i
 |none=>.non
def Gy{many s:Int}{hs:List (Option Int)}(hl:hs.length=many.toNat)(h0:0<=s)(h1:s<many):gi (hs.map p9) s=some (p9 (hm hs s)):=by
 have h:s.toNat<hs.length:=by lia
 refine vX (ur h0 (by rw[cx];lia)) ?_;simp[hm,h]
def uU(l:List Int):(l.map λx=>(Sum.inl x:Key)).map nk=l.map D.int:=by rw[fN];rfl
def qK{l:List Int}(h:(l.map λx=>(Sum.inl x:Key)).Nodup):l.Nodup:=by
 unfold List.Nodup at *
 rw[kC] at h;exact h.imp λh e=>h (by rw[e])
def JW{l:List Int}(h:(l.map λx=>(Sum.inl x:Key)).Nodup)(pw:(l.map λx=>(Sum.inl x:Key)).Pairwise λa b=>nS b a=false):l.Pairwise (· < ·):=by
 have nd:=qK h;rw[kC] at pw;refine(pw.and nd).imp λ{a b} ⟨h1,h2⟩=>?_;have h1:¬ b<a:=by simpa[nS] using h1
 lia
def Cm(o:Option Int):(p9 o).flat=true:=by cases o<;>rfl
def nU(k0:Int){gV:List Int}(h:gV.Pairwise (· < ·)):(numsOf k0 gV).Nodup :=
 ly.mpr ⟨λz=>by have:=(zD.mp z).2;simp at this,(oF h).filter _⟩
def BV(nd:nums.Nodup)(h:Q .sh (p9 (dU nums x))):IC (fI (sN nums) (.inl x)) .sh .sh .non Q:=by
 unfold dU at h;by_cases e:x∈nums
 ·rw[Ja e nd];rw[if_pos e] at h;exact h
 ·have:fI (sN nums) (.inl x)=none:=by
   have:=zu nums x;rw[decide_eq_false e] at this
   cases z:fI (sN nums) (.inl x) with
   |none=>rfl
   |some v=>rw[z] at this;cases this
  rw[this];rw[if_neg e] at h;exact h
def pP(steps:List Stp)(hs:List (Option Int)):List Stp:=(steps.filter λt=>(hm hs t.1).isSome).map λt=>((hm hs t.1).getD 0,t.2.1,(hm hs t.2.2).getD 0)
def q_(H:bJ many steps hs)(bS:eW many steps)(h1:1<=many)(s:Stp):s∈pP steps hs↔∃ t∈steps,hm hs t.1=some s.1/\s.2.1=t.2.1/\hm hs t.2.2=some s.2.2:=by
 unfold pP;rw[cw];constructor
 ·rintro⟨t,ht,rfl⟩;obtain⟨ht,e⟩:=zD.mp ht;obtain⟨i,ei⟩:=Option.isSome_iff_exists.mp e;obtain⟨j,ej⟩:=H.step bS h1 ht ei;exact⟨t,ht,by rw[ei];rfl,rfl,by rw[ej];rfl⟩
 ·rintro⟨t,ht,e1,e2,e3⟩;refine⟨t,zD.mpr ⟨ht,by rw[e1];rfl⟩,?_⟩;rw[e1,e3,<- e2];rfl
def iW(hs:List (Option Int)):List Int:=hs.filterMap id
def t7:x∈iW hs↔some x∈hs:=by simp[iW]
def yF(hs:List (Option Int)):((hs.map p9).filter λd=>!d.HZ).map (λd=>d)=((iW hs).map λx=>(Sum.inl x:Key)).map nk:=by
 rw[uU]
 induction hs with
 |nil=>rfl
 |cons o hs ih =>
  cases o with
  |none=>simpa[p9,D.HZ,iW] using ih
  |some i=>simpa[p9,D.HZ,iW] using ih
def tL{hs:List (Option Int)}(hl:hs.length<=1000){R:List Key->Prop}(k:∀ ms:List Key,(∃ l:List Int,l.Nodup/\(∀ x,x∈l↔some x∈hs)/\(ms.length:Int)=l.length)->R ms) :
  ∃ ks:List Key,((iW hs).map λx=>(Sum.inl x:Key)).map nk=ks.map nk/\ks.length<=1000/\∀ ms:List Key,ms.Nodup->(∀ k,k∈ms↔k∈ks)->R ms:=by
 refine⟨_,rfl,?_,λms nd mm=>?_⟩
 ·rw[cx];exact jS (List.length_filterMap_le _ _) hl
 ·obtain⟨l,rfl,_⟩:=R5 λx hx=>by obtain⟨y,_,e⟩:=cw.mp ((mm x).mp hx);exact⟨y,e.symm,trivial⟩
  refine k _ ⟨l,qK nd,λx=>?_,by rw[cx]⟩;rw[<- t7,<- dw,mm,dw]
def qg(steps:List Stp)(hs:List (Option Int)):(pP steps hs).length<=steps.length:=by unfold pP;rw[cx];exact Qa _ _
def rG{many b:Int}{l:List Stp}(n:Nat)(h:eW b l):dc (n+3) (mD many l)=true:=by have h2:=tD n h;show(dc (n+2) (.int many) && (dc (n+2) (.list (l.map b6)) && true))=true;rw[h2];rfl
section
variable {many c:Int}{steps out:List Stp}{hs:List (Option Int)}
def qP(h0:0<=s)(e:hm hs s=some i):some i∈hs:=by
 unfold hm at e;rw[CB] at e
 cases z:hs[s.toNat]? with
 |none=>rw[z] at e;cases e
 |some o=>rw[z] at e;have e:o=some i:=e;rw[<- e];exact mB z
def yS(hl:hs.length=many.toNat)(h:some i∈hs):∃ s,(0<=s/\s<many)/\hm hs s=some i:=by obtain⟨n,hn⟩:=IZ.mp h;have LD:=(iF.mp hn).1;exact⟨n,by lia,by unfold hm;rw[CB,show((n:Int)).toNat=n by lia,hn];rfl⟩
def bJ.range(H:bJ many steps hs)(bS:eW many steps)(h1:1<=many):∃ n:Nat,1<=n/\(n:Int)<=many/\∀ x,some x∈hs↔0<=x/\x<n:=by
 have hl:=H.len;obtain⟨k,ms,gV,hb⟩:=H;have nd:=nU (rk k 0) hb.up;have mx:∀ x,some x∈hs↔0<=x/\x<((numsOf (rk k 0) gV).length:Nat):=λx=>by
  constructor
  ·intro h;obtain⟨s,D6,e⟩:=yS hl h;rw[hb.at D6.1 D6.2] at e;have:=c7 e;rw[this.2];exact IW this.1
  ·intro ⟨x0,x1⟩;have hx:x.toNat<(numsOf (rk k 0) gV).length:=by lia
   obtain⟨s,D6,e⟩:=hb.nums.mp (ui hx);have Fm:=((hb.met.mem s).mp D6).lt bS h1;refine qP Fm.1 ?_;rw[hb.at Fm.1 Fm.2,<- e];unfold dU;rw[if_pos (ui hx),Ef nd hx];congr 1;lia
 refine⟨(numsOf (rk k 0) gV).length,by unfold numsOf;simp,?_,mx⟩;have:=aF nd λx hx=>by obtain⟨s,D6,e⟩:=hb.nums.mp hx;have Fm:=((hb.met.mem s).mp D6).lt bS h1;have B6:=hb.wq.len;rw[e];unfold rk;rw[CB,lh (by lia)];exact ui _
 have B6:=hb.wq.len;lia
def bJ.zero(H:bJ many steps hs)(h1:1<=many):hm hs 0=some 0:=by obtain⟨k,ms,gV,hb⟩:=H;rw[hb.at (iS 0) (by lia)];unfold dU numsOf;simp[y9]
def bJ.like(H:bJ many steps hs)(bS:eW many steps)(ht:t∈steps)(D6:0<=s/\s<many)(e1:hm hs s=some i)(e2:hm hs t.1=some i):∃ u,(s,t.2.1,u)∈steps/\hm hs u=hm hs t.2.2:=by
 obtain⟨k,ms,gV,hb⟩:=H;have ok:=bS t ht;rw[hb.at D6.1 D6.2] at e1;rw[hb.at ok.1 ok.2.1] at e2;obtain⟨a1,a2⟩:=c7 e1;obtain⟨b1,b2⟩:=c7 e2;have ek:rk k t.1=rk k s:=by
  have a3:=List.idxOf_lt_length_iff.mpr a1;have b3:=List.idxOf_lt_length_iff.mpr b1;have:(numsOf (rk k 0) gV).idxOf (rk k s)=(numsOf (rk k 0) gV).idxOf (rk k t.1):=by unfold y9 at a2 b2;lia
  have e3:=SG a3;have e4:=SG b3;simp only[this] at e3;exact e4.symm.trans e3
 obtain⟨u,hu,f1,f2,f3⟩:=hb.wq.fT.stp bS ht D6 ek;obtain⟨u1,u2,u3⟩:=u;have f1:u1=s:=f1;have f2:u2=t.2.1:=f2;subst f1 f2;refine⟨u3,hu,?_⟩;have oku:=bS _ hu;rw[hb.at oku.2.2.2.1 oku.2.2.2.2,hb.at ok.2.2.2.1 ok.2.2.2.2];exact congrArg _ f3
def d9.len(h:d9 steps hs c out)(H:bJ many steps hs)(bS:eW many steps)(h1:1<=many):out.length<=steps.length:=by
 have nd:out.Nodup:=h.up.imp λ{a b} q e=>by subst e;unfold d4 at q;rw[gG] at q;cases q
 exact jS (aF nd λs ot=>(q_ H bS h1 s).mpr ((h.mem s).mp ot)) (qg _ _)
def d9.yX(h:d9 steps hs c out){n:Nat}(hn:∀ x,some x∈hs↔0<=x/\x<n):c=n:=by
 obtain⟨l,nd,mem,rfl⟩:=h.cnt;have a:=aF nd λx hx=>d8.mpr ((hn x).mp ((mem x).mp hx));have nr:(dY n).Nodup:=by unfold dY;rw[List.Nodup,kC];exact SN.imp λh e=>h (by lia)
 have b:=aF nr λx hx=>(mem x).mpr ((hn x).mpr (d8.mp hx));rw[gh] at a b;lia
end
def IE(p q:Pr):Bool:=if p.1=q.1 then decide (p.2<q.2) else tI p.1 q.1
def ML:List Pr->List Pr->Bool
 |[],m=>!m.isEmpty
 |_ :: _,[]=>false
 |p :: l,q :: m=>if p=q then ML l m else IE p q
def JF(p q:Pr):gy (p5 p) (p5 q)=IE p q:=by
 obtain⟨a,b⟩:=p;obtain⟨c,d⟩:=q;unfold IE p5;by_cases h:a=c
 ·subst h;by_cases g:b=d
  ·subst g;simp[gy]
  ·simp[gy,g,nS]
 ·simp[gy,h,nS]
def yj(h:L2.eU p=L2.eU q):p=q:=by obtain⟨a,b⟩:=p;obtain⟨c,d⟩:=q;simp[L2.eU] at h;rw[h.1,h.2]
def Cw:L2.iP (PySem.SeqAt.d4 1) λx=>∃ a b,x=.tuple [a,b]/\(∃ s,a=.str s)/\∃ i,b=.int i:=L2.iP.pair (L2.iP.str 0) (L2.iP.int 0)
def B_(p:Pr):∃ a b,L2.eU p=.tuple [a,b]/\(∃ s,a=PyData.str s)/\∃ i,b=PyData.int i:=⟨_,_,rfl,⟨_,rfl⟩,_,rfl⟩
def KN(p q:Pr):PySem.SeqAt.d4 1 (L2.eU p) (L2.eU q)=IE p q:=by
 unfold L2.eU;rw[PySem.SeqAt.d4,L2.cI (L2.iP.str 0) (L2.iP.int 0) ⟨_,rfl⟩ ⟨_,rfl⟩ ⟨_,rfl⟩ ⟨_,rfl⟩];unfold IE;by_cases h:p.1=q.1
 ·rw[if_pos h,if_pos (by rw[h]),PySem.SeqAt.d4]
 ·rw[if_neg h,if_neg (λz=>h (by simpa using z)),PySem.SeqAt.d4];rfl
theorem xQ:∀ l m:List Pr,PySem.SeqAt.oB (PySem.SeqAt.d4 1) (l.map L2.eU) (m.map L2.eU)=ML l m
 |[],[]=>rfl
 |[],_ :: _=>rfl
 |_ :: _,[]=>rfl
 |p :: l,q :: m=>by
  rw[gS,gS,L2.cJ Cw (B_ p) (B_ q),xQ l m,KN];rw[ML];by_cases h:p=q
  ·rw[if_pos h,if_pos (by rw[h])]
  ·rw[if_neg h,if_neg λz=>h (yj z)]
def C_:rS a b=if a.1=b.1 then ML a.2 b.2 else decide (a.1<b.1):=by
 unfold rS;rw[zR,zR,PySem.SeqAt.d4,L2.cI (L2.iP.int 2) (L2.iP.list Cw) ⟨_,rfl⟩ ⟨_,rfl,λy hy=>by obtain⟨p,_,rfl⟩:=cw.mp hy;exact B_ p⟩ ⟨_,rfl⟩ ⟨_,rfl,λy hy=>by obtain⟨p,_,rfl⟩:=cw.mp hy;exact B_ p⟩];by_cases h:a.1=b.1
 ·rw[if_pos h,if_pos (by rw[h]),PySem.SeqAt.d4,xQ]
 ·rw[if_neg h,if_neg (λz=>h (by simpa using z)),PySem.SeqAt.d4]
structure kP(many:Int)(steps:List Stp)(AG:Int)(zh:List Stp)(B:Int->Int->Prop):Prop where
 ins:∀ s t,B s t->(0<=s/\s<many)/\(0<=t/\t<AG)
 to:∀ s t,B s t->∀ d e,(s,d,e)∈steps->∃ f,(t,d,f)∈zh/\B e f
 back:∀ s t,B s t->∀ d f,(t,d,f)∈zh->∃ e,(s,d,e)∈steps/\B e f
def xA(B:Int->Int->Prop)(r r2:List Int):Prop:=∀ s s2 t t2,B s s2->B t t2->(rk r s<rk r t↔rk r2 s2<rk r2 t2)
section
variable {many AG:Int}{steps zh:List Stp}{B:Int->Int->Prop}{r r2:List Int}
def xA.eq(h:xA B r r2)(hs:B s s2)(ht:B t t2):rk r s=rk r t↔rk r2 s2=rk r2 t2:=by have a:=h s s2 t t2 hs ht;have b:=h t t2 s s2 ht hs;constructor<;>intro e<;>lia
def sP(B:Int->Int->Prop)(r:List Int)(v:Int):Prop:=∃ e f,B e f/\rk r e=v
open Classical in
def xB(B:Int->Int->Prop)(r r2:List Int)(v:Int):Int:=if z:∃ f e,B e f/\rk r e=v then rk r2 z.choose else 0
def gF(h:xA B r r2)(he:B e f):xB B r r2 (rk r e)=rk r2 f:=by
 have z:∃ f' e',B e' f'/\rk r e'=rk r e:=⟨f,e,he,rfl⟩
 unfold xB;rw[dif_pos z];obtain⟨e',h1,h2⟩:=z.choose_spec;exact(h.eq h1 he).mp h2
def pM(h:xA B r r2)(hv:sP B r v)(hw:sP B r w):v<w↔xB B r r2 v<xB B r r2 w:=by obtain⟨e,e2,he,rfl⟩:=hv;obtain⟨f,f2,hf,rfl⟩:=hw;rw[gF h he,gF h hf];exact h e e2 f f2 he hf
def qG(h:xA B r r2)(hv:sP B r v)(hw:sP B r w):v=w↔xB B r r2 v=xB B r r2 w:=by have a:=pM h hv hw;have b:=pM h hw hv;constructor<;>intro e<;>lia
def B7(B:Int->Int->Prop)(r r2:List Int)(p:Pr):Pr:=(p.1,xB B r r2 p.2)
def Df(h:xA B r r2)(hp:sP B r p.2)(hq:sP B r q.2):p=q↔B7 B r r2 p=B7 B r r2 q:=by
 constructor
 ·intro e;rw[e]
 ·intro e;have e1:p.1=q.1:=(Prod.mk.inj e).1;have e2:xB B r r2 p.2=xB B r r2 q.2:=(Prod.mk.inj e).2;exact Prod.ext e1 ((qG h hp hq).mpr e2)
def De(h:xA B r r2)(hp:sP B r p.2)(hq:sP B r q.2):IE (B7 B r r2 p) (B7 B r r2 q)=IE p q:=by
 unfold IE B7;by_cases e:p.1=q.1
 ·rw[if_pos e,if_pos e,sT,decide_eq_true_iff,decide_eq_true_iff];exact(pM h hp hq).symm
 ·rw[if_neg e,if_neg e]
theorem yN(h:xA B r r2):∀ (l m:List Pr),(∀ p∈l,sP B r p.2)->(∀ p∈m,sP B r p.2)->ML (l.map (B7 B r r2)) (m.map (B7 B r r2))=ML l m
 |[],[],_,_=>rfl
 |[],_ :: _,_,_=>rfl
 |_ :: _,[],_,_=>rfl
 |p :: l,q :: m,hl,hm=>by
  have ih:=yN h l m (λx hx=>hl x (dP _ hx)) (λx hx=>hm x (dP _ hx));have hp:=hl p dz;have hq:=hm q dz;simp only[gS,ML];by_cases e:p=q
  ·rw[if_pos e,if_pos ((Df h hp hq).mp e),ih]
  ·rw[if_neg e,if_neg λz=>e ((Df h hp hq).mpr z),De h hp hq]
def CV(E:kP many steps AG zh B)(h:xA B r r2)(hs:B s s2)(hk:D5 steps r s k)(xi:D5 zh r2 s2 k2) :
  k2=(xB B r r2 k.1,k.2.map (B7 B r r2))/\∀ p∈k.2,sP B r p.2:=by
 have inr:∀ p∈k.2,sP B r p.2:=λp hp=>by obtain⟨t,ht,e,rfl⟩:=(hk.mem p).mp hp;subst e;obtain⟨f,_,hf⟩:=E.to _ _ hs t.2.1 t.2.2 ht;exact⟨t.2.2,f,hf,rfl⟩
 refine⟨Prod.ext ?_ ?_,inr⟩
 ·rw[xi.fst,hk.fst,gF h hs]
 ·show k2.2=k.2.map (B7 B r r2);refine f9 (λa _ b _ h1 h2=>by have:=lD h1 h2;rw[gG] at this;cases this) xi.up ?_ λp=>?_
  ·rw[kC];refine(xD.mpr λi j hi hj ki=>?_);have:=xD.mp hk.up i j hi hj ki;rw[JF] at this ⊢;rw[De h (inr _ (ui hi)) (inr _ (ui hj))];exact this
  ·rw[xi.mem,cw];constructor
   ·rintro⟨u,hu,e1,rfl⟩;subst e1;obtain⟨e,he,hf⟩:=E.back _ _ hs u.2.1 u.2.2 hu;refine⟨(u.2.1,rk r e),(hk.mem _).mpr ⟨_,he,rfl,rfl⟩,?_⟩;unfold B7;rw[gF h hf]
   ·rintro⟨q,hq,rfl⟩;obtain⟨t,ht,et,rfl⟩:=(hk.mem q).mp hq;subst et;obtain⟨f,hf,hb⟩:=E.to _ _ hs t.2.1 t.2.2 ht;refine⟨_,hf,rfl,?_⟩;unfold B7;rw[gF h hb]
def xA.next(E:kP many steps AG zh B)(bS:eW many steps)(ZT:eW AG zh)(h:xA B r r2)(b:RB many steps r q)(b2:RB AG zh r2 q2):xA B q q2:=by
 obtain⟨ky,diff,b⟩:=b;obtain⟨ZQ,ZR,b2⟩:=b2;intro s s2 t t2 hs ht;obtain⟨R7,LX⟩:=E.ins _ _ hs;obtain⟨R8,ZU⟩:=E.ins _ _ ht;rw[b.lt bS R7 R8,b2.lt ZT LX ZU];obtain⟨es,is⟩:=CV E h hs (b.key s R7.1 R7.2) (b2.key s2 LX.1 LX.2);obtain⟨et,it⟩:=CV E h ht (b.key t R8.1 R8.2) (b2.key t2 ZU.1 ZU.2);have i1:sP B r (ky s).1:=⟨s,s2,hs,(b.key s R7.1 R7.2).fst.symm⟩
 have i2:sP B r (ky t).1:=⟨t,t2,ht,(b.key t R8.1 R8.2).fst.symm⟩
 rw[es,et,C_,C_];by_cases e:(ky s).1=(ky t).1
 ·rw[if_pos e,if_pos ((qG h i1 i2).mp e),yN h _ _ is it]
 ·rw[if_neg e,if_neg λz=>e ((qG h i1 i2).mpr z),decide_eq_true_iff,decide_eq_true_iff];exact pM h i1 i2
end
def zi(rest:List (List Int))(many:Int)(k:Nat):List Int:=(zeros many :: rest).getD (min k rest.length) []
def p_{rest:List (List Int)}(h:Chain many steps (zeros many) rest)(k:Nat):RB many steps (zi rest many k) (zi rest many (k+1)):=by
 have at':∀ j,j<=rest.length->(zeros many :: rest)[j]? = some (zi rest many j):=λj hj=>by unfold zi;rw[Nat.min_eq_left hj,List.getD,lh (by simp;lia)];rfl
 by_cases hk:k+1<=rest.length
 ·exact(h.at k _ _ (at' k (by lia)) (at' (k+1) hk)).1
 ·have e:∀ j,rest.length<=j->zi rest many j=zi rest many rest.length:=λj hj=>by unfold zi;rw[Nat.min_eq_right hj,Nat.min_eq_right (c9 _)]
  rw[e k (by lia),e (k+1) (by lia)];exact h.end (at' rest.length (c9 _))
def qW{rest:List (List Int)}(hk:rest.length<=k):zi rest many k=g_ (zeros many) rest:=by unfold zi g_;rw[Nat.min_eq_right hk,List.getLast_eq_getElem,List.getD,lh (by simp)];simp
def yw{B:Int->Int->Prop}(E:kP many steps AG zh B)(bS:eW many steps)(ZT:eW AG zh)(h:Kinds many steps k)(h2:Kinds AG zh k2):xA B k k2:=by
 obtain⟨rest,h,rfl⟩:=h;obtain⟨du',h2,rfl⟩:=h2;have all:∀ k,xA B (zi rest many k) (zi du' AG k):=λk=>by
  induction k with
  |zero =>
   intro s s2 t t2 _ _;have e:∀ m rs,zi rs m 0=zeros m:=λm rs=>by simp[zi]
   rw[e,e,gf,gf,gf,gf]
  |succ k ih=>exact ih.next E bS ZT (p_ h k) (p_ h2 k)
 have:=all (rest.length+du'.length);rwa[qW (by lia),qW (by lia)] at this
def kP.symm{B:Int->Int->Prop}(h:kP many steps AG zh B):kP AG zh many steps λs t=>B t s :=
 ⟨λs t b=>⟨(h.ins t s b).2,(h.ins t s b).1⟩,λs t b d e he=>h.back t s b d e he,λs t b d f hf=>h.to t s b d f hf⟩
theorem idx_map{f:Int->Int}{x:Int}:∀ {l:List Int},(∀ y∈l,f y=f x->y=x)->(l.map f).idxOf (f x)=l.idxOf x
 |[],_=>rfl
 |y :: l,h=>by
  rw[gS,List.idxOf_cons,List.idxOf_cons,idx_map λz hz=>h z (dP _ hz)];by_cases e:y=x
  ·rw[e,beq_self_eq_true,beq_self_eq_true]
  ·have:f y≠f x:=λz=>e (h y dz z);rw[show(f y == f x)=false from beq_eq_false_iff_ne.mpr this,show(y == x)=false from beq_eq_false_iff_ne.mpr e]
section
variable {n1 n2:Int}{s1 s2:List Stp}{B:Int->Int->Prop}{h1 h2:List (Option Int)}
def kP.R9(E:kP n1 s1 n2 s2 B)(b0:B 0 0)(r:Reach s1 s):∃ t,Reach s2 t/\B s t:=by
 induction r with
 |zero=>exact⟨0,.zero,b0⟩
 |step _ hs ih =>rename_i st _;obtain⟨t,ht,b⟩:=ih;obtain⟨f,hf,b2⟩:=E.to _ _ b _ _ hs;exact⟨f,.step ht hf,b2⟩
def qC(E:kP n1 s1 n2 s2 B)(b0:B 0 0)(i1:eW n1 s1)(i2:eW n2 s2)(H1:bJ n1 s1 h1)(H2:bJ n2 s2 h2){s t:Int}(b:B s t):hm h1 s=hm h2 t:=by
 obtain⟨k1,m1,r1,H1⟩:=H1;obtain⟨k2,m2,r2,H2⟩:=H2;have ord:=yw E i1 i2 H1.wq H2.wq;have mt1:∀ s∈m1,∃ t∈m2,B s t:=λs hs=>by obtain⟨t,ht,b⟩:=E.R9 b0 ((H1.met.mem s).mp hs);exact⟨t,(H2.met.mem t).mpr ht,b⟩
 have mt2:∀ t∈m2,∃ s∈m1,B s t:=λt ht=>by obtain⟨s,hs,b⟩:=E.symm.R9 b0 ((H2.met.mem t).mp ht);exact⟨s,(H1.met.mem s).mpr hs,b⟩
 have inr:∀ x∈r1,sP B k1 x:=λx hx=>by obtain⟨s,hs,rfl⟩:=(H1.mem x).mp hx;obtain⟨t,_,b⟩:=mt1 s hs;exact⟨s,t,b,rfl⟩
 have e1:r2=r1.map (xB B k1 k2):=by
  refine o_ H2.up ?_ λx=>?_
  ·rw[kC];refine xD.mpr λi j hi hj ki=>?_;exact(pM ord (inr _ (ui hi)) (inr _ (ui hj))).mp (xD.mp H1.up i j hi hj ki)
  ·rw[H2.mem,cw];constructor
   ·rintro⟨t,ht,rfl⟩;obtain⟨s,hs,b⟩:=mt2 t ht;exact⟨rk k1 s,(H1.mem _).mpr ⟨s,hs,rfl⟩,gF ord b⟩
   ·rintro⟨y,hy,rfl⟩;obtain⟨s,hs,rfl⟩:=(H1.mem y).mp hy;obtain⟨t,ht,b⟩:=mt1 s hs;exact⟨t,ht,gF ord b⟩
 have i0:sP B k1 (rk k1 0):=⟨0,0,b0,rfl⟩
 have e2:numsOf (rk k2 0) r2=(numsOf (rk k1 0) r1).map (xB B k1 k2):=by unfold numsOf;rw[gS,gF ord b0,e1,SX];congr 2;refine List.filter_congr λx hx=>?_;have:=qG ord (inr x hx) i0;rw[gF ord b0] at this;simp only[Function.comp,ne_eq,this]
 obtain⟨a1,a2⟩:=E.ins _ _ b;rw[H1.at a1.1 a1.2,H2.at a2.1 a2.2,e2,<- gF ord b];have inn:∀ y∈numsOf (rk k1 0) r1,sP B k1 y:=λy hy=>by
  rcases eK.mp hy with rfl|hy
  ·exact i0
  ·exact inr y (zD.mp hy).1
 have inj:∀ y∈numsOf (rk k1 0) r1,xB B k1 k2 y=xB B k1 k2 (rk k1 s)->y=rk k1 s:=λy hy z=>(qG ord (inn y hy) ⟨s,t,b,rfl⟩).mpr z;unfold dU;by_cases e:rk k1 s∈numsOf (rk k1 0) r1
 ·rw[if_pos e,if_pos (cw.mpr ⟨_,e,rfl⟩)];unfold y9;rw[idx_map inj]
 ·rw[if_neg e,if_neg λz=>by
   obtain⟨y,hy,ey⟩:=cw.mp z;exact e (inj y hy ey ▸ hy)]
def bJ.of(H:bJ n1 s1 h1)(i1:eW n1 s1)(p1:1<=n1)(hs:0<=s/\s<n1)(e:hm h1 s=some i):∃ p,Reach s1 p/\hm h1 p=some i/\∀ d u,(s,d,u)∈s1->∃ v,(p,d,v)∈s1/\hm h1 v=hm h1 u:=by
 obtain⟨k,m,r,hb⟩:=H;have e':=e;rw[hb.at hs.1 hs.2] at e';obtain⟨p,hp,ep⟩:=hb.nums.mp (c7 e').1;have rp:=(hb.met.mem p).mp hp;have pl:=rp.lt i1 p1;have ei:hm h1 p=some i:=by rw[hb.at pl.1 pl.2,<- ep];exact e'
 refine⟨p,rp,ei,λd u hu=>?_⟩;exact bJ.like ⟨k,m,r,hb⟩ i1 hu pl ei e
def rJ(E:kP n1 s1 n2 s2 B)(b0:B 0 0)(i1:eW n1 s1)(p1:1<=n1)(H1:bJ n1 s1 h1)(l2:h2.length=n2.toNat)(heq:∀ s t,B s t->hm h1 s=hm h2 t)(L1:d9 s1 h1 c1 o1)(oy:d9 s2 h2 c2 o2):(∀ x,some x∈h1->some x∈h2)/\∀ s∈o1,s∈o2:=by
 constructor
 ·intro x hx;obtain⟨s,hs,e⟩:=yS H1.len hx;obtain⟨p,rp,ep,_⟩:=H1.of i1 p1 hs e;obtain⟨q,rq,b⟩:=E.R9 b0 rp;exact qP (E.ins _ _ b).2.1 ((heq p q b).symm.trans ep)
 ·intro s hs;obtain⟨t,ht,a1,a2,a3⟩:=(L1.mem s).mp hs;have ok:=i1 t ht;obtain⟨p,rp,ep,st⟩:=H1.of i1 p1 ⟨ok.1,ok.2.1⟩ a1;obtain⟨v,hv,ev⟩:=st t.2.1 t.2.2 ht;obtain⟨q,rq,b⟩:=E.R9 b0 rp;obtain⟨f,hf,b2⟩:=E.to _ _ b _ _ hv;exact(oy.mem s).mpr ⟨_,hf,(heq p q b).symm.trans ep,a2,(heq v f b2).symm.trans (ev.trans a3)⟩
def yO(E:kP n1 s1 n2 s2 B)(b0:B 0 0)(i1:eW n1 s1)(i2:eW n2 s2)(p1:1<=n1)(p2:1<=n2)(H1:bJ n1 s1 h1)(H2:bJ n2 s2 h2)(L1:d9 s1 h1 c1 o1)(oy:d9 s2 h2 c2 o2):c1=c2/\o1=o2:=by have heq:∀ s t,B s t->hm h1 s=hm h2 t:=λs t b=>qC E b0 i1 i2 H1 H2 b;obtain⟨a1,a2⟩:=rJ E b0 i1 p1 H1 H2.len heq L1 oy;obtain⟨b1,b2⟩:=rJ E.symm b0 i2 p2 H2 H1.len (λs t b=>(heq t s b).symm) oy L1;refine⟨?_,f9 (λa _ b _ h1 h2=>by have:=lD h1 h2;rw[gG] at this;cases this) L1.up oy.up λs=>⟨a2 s,b2 s⟩⟩;obtain⟨n,_,_,hn⟩:=H1.range i1 p1;rw[L1.yX hn,oy.yX λx=>⟨λz=>(hn x).mp (b1 x z),λz=>a1 x ((hn x).mpr z)⟩]
end
section
variable {n c:Int}{E o:List Stp}{hs:List (Option Int)}
def d9.in(L:d9 E hs c o)(H:bJ n E hs)(bS:eW n E)(p:1<=n):eW c o/\1<=c/\c<=n/\∀ x,some x∈hs↔0<=x/\x<c:=by obtain⟨m,m1,m2,m3⟩:=H.range bS p;have e:=L.yX m3;refine⟨λt ht=>?_,by lia,by lia,λx=>by rw[m3,e]⟩;obtain⟨u,hu,a1,a2,a3⟩:=(L.mem t).mp ht;have ok:=bS u hu;have b1:=(m3 _).mp (qP ok.1 a1);have b2:=(m3 _).mp (qP ok.2.2.2.1 a3);exact⟨b1.1,by lia,by rw[a2];exact ok.2.2.1,b2.1,by lia⟩
def zq(L:d9 E hs c o)(H:bJ n E hs)(bS:eW n E)(p:1<=n):kP n E c o λs i=>(0<=s/\s<n)/\hm hs s=some i:=by
 obtain⟨io,_,_,rg⟩:=L.in H bS p;refine⟨λs i b=>⟨b.1,(rg i).mp (qP b.1.1 b.2)⟩,λs i b d e he=>?_,λs i b d j hj=>?_⟩
 ·obtain⟨j,ej⟩:=H.step bS p he b.2;exact⟨j,(L.mem _).mpr ⟨_,he,b.2,rfl,ej⟩,(bS _ he).2.2.2,ej⟩
 ·obtain⟨u,hu,a1,a2,a3⟩:=(L.mem _).mp hj;obtain⟨v,hv,ev⟩:=H.like bS hu b.1 b.2 a1;rw[<- a2] at hv;exact⟨v,hv,(bS _ hv).2.2.2,ev.trans a3⟩
end
def gO{α:Type}(l:List α):l.filter (λ_=>true)=l:=Nw.mpr λ_ _=>rfl
def j7{α:Type}(f:α->D)(l:List α)(lo hi:Option Int):nV (l.map f) lo hi=(nV l lo hi).map f:=by unfold nV;rw[cx,List.map_take,List.map_drop]
def yC{α:Type}{l:List α}{lo hi:Option Int}{x:α}(h:x∈nV l lo hi):x∈l:=SD (Qe h)
def pj(steps out:List Stp):Prop:=out.Nodup/\(∀ s,s∈out↔s∈steps)/\(out.Pairwise λa b=>d4 b a=false)
def jf{α β:Type}{f:α->β}{l:List α}(h:(l.map f).Nodup):l.Nodup:=by rw[List.Nodup,kC] at h;exact h.imp λL9 e=>L9 (by rw[e])
def pj.one(M:pj steps out)(M2:pj steps ZS):out=ZS :=
 List.Perm.eq_of_pairwise (λa b _ _ h1 h2=>jU (iY rfl h2 h1)) M.2.2 M2.2.2 ((List.perm_ext_iff_of_nodup M.1 M2.1).mpr λs=>(M.2.1 s).trans (M2.2.1 s).symm)
def pj.len(M:pj steps out):out.length<=steps.length:=TS.bH M.1 λs hs=>(M.2.1 s).mp hs
def u9(P:List D->Prop)(hz:l.length<=1000)(k:∀ out,pj l out->P (out.map b6)):∃ (ks:List (List Key)) (sh:List Bool),l.map b6=ks.map kM/\ks.length<=1000/\(∀ k∈ks,ja k=true :: sh) /\
  ∀ ms:List (List Key),ms.Nodup->(∀ k,k∈ms↔k∈ks)->(ms.Pairwise λa b=>gy b a=false)->P (ms.map kM):=by
 refine⟨l.map kr,[false,true],by rw[fN];rfl,by simpa using hz,?_,λms nd mm pw=>?_⟩
 ·intro k hk;obtain⟨s,_,rfl⟩:=cw.mp hk;rfl
 ·obtain⟨out,rfl,ho⟩:=kJ λk hk=>by obtain⟨s,hs,rfl⟩:=cw.mp ((mm k).mp hk);exact⟨s,rfl,hs⟩
  have e:(out.map kr).map kM=out.map b6:=by rw[fN];rfl
  rw[e];refine k out ⟨jf nd,λs=>⟨λhm=>ho s hm,λhm=>?_⟩,kC.mp pw⟩;obtain⟨s',g7,e⟩:=cw.mp ((mm (kr s)).mpr (cw.mpr ⟨s,hm,rfl⟩));rw[<- jU e];exact g7
def ql{steps:List Stp}{i:Nat}{x:D}(h:(steps.map b6)[i]? = some x):∃ p d r,x=.tup [.int p,.str d,.int r]/\(p,d,r)∈steps/\steps.take (i+1)=steps.take i++[(p,d,r)]:=by
 rw[nK] at h
 cases e:steps[i]? with
 |none=>rw[e] at h;cases h
 |some s =>rw[e] at h;cases h;obtain⟨p,d,r⟩:=s;exact⟨p,d,r,rfl,mB e,by rw[wm,e];rfl⟩
def Dv{l:List Str}{i:Nat}{x:D}(h:(l.map D.str)[i]? = some x):∃ n,x=.str n/\n∈l/\l.take (i+1)=l.take i++[n]:=by
 rw[nK] at h
 cases e:l[i]? with
 |none=>rw[e] at h;cases h
 |some s =>rw[e] at h;cases h;exact⟨s,rfl,mB e,by rw[wm,e];rfl⟩
def Bq:(decide (1<=n.length/\n.length<=6) && (sg n).all isLet)=true↔Open n:=by simp only[n5,decide_eq_true_eq,AX];exact⟨λ⟨⟨a,b⟩,c⟩=>⟨a,b,c⟩,λ⟨a,b,c⟩=>⟨⟨a,b⟩,c⟩⟩
def Fn(f:Str->Option Str)(s:Stp):Stp:=(s.1,(f s.2.1).getD s.2.1,s.2.2)
def Dy(hf:∀ x y,f x=some y->xt y)(h:xv many s):xv many (Fn f s):=by
 refine⟨h.1,h.2.1,?_,h.2.2.2.1,h.2.2.2.2⟩;show xt ((f s.2.1).getD s.2.1)
 cases e:f s.2.1 with
 |none=>exact h.2.2.1
 |some y=>exact hf _ y e
def oY{n:Nat}{l:List Str}(h:∀ x∈l,Open x):dc (n+1) (.list (l.map D.str))=true:=by simp only[dc,Jn,AX];intro s hs;have:=xt.ok (.inr (h s hs));cases n<;>simpa[dc] using this
theorem uf:∀ (l:List Str),oq (l.map D.str)=true
 |[]=>rfl
 |x :: l=>by simp[oq,uf l,D.nb]
theorem vh{κ β:Type}[DecidableEq κ](k k':κ)(v:β):∀ (kvs:List (κ × β)),fI (kvs.map λkv=>if kv.1=k then (kv.1,v) else kv) k'=if k'=k then (fI kvs k').map (λ_=>v) else fI kvs k'
 |[]=>by simp[fI]
 |p :: r=>by
  rw[gS,dZ,dZ,vh k k' v r];by_cases h:p.1=k
  ·rw[if_pos h];by_cases h2:k'=k
   ·subst h2;simp[h]
   ·have:¬ p.1=k':=λz=>h2 (z.symm.trans h);simp[this,h2]
  ·rw[if_neg h];by_cases h2:k'=k
   ·subst h2;simp[h]
   ·simp[h2]
theorem rA{κ β:Type}[DecidableEq κ](k k':κ)(v:β):∀ (kvs:List (κ × β)),fI (kvs++[(k,v)]) k'=(fI kvs k').or (if k=k' then some v else none)
 |[]=>by rw[List.nil_append,dZ];rfl
 |p :: r=>by rw[List.cons_append,dZ,dZ,rA k k' v r];split<;>simp
def kW{κ β:Type}[DecidableEq κ](k k':κ)(v:β)(kvs:List (κ × β)):fI (oo kvs k v) k'=if k'=k then some v else fI kvs k':=by
 have ex:∀ kvs:List (κ × β),(kvs.any λkv=>decide (kv.1=k))=(fI kvs k).isSome:=λkvs=>by
  induction kvs with
  |nil=>rfl
  |cons p r ih =>rw[CC,dZ,ih];by_cases h:p.1=k<;>simp[h]
 unfold oo;rw[ex kvs]
 cases e:fI kvs k with
 |none =>
  simp only[Option.isSome_none,qA,if_false];rw[rA];by_cases h:k'=k
  ·subst h;rw[e];simp
  ·rw[if_neg h,if_neg λz=>h z.symm];simp
 |some u =>
  simp only[Option.isSome_some,if_true];rw[vh];by_cases h:k'=k
  ·subst h;rw[e];simp
  ·rw[if_neg h,if_neg h]
def R_(steps:List Stp):List Str:=steps.map (·.2.1)
def Bd{l:List Stp}{G:List (List Key)->Prop}(hz:l.length<=1000)(k:∀ out,pj l out->∀ ms:List (List Key),ms.map kM=out.map b6->G ms):∃ (ks:List (List Key)) (sh:List Bool),l.map b6=ks.map kM/\ks.length<=1000/\(∀ k∈ks,ja k=true :: sh) /\
  ∀ ms:List (List Key),ms.Nodup->(∀ k,k∈ms↔k∈ks)->(ms.Pairwise λa b=>gy b a=false)->G ms:=by
 obtain⟨ks,sh,a,b,c,d⟩:=u9 (λxs=>∀ ms:List (List Key),ms.map kM=xs->G ms) hz λout M ms e=>k out M ms e;exact⟨ks,sh,a,b,c,λms h1 h2 h3=>d ms h1 h2 h3 ms rfl⟩
def Kd (pool:List Str) (l:List Stp):Prop:=∀ s∈l,s.2.1 = "*"\/s.2.1∈pool
def Kd.mde(h:Kd pool l)(M:pj l out):Kd pool out:=λs hs=>h s ((M.2.1 s).mp hs)
def qa(n:Int)(tg:List Str)(s:Stp):List Stp:=if s.2.1∈tg then [] else (List.range n.toNat).map λq:Nat=>(s.1*n+(0+(q:Int)),s.2.1,s.2.2*n+(0+(q:Int)))
def qc(m n:Int)(tg:List Str)(s:Stp):List Stp:=if s.2.1∈tg then [] else (List.range m.toNat).map λp:Nat=>((0+(p:Int))*n+s.1,s.2.1,(0+(p:Int))*n+s.2.2)
def toS(n:Int)(tg:List Str)(l2:List Stp)(s:Stp):List Stp:=if s.2.1∈tg then (l2.filter λt=>decide (t.2.1=s.2.1)).map λt=>(s.1*n+t.1,s.2.1,s.2.2*n+t.2.2) else []
def zk(m n:Int)(tg:List Str)(l1 l2:List Stp):List Stp:=l1.flatMap (qa n tg)++l2.flatMap (qc m n tg)++l1.flatMap (toS n tg l2)
def wW:x∈qa n tg s↔s.2.1∉tg/\∃ q:Nat,q<n.toNat/\x=(s.1*n+(0+(q:Int)),s.2.1,s.2.2*n+(0+(q:Int))):=by
 unfold qa;split
 ·rename_i h;simp[h]
 ·rename_i h;simp only[cw,oP,h,not_false_eq_true,true_and];exact⟨λ⟨q,a,b⟩=>⟨q,a,b.symm⟩,λ⟨q,a,b⟩=>⟨q,a,b.symm⟩⟩
def zm:x∈qc m n tg s↔s.2.1∉tg/\∃ p:Nat,p<m.toNat/\x=((0+(p:Int))*n+s.1,s.2.1,(0+(p:Int))*n+s.2.2):=by
 unfold qc;split
 ·rename_i h;simp[h]
 ·rename_i h;simp only[cw,oP,h,not_false_eq_true,true_and];exact⟨λ⟨q,a,b⟩=>⟨q,a,b.symm⟩,λ⟨q,a,b⟩=>⟨q,a,b.symm⟩⟩
def zf:x∈toS n tg l2 s↔s.2.1∈tg/\∃ t,t∈l2/\t.2.1=s.2.1/\x=(s.1*n+t.1,s.2.1,s.2.2*n+t.2.2):=by
 unfold toS;split
 ·rename_i h;simp only[cw,zD,decide_eq_true_eq,h,true_and];exact⟨λ⟨q,a,b⟩=>⟨q,a.1,a.2,b.symm⟩,λ⟨q,a,c,b⟩=>⟨q,⟨a,c⟩,b.symm⟩⟩
 ·rename_i h;simp[h]
def Ec:x∈zk m n tg l1 l2↔(∃ s,s∈l1/\x∈qa n tg s)\/(∃ s,s∈l2/\x∈qc m n tg s)\/(∃ s,s∈l1/\x∈toS n tg l2 s):=by unfold zk;simp only[fe,SV,or_assoc]
def IK(h1:Kd pool l1)(h2:Kd pool l2):Kd pool (zk m n tg l1 l2):=λx hx=>by
 rcases Ec.mp hx with⟨s,hs,hx⟩|⟨s,hs,hx⟩|⟨s,hs,hx⟩
 ·obtain⟨_,q,hq,rfl⟩:=wW.mp hx;exact h1 s hs
 ·obtain⟨_,q,hq,rfl⟩:=zm.mp hx;exact h2 s hs
 ·obtain⟨_,q,hq,_,rfl⟩:=zf.mp hx;exact h1 s hs
def ZV(x y:Nat)(m n:Int):Prop:=1<=m/\1<=n/\m<=20/\n<=20/\m*n<=20/\x<=80/\y<=80/\∀ a1 a2 b1 b2:Nat,a1+a2<=x->b1+b2<=y->a1*n.toNat+b1*m.toNat+a2*b2<=80
def qT{l:List Stp}{p:Stp->Bool}:(l.filter p).length+(l.filter λs=>!p s).length=l.length:=by
 induction l with
 |nil=>rfl
 |cons s l ih =>rw[Vs,Vs];cases p s<;>simp<;>lia
def jN{l:List Stp}{g:Stp->List Stp}{p:Stp->Bool}{k:Nat}(h:∀ s,(g s).length<=if p s then k else 0):(l.flatMap g).length<=(l.filter p).length*k:=by
 induction l with
 |nil=>simp
 |cons s l ih =>
  have:=h s;rw[List.flatMap_cons,i6,Vs]
  cases e:p s with
  |true=>rw[e] at this;simp only[if_true,qh] at *;rw[Nat.add_mul];lia
  |false=>rw[e] at this;simp only[qA,if_false] at *;lia
def Gb{m n:Int}{tg:List Str}{l1 l2:List Stp}{x y:Nat}(F:ZV x y m n)(hx:l1.length<=x)(hy:l2.length<=y):(l1.flatMap (qa n tg)).length+(l2.flatMap (qc m n tg)).length+(l1.flatMap (toS n tg l2)).length<=80:=by
 let p:Stp→Bool:=λs=>decide (s.2.1∈tg)
 have a1:(l1.flatMap (qa n tg)).length<=(l1.filter λs=>!p s).length*n.toNat:=jN λs=>by unfold qa;by_cases h:s.2.1∈tg<;>simp[p,h]
 have b1:(l2.flatMap (qc m n tg)).length<=(l2.filter λs=>!p s).length*m.toNat:=jN λs=>by unfold qc;by_cases h:s.2.1∈tg<;>simp[p,h]
 have c1:(l1.flatMap (toS n tg l2)).length<=(l1.filter p).length*(l2.filter p).length:=jN λs=>by
  unfold toS;by_cases h:s.2.1∈tg
  ·simp only[p,h,if_true,cx];have:(l2.filter λt=>decide (t.2.1=s.2.1))=(l2.filter p).filter λt=>decide (t.2.1=s.2.1):=by rw[List.filter_filter];refine List.filter_congr λt _=>?_;by_cases e:t.2.1=s.2.1<;>simp[p,e,h]
   rw[this];exact Qa _ _
  ·simp[ h]
 have d1:=qT (l:=l1) (p:=p);have d2:=qT (l:=l2) (p:=p);have:=F.2.2.2.2.2.2.2 (l1.filter λs=>!p s).length (l1.filter p).length (l2.filter λs=>!p s).length (l2.filter p).length (by lia) (by lia);lia
def zo (names:List Str) (x:Str):Option Str:=if x∈names then some "*" else none
def BP(x y:Str)(h:zo names x=some y):xt y:=by
 unfold zo at h;split at h
 ·cases h;exact .inl rfl
 ·cases h
abbrev hdS(names:List Str):Stp->Stp:=Fn (zo names)
def Fb (names:List Str) (d:Str):(zo names d).getD d=if d∈names then ("*" : Str) else d:=by unfold zo;split<;>rfl
abbrev Pq:=Str × Str
def qf(p:Pq):D:=.tup [.str p.1,.str p.2]
def Sb(p:Pq):Prop:=Open p.1/\Open p.2
def lk:List Pq->Str->Option Str
 |[],_=>none
 |p :: r,x=>if p.1=x then some p.2 else lk r x
def Hu(a:List Pq)(p:Pq)(x:Str):lk (a++[p]) x=(lk a x).or (if p.1=x then some p.2 else none):=by
 induction a with
 |nil=>simp[lk]
 |cons q a ih =>
  simp only[List.cons_append,lk];by_cases h:q.1=x
  ·rw[if_pos h,if_pos h];rfl
  ·rw[if_neg h,if_neg h,ih]
def Eb{ps:List Pq}(h:∀ p∈ps,Sb p)(x y:Str)(e:lk ps x=some y):xt y:=by
 induction ps with
 |nil=>cases e
 |cons p ps ih =>
  simp only[lk] at e;split at e
  ·cases e;exact .inr (h p dz).2
  ·exact ih (λq hq=>h q (dP _ hq)) e
def Lb{ps:List Pq}(h:(ps.map qf)[i]? = some x):∃ a b,x=.tup [.str a,.str b]/\(a,b)∈ps/\ps.take (i+1)=ps.take i++[(a,b)]:=by
 rw[nK] at h
 cases e:ps[i]? with
 |none=>rw[e] at h;cases h
 |some s =>rw[e] at h;cases h;obtain⟨a,b⟩:=s;exact⟨a,b,rfl,mB e,by rw[wm,e];rfl⟩
theorem vz:∀ (l:List Pq),eJ (l.map qf)=true
 |[]=>rfl
 |x :: l=>by simp[eJ,vz l,qf,D.flat]
theorem xR:∀ (l:List Pq),oq (l.map qf)=true
 |[]=>rfl
 |x :: l=>by simp[oq,xR l,qf,D.nb]
def G5{n:Nat}{l:List Pq}(h:∀ x∈l,Sb x):dc (n+2) (.list (l.map qf))=true:=by simp only[dc,Jn,AX];intro s hs;have h1:=xt.ok (.inr (h s hs).1);have h2:=xt.ok (.inr (h s hs).2);simp[dc,qf,h1,h2]
def jZ(l:List Str):(l.map D.str).all fX=true:=by rw[AX];intro x hx;obtain⟨c,_,rfl⟩:=cw.mp hx;rfl
def rW(x:Str)(l:List Str):inD (.str x) (l.map D.str)=decide (x∈l):=by
 unfold inD;rw[sT,SQ,decide_eq_true_iff];constructor
 ·rintro⟨y,hy,e⟩;obtain⟨c,hc,rfl⟩:=cw.mp hy;have:=(cC (.str c) (.str x) rfl rfl).mp e;cases this;exact hc
 ·intro hx;exact⟨.str x,cw.mpr ⟨x,hx,rfl⟩,(cC (.str x) (.str x) rfl rfl).mpr rfl⟩
def Mch(pool:List Str)(x:Nat)(l:List Stp):Prop:=Kd pool l/\l.length<=x/\∀ s∈l,xv 20 s
inductive dv where
 |right (n:Int) (l:List Stp) (tg:List Str)
 |left (n:Int) (l:List Stp) (tg:List Str)
 |mv (names:List Str)
 |nX (ps:List Pq)
def dv.d:dv->D
 |.right n l tg=>.tup [.str "right",mD n l,.list (tg.map .str)]
 |.left n l tg=>.tup [.str "left",mD n l,.list (tg.map .str)]
 |.mv names=>.tup [.str "hide",.list (names.map .str)]
 |.nX ps=>.tup [.str "rename",.list (ps.map qf)]
def dv.many:dv->Int->Int
 |.right n _ _,m=>m*n
 |.left n _ _,m=>n*m
 |_,m=>m
def dv.raw:dv->Int->List Stp->List Stp
 |.right n l2 tg,m,l=>zk m n tg l l2
 |.left n l2 tg,m,l=>zk n m tg l2 l
 |.mv names,_,l=>l.map (Fn (zo names))
 |.nX ps,_,l=>l.map (Fn (lk ps))
def dv.Ok(pool:List Str):dv->Prop
 |.right n l tg|.left n l tg=>1<=n/\n<=3/\eW n l/\Kd pool l/\l.length<=3/\tg.length<=3/\∀ t∈tg,Open t
 |.mv ns=>ns.length<=3/\∀ t∈ns,Open t
 |.nX ps=>ps.length<=3/\∀ p∈ps,Sb p/\p.2∈pool
def dv.lift(m1 m2:Int)(B:Int->Int->Prop):dv->Int->Int->Prop
 |.right n _ _=>λs t=>∃ p q u,B p q/\(0<=u/\u<n)/\s=p*n+u/\t=q*n+u
 |.left n _ _=>λs t=>∃ p q u,B p q/\(0<=u/\u<n)/\s=u*m1+p/\t=u*m2+q
 |_=>B
def jd{n a b u v:Int}(hu:0<=u/\u<n)(hv:0<=v/\v<n)(e:a*n+u=b*n+v):a=b/\u=v:=by
 have h1:(a*n+u) / n=a:=by rw[Int.add_comm,Int.add_mul_ediv_right _ _ (by lia),Int.ediv_eq_zero_of_lt hu.1 hu.2,Te]
 have h2:(b*n+v) / n=b:=by rw[Int.add_comm,Int.add_mul_ediv_right _ _ (by lia),Int.ediv_eq_zero_of_lt hv.1 hv.2,Te]
 have:a=b:=by rw[<- h1,e,h2]
 subst this;exact⟨rfl,by lia⟩
def cG:(s,d,e)∈zk m n tg l1 l2 ↔ (d∉tg/\∃ a b u,(a,d,b)∈l1/\(0<=u/\u<n)/\s=a*n+u/\e=b*n+u)\/(d∉tg/\∃ p a b,(a,d,b)∈l2/\(0<=p/\p<m)/\s=p*n+a/\e=p*n+b)\/(d∈tg/\∃ a b x y,(a,d,b)∈l1/\(x,d,y)∈l2/\s=a*n+x/\e=b*n+y):=by
 unfold zk;rw[fe,fe,SV,SV,SV,or_assoc];refine or_congr ?_ (or_congr ?_ ?_)
 ·constructor
  ·rintro⟨t,ht,z⟩;obtain⟨nt,q,hq,e⟩:=wW.mp z;cases e;exact⟨nt,t.1,t.2.2,0+q,ht,by lia,rfl,rfl⟩
  ·rintro⟨nt,a,b,u,h,hu,rfl,rfl⟩;exact⟨_,h,wW.mpr ⟨nt,u.toNat,by lia,by rw[Te,tf hu.1]⟩⟩
 ·constructor
  ·rintro⟨t,ht,z⟩;obtain⟨nt,q,hq,e⟩:=zm.mp z;cases e;exact⟨nt,0+q,t.1,t.2.2,ht,by lia,rfl,rfl⟩
  ·rintro⟨nt,p,a,b,h,hu,rfl,rfl⟩;exact⟨_,h,zm.mpr ⟨nt,p.toNat,by lia,by rw[Te,tf hu.1]⟩⟩
 ·constructor
  ·rintro⟨t,ht,z⟩;obtain⟨nt,u,hu,e1,e⟩:=zf.mp z;cases e;exact⟨nt,t.1,t.2.2,u.1,u.2.2,ht,by rw[<- e1];exact hu,rfl,rfl⟩
  ·rintro⟨nt,a,b,x,y,h1,h2,rfl,rfl⟩;exact⟨_,h1,zf.mpr ⟨nt,_,h2,rfl,rfl⟩⟩
section
variable {m1 m2:Int}{l1 l2 o1 o2:List Stp}{B:Int->Int->Prop}
def xG(E:kP m1 l1 m2 l2 B)(bS:eW m1 l1)(r:dv){pool:List Str}(ok:r.Ok pool){s t e:Int}{d:Str}(b:r.lift m1 m2 B s t)(h:(s,d,e)∈r.raw m1 l1):∃ f,(t,d,f)∈r.raw m2 l2/\r.lift m1 m2 B e f:=by
 cases r with
 |right n L tg =>
  obtain⟨p,q,u,zt,hu,rfl,rfl⟩:=b;have P0:=E.ins _ _ zt;rcases cG.mp h with⟨nt,a,b,v,ha,hv,e1,rfl⟩|⟨nt,c,a,b,ha,hc,e1,rfl⟩|⟨nt,a,b,x,y,ha,hx,e1,rfl⟩
  ·obtain⟨rfl,rfl⟩:=jd hu hv e1;obtain⟨f,hf,bf⟩:=E.to _ _ zt d b ha;exact⟨f*n+u,cG.mpr (.inl ⟨nt,q,f,u,hf,hu,rfl,rfl⟩),b,f,u,bf,hu,rfl,rfl⟩
  ·have ia:=ok.2.2.1 _ ha;obtain⟨rfl,rfl⟩:=jd hu ⟨ia.1,ia.2.1⟩ e1;exact⟨q*n+b,cG.mpr (.inr (.inl ⟨nt,q,u,b,ha,P0.2,rfl,rfl⟩)),p,q,b,zt,ia.2.2.2,rfl,rfl⟩
  ·have ix:=ok.2.2.1 _ hx;obtain⟨rfl,rfl⟩:=jd hu ⟨ix.1,ix.2.1⟩ e1;obtain⟨f,hf,bf⟩:=E.to _ _ zt d b ha;exact⟨f*n+y,cG.mpr (.inr (.inr ⟨nt,q,f,u,y,hf,hx,rfl,rfl⟩)),b,f,y,bf,ix.2.2.2,rfl,rfl⟩
 |left n L tg =>
  obtain⟨p,q,u,zt,hu,rfl,rfl⟩:=b;have P0:=E.ins _ _ zt;rcases cG.mp h with⟨nt,a,b,v,ha,hv,e1,rfl⟩|⟨nt,c,a,b,ha,hc,e1,rfl⟩|⟨nt,a,b,x,y,ha,hx,e1,rfl⟩
  ·obtain⟨rfl,rfl⟩:=jd P0.1 hv e1;have ia:=ok.2.2.1 _ ha;exact⟨b*m2+q,cG.mpr (.inl ⟨nt,u,b,q,ha,P0.2,rfl,rfl⟩),p,q,b,zt,ia.2.2.2,rfl,rfl⟩
  ·have ic:=bS _ ha;obtain⟨rfl,rfl⟩:=jd P0.1 ⟨ic.1,ic.2.1⟩ e1;obtain⟨f,hf,bf⟩:=E.to _ _ zt d b ha;exact⟨u*m2+f,cG.mpr (.inr (.inl ⟨nt,u,q,f,hf,hu,rfl,rfl⟩)),b,f,u,bf,hu,rfl,rfl⟩
  ·have ix:=bS _ hx;obtain⟨rfl,rfl⟩:=jd P0.1 ⟨ix.1,ix.2.1⟩ e1;have ia:=ok.2.2.1 _ ha;obtain⟨f,hf,bf⟩:=E.to _ _ zt d y hx;exact⟨b*m2+f,cG.mpr (.inr (.inr ⟨nt,u,b,q,f,ha,hf,rfl,rfl⟩)),y,f,b,bf,ia.2.2.2,rfl,rfl⟩
 |mv ns =>obtain⟨⟨a,d',c⟩,ht,e1⟩:=cw.mp h;cases e1;obtain⟨f,hf,bf⟩:=E.to _ _ b d' c ht;exact⟨f,cw.mpr ⟨_,hf,rfl⟩,bf⟩
 |nX ps =>obtain⟨⟨a,d',c⟩,ht,e1⟩:=cw.mp h;cases e1;obtain⟨f,hf,bf⟩:=E.to _ _ b d' c ht;exact⟨f,cw.mpr ⟨_,hf,rfl⟩,bf⟩
def p6(r:dv):r.lift m1 m2 B s t↔r.lift m2 m1 (λx y=>B y x) t s:=by
 cases r with
 |right n L tg=>exact⟨λ⟨p,q,u,a,b,c,d⟩=>⟨q,p,u,a,b,d,c⟩,λ⟨p,q,u,a,b,c,d⟩=>⟨q,p,u,a,b,d,c⟩⟩
 |left n L tg=>exact⟨λ⟨p,q,u,a,b,c,d⟩=>⟨q,p,u,a,b,d,c⟩,λ⟨p,q,u,a,b,c,d⟩=>⟨q,p,u,a,b,d,c⟩⟩
 |mv ns=>exact Iff.rfl
 |nX ps=>exact Iff.rfl
def gn{n m a u:Int}(ha:0<=a/\a<m)(hu:0<=u/\u<n):0<=a*n+u/\a*n+u<m*n:=by have a0:=EG ha.1 (show 0<=n by lia);have a1:=Int.mul_le_mul_of_nonneg_right (show a+1<=m by lia) (show 0<=n by lia);rw[Int.add_mul,Int.one_mul] at a1;lia
def G7(E:kP m1 l1 m2 l2 B)(i1:eW m1 l1)(i2:eW m2 l2)(r:dv){pool:List Str}(ok:r.Ok pool)(M1:pj (r.raw m1 l1) o1)(M2:pj (r.raw m2 l2) o2):kP (r.many m1) o1 (r.many m2) o2 (r.lift m1 m2 B):=by
 refine⟨λs t b=>?_,λs t b d e he=>?_,λs t b d f hf=>?_⟩
 ·cases r with
  |right n L tg =>obtain⟨p,q,u,zt,hu,rfl,rfl⟩:=b;have i:=E.ins _ _ zt;exact⟨gn i.1 hu,gn i.2 hu⟩
  |left n L tg =>obtain⟨p,q,u,zt,hu,rfl,rfl⟩:=b;have i:=E.ins _ _ zt;exact⟨gn hu i.1,gn hu i.2⟩
  |mv ns=>exact E.ins s t b
  |nX ps=>exact E.ins s t b
 ·obtain⟨f,hf,bf⟩:=xG E i1 r ok b ((M1.2.1 _).mp he);exact⟨f,(M2.2.1 _).mpr hf,bf⟩
 ·obtain⟨e,he,be⟩:=xG E.symm i2 r ok ((p6 r).mp b) ((M2.2.1 _).mp hf);exact⟨e,(M1.2.1 _).mpr he,(p6 r).mpr be⟩
def xn(r:dv)(ok:r.Ok pool)(b:B 0 0):r.lift m1 m2 B 0 0:=by
 cases r with
 |right n L tg=>exact⟨0,0,0,b,⟨iS 0,by have:=ok.1;lia⟩,by lia,by lia⟩
 |left n L tg=>exact⟨0,0,0,b,⟨iS 0,by have:=ok.1;lia⟩,by lia,by lia⟩
 |mv ns=>exact b
 |nX ps=>exact b
end
inductive Run:Int->List Stp->List dv->Int->List Stp->Prop
 |nil {m l}:Run m l [] m l
 |cons {m l r rs o m' out}:pj (r.raw m l) o->Run (r.many m) o rs m' out->Run m l (r :: rs) m' out
def Run.uniq(h:Run m l rs m1 o1)(g:Run m l rs m2 o2):m1=m2/\o1=o2:=by
 induction h with
 |nil=>cases g;exact⟨rfl,rfl⟩
 |cons M _ ih =>
  cases g with
  |cons M2 g =>have:=M.one M2;subst this;exact ih g
def Run.snoc(h:Run m l rs m1 o1)(M:pj (r.raw m1 o1) o2):Run m l (rs++[r]) (r.many m1) o2:=by
 induction h with
 |nil=>exact .cons M .nil
 |cons M' _ ih=>exact .cons M' (ih M)
structure Hm(pool:List Str)(m:Int)(l:List Stp):Prop where
 m1:1<=m
 i:eW m l
 k:Kd pool l
def uA{pool:List Str}{m:Int}{l out:List Stp}(H:Hm pool m l)(po:∀ n∈pool,Open n){r:dv}(ok:r.Ok pool)(M:pj (r.raw m l) out):Hm pool (r.many m) out:=by
 have pd:∀ s∈out,xv (r.many m) s/\(s.2.1 = "*"\/s.2.1∈pool):=λs hs=>by
  have hs:=(M.2.1 s).mp hs;obtain⟨a,d,b⟩:=s
  cases r with
  |right n L tg =>
   rcases cG.mp hs with⟨_,x,y,v,ha,hv,rfl,rfl⟩|⟨_,c,x,y,ha,hc,rfl,rfl⟩|⟨_,x,y,z,w,ha,hx,rfl,rfl⟩
   ·have hV:=H.i _ ha;have r1:=gn ⟨hV.1,hV.2.1⟩ hv;have r2:=gn hV.2.2.2 hv;exact⟨⟨r1.1,r1.2,hV.2.2.1,r2.1,r2.2⟩,H.k (x,d,y) ha⟩
   ·have hV:=ok.2.2.1 _ ha;have r1:=gn hc ⟨hV.1,hV.2.1⟩;have r2:=gn hc hV.2.2.2;exact⟨⟨r1.1,r1.2,hV.2.2.1,r2.1,r2.2⟩,ok.2.2.2.1 (x,d,y) ha⟩
   ·have hV:=H.i _ ha;have D7:=ok.2.2.1 _ hx;have r1:=gn ⟨hV.1,hV.2.1⟩ ⟨D7.1,D7.2.1⟩;have r2:=gn hV.2.2.2 D7.2.2.2;exact⟨⟨r1.1,r1.2,hV.2.2.1,r2.1,r2.2⟩,H.k (x,d,y) ha⟩
  |left n L tg =>
   rcases cG.mp hs with⟨_,x,y,v,ha,hv,rfl,rfl⟩|⟨_,c,x,y,ha,hc,rfl,rfl⟩|⟨_,x,y,z,w,ha,hx,rfl,rfl⟩
   ·have hV:=ok.2.2.1 _ ha;have r1:=gn ⟨hV.1,hV.2.1⟩ hv;have r2:=gn hV.2.2.2 hv;exact⟨⟨r1.1,r1.2,hV.2.2.1,r2.1,r2.2⟩,ok.2.2.2.1 (x,d,y) ha⟩
   ·have hV:=H.i _ ha;have r1:=gn hc ⟨hV.1,hV.2.1⟩;have r2:=gn hc hV.2.2.2;exact⟨⟨r1.1,r1.2,hV.2.2.1,r2.1,r2.2⟩,H.k (x,d,y) ha⟩
   ·have hV:=ok.2.2.1 _ ha;have D7:=H.i _ hx;have r1:=gn ⟨hV.1,hV.2.1⟩ ⟨D7.1,D7.2.1⟩;have r2:=gn hV.2.2.2 D7.2.2.2;exact⟨⟨r1.1,r1.2,hV.2.2.1,r2.1,r2.2⟩,H.k (z,d,w) hx⟩
  |mv ns =>
   obtain⟨t,ht,e⟩:=cw.mp hs;rw[<- e];refine⟨Dy (λx y z=>BP x y z) (H.i t ht),?_⟩;show(zo ns t.2.1).getD t.2.1 = "*"\/(zo ns t.2.1).getD t.2.1∈pool;rw[Fb];split
   ·exact .inl rfl
   ·exact H.k t ht
  |nX ps =>
   obtain⟨t,ht,e⟩:=cw.mp hs;rw[<- e];refine⟨Dy (λx y z=>Eb (λp hp=>(ok.2 p hp).1) x y z) (H.i t ht),?_⟩;show(lk ps t.2.1).getD t.2.1 = "*"\/(lk ps t.2.1).getD t.2.1∈pool
   cases e2:lk ps t.2.1 with
   |none=>exact H.k t ht
   |some y =>
    refine .inr ?_;have:∀ qs:List Pq,(∀ p∈qs,p.2∈pool)->∀ x y,lk qs x=some y->y∈pool:=λqs=>by
     induction qs with
     |nil=>exact λ_ x y z=>nomatch z
     |cons p qs ih =>
      intro hq x y z;unfold lk at z;split at z
      ·cases z;exact hq p dz
      ·exact ih (λp hp=>hq p (dP _ hp)) x y z
    exact this ps (λp hp=>(ok.2 p hp).2) _ _ e2
 refine⟨?_,λs hs=>(pd s hs).1,λs hs=>(pd s hs).2⟩;have m1:=H.m1
 cases r with
 |right n L tg=>exact Int.mul_pos (by lia) (by have:=ok.1;lia)
 |left n L tg=>exact Int.mul_pos (by have:=ok.1;lia) (by lia)
 |mv ns=>exact m1
 |nX ps=>exact m1
def x_{pool:List Str}(po:∀ n∈pool,Open n){m1:Int}{l1:List Stp}{rs:List dv}{n1:Int}{o1:List Stp}(R1:Run m1 l1 rs n1 o1):∀ {m2:Int} {l2:List Stp} {n2:Int} {o2:List Stp} {B:Int->Int->Prop},(∀ r∈rs,r.Ok pool)->Hm pool m1 l1->Hm pool m2 l2->kP m1 l1 m2 l2 B->B 0 0->Run m2 l2 rs n2 o2->∃ B',kP n1 o1 n2 o2 B'/\B' 0 0/\Hm pool n1 o1/\Hm pool n2 o2:=by
 induction R1 with
 |nil =>intro m2 l2 n2 o2 B _ H1 H2 E b R2;cases R2;exact⟨B,E,b,H1,H2⟩
 |@cons m l r rs o m' out M _ ih =>
  intro m2 l2 n2 o2 B ok H1 H2 E b R2
  cases R2 with
  |cons M2 R2 =>have AH:=ok r dz;exact ih (λx hx=>ok x (dP _ hx)) (uA H1 po AH M) (uA H2 po AH M2) (G7 E H1.i H2.i r AH M M2) (xn r AH b) R2
def dv.Fits(m x:Int):dv->Prop
 |.right n l _|.left n l _=>m*n<=20/\x*n+l.length*m+x*l.length<=80
 |_=>True
def dv.more(m x:Int):dv->Int
 |.right n l _|.left n l _=>x*n+l.length*m+x*l.length
 |_=>x
def P1:Int->Int->List dv->Prop
 |_,_,[]=>True
 |m,x,r :: rs=>r.Fits m x/\P1 (r.many m) (r.more m x) rs
def aP{a b c d:Int}(h1:a<=b)(h2:c<=d)(h3:0<=a)(h4:0<=c):a*c<=b*d:=Int.mul_le_mul h1 h2 h4 (by lia)
def qz{pool:List Str}{r:dv}(ok:r.Ok pool){m x M X:Int}(hm:m<=M)(hx:x<=X)(m0:0<=m)(x0:0<=x)(F:r.Fits M X):r.Fits m x:=by
 cases r with
 |right n l tg =>have n1:=ok.1;have a1:=aP hm (iS n) m0 (by lia);have a2:=aP hx (iS n) x0 (by lia);have a3:=aP (iS l.length) hm (by lia) m0;have a4:=aP hx (iS l.length) x0 (by lia);have F1:M*n<=20:=F.1;have F2:X*n+l.length*M+X*l.length<=80:=F.2;exact⟨by lia,by lia⟩
 |left n l tg =>have n1:=ok.1;have a1:=aP hm (iS n) m0 (by lia);have a2:=aP hx (iS n) x0 (by lia);have a3:=aP (iS l.length) hm (by lia) m0;have a4:=aP hx (iS l.length) x0 (by lia);have F1:M*n<=20:=F.1;have F2:X*n+l.length*M+X*l.length<=80:=F.2;exact⟨by lia,by lia⟩
 |mv ns=>trivial
 |nX ps=>trivial
def fit_le{x y:Nat}{m n:Int}(hm:1<=m)(hn:1<=n)(hmn:m*n<=20)(hx:x<=80)(hy:y<=80)(h:(x:Int)*n+y*m+x*y<=80):ZV x y m n:=by
 have a1:=aP (iS m) hn (by lia) (by decide);have a2:=aP hm (iS n) (by decide) (by lia);refine⟨hm,hn,by lia,by lia,hmn,hx,hy,λp1 p2 q1 q2 hp hq=>?_⟩;have b1:p1*n<=x*n:=aP (by lia) (iS n) (by lia) (by lia);have b2:q1*m<=y*m:=aP (by lia) (iS m) (by lia) (by lia);have b3:(p2:Int)*q2<=x*y:=aP (by lia) (by lia) (by lia) (by lia);have e1:((p1*n.toNat:Nat):Int)=p1*n:=by rw[Ki,tf (by lia)]
 have e2:((q1*m.toNat:Nat):Int)=q1*m:=by rw[Ki,tf (by lia)]
 lia
def rC:WS :=
 (cq (j3 (PB (LW (wB (f7 (Rt "str") (ag 0)))) (LW (wB (u_ PD PD (wC (.int 1)) (f7 sC (ag 0)) (wC (.int 6))))))
 (k8 (wC (.bl false)))
 bO)
 (k8 (f7 Zm (dM (Cd (ag 0)) (gN 0) vw (aw (yv false) (ag 0) (wC (.str "abcdefghijklmnopqrstuvwxyz"))) 1 []))))
def Et:DI ⟨#[c]⟩ abc=isLet c:=by
 rw[Fl];have:abc.cps.toList=(List.range 26).map (97 + ·):=uQ;rw[this];apply sT.mpr;simp only[decide_eq_true_eq,isLet,cw,oP];constructor
 ·rintro⟨i,hi,rfl⟩;lia
 ·intro h;exact⟨c-97,by lia,by lia⟩
def fY:ip:=λds Q=>∃ x:Str,ds=[.str x]/\Q .sh (.bl (decide (1<=x.length/\x.length<=6) && (sg x).all isLet))
def rR (ds Q) (h:fY ds Q):ds.length=["thing"].length:=by obtain⟨_,rfl,_⟩:=h;rfl
def yx:∀ ds Q,fY ds Q->rC { nx:=λ_=>Q .sh .non,rt:=Q } (aL 1 ds):=by
 rintro ds Q ⟨x,rfl,h⟩;unfold rC;walk_at "q";refine R.F rfl ?_;walk_at "q";refine R.D (λh1=>?_) λh1=>?_
 ·walk_at "q";refine R.B (λh2=>?_) λh2=>?_;rotate_left
  ·have h2:x.length<=6:=by simp at h2;lia
   walk_at "q"
   refine aY (λ_=>true) (λd=>match d with
    |.str z=>.bl (DI z abc)
    |d=>d) (λρ=>∃ o,ρ=[o]) _ _ _ ⟨_,rfl⟩ ?_ ?_
   ·rintro y hy ρ ⟨o,rfl⟩ N1 N2 _ h2;obtain⟨c,hc,rfl⟩:=cw.mp hy;walk_at "q";exact⟨.inl rfl,h2 _ ⟨_,rfl⟩ rfl⟩
   ·rw[gO];refine⟨(sg x).map isLet,?_,?_⟩
    ·unfold Zd;rw[fN,fN];refine Nn λc _=>?_;show D.bl (DI ⟨#[c]⟩ abc)=_;rw[Et];rfl
    ·rw[decide_eq_true (by lia),Bool.true_and] at h;rw[Jn];exact h
  ·have h2:¬ x.length<=6:=by simp at h2;lia
   walk_at "q";rw[decide_eq_false (by lia),Bool.false_and] at h;exact h
 ·walk_at "q";rw[decide_eq_false (by lia),Bool.false_and] at h;exact h
def nT:WS :=
 (cq (eT 1 (dM (cQ (aw bX (ag 0) (wC (.int 0)))) (gN 0) vw (mh cv) 1 []))
 (cq (gv 0 (nv (cP (aw bX (ag 0) (wC (.int 1)))) (gT 3 (bj (gN 2) (bj (gN 3) (bj (gN 4) j8))))
 (gv 4 (gv 3 (sD (Zg (k9 1) (ag 2)) (kB (ak (ag 3) (ak (ag 4) cv))))))))
 (gM 1)))
def gK:ip:=λds Q=>∃ (many:Int) (steps:List Stp),ds=[mD many steps]/\(0<=many/\many<=1000)/\eW many steps/\steps.length<=1000/\Q (.ow true) (U7 many steps)
def qd (ds Q) (h:gK ds Q):ds.length=["m"].length:=by obtain⟨_,_,rfl,_⟩:=h;rfl
def wH:∀ ds Q,gK ds Q->nT { nx:=λ_=>Q .sh .non,rt:=Q } (aL 5 ds):=by
 rintro ds Q ⟨many,steps,rfl,hm,bS,hl,h⟩;unfold nT mD;walk_at "q";refine⟨by lia,by lia,?_⟩;refine aY (λ_=>true) (λ_=>.list []) (λρ=>∃ o,ρ=[o]) _ _ _ ⟨_,rfl⟩ ?_ ?_
 ·rintro x hx ρ ⟨o,rfl⟩ N1 N2 n1 n2;walk_at "q";exact⟨.inr rfl,n2 _ ⟨_,rfl⟩ rfl⟩
 rw[Ib];refine aX _ (λi ρ=>∃ o2 o3 o4,ρ=[some (.sh (.tup [.int many,.list (steps.map b6)])),some (.ow true (.list (vF many (steps.take i)))),o2,o3,o4]) ⟨none,none,none,by simp⟩ ?_ ?_
 ·rintro i x ρ hx ⟨o2,o3,o4,rfl⟩ N hN;obtain⟨p,d,r,rfl,hs,ht⟩:=ql hx;have ok:=bS _ hs;walk_at "q";refine⟨p.toNat,.list ((t9 (steps.take i) p).map ox),ur ok.1 (by rw[pL];have:=ok.2.1;lia),Fg _ ok.1 ok.2.1,rfl,?_⟩;walk_at "q";refine⟨?_,?_⟩
  ·have:=yu (steps.take i) p;have:(steps.take i).length<=steps.length:=by rw[mE];lia
   lia
  ·refine hN _ ⟨some (.sh (.int p)),some (.sh (.str d)),some (.sh (.int r)),?_⟩;rw[H_ _ _ _ ok.1 ok.2.1,<- ht]
 ·rintro ρ ⟨o2,o3,o4,rfl⟩;walk_at "q";rw[uj];exact h
def nJ:WS :=
 (k8 (f7 fO (dM (dG (aw bX (ag 0) (wC (.int 1)))) (gN 0) vw (aw bX (ag 0) (wC (.int 1))) 1 [])))
def gZ:ip:=λds Q=>∃ (many:Int) (steps:List Stp),ds=[mD many steps]/\steps.length<=80/\∀ names:List Str,names.Nodup->(∀ n,n∈names↔n∈R_ steps)->Q (.ow true) (.list (names.map .str))
def rE (ds Q) (h:gZ ds Q):ds.length=["m"].length:=by obtain⟨_,_,rfl,_⟩:=h;rfl
def wJ:∀ ds Q,gZ ds Q->nJ { nx:=λ_=>Q .sh .non,rt:=Q } (aL 1 ds):=by
 rintro ds Q ⟨many,steps,rfl,hz,h⟩;unfold nJ mD;walk_at "q"
 refine aY (λ_=>true) (λd=>match d with
  |.tup [.int p,.str d,.int r]=>.str d
  |d=>d) (λρ=>∃ o,ρ=[o]) _ _ _ ⟨_,rfl⟩ ?_ ?_
 ·rintro x hx ρ ⟨o,rfl⟩ N1 N2 _ h2;obtain⟨⟨p,d,r⟩,g7,rfl⟩:=cw.mp hx;unfold b6;walk_at "q";exact⟨.inl rfl,h2 _ ⟨_,rfl⟩ rfl⟩
 ·rw[gO];refine⟨(R_ steps).map Sum.inr,false,?_,by simp[R_];lia,?_,?_⟩
  ·unfold R_;rw[fN,fN,fN];rfl
  ·intro k hk;obtain⟨x,_,rfl⟩:=cw.mp hk;rfl
  ·intro ms nd mm pw;have og:∀ k∈ms,∃ x,k=Sum.inr x/\x∈R_ steps:=λk hk=>by obtain⟨x,hx,rfl⟩:=cw.mp ((mm k).mp hk);exact⟨x,rfl,hx⟩
   obtain⟨names,rfl⟩:∃ names:List Str,ms=names.map Sum.inr:=by
    clear nd mm pw
    induction ms with
    |nil=>exact⟨[],rfl⟩
    |cons k ms ih =>obtain⟨x,rfl,_⟩:=og k dz;obtain⟨l,rfl⟩:=ih λk hk=>og k (dP _ hk);exact⟨x :: l,rfl⟩
   have e:(names.map Sum.inr).map nk=names.map D.str:=by rw[fN];rfl
   rw[e];refine h names (jf nd) λn=>?_;have:=mm (Sum.inr n);simpa using this
def Jb:WS :=
 (cq (eT 1 (UN (wC (.int 0)) (wC (.bl true))))
 (cq (eT 2 (mh (ak (wC (.int 0)) cv)))
 (cq (xN (W8 (ag 2))
 (cq (UO 3 (k9 2))
 (gv 0 (nv (cP (aw bX (ag 0) (wC (.int 1)))) (gN 4)
 (j3 (Ro (wB (aw rj (aw bX (ag 4) (wC (.int 0))) (ag 3))) (wB (aw (yv true) (aw bX (ag 4) (wC (.int 2))) (ag 1))))
 (cq (zc (k9 1) (aw bX (ag 4) (wC (.int 2))) (wC (.bl true)))
 (sD (k9 2) (aw bX (ag 4) (wC (.int 2)))))
 bO)))))
 (k8 (f7 xm (ag 1))))))
def xO:ip:=λds Q=>∃ (many:Int) (steps:List Stp),ds=[mD many steps]/\1<=many/\many<=20/\eW many steps/\∀ ms,Met steps ms->Q (.ow true) (.list (ms.map .int))
def Gm (ds Q) (h:xO ds Q):ds.length=["m"].length:=by obtain⟨_,_,rfl,_⟩:=h;rfl
structure AI(many:Int)(steps:List Stp)(ks:List Int):Prop where
 nd:ks.Nodup
 z:0∈ks
 r:∀ x∈ks,Reach steps x/\0<=x/\x<many
def AI.len(c:AI many steps ks)(h:many<=20):ks.length<=20:=by have:=aF (m:=dY 20) c.nd λx hx=>d8.mpr (by have:=(c.r x hx).2;lia);rwa[gh] at this
def AI.ins(c:AI many steps ks)(hm:eW many steps)(hs:s∈steps)(h:s.1∈ks):AI many steps (insI ks s.2.2) :=
 ⟨wu c.nd,t8.mpr (.inl c.z),λx hx=>by
  rcases t8.mp hx with hx|rfl
  ·exact c.r x hx
  ·exact⟨.step (c.r _ h).1 hs,(hm s hs).2.2.2⟩⟩
def AI.one(h:1<=many):AI many steps [0]:=⟨by simp,by simp,λx hx=>by
 have:x=0:=by simpa using hx
 subst this;exact⟨.zero,by lia,by lia⟩⟩
def vQ{steps:List Stp}{ks:List Int}(z:0∈ks)(h:∀ s∈steps,s.1∈ks->s.2.2∈ks){x:Int}(r:Reach steps x):x∈ks:=by
 induction r with
 |zero=>exact z
 |step r hs ih=>exact h _ hs ih
def Ag{steps:List Stp}{ks:List Int}{many:Int}(c:AI many steps ks)(h:∀ s∈steps,s.1∈ks->s.2.2∈ks){Q:Md->D->Prop}(k:∀ ms,Met steps ms->Q (.ow true) (.list (ms.map .int))):xm .bo (.dK (y8 ks)) Q:=by
 refine⟨true,λp hp=>?_,λms pm pw=>?_⟩
 ·obtain⟨x,_,rfl⟩:=cw.mp hp;rfl
 ·rw[iw] at pm;obtain⟨l,rfl⟩:∃ l:List Int,ms=l.map λx=>(Sum.inl x:Key):=by
   have hm:∀ k∈ms,∃ x:Int,k=Sum.inl x:=λk hk=>by obtain⟨x,_,rfl⟩:=cw.mp (pm.mem_iff.mp hk);exact⟨x,rfl⟩
   clear pm pw
   induction ms with
   |nil=>exact⟨[],rfl⟩
   |cons k ms ih =>obtain⟨l,rfl⟩:=ih λj hj=>hm j (dP _ hj);obtain⟨x,rfl⟩:=hm k dz;exact⟨x :: l,rfl⟩
  have e:(l.map λx=>(Sum.inl x:Key)).map nk=l.map D.int:=by rw[fN];rfl
  rw[e];have mem:∀ x,x∈l↔x∈ks:=λx=>by rw[<- dw,<- dw];exact pm.mem_iff
  have nd:l.Nodup:=by
   have:(l.map λx=>(Sum.inl x:Key)).Nodup:=pm.nodup_iff.mpr (by
    have:=c.nd;unfold List.Nodup at *
    rw[kC];exact this.imp λh e=>h (Sum.inl.inj e))
   unfold List.Nodup at *
   rw[kC] at this;exact this.imp λh e=>h (by rw[e])
  refine k l ⟨?_,λx=>(mem x).trans ⟨λhx=>(c.r x hx).1,vQ c.z h⟩⟩;rw[kC] at pw;refine(pw.and nd).imp λ{a b} ⟨h1,h2⟩=>?_;have h1:¬ b<a:=by simpa[nS] using h1
  lia
def lnD:D->Nat
 |.dK k=>k.length
 |.list l=>l.length
 |_=>0
def ZW:Option Sl->Nat
 |some (.ow _ d)=>lnD d
 |_=>0
def Li:∀ ds Q,xO ds Q->Jb { nx:=λ_=>Q .sh .non,rt:=Q } (aL 5 ds):=by
 rintro ds Q ⟨many,steps,rfl,h0,h1,bS,h⟩;unfold Jb mD;walk_at "q";refine⟨λρ=>∃ (ks wait:List Int) (o3 o4:Option Sl),AI many steps ks/\(∀ x∈wait,x∈ks)/\wait.length<=ks.length/\(∀ s∈steps,s.1∈ks->s.1∉wait->s.2.2∈ks) /\
   ρ=[some (.sh (.tup [.int many,.list (steps.map b6)])),some (.ow true (.dK (y8 ks))),some (.ow true (.list (wait.map .int))),o3,o4],
  λρ=>2*(20-ZW (ρ.getD 1 none))+ZW (ρ.getD 2 none),⟨[0],[0],none,none,AI.one h0,by simp,by simp,λs _ e hn=>absurd (by simpa using e) (by simpa using hn),rfl⟩,?_⟩
 rintro ρ ⟨ks0,wait,o3,o4,hc,hw,EW,tF,rfl⟩;walk_at "q";by_cases ke:wait=[]
 ·subst ke;exact Ag hc (λs hs hm=>tF s hs hm (by simp)) h
 ·obtain⟨w0,st,rfl⟩:∃ w0 st,wait=w0++[st]:=⟨wait.dropLast,wait.getLast ke,(List.dropLast_concat_getLast ke).symm⟩
  rw[if_pos (by simp)];refine⟨.int st,by simp,rfl,?_⟩;walk_at "q";rw[show(List.map D.int (w0++[st])).dropLast=w0.map D.int by simp];simp only[i6,FG] at EW ⊢;refine aX _ (λi ρ=>∃ (ks wait:List Int) (o4:Option Sl),AI many steps ks/\st∈ks/\(∀ x∈wait,x∈ks)/\wait.length+1<=ks.length/\(∀ s∈steps,s.1∈ks->s.1∉wait->s.1≠st->s.2.2∈ks)/\(∀ s∈steps.take i,s.1=st->s.2.2∈ks) /\
   2*(20-ks.length)+wait.length<2*(20-ks0.length)+(w0.length+1) /\
   ρ=[some (.sh (.tup [.int many,.list (steps.map b6)])),some (.ow true (.dK (y8 ks))),some (.ow true (.list (wait.map .int))),some (.sh (.int st)),o4])
   ⟨ks0,w0,_,hc,hw st (by simp),λx hx=>hw x (by simp[hx]),by lia,λs hs h1 h2 h3=>tF s hs h1 (by simp[h2,h3]),by simp,by lia,rfl⟩ ?_ ?_
  ·rintro i x ρ hx ⟨ks,wait,o4,hc,qS,hw,EW,tF,P2,U8,rfl⟩ N hN;obtain⟨p,d,r,rfl,hs,et⟩:=ql hx;walk_at "q";have no:p=st->r∈ks->N [some (.sh (.tup [.int many,.list (steps.map b6)])),some (.ow true (.dK (y8 ks))),some (.ow true (.list (wait.map .int))),some (.sh (.int st)),some (.sh (.tup [.int p,.str d,.int r]))]:=λe hr =>
    hN _ ⟨ks,wait,_,hc,qS,hw,EW,tF,λs hs e=>by
     rw[et] at hs;rcases fe.mp hs with hs|hs
     ·exact P2 s hs e
     ·obtain rfl:s=(p,d,r):=by simpa using hs
      exact hr,U8,rfl⟩
   refine R.D (λe=>?_) λe=>?_
   ·walk_at "q";by_cases hr:r∈ks
    ·refine R.F (by rw[get_set];simp[hr]) ?_;walk_at "q";exact no e hr
    ·refine R.T (by rw[get_set];simp[hr]) ?_;walk_at "q";rw[GD];have ei:insI ks r=ks++[r]:=by unfold insI;rw[if_neg hr]
     have ti:AI many steps (insI ks r):=hc.ins bS hs (by rw[show((p,d,r):Stp).1=st from e];exact qS);have dz':=ti.len h1;rw[ei] at ti dz' ⊢;rw[i6,FG] at dz';rw[uX];walk_at "o";rw[show wait.map D.int++[D.int r]=(wait++[r]).map D.int by simp];refine hN _ ⟨ks++[r],wait++[r],_,ti,by simp[qS],λx hx=>?_,by simp;lia,λs hs h1 h2 h3=>?_,λs hs e'=>?_,by simp;lia,rfl⟩
     ·rcases fe.mp hx with hx|hx
      ·simp[hw x hx]
      ·simp at hx;simp[hx]
     ·simp only[fe,not_or] at h1 h2 ⊢;rcases h1 with h1|h1
      ·exact .inl (tF s hs h1 h2.1 h3)
      ·exact absurd h1 h2.2
     ·rw[et] at hs;rcases fe.mp hs with hs|hs
      ·simp[P2 s hs e']
      ·obtain rfl:s=(p,d,r):=by simpa using hs
       simp
   ·walk_at "q";refine hN _ ⟨ks,wait,_,hc,qS,hw,EW,tF,λs hs e'=>?_,U8,rfl⟩;rw[et] at hs;rcases fe.mp hs with hs|hs
    ·exact P2 s hs e'
    ·obtain rfl:s=(p,d,r):=by simpa using hs
     exact absurd e' e
  ·rintro ρ ⟨ks,wait,o4,hc,qS,hw,EW,tF,P2,U8,rfl⟩;rw[cx,uj] at P2;refine⟨⟨ks,wait,_,_,hc,hw,by lia,λs hs h1 h2=>?_,rfl⟩,by simpa[uX,ZW,lnD] using U8⟩;by_cases e:s.1=st
   ·exact P2 s hs e
   ·exact tF s hs h1 h2 e
def gA:WS :=
 (cq (eT 3 (aw bX (ag 1) (wC (.int 0))))
 (cq (eT 4 (mh cv))
 (cq (gv 0 (nv (cP (aw bX (ag 0) (wC (.int 1)))) (gT 3 (bj (gN 5) (bj (gN 6) (bj (gN 7) j8))))
 (j3 (wB (aw (yv true) (ag 6) (ag 2)))
 (gv 6 (RW (k9 4) (dM (cQ (ag 3)) (gN 0) vw (kB (ak (aw iA (aw nh (ag 4) (ag 3)) (ag 0)) (ak (ag 1) (ak (aw iA (aw nh (ag 2) (ag 3)) (ag 0)) cv)))) 1 [6,7,3,5])))
 bO)))
 (gM 4))))
def cY:ip:=λds Q=>∃ (m n:Int) (l1 l2:List Stp) (tg:List Str),ds=[mD m l1,mD n l2,.list (tg.map .str)]/\1<=n/\n<=20/\l1.length<=80/\(∀ s∈l1,xv 20 s)/\Q (.ow true) (.list ((l1.flatMap (qa n tg)).map b6))
def jC (ds Q) (h:cY ds Q):ds.length=["one", "other", "together"].length:=by obtain⟨_,_,_,_,_,rfl,_⟩:=h;rfl
def yt(n:Int)(tg:List Str)(s:Stp):(qa n tg s).length<=n.toNat:=by unfold qa;split<;>simp
def i_{l:List Stp}{g:Stp->List Stp}{k:Nat}(h:∀ s,(g s).length<=k):(l.flatMap g).length<=l.length*k:=by have:=jN (l:=l) (p:=λ_=>true) (λs=>by simpa using h s);rwa[gO] at this
def mj:∀ ds Q,cY ds Q->gA { nx:=λ_=>Q .sh .non,rt:=Q } (aL 8 ds):=by
 rintro ds Q ⟨m,n,l1,l2,tg,rfl,n1,n2,hz,ok,h⟩;unfold gA mD;walk_at "q";refine aX _ (λi ρ=>∃ (o5 o6 o7:Option Sl),ρ=[some (.sh (.tup [.int m,.list (l1.map b6)])),some (.sh (.tup [.int n,.list (l2.map b6)])),some (.sh (.list (tg.map .str))),some (.sh (.int n)),some (.ow true (.list (((l1.take i).flatMap (qa n tg)).map b6))),o5,o6,o7]) ⟨_,_,_,rfl⟩ ?_ ?_
 ·rintro i x ρ hx ⟨o5,o6,o7,rfl⟩ N hN;have hi:=(iF.mp hx).1;obtain⟨p,d,r,rfl,ht,et⟩:=ql hx;have hs:=ok _ ht;have hl:=i_ (l:=l1.take i) (yt n tg);have tq:(l1.take i).length*n.toNat<=80*20:=NJ (by rw[mE];lia) (by lia);have a1:=hs.1;have a2:=hs.2.1;have a3:=hs.2.2.2.1;have a4:=hs.2.2.2.2;simp only at a1 a2 a3 a4;walk_at "q";refine⟨rfl,jZ tg,?_⟩;rw[rW];have fin:N [some (.sh (.tup [.int m,.list (l1.map b6)])),some (.sh (.tup [.int n,.list (l2.map b6)])),some (.sh (.list (tg.map .str))),some (.sh (.int n)),some (.ow true (.list (((l1.take i).flatMap (qa n tg)).map b6++(qa n tg (p,d,r)).map b6))),some (.sh (.int p)),some (.sh (.str d)),some (.sh (.int r))]:=by rw[<- oI,show(l1.take i).flatMap (qa n tg)++qa n tg (p,d,r)=(l1.take (i+1)).flatMap (qa n tg) by rw[et,Vn];simp];exact hN _ ⟨_,_,_,rfl⟩
  by_cases hd:d∈tg
  ·refine R.F (by simp[hd]) ?_;walk_at "q";have e0:qa n tg (p,d,r)=[]:=if_pos hd;rw[e0,Qi,sR] at fin;exact fin
  ·refine R.T (by simp[hd]) ?_;walk_at "q"
   refine⟨by lia,by lia,aY (λ_=>true) (λx=>match x with
    |.int q=>.tup [.int (p*n+q),.str d,.int (r*n+q)]
    |x=>x) (λρ=>∃ o,ρ=[o,some (.sh (.str d)),some (.sh (.int r)),some (.sh (.int n)),some (.sh (.int p))]) _ _ _ ⟨_,rfl⟩ ?_ ?_⟩
   ·rintro y hy ρ ⟨o,rfl⟩ N1 N2 _ h2;obtain⟨q,hq,rfl⟩:=oK hy;walk_at "q";exact⟨.inl ⟨by lia,by lia⟩,.inl ⟨by lia,by lia⟩,.inl rfl,h2 _ ⟨_,rfl⟩ rfl⟩
   ·rw[gO]
    have e0:(gH 0 n.toNat).map (λx=>match x with
     |.int q=>D.tup [.int (p*n+q),.str d,.int (r*n+q)]
     |x=>x)=(qa n tg (p,d,r)).map b6:=by
     rw[show qa n tg (p,d,r)=_ from if_neg hd];unfold gH;rw[fN,fN];rfl
    rw[e0];have:=yt n tg (p,d,r);exact⟨aV _,by rw[cx];lia,fin⟩
 ·rintro ρ ⟨o5,o6,o7,rfl⟩;rw[cx,uj];walk_at "q";exact h
def e_:WS :=
 (cq (eT 3 (aw bX (ag 1) (wC (.int 0))))
 (cq (eT 4 (mh cv))
 (cq (gv 1 (nv (cP (aw bX (ag 1) (wC (.int 1)))) (gT 3 (bj (gN 5) (bj (gN 6) (bj (gN 7) j8))))
 (j3 (wB (aw (yv true) (ag 6) (ag 2)))
 (gv 6 (RW (k9 4) (dM (cQ (aw bX (ag 0) (wC (.int 0)))) (gN 0) vw (kB (ak (aw iA (aw nh (ag 0) (ag 3)) (ag 4)) (ak (ag 1) (ak (aw iA (aw nh (ag 0) (ag 3)) (ag 2)) cv)))) 1 [6,7,3,5])))
 bO)))
 (gM 4))))
def cj:ip:=λds Q=>∃ (m n:Int) (l1 l2:List Stp) (tg:List Str),ds=[mD m l1,mD n l2,.list (tg.map .str)]/\1<=m/\m<=20/\1<=n/\n<=20/\l2.length<=80/\(∀ s∈l2,xv 20 s)/\Q (.ow true) (.list ((l2.flatMap (qc m n tg)).map b6))
def iJ (ds Q) (h:cj ds Q):ds.length=["one", "other", "together"].length:=by obtain⟨_,_,_,_,_,rfl,_⟩:=h;rfl
def yE(m n:Int)(tg:List Str)(s:Stp):(qc m n tg s).length<=m.toNat:=by unfold qc;split<;>simp
def jL:∀ ds Q,cj ds Q->e_ { nx:=λ_=>Q .sh .non,rt:=Q } (aL 8 ds):=by
 rintro ds Q ⟨m,n,l1,l2,tg,rfl,m1,m2,n1,n2,hz,ok,h⟩;unfold e_ mD;walk_at "q";refine aX _ (λi ρ=>∃ (o5 o6 o7:Option Sl),ρ=[some (.sh (.tup [.int m,.list (l1.map b6)])),some (.sh (.tup [.int n,.list (l2.map b6)])),some (.sh (.list (tg.map .str))),some (.sh (.int n)),some (.ow true (.list (((l2.take i).flatMap (qc m n tg)).map b6))),o5,o6,o7]) ⟨_,_,_,rfl⟩ ?_ ?_
 ·rintro i x ρ hx ⟨o5,o6,o7,rfl⟩ N hN;have hi:=(iF.mp hx).1;obtain⟨p,d,r,rfl,ht,et⟩:=ql hx;have hs:=ok _ ht;have hl:=i_ (l:=l2.take i) (yE m n tg);have tq:(l2.take i).length*m.toNat<=80*20:=NJ (by rw[mE];lia) (by lia);walk_at "q";refine⟨rfl,jZ tg,?_⟩;rw[rW];have fin:N [some (.sh (.tup [.int m,.list (l1.map b6)])),some (.sh (.tup [.int n,.list (l2.map b6)])),some (.sh (.list (tg.map .str))),some (.sh (.int n)),some (.ow true (.list (((l2.take i).flatMap (qc m n tg)).map b6++(qc m n tg (p,d,r)).map b6))),some (.sh (.int p)),some (.sh (.str d)),some (.sh (.int r))]:=by rw[<- oI,show(l2.take i).flatMap (qc m n tg)++qc m n tg (p,d,r)=(l2.take (i+1)).flatMap (qc m n tg) by rw[et,Vn];simp];exact hN _ ⟨_,_,_,rfl⟩
  by_cases hd:d∈tg
  ·refine R.F (by simp[hd]) ?_;walk_at "q";have e0:qc m n tg (p,d,r)=[]:=if_pos hd;rw[e0,Qi,sR] at fin;exact fin
  ·refine R.T (by simp[hd]) ?_;walk_at "q"
   refine⟨by lia,by lia,aY (λ_=>true) (λx=>match x with
    |.int q=>.tup [.int (q*n+p),.str d,.int (q*n+r)]
    |x=>x) (λρ=>∃ o,ρ=[o,some (.sh (.str d)),some (.sh (.int r)),some (.sh (.int n)),some (.sh (.int p))]) _ _ _ ⟨_,rfl⟩ ?_ ?_⟩
   ·rintro y hy ρ ⟨o,rfl⟩ N1 N2 _ h2;obtain⟨q,hq,rfl⟩:=oK hy;walk_at "q";exact⟨.inl ⟨by lia,by lia⟩,.inl ⟨by lia,by lia⟩,.inl rfl,h2 _ ⟨_,rfl⟩ rfl⟩
   ·rw[gO]
    have e0:(gH 0 m.toNat).map (λx=>match x with
     |.int q=>D.tup [.int (q*n+p),.str d,.int (q*n+r)]
     |x=>x)=(qc m n tg (p,d,r)).map b6:=by
     rw[show qc m n tg (p,d,r)=_ from if_neg hd];unfold gH;rw[fN,fN];rfl
    rw[e0];have:=yE m n tg (p,d,r);exact⟨aV _,by rw[cx];lia,fin⟩
 ·rintro ρ ⟨o5,o6,o7,rfl⟩;rw[cx,uj];walk_at "q";exact h
def fc:WS :=
 (cq (eT 3 (aw bX (ag 1) (wC (.int 0))))
 (cq (eT 4 (mh cv))
 (cq (gv 0 (nv (cP (aw bX (ag 0) (wC (.int 1)))) (gT 3 (bj (gN 5) (bj (gN 6) (bj (gN 7) j8))))
 (j3 (wB (aw (yv false) (ag 6) (ag 2)))
 (cq (eT 8 (dM (dG (aw bX (ag 1) (wC (.int 1)))) (gN 0) (wB (aw rj (aw bX (ag 0) (wC (.int 1))) (ag 1))) (ag 0) 1 [6]))
 (gv 6 (RW (k9 4) (dM (dG (ag 8)) (gN 0) vw (kB (ak (aw iA (aw nh (ag 4) (ag 3)) (aw bX (ag 0) (wC (.int 0)))) (ak (ag 1) (ak (aw iA (aw nh (ag 2) (ag 3)) (aw bX (ag 0) (wC (.int 2)))) cv)))) 1 [6,7,3,5]))))
 bO)))
 (gM 4))))
def b8:ip:=λds Q=>∃ (m n:Int) (l1 l2:List Stp) (tg:List Str),ds=[mD m l1,mD n l2,.list (tg.map .str)]/\1<=n/\n<=20/\l1.length<=80/\l2.length<=80/\(∀ s∈l1,xv 20 s)/\(∀ s∈l2,xv 20 s)/\Q (.ow true) (.list ((l1.flatMap (toS n tg l2)).map b6))
def iQ (ds Q) (h:b8 ds Q):ds.length=["one", "other", "together"].length:=by obtain⟨_,_,_,_,_,rfl,_⟩:=h;rfl
def xr(n:Int)(tg:List Str)(l2:List Stp)(s:Stp):(toS n tg l2 s).length<=l2.length:=by
 unfold toS;split
 ·rw[cx];exact Qa _ _
 ·simp
def dA'(d:Str):D->Bool
 |.tup [_,.str e,_]=>decide (e=d)
 |_=>false
def dB'(p n:Int)(d:Str)(r:Int):D->D
 |.tup [.int u,e,.int v]=>.tup [.int (p*n+u),.str d,.int (r*n+v)]
 |x=>x
def jK:∀ ds Q,b8 ds Q->fc { nx:=λ_=>Q .sh .non,rt:=Q } (aL 9 ds):=by
 rintro ds Q ⟨m,n,l1,l2,tg,rfl,n1,n2,hz,hz2,ok,D7,h⟩;unfold fc mD;walk_at "q";refine aX _ (λi ρ=>∃ (o5 o6 o7 o8:Option Sl),ρ=[some (.sh (.tup [.int m,.list (l1.map b6)])),some (.sh (.tup [.int n,.list (l2.map b6)])),some (.sh (.list (tg.map .str))),some (.sh (.int n)),some (.ow true (.list (((l1.take i).flatMap (toS n tg l2)).map b6))),o5,o6,o7,o8]) ⟨_,_,_,_,rfl⟩ ?_ ?_
 ·rintro i x ρ hx ⟨o5,o6,o7,o8,rfl⟩ N hN;have hi:=(iF.mp hx).1;obtain⟨p,d,r,rfl,ht,et⟩:=ql hx;have hs:=ok _ ht;have hl:=i_ (l:=l1.take i) (xr n tg l2);have tq:(l1.take i).length*l2.length<=80*80:=NJ (by rw[mE];lia) (by lia);have a1:=hs.1;have a2:=hs.2.1;have a3:=hs.2.2.2.1;have a4:=hs.2.2.2.2;simp only at a1 a2 a3 a4;walk_at "q";refine⟨rfl,jZ tg,?_⟩;rw[rW];have fin:∀ o,N [some (.sh (.tup [.int m,.list (l1.map b6)])),some (.sh (.tup [.int n,.list (l2.map b6)])),some (.sh (.list (tg.map .str))),some (.sh (.int n)),some (.ow true (.list (((l1.take i).flatMap (toS n tg l2)).map b6++(toS n tg l2 (p,d,r)).map b6))),some (.sh (.int p)),some (.sh (.str d)),some (.sh (.int r)),o]:=λo=>by rw[<- oI,show(l1.take i).flatMap (toS n tg l2)++toS n tg l2 (p,d,r)=(l1.take (i+1)).flatMap (toS n tg l2) by rw[et,Vn];simp];exact hN _ ⟨_,_,_,_,rfl⟩
  by_cases hd:d∈tg
  ·refine R.T (by simp[hd]) ?_;walk_at "q";refine aY (dA' d) (λx=>x) (λρ=>∃ o,ρ=[o,some (.sh (.str d))]) _ _ _ ⟨_,rfl⟩ ?_ ?_
   ·rintro y hy ρ ⟨o,rfl⟩ N1 N2 n1 n2;obtain⟨⟨u,e,v⟩,g7,rfl⟩:=cw.mp hy;unfold b6;walk_at "q";by_cases e0:e=d
    ·rw[if_pos (decide_eq_true e0)];exact⟨.inl rfl,n2 _ ⟨_,rfl⟩ (decide_eq_true e0)⟩
    ·rw[if_neg (by simp[e0])];exact n1 _ ⟨_,rfl⟩ (decide_eq_false e0)
   ·rw[List.map_id'];have e1:(l2.map b6).filter (dA' d)=(l2.filter λt=>decide (t.2.1=d)).map b6:=by rw[SX];rfl
    rw[e1];refine aY (λ_=>true) (dB' p n d r) (λρ=>∃ o,ρ=[o,some (.sh (.str d)),some (.sh (.int r)),some (.sh (.int n)),some (.sh (.int p))]) _ _ _ ⟨_,rfl⟩ ?_ ?_
    ·rintro y hy ρ ⟨o,rfl⟩ N1 N2 _ h2;obtain⟨⟨u,e,v⟩,g7,rfl⟩:=cw.mp hy;unfold b6;walk_at "q";exact⟨.inl ⟨by lia,by lia⟩,.inl ⟨by lia,by lia⟩,.inl rfl,h2 _ ⟨_,rfl⟩ rfl⟩
    ·rw[gO];have e0:((l2.filter λt=>decide (t.2.1=d)).map b6).map (dB' p n d r)=(toS n tg l2 (p,d,r)).map b6:=by rw[show toS n tg l2 (p,d,r)=_ from if_pos hd];rw[fN,fN];rfl
     rw[e0];have:=xr n tg l2 (p,d,r);exact⟨aV _,by rw[cx];lia,fin _⟩
  ·refine R.F (by simp[hd]) ?_;walk_at "q";have e0:toS n tg l2 (p,d,r)=[]:=if_neg hd;rw[e0,Qi,sR] at fin;exact fin _
 ·rintro ρ ⟨o5,o6,o7,o8,rfl⟩;rw[cx,uj];walk_at "q";exact h
def ji:WS :=
 (cq (eT 2 (dM (dG (aw bX (ag 0) (wC (.int 1)))) (gN 0) vw (kB (ak (aw bX (ag 0) (wC (.int 0))) (ak (PY (ag 1) (aw bX (ag 0) (wC (.int 1))) (aw bX (ag 0) (wC (.int 1)))) (ak (aw bX (ag 0) (wC (.int 2))) cv)))) 1 [1]))
 (k8 (kB (ak (aw bX (ag 0) (wC (.int 0))) (ak (f7 d7 (ag 2)) cv)))))
def Sd(f:Str->Option Str)(kd:List (Key × D)):Prop:=∀ x:Str,fI kd (.inr x)=(f x).map D.str
def cR:ip:=λds Q=>∃ (many:Int) (l:List Stp) (f:Str->Option Str) (kd:List (Key × D)),ds=[mD many l,.dK kd]/\Sd f kd/\l.length<=1000/\∀ out,pj (l.map (Fn f)) out->Q (.ow true) (mD many out)
def mJ (ds Q) (h:cR ds Q):ds.length=["m", "new_deeds"].length:=by obtain⟨_,_,_,_,rfl,_⟩:=h;rfl
def qL:∀ ds Q,cR ds Q->ji { nx:=λ_=>Q .sh .non,rt:=Q } (aL 3 ds):=by
 rintro ds Q ⟨many,l,f,kd,rfl,hk,hz,h⟩;unfold ji mD;walk_at "q"
 refine aY (λ_=>true) (λx=>match x with
  |.tup [.int u,.str d,.int v]=>.tup [.int u,.str ((f d).getD d),.int v]
  |x=>x) (λρ=>∃ o,ρ=[o,some (.sh (.dK kd))]) _ _ _ ⟨_,rfl⟩ ?_ ?_
 ·rintro x hx ρ ⟨o,rfl⟩ N1 N2 n1 n2;obtain⟨⟨u,d,v⟩,hs,rfl⟩:=cw.mp hx;unfold b6;walk_at "q";rw[hk d];have n3:=λo=>n2 [o,some (.sh (.dK kd))] ⟨o,rfl⟩ rfl
  cases e:f d with
  |none =>simp only[b6,e,VA] at n3;walk_at "q";exact⟨.inl rfl,n3 _⟩
  |some z =>simp only[b6,e,VB] at n3;walk_at "q";exact⟨.inl rfl,n3 _⟩
 ·rw[gO]
  have e:(l.map b6).map (λx=>match x with
   |.tup [.int u,.str d,.int v]=>.tup [.int u,.str ((f d).getD d),.int v]
   |x=>x)=(l.map (Fn f)).map b6:=by
   rw[fN,fN];rfl
  rw[e];exact u9 (λxs=>Q (.ow true) (.tup [.int many,.list xs])) (by simpa using hz) λout M=>h out M
def Aa:WS :=
 (k8 (kB (ak (aw bX (ag 1) (ag 2)) (ak (f7 fG (dM (dG (aw bX (ag 0) (ag 2))) (gT 2 (bj (gN 0) (bj (gN 1) j8))) vw (kB (ak (ag 0) (ak (aw bX (ag 2) (ag 1)) cv))) 2 [1])) cv))))
def lJ:ip:=λds Q=>∃ (many:Int) (steps:List Stp) (e7:List Int) (s:Int),ds=[U7 many steps,.list (e7.map .int),.int s]/\(0<=s/\s<many)/\e7.length=many.toNat/\eW many steps/\steps.length<=1000/\∀ k,D5 steps e7 s k->Q (.ow true) (jv k)
def vV (ds Q) (h:lJ ds Q):ds.length=["exits", "ranks", "state"].length:=by obtain⟨_,_,_,_,rfl,_⟩:=h;rfl
def Bt:∀ ds Q,lJ ds Q->Aa { nx:=λ_=>Q .sh .non,rt:=Q } (aL 3 ds):=by
 rintro ds Q ⟨many,steps,e7,s,rfl,hs,hr,bS,hl,h⟩;walk_at "q";refine⟨_,xq hr hs.1 hs.2,?_⟩;walk_at "q";refine⟨_,La steps hs.1 hs.2,?_⟩;walk_at "q"
 refine aY (λ_=>true) (λd=>match d with
  |.tup [.str x,.int e]=>.tup [.str x,.int (rk e7 e)]
  |d=>d) (λρ=>∃ o0 o1,ρ=[o0,o1,some (.sh (.list (e7.map .int)))]) _ _ _ ⟨_,_,rfl⟩ ?_ ?_
 ·rintro x hx ρ ⟨o0,o1,rfl⟩ N1 N2 n1 n2;obtain⟨p,hp,rfl⟩:=cw.mp hx;obtain⟨t,ht,e1,e2⟩:=wX hp;obtain⟨x,e⟩:=p;have ok:=bS t ht;obtain⟨t1,t2,t3⟩:=t;cases e2;unfold ox;walk_at "q";refine⟨_,xq hr ok.2.2.2.1 ok.2.2.2.2,?_⟩;walk_at "q";exact⟨.inl rfl,n2 _ ⟨_,_,rfl⟩ rfl⟩
 have e1:((t9 steps s).map ox |>.filter λ_=>true).map (λd=>match d with
   |.tup [.str x,.int e]=>.tup [.str x,.int (rk e7 e)]
   |d=>d)=((t9 steps s).map λp=>(p.1,rk e7 p.2)).map ox:=by
  rw[Nw.mpr λ_ _=>rfl,fN,fN];rfl
 rw[e1];refine By (m:=.ow true) (Q:=λ_ d=>Q (.ow true) (.tup [.int (rk e7 s),d])) (by rw[cx];exact jS (yu steps s) hl) λl up mem=>?_;refine h (rk e7 s,l) ⟨rfl,up,λp=>(mem p).trans ⟨λhp=>?_,λhp=>?_⟩⟩
 ·obtain⟨q,hq,rfl⟩:=cw.mp hp;obtain⟨t,ht,e1,rfl⟩:=wX hq;exact⟨t,ht,e1,rfl⟩
 ·obtain⟨t,ht,rfl,rfl⟩:=hp;exact cw.mpr ⟨t.2,Ep ht,rfl⟩
def gB:WS :=
 (cq (j3 (wB (aw Ux (ag 1) (f7 sC (ag 0))))
 (k8 (aw bX (ag 0) (ag 1)))
 bO)
 (k8 (wC (.int 0))))
def aJ:ip:=λds Q=>∃ (ns:List Int) (k:Int),ds=[.list (ns.map .int),.int k]/\0<=k/\Q .sh (.int (ns.getD k.toNat 0))
def jJ (ds Q) (h:aJ ds Q):ds.length=["_law_script", "_law_k"].length:=by obtain⟨_,_,rfl,_⟩:=h;rfl
def l_:∀ ds Q,aJ ds Q->gB { nx:=λ_=>Q .sh .non,rt:=Q } (aL 2 ds):=by
 rintro ds Q ⟨ns,k,rfl,hk,h⟩;unfold gB;walk_at "q";refine R.D (λhl=>?_) λhl=>?_
 ·walk_at "q";have hn:k.toNat<ns.length:=by lia
  refine⟨.int ns[k.toNat],?_,?_⟩
  ·have:=GY (xs:=ns.map D.int) (j:=k.toNat) (v:=.int ns[k.toNat]) (by simp[hn]);rwa[tf hk] at this
  ·show Q .sh _;simpa[ hn] using h
 ·walk_at "q";have:ns.getD k.toNat 0=0:=by
   have:ns.length<=k.toNat:=by lia
   simp[ xE this]
  rwa[this] at h
def mW:WS :=
 (k8 (aw kN (aw nh (aw iA (aw iA (aw iA (aw kN (ag 0) (wC (.int 1000000007))) (aw nh (aw nh (wC (.int 29)) (ag 1)) (ag 1))) (aw nh (wC (.int 11)) (ag 1))) (wC (.int 5))) (ag 2)) (ag 3)))
def bu:ip:=λds Q=>∃ c k b p:Int,ds=[.int c,.int k,.int b,.int p]/\(0<=k/\k<=100)/\(0<=b/\b<=100000)/\1<=p/\∀ r,0<=r->r<p->Q .sh (.int r)
def pQ (ds Q) (h:bu ds Q):ds.length=["_law_cell", "_law_k", "_law_by", "_law_prime"].length:=by obtain⟨_,_,_,_,rfl,_⟩:=h;rfl
def vO:∀ ds Q,bu ds Q->mW { nx:=λ_=>Q .sh .non,rt:=Q } (aL 4 ds):=by rintro ds Q ⟨c,k,b,p,rfl,hk,hb,hp,h⟩;unfold mW;walk_at "q";exact⟨.inl ⟨by lia,by lia⟩,.inr ⟨by lia,by lia⟩,.inl ⟨by lia,by lia⟩,.inr ⟨by lia,by lia⟩,by lia,h _ (Qp _ (by lia)) (Qo _ (by lia))⟩
def jh:WS :=
 (cq (eT 2 (wC (.str "abcdefghijklmnopqrstuvwxyz")))
 (cq (eT 3 (aw iA (wC (.int 1)) (aw kN (ag 0) (wC (.int 6)))))
 (cq (eT 4 (aw kN (aw DM (ag 1) (wC (.int 3))) (ag 3)))
 (cq (eT 5 (mh (ak (wC (.str "*")) cv)))
 (cq (nv (cQ (wC (.int 5))) (gN 6)
 (cq (eT 7 (wC (.str "")))
 (cq (nv (cQ (wC (.int 6))) (gN 8)
 (cq (eT 9 (aw iA (aw DM (ag 0) (wC (.int 6))) (aw nh (aw nh (ag 8) (ag 8)) (aw iA (wC (.int 1)) (aw kN (aw DM (ag 1) (wC (.int 18))) (wC (.int 5)))))))
 (cq (j3 (Ro (wB (aw rj (ag 8) (ag 4))) (wB (aw DS (aw kN (ag 1) (wC (.int 3))) (wC (.int 1)))))
 (eT 9 (aw iA (ag 9) (ag 6)))
 bO)
 (eT 7 (aw iA (ag 7) (aw bX (ag 2) (aw kN (ag 9) (wC (.int 26)))))))))
 (j3 (wB (aw rj (aw kN (ag 1) (wC (.int 3))) (wC (.int 1))))
 (sD (k9 5) (BH (ag 7) gW (gk (aw iA (ag 6) (wC (.int 1))))))
 (sD (k9 5) (BH (ag 7) gW (gk (ag 3))))))))
 (gM 5))))))
def eG:ip:=λds Q=>∃ c o:Int,ds=[.int c,.int o]/\∀ pool:List Str,pool.length=5->(∀ n∈pool,Open n)->Q (.ow true) (.list ((("*" : Str) :: pool).map .str))
def lX (ds Q) (h:eG ds Q):ds.length=["_law_cell", "_law_other"].length:=by obtain⟨_,_,rfl,_⟩:=h;rfl
def pZ:∀ ds Q,eG ds Q->jh { nx:=λ_=>Q .sh .non,rt:=Q } (aL 10 ds):=by
 rintro ds Q ⟨c,o,rfl,h⟩;unfold jh;have s0:1<=1+c % 6/\1+c % 6<=6:=by lia
 walk_at "q";refine⟨by lia,?_⟩;generalize 1+c % 6=size at *
 generalize o / 3 % size=at' at *
 refine aX _ (λi ρ=>∃ (pool:List Str) (o6 o7 o8 o9:Option Sl),pool.length=i/\(∀ n∈pool,Open n)/\ρ=[some (.sh (.int c)),some (.sh (.int o)),some (.sh (.str abc)),some (.sh (.int size)),some (.sh (.int at')),some (.ow true (.list ((("*" : Str) :: pool).map .str))),o6,o7,o8,o9]) ⟨[],_,_,_,_,rfl,λ_ z=>(nomatch z),rfl⟩ ?_ ?_
 ·rintro i x ρ hx ⟨pool,o6,o7,o8,o9,pl,po,rfl⟩ N hN;obtain⟨hi,rfl⟩:=dh hx;walk_at "q";refine aX _ (λj ρ=>∃ (name:Str) (o8 o9:Option Sl),name.length=j/\lets name/\ρ=[some (.sh (.int c)),some (.sh (.int o)),some (.sh (.str abc)),some (.sh (.int size)),some (.sh (.int at')),some (.ow true (.list ((("*" : Str) :: pool).map .str))),some (.sh (.int (0+i))),some (.sh (.str name)),o8,o9]) ⟨"",_,_,rfl,λc hc=>(by cases hc),rfl⟩ ?_ ?_
  ·rintro j x ρ hx ⟨name,o8,o9,nl,ZX,rfl⟩ N hN;obtain⟨hj,rfl⟩:=dh hx;have jj:(0+j)*(0+(j:Int))<=36:=by have:=Int.mul_le_mul (show 0+(j:Int)<=6 by lia) (show 0+(j:Int)<=6 by lia) (by lia) (by decide);exact this
   have j0:0<=(0+j)*(0+(j:Int)):=EG (by lia) (by lia);have fin:∀ sign:Int,∃ ch,gi (sg abc) (sign % 26)=some ch/\N [some (.sh (.int c)),some (.sh (.int o)),some (.sh (.str abc)),some (.sh (.int size)),some (.sh (.int at')),some (.ow true (.list ((("*" : Str) :: pool).map .str))),some (.sh (.int (0+i))),some (.sh (.str (name ++ ⟨#[ch]⟩))),some (.sh (.int (0+j))),some (.sh (.int sign))]:=λsign=>by obtain⟨ch,e1,e2⟩:=EY sign;exact⟨ch,e1,hN _ ⟨_,_,_,by rw[j6,nl];rfl,Cj ZX (Bj e2),rfl⟩⟩
   walk_at "q";refine⟨.inl ⟨by lia,by lia⟩,.inl ⟨by lia,by lia⟩,R.D (λe=>?_) λe=>?_⟩
   ·walk_at "q";refine R.B (λe=>?_) λe=>?_
    ·walk_at "q";obtain⟨ch,e1,e2⟩:=fin (c / 6+(0+j)*(0+j)*(1+o / 18 % 5)+(0+i));exact⟨ch,e1,by rw[jc];lia,e2⟩
    ·walk_at "q";obtain⟨ch,e1,e2⟩:=fin (c / 6+(0+j)*(0+j)*(1+o / 18 % 5));exact⟨ch,e1,by rw[jc];lia,e2⟩
   ·walk_at "q";obtain⟨ch,e1,e2⟩:=fin (c / 6+(0+j)*(0+j)*(1+o / 18 % 5));exact⟨ch,e1,by rw[jc];lia,e2⟩
  ·rintro ρ ⟨name,o8,o9,nl,ZX,rfl⟩;rw[eF] at nl;have cut:∀ k:Int,1<=k->k<=6->Open (pS name none (some k)):=λk a b=>by have:=G6 (x:=name) (k:=k) (by lia) (by lia);exact⟨by lia,by lia,Ao ZX _ _⟩
   have fin:∀ k:Int,1<=k->k<=6->N [some (.sh (.int c)),some (.sh (.int o)),some (.sh (.str abc)),some (.sh (.int size)),some (.sh (.int at')),some (.ow true (.list ((("*" : Str) :: pool).map .str++[.str (pS name none (some k))]))),some (.sh (.int (0+i))),some (.sh (.str name)),o8,o9]:=λk a b=>by
    rw[show(("*" : Str) :: pool).map D.str++[.str (pS name none (some k))]=(("*" : Str) :: (pool++[pS name none (some k)])).map D.str by simp];refine hN _ ⟨pool++[pS name none (some k)],_,_,_,_,by rw[i6,pl];rfl,λn hn=>?_,rfl⟩;rcases fe.mp hn with hn|hn
    ·exact po n hn
    ·rw[nI.mp hn];exact cut k a b
   walk_at "q";refine R.D (λe=>?_) λe=>?_
   ·walk_at "q";exact⟨by lia,fin _ (by lia) (by lia)⟩
   ·walk_at "q";exact⟨by lia,fin _ s0.1 s0.2⟩
 ·rintro ρ ⟨pool,o6,o7,o8,o9,pl,po,rfl⟩;walk_at "q";exact h pool pl po
def iu:WS :=
 (cq (eT 1 (mh cv))
 (cq (gv 0 (nv (cP (ag 0)) (gN 2)
 (j3 (wB (aw (yv false) (aw bX (ag 2) (wC (.int 0))) (kB (ak (wC (.str "right")) (ak (wC (.str "left")) cv)))))
 (sD (k9 1) (kB (ak (aw bX (ag 2) (wC (.int 0))) (ak (kB (ak (aw bX (aw bX (ag 2) (wC (.int 1))) (wC (.int 0))) (ak (f7 lg (aw bX (aw bX (ag 2) (wC (.int 1))) (wC (.int 1)))) cv))) (ak (f7 lg (aw bX (ag 2) (wC (.int 2)))) cv)))))
 (sD (k9 1) (kB (ak (aw bX (ag 2) (wC (.int 0))) (ak (f7 lg (aw bX (ag 2) (wC (.int 1)))) cv)))))))
 (gM 1)))
def cH:ip:=λds Q=>∃ (rows:List dv) (pool:List Str),ds=[.list (rows.map dv.d)]/\rows.length<=100/\(∀ r∈rows,r.Ok pool)/\Q (.ow true) (.list (rows.map dv.d))
def lu (ds Q) (h:cH ds Q):ds.length=["_law_frame_here"].length:=by obtain⟨_,_,rfl,_⟩:=h;rfl
def nW:∀ ds Q,cH ds Q->iu { nx:=λ_=>Q .sh .non,rt:=Q } (aL 3 ds):=by
 rintro ds Q ⟨rows,pool,rfl,rz,ok,h⟩;unfold iu;walk_at "q";refine aX _ (λi ρ=>∃ o2:Option Sl,ρ=[some (.sh (.list (rows.map dv.d))),some (.ow true (.list ((rows.take i).map dv.d))),o2]) ⟨_,rfl⟩ ?_ ?_
 ·rintro i x ρ hx ⟨o2,rfl⟩ N hN;rw[nK] at hx;obtain⟨r,hr,rfl⟩:=N0.mp hx;have tk:(rows.take (i+1)).map dv.d=(rows.take i).map dv.d++[r.d]:=by rw[wm,hr,oI];rfl
  have lt:(rows.take i).length<=100:=by rw[mE];lia
  have nx:=hN _ ⟨some (.sh r.d),rfl⟩;rw[tk] at nx
  cases r with
  |right n l tg =>rw[show(dv.right n l tg).d=.tup [.str "right",.tup [.int n,.list (l.map b6)],.list (tg.map .str)] from rfl] at nx ⊢;walk_at "q";refine⟨rfl,rfl,R.T (by decide +kernel) ?_⟩;walk_at "q";exact .inl ⟨aV l,.inl ⟨dg tg,by lia,nx⟩⟩
  |left n l tg =>rw[show(dv.left n l tg).d=.tup [.str "left",.tup [.int n,.list (l.map b6)],.list (tg.map .str)] from rfl] at nx ⊢;walk_at "q";refine⟨rfl,rfl,R.T (by decide +kernel) ?_⟩;walk_at "q";exact .inl ⟨aV l,.inl ⟨dg tg,by lia,nx⟩⟩
  |mv ns =>rw[show(dv.mv ns).d=.tup [.str "hide",.list (ns.map .str)] from rfl] at nx ⊢;walk_at "q";refine⟨rfl,rfl,R.F (by decide +kernel) ?_⟩;walk_at "q";exact .inl ⟨dg ns,by lia,nx⟩
  |nX ps =>rw[show(dv.nX ps).d=.tup [.str "rename",.list (ps.map qf)] from rfl] at nx ⊢;walk_at "q";refine⟨rfl,rfl,R.F (by decide +kernel) ?_⟩;walk_at "q";exact .inl ⟨vz ps,by lia,nx⟩
 ·rintro ρ ⟨o2,rfl⟩;rw[cx,uj];walk_at "q";exact h
def gw:WS :=
 (cq (j3 (wB (aw LZ (aw bX (ag 0) (wC (.int 0))) (wC (.int 20))))
 jt
 bO)
 (cq (j3 (wB (aw LZ (f7 sC (aw bX (ag 0) (wC (.int 1)))) (wC (.int 80))))
 jt
 bO)
 (j3 (wB (aw LZ (f7 sC (dM (dG (aG gZ (ak (ag 0) cv))) (gN 0) (wB (aG fY (ak (ag 0) cv))) (ag 0) 1 [])) (wC (.int 6))))
 jt
 bO)))
def bQ:ip:=λds Q=>∃ (many:Int) (l:List Stp) (pool:List Str),ds=[mD many l]/\many<=20/\l.length<=80/\pool.length<=6/\Kd pool l/\Q .sh .non
def jB (ds Q) (h:bQ ds Q):ds.length=["m"].length:=by obtain⟨_,_,_,rfl,_⟩:=h;rfl
def mL:∀ ds Q,bQ ds Q->gw { nx:=λ_=>Q .sh .non,rt:=Q } (aL 1 ds):=by
 rintro ds Q ⟨many,steps,pool,rfl,hm,hz,hp,hk,h⟩;unfold gw mD;walk_at "q";refine R.D (λa=>absurd a (by lia)) λa=>?_;walk_at "q";refine R.D (λa=>absurd a (by lia)) λa=>?_;walk_at "q";refine⟨many,steps,rfl,hz,λnames nd mm=>?_⟩;walk_at "q"
 refine aY (λd=>match d with
  |.str x=>decide (1<=x.length/\x.length<=6) && (sg x).all isLet
  |_=>false) (λd=>d) (λρ=>∃ o,ρ=[o]) _ _ _ ⟨_,rfl⟩ ?_ ?_
 ·rintro x hx ρ ⟨o,rfl⟩ N1 N2 n1 n2;obtain⟨n,hn,rfl⟩:=cw.mp hx;walk_at "q";refine⟨_,rfl,?_⟩;walk_at "q"
  cases e:(decide (1<=n.length/\n.length<=6) && (sg n).all isLet) with
  |true =>exact⟨.inl rfl,n2 _ ⟨_,rfl⟩ e⟩
  |false =>exact n1 _ ⟨_,rfl⟩ e
 ·have e1:(names.map D.str).filter (λd=>match d with
    |.str x=>decide (1<=x.length/\x.length<=6) && (sg x).all isLet
    |_=>false)=(names.filter λx=>decide (1<=x.length/\x.length<=6) && (sg x).all isLet).map D.str:=by
   rw[SX];rfl
  rw[e1,cx,cx];have hl:(names.filter λx=>decide (1<=x.length/\x.length<=6) && (sg x).all isLet).length<=pool.length:=TS.bH (nd.filter _) λx hx=>by
   obtain⟨h1,h2⟩:=zD.mp hx;obtain⟨s,g7,e⟩:=cw.mp ((mm x).mp h1);have h3:=hk s g7;rw[e] at h3;rcases h3 with h3|h3
   ·subst h3;exact absurd h2 (by decide +kernel)
   ·exact h3
  refine R.D (λc=>absurd c (by lia)) λc=>?_;walk_at "q";exact h
def jo:WS :=
 (gv 0 (nv (cP (ag 0)) (gN 1)
 (j3 (LW (wB (aG fY (ak (ag 1) cv))))
 jt
 bO)))
def bR:ip:=λds Q=>∃ names:List Str,ds=[.list (names.map .str)]/\(∀ n∈names,Open n)/\Q .sh .non
def lZ (ds Q) (h:bR ds Q):ds.length=["deeds"].length:=by obtain⟨_,rfl,_⟩:=h;rfl
def pX:∀ ds Q,bR ds Q->jo { nx:=λ_=>Q .sh .non,rt:=Q } (aL 2 ds):=by
 rintro ds Q ⟨names,rfl,ho,h⟩;unfold jo;walk_at "q";refine aX _ (λi ρ=>∃ o,ρ=[some (.sh (.list (names.map .str))),o]) ⟨_,rfl⟩ ?_ ?_
 ·rintro i x ρ hx ⟨o,rfl⟩ N hN;obtain⟨n,rfl,hn,et⟩:=Dv hx;walk_at "q";refine⟨n,rfl,?_⟩;walk_at "q";rw[Bq.mpr (ho n hn)];walk_at "q";exact hN _ ⟨_,rfl⟩
 ·rintro ρ ⟨o,rfl⟩;walk_at "q";exact h
def gC:WS :=
 (cq (eT 2 (dM (cQ (f7 sC (ag 1))) (gN 0) vw (aG lJ (ak (ag 1) (ak (ag 2) (ak (ag 0) cv)))) 1 [0,1]))
 (cq (eT 3 (mh cv))
 (cq (gv 2 (nv (cP (f7 zL (ag 2))) (gN 4)
 (j3 (wB (aw (RT true) (ag 4) (ag 3)))
 (gv 4 (sD (k9 3) (ag 4)))
 bO)))
 (k8 (dM (dG (ag 2)) (gN 0) vw (vd (ag 1) (ag 0)) 1 [3])))))
def bU:ip:=λds Q=>∃ (many:Int) (steps:List Stp) (e7:List Int),ds=[U7 many steps,.list (e7.map .int)]/\(0<=many/\many<=1000)/\e7.length=many.toNat/\eW many steps/\steps.length<=1000/\∀ r,RB many steps e7 r->Q (.ow true) (.list (r.map .int))
def jH (ds Q) (h:bU ds Q):ds.length=["exits", "ranks"].length:=by obtain⟨_,_,_,rfl,_⟩:=h;rfl
def lV:∀ ds Q,bU ds Q->gC { nx:=λ_=>Q .sh .non,rt:=Q } (aL 5 ds):=by
 rintro ds Q ⟨many,steps,e7,rfl,hm,hr,bS,hl,h⟩;unfold gC U7;walk_at "q";refine⟨by lia,by lia,?_⟩;refine lA (λn out=>∃ l:List Ky,out=l.map jv/\l.length=n/\∀ (i:Nat) k,l[i]? = some k->D5 steps e7 i k) (λρ=>∃ o,ρ=[o,some (.sh (.list (vF many steps))),some (.sh (.list (e7.map .int)))]) _ 0 [] _ _ ⟨_,rfl⟩ ⟨[],rfl,rfl,λi k hk=>by simp at hk⟩ ?_ ?_
 ·rintro j y hy ρ ⟨o,rfl⟩ out ⟨l,rfl,ZY,hk⟩ N1 N2 Q7;have hj:=(dh hy).1;obtain⟨_,rfl⟩:=dh hy;walk_at "q";refine⟨many,steps,e7,0+j,rfl,by lia,hr,bS,hl,λk xi=>?_⟩;walk_at "q";refine⟨.inr rfl,Q7 _ _ ⟨_,rfl⟩ ⟨l++[k],by simp,by simp[ZY],λi k' kR=>?_⟩⟩;rcases NS i l.length with hi|hi
  ·rw[FE hi] at kR;exact hk i k' kR
  ·rw[Ct hi] at kR;have ya:i-l.length=0:=by
    rcases Nat.eq_zero_or_pos (i-l.length) with z|z
    ·exact z
    ·rw[xE (by simp;lia)] at kR;cases kR
   rw[ya] at kR;cases kR;have:i=0+j:=by lia
   rw[this];exact xi
 rintro out ⟨l,e,ZY,hk⟩;simp only[List.nil_append] at e;subst e;rw[eF,NR] at ZY;have MQ:∀ k∈l,vE k:=λk ua=>by obtain⟨i,hi⟩:=IZ.mp ua;exact(hk i k hi).ok bS
 refine⟨λd hd=>?_,λms pm pw=>?_⟩
 ·obtain⟨k,ua,rfl⟩:=cw.mp hd;exact⟨Bw (MQ k ua) 9,(MQ k ua).xo⟩
 obtain⟨l2,rfl,tq⟩:=R5 λd hd=>by obtain⟨k,ua,e⟩:=cw.mp (pm.mem_iff.mp hd);exact⟨k,e.symm,ua⟩
 have back:∀ k∈l,k∈l2:=λk ua=>by obtain⟨j,hj,e⟩:=cw.mp (pm.mem_iff.mpr (cw.mpr ⟨k,ua,rfl⟩));rw[<- yD e];exact hj
 have nQ':l2.length=l.length:=by have:=pm.length_eq;simpa using this
 rw[kC] at pw;have pw:l2.Pairwise λa b=>rS b a=false:=pw;refine aX _ (λi ρ=>∃ (diff:List Ky) (fl:Bool) (o4:Option Sl),diff.Pairwise (λa b=>rS a b=true)/\(∀ k,k∈diff↔k∈l2.take i)/\diff.length<=i/\ρ=[some (.sh (.list (vF many steps))),some (.sh (.list (e7.map .int))),some (.sh (.list (l.map jv))),some (.ow fl (.list (diff.map jv))),o4]) ⟨[],true,none,.nil,by simp,by simp,rfl⟩ ?_ ?_
 ·rintro i x ρ hx ⟨diff,fl,o4,up,mem,dl,rfl⟩ N hN;obtain⟨hi,AJ⟩:=iF.mp hx;have kz:i<l2.length:=by simpa using hi
  have ZZ:x=jv l2[i]:=by rw[<- AJ];simp
  subst ZZ;have ua:l2[i]∈l:=tq _ (ui kz);have tk:l2.take (i+1)=l2.take i++[l2[i]]:=by rw[wm,lh kz];rfl
  have IG:∀ k∈diff,vE k:=λk Se=>MQ k (tq k (Qe ((mem k).mp Se)));generalize ek:l2[i]=k at *
  walk_at "q";refine⟨Bw (MQ k ua) 9,Dw IG 8,?_⟩;rw[Jt];by_cases hd:k∈diff
  ·refine R.F (by simp[hd]) ?_;walk_at "q";refine hN _ ⟨diff,fl,_,up,λk'=>?_,by lia,rfl⟩;rw[mem,tk,fe,nI];exact⟨.inl,λz=>z.elim id λe=>by rw[e];exact(mem k).mp hd⟩
  ·refine R.T (by simp[hd]) ?_;walk_at "q";refine⟨by lia,?_⟩;refine hN _ ⟨diff++[k],fl && (jv k).flat,some (.sh (jv k)),?_,λk'=>?_,by simp;lia,by simp⟩
   ·refine Qc.mpr ⟨up,by simp,λa ha b hb=>?_⟩;rw[nI.mp hb]
    cases h3:rS a k with
    |true=>rfl
    |false =>
     have h4:rS k a=false:=by
      obtain⟨j,hj⟩:=IZ.mp ((mem a).mp ha);obtain⟨OX,R6⟩:=iF.mp hj;have Zo:j<i:=by rw[mE] at OX;lia
      have:=xD.mp pw j i (by lia) kz Zo;rw[ek] at this;rw[List.getElem_take] at R6;rwa[R6] at this
     exact absurd (Ea (IG a ha) (MQ k ua) h3 h4) λe=>hd (by rw[<- e];exact ha)
   ·rw[fe,nI,mem,tk,fe,nI]
 ·rintro ρ ⟨diff,fl,o4,up,mem,dl,rfl⟩;rw[cx,uj] at mem;have md:∀ k,k∈diff↔k∈l:=λk=>(mem k).trans ⟨tq k,back k⟩;have IG:∀ k∈diff,vE k:=λk Se=>MQ k ((md k).mp Se);walk_at "q";refine lA (λn out=>∃ r:List Int,out=r.map .int/\r.length=n/\∀ (i:Nat) x,r[i]? = some x->0<=x/\diff[x.toNat]? = l[i]?) (λρ=>∃ o,ρ=[o,some (.sh (.list (diff.map jv)))]) _ 0 [] _ _ ⟨_,rfl⟩ ⟨[],rfl,rfl,λi k hk=>by simp at hk⟩ ?_ ?_
  ·rintro j y hy ρ ⟨o,rfl⟩ out ⟨r,rfl,Z0,LN⟩ N1 N2 Q7;obtain⟨hj,Wi⟩:=iF.mp hy;have sA:j<l.length:=by simpa using hj
   have hye:y=jv l[j]:=by rw[<- Wi];simp
   subst hye;have ua:l[j]∈l:=ui sA;have hlj:l[j]? = some l[j]:=lh sA;generalize l[j]=k at *
   have Se:=(md k).mpr ua;have AA:=List.idxOf_lt_length_of_mem Se;walk_at "q";refine⟨Dw IG 8,Bw (MQ k ua) 9,diff.idxOf k,⟨jv k,?_,by rw[vC];exact decide_eq_true rfl⟩,λi z hi hz=>?_,.inl rfl,Q7 _ _ ⟨_,rfl⟩ ⟨r++[((diff.idxOf k:Nat):Int)],by simp,by simp[Z0],λi x hx=>?_⟩⟩
   ·rw[nK,lh AA,SG AA];rfl
   ·rw[nK,lh (by lia)] at hz;cases hz;rw[vC];refine decide_eq_false λe=>?_;have:=List.not_of_lt_findIdx hi;rw[show diff[i]=k from e] at this;simp at this
   ·rcases NS i r.length with hi|hi
    ·rw[FE hi] at hx;exact LN i x hx
    ·rw[Ct hi] at hx;have ya:i-r.length=0:=by
      rcases Nat.eq_zero_or_pos (i-r.length) with z|z
      ·exact z
      ·rw[xE (by simp;lia)] at hx;cases hx
     rw[ya] at hx;cases hx;have:i=j:=by lia
     subst this;refine⟨by lia,?_⟩;rw[hlj,FU,lh AA,SG AA]
  rintro out ⟨r,e,Z0,LN⟩;simp only[List.nil_append] at e;subst e;rw[cx,NR] at Z0;refine h r ⟨λs=>l.getD s.toNat (0,[]),diff,by lia,λs a b=>?_,up,λk=>?_,λs a b=>?_⟩
  ·have hs:s.toNat<l.length:=by lia
   have:=hk s.toNat l[s.toNat] (lh hs);rw[tf a] at this;simpa[List.getD,hs] using this
  ·rw[md];constructor
   ·intro ua;obtain⟨i,hi,rfl⟩:=Sy.mp ua;exact⟨i,by lia,by simp[List.getD,hi]⟩
   ·rintro⟨s,hs,rfl⟩;have hs:s.toNat<l.length:=by lia
    simp[List.getD,hs]
  ·have hs:s.toNat<r.length:=by lia
   have g7:s.toNat<l.length:=by lia
   have:=LN s.toNat r[s.toNat] (lh hs);simpa[rk,List.getD,hs,g7] using this
def jw:WS :=
 (cq (eT 3 (mh cv))
 (cq (nv (cQ (f7 sC (ag 0))) (gN 4)
 (cq (eT 5 (aw kN (aG bu (ak (aw bX (ag 0) (ag 4)) (ak (ag 4) (ak (wC (.int 48271)) (ak (wC (.int 10007)) cv))))) (ag 1)))
 (cq (eT 6 (aw bX (ag 2) (aw kN (aG bu (ak (aw bX (ag 0) (ag 4)) (ak (ag 4) (ak (wC (.int 69621)) (ak (wC (.int 7919)) cv))))) (f7 sC (ag 2)))))
 (cq (gv 6 (gv 5 (eT 7 (kB (ak (ag 5) (ak (ag 6) (ak (aw kN (aG bu (ak (aw bX (ag 0) (ag 4)) (ak (ag 4) (ak (wC (.int 16807)) (ak (wC (.int 6151)) cv))))) (ag 1)) cv)))))))
 (j3 (wB (aw (RT true) (ag 7) (ag 3)))
 (gv 7 (sD (k9 3) (ag 7)))
 bO)))))
 (wN [.inr 1,.inl (f7 uZ (ag 3))])))
def bA:ip:=λds Q=>∃ (cs:List Int) (n:Int) (names:List Str),ds=[.list (cs.map .int),.int n,.list (names.map .str)]/\cs.length<=20/\(1<=n/\n<=3)/\1<=names.length/\(∀ x∈names,xt x)/\∀ l:List Stp,eW n l->(∀ s∈l,s.2.1∈names)->l.length<=cs.length->Q (.ow true) (mD n l)
def lW (ds Q) (h:bA ds Q):ds.length=["_law_cells", "_law_many", "_law_names_here"].length:=by obtain⟨_,_,_,rfl,_⟩:=h;rfl
def lE{P:Stp->Prop}{l:List Stp}(hp:∀ s∈l,P s){R:List (List Key)->Prop}(k:∀ out:List Stp,(∀ s,s∈out↔s∈l)->(∀ s∈out,P s)->out.length=l.length->R (out.map kr)) :
  ∃ (ks:List (List Key)) (sh:List Bool),l.map b6=ks.map kM/\(∀ k∈ks,ja k=true :: sh)/\∀ ms:List (List Key),ms.Perm ks->(ms.Pairwise λa b=>gy b a=false)->R ms:=by
 refine⟨l.map kr,[false,true],by rw[fN];rfl,λk hk=>?_,λms pm _=>?_⟩
 ·obtain⟨s,_,rfl⟩:=cw.mp hk;rfl
 ·obtain⟨out,rfl,ho⟩:=kJ λk hk=>by obtain⟨s,hs,e⟩:=cw.mp (pm.mem_iff.mp hk);exact⟨s,e.symm,hs⟩
  refine k out (λs=>⟨ho s,λhs=>?_⟩) (λs hs=>hp s (ho s hs)) (by have:=pm.length_eq;simpa using this);obtain⟨u,hu,e⟩:=cw.mp (pm.mem_iff.mpr (cw.mpr ⟨s,hs,rfl⟩));rw[<- jU e];exact hu
def qe(l:List Stp):(l.map kr).map kM=l.map b6:=by rw[fN];rfl
def qN:∀ ds Q,bA ds Q->jw { nx:=λ_=>Q .sh .non,rt:=Q } (aL 8 ds):=by
 rintro ds Q ⟨cs,n,names,rfl,cl,hn,nl,nd,h⟩;unfold jw;walk_at "q";refine⟨by lia,by lia,?_⟩;refine aX _ (λi ρ=>∃ (l:List Stp) (o4 o5 o6 o7:Option Sl),eW n l/\(∀ s∈l,s.2.1∈names)/\l.length<=i/\ρ=[some (.sh (.list (cs.map .int))),some (.sh (.int n)),some (.sh (.list (names.map .str))),some (.ow true (.list (l.map b6))),o4,o5,o6,o7]) ⟨[],_,_,_,_,λ_ z=>(nomatch z),λ_ z=>(nomatch z),c9 _,rfl⟩ ?_ ?_
 ·rintro i x ρ hx ⟨l,o4,o5,o6,o7,li,P4,ll,rfl⟩ N hN;obtain⟨hi,rfl⟩:=dh hx;have kz:i<cs.length:=by lia
  have ea:=GY (xs:=cs.map D.int) (j:=i) (v:=.int cs[i]) (by simp[kz]);rw[show i=0+(i:Int) by lia] at ea;generalize cs[i]=c at *
  walk_at "q";refine⟨_,ea,?_⟩;walk_at "q";refine⟨c,_,48271,10007,rfl,by lia,by decide,by decide,λr1 _ _=>?_⟩;have a0:=Qp r1 (show n≠0 by lia);have a1:=Qo r1 (show 0<n by lia);walk_at "q";refine⟨by lia,_,ea,?_⟩;walk_at "q";refine⟨c,_,69621,7919,rfl,by lia,by decide,by decide,λr2 _ _=>?_⟩;obtain⟨d,Z1,ed⟩:=name_mod r2 nl;walk_at "q";refine⟨by lia,_,ed,?_⟩;walk_at "q";refine⟨_,ea,?_⟩;walk_at "q";refine⟨c,_,16807,6151,rfl,by lia,by decide,by decide,λr3 _ _=>?_⟩;have b0:=Qp r3 (show n≠0 by lia);have b1:=Qo r3 (show 0<n by lia);walk_at "q";have IG:dc 12 (.tup [.int (r1 % n),.str d,.int (r3 % n)])=true:=zJ 11 (s:=(r1 % n,d,r3 % n)) ⟨a0,a1,nd d Z1,b0,b1⟩;refine⟨by lia,IG,tD 10 li,R.B (λz=>?_) λz=>?_⟩
  ·walk_at "q";refine⟨by lia,?_⟩;rw[show l.map b6++[D.tup [.int (r1 % n),.str d,.int (r3 % n)]]=(l++[((r1 % n,d,r3 % n):Stp)]).map b6 by rw[oI];rfl];refine hN _ ⟨_,_,_,_,_,λs hs=>?_,λs hs=>?_,by rw[i6,FG];lia,rfl⟩
   ·rcases fe.mp hs with hs|hs
    ·exact li s hs
    ·rw[nI.mp hs];exact⟨a0,a1,nd d Z1,b0,b1⟩
   ·rcases fe.mp hs with hs|hs
    ·exact P4 s hs
    ·rw[nI.mp hs];exact Z1
  ·walk_at "q";exact hN _ ⟨l,_,_,_,_,li,P4,by lia,rfl⟩
 ·rintro ρ ⟨l,o4,o5,o6,o7,li,P4,ll,rfl⟩;rw[eF] at ll;walk_at "q";refine lE (P:=λs=>xv n s/\s.2.1∈names) (λs hs=>⟨li s hs,P4 s hs⟩) λout _ ho hz=>?_;rw[qe];exact h out (λs hs=>(ho s hs).1) (λs hs=>(ho s hs).2) (by lia)
def cF:WS :=
 (cq (eT 5 (mh cv))
 (cq (nv (cQ (f7 sC (aw bX (ag 0) (wC (.int 1))))) (gN 6)
 (cq (Ew (aw bX (aw bX (ag 0) (wC (.int 1))) (ag 6)) (gT 3 (bj (gN 7) (bj (gN 8) (bj (gN 9) j8)))))
 (gv 7 (nv (Ce (kB (ak (ag 7) (ak (aw bX (ag 3) (ag 7)) cv)))) (gN 10)
 (cq (gv 9 (eT 11 (aw bX (mh (ak (ag 9) (ak (aw bX (ag 3) (ag 9)) cv))) (aw kN (aG aJ (ak (ag 1) (ak (aw iA (aw iA (wC (.int 11)) (aw nh (wC (.int 2)) (ag 6))) (f7 ZH (aw DS (ag 10) (ag 7)))) cv))) (wC (.int 2))))))
 (gv 11 (gv 8 (gv 10 (j3 (wB (aw (RT true) (kB (ak (ag 10) (ak (ag 8) (ak (ag 11) cv)))) (ag 5)))
 (gv 11 (gv 8 (gv 10 (sD (k9 5) (kB (ak (ag 10) (ak (ag 8) (ak (ag 11) cv))))))))
 bO)))))))))
 (wN [.inr 2,.inl (f7 uZ (ag 5))])))
def jg:WS :=
 (cq (eT 2 (aw bX (ag 0) (wC (.int 0))))
 (cq (eT 3 (mh cv))
 (cq (nv (cQ (aw bX (ag 0) (wC (.int 0)))) (gN 4)
 (cq (gv 4 (sD (k9 3) (ag 4)))
 (j3 (wB (aw rj (aw kN (aG aJ (ak (ag 1) (ak (aw iA (wC (.int 8)) (ag 4)) cv))) (wC (.int 2))) (wC (.int 1))))
 (cq (gv 2 (Ei (k9 3) (ag 4) (ag 2)))
 (eT 2 (aw iA (ag 2) (wC (.int 1)))))
 bO)))
 cF)))
structure Fs(n1 n2:Int)(i:Nat)(sec:List Int)(π:Int->Int):Prop where
 le:n1<=n2/\n2<=n1+i
 len:sec.length=i
 IH:∀ s,0<=s->s<n1->π s=s
 sc:∀ j:Nat,j<i->(0<=rk sec j/\rk sec j<n2)/\π (rk sec j)=j
 bk:∀ t,n1<=t->t<n2->(0<=π t/\π t<i)/\rk sec (π t)=t
def oM{l:List Int}{x:Int}{j:Nat}(h:j<l.length):rk (l++[x]) j=rk l j:=by unfold rk;rw[CB,CB,FU,FE h]
def yU:rk (l++[x]) (l.length:Nat)=x:=by unfold rk;rw[CB,FU,Ct (c9 _),Nat.sub_self];rfl
def Fs.old(h:Fs n1 n2 i sec π)(hi:(i:Int)<n1):Fs n1 n2 (i+1) (sec++[(i:Int)]) π:=by
 have hl:=h.len;refine⟨by have:=h.le;lia,by rw[i6,hl];rfl,h.IH,λj hj=>?_,λt a b=>?_⟩
 ·by_cases e:j<i
  ·rw[oM (by lia)];exact h.sc j e
  ·have:j=sec.length:=by lia
   rw[this,yU,hl];have:=h.le;exact⟨by lia,h.IH i (by lia) hi⟩
 ·obtain⟨b1,b2⟩:=h.bk t a b;refine⟨by lia,?_⟩;obtain⟨k,hk⟩:∃ k:Nat,π t=k:=⟨(π t).toNat,by lia⟩
  rw[hk] at b1 b2 ⊢;rw[oM (by lia)];exact b2
def Z2(π:Int->Int)(x y:Int):Int->Int:=λt=>if t=x then y else π t
def Fs.new(h:Fs n1 n2 i sec π)(hi:(i:Int)<n1):Fs n1 (n2+1) (i+1) (sec++[n2]) (Z2 π n2 i):=by
 have hl:=h.len;have le:=h.le;have old:∀ t,t≠n2->Z2 π n2 i t=π t:=λt e=>if_neg e;have new:Z2 π n2 i n2=i:=if_pos rfl;refine⟨by lia,by rw[i6,hl];rfl,λs a b=>by rw[old s (by lia)];exact h.IH s a b,λj hj=>?_,λt a b=>?_⟩
 ·by_cases e:j<i
  ·obtain⟨a,b⟩:=h.sc j e;rw[oM (by lia),old _ (by lia)];exact⟨by lia,b⟩
  ·have e:j=sec.length:=by lia
   rw[e,yU,hl,new];exact⟨by lia,rfl⟩
 ·by_cases e:t=n2
  ·rw[e,new];refine⟨by lia,?_⟩;rw[show i=sec.length by lia,yU]
  ·rw[old t e];obtain⟨b1,b2⟩:=h.bk t a (by lia);refine⟨by lia,?_⟩;obtain⟨k,hk⟩:∃ k:Nat,π t=k:=⟨(π t).toNat,by lia⟩
   rw[hk] at b1 b2 ⊢;rw[oM (by lia)];exact b2
structure Sf(n1 n2:Int)(l done S:List Stp)(sec:List Int)(π:Int->Int)(names:List Str):Prop where
 ok:∀ t∈S,xv n2 t/\t.2.1∈names
 U9:∀ t∈S,(π t.1,t.2.1,π t.2.2)∈l
 fwd:∀ t∈done,∀ c,(c=t.1\/c=rk sec t.1)->∃ g,(c,t.2.1,g)∈S/\π g=t.2.2
def Sf.bis{l S:List Stp}(D1:Fs n1 n2 n1.toNat sec π)(D2:Sf n1 n2 l l S sec π names)(bS:eW n1 l)(n0:1<=n1):kP n1 l n2 S λs t=>(0<=t/\t<n2)/\s=π t:=by
 have rg:∀ t,0<=t->t<n2->0<=π t/\π t<n1:=λt a b=>by
  by_cases e:t<n1
  ·rw[D1.IH t a e];lia
  ·have:=(D1.bk t (by lia) b).1;lia
 refine⟨λs t b=>⟨by rw[b.2];exact rg t b.1.1 b.1.2,b.1⟩,λs t b d e he=>?_,λs t b d f hf=>?_⟩
 ·obtain⟨rt,rfl⟩:=b;obtain⟨g,hg,eg⟩:=D2.fwd _ he t (by
   by_cases z:t<n1
   ·exact .inl (D1.IH t rt.1 z).symm
   ·exact .inr (D1.bk t (by lia) rt.2).2.symm)
  exact⟨g,hg,(D2.ok _ hg).1.2.2.2,eg.symm⟩
 ·obtain⟨rt,rfl⟩:=b;exact⟨π f,D2.U9 _ hf,(D2.ok _ hf).1.2.2.2,rfl⟩
def eO:ip:=λds Q=>∃ (n1:Int) (l:List Stp) (ns:List Int) (names:List Str),ds=[mD n1 l,.list (ns.map .int)]/\(1<=n1/\n1<=3)/\eW n1 l/\(∀ s∈l,s.2.1∈names)/\l.length<=4/\∀ (n2:Int) (S:List Stp) (B:Int->Int->Prop),(n1<=n2/\n2<=6)->eW n2 S->(∀ s∈S,s.2.1∈names)->S.length<=8->kP n1 l n2 S B->B 0 0->Q (.ow true) (mD n2 S)
def mC (ds Q) (h:eO ds Q):ds.length=["_law_some", "_law_script"].length:=by obtain⟨_,_,_,_,rfl,_⟩:=h;rfl
def En(l:List Stp)(s:Stp):DV (l.map b6) (b6 s)=decide (s∈l):=by
 unfold DV;rw[List.any_map,sT,SQ,decide_eq_true_iff];constructor
 ·rintro⟨t,ht,e⟩;have:b6 t=b6 s:=(cC _ _ rfl rfl).mp e;rw[<- vy this];exact ht
 ·exact λh=>⟨s,h,eq_self rfl⟩
def DQ{Q:Md->D->Prop}{n1 n2:Int}{l:List Stp}{ns sec:List Int}{π:Int->Int}{names:List Str}{o4:Option Sl}(hn:1<=n1/\n1<=3)(bS:eW n1 l)(Z3:∀ s∈l,s.2.1∈names)(hl:l.length<=4)(D1:Fs n1 n2 n1.toNat sec π)(h:∀ S:List Stp,eW n2 S->(∀ s∈S,s.2.1∈names)->S.length<=8->Sf n1 n2 l l S sec π names->Q (.ow true) (mD n2 S)):cF { nx:=λ_=>Q .sh .non,rt:=Q } [some (.sh (.tup [.int n1,.list (l.map b6)])),some (.sh (.list (ns.map .int))),some (.sh (.int n2)),some (.ow true (.list (sec.map .int))),o4,none,none,none,none,none,none,none]:=by
 have le:=D1.le;have sl:=D1.len;have sat:∀ a:Int,0<=a->a<n1->gi (sec.map D.int) a=some (.int (rk sec a)):=λa h0 h1=>xq sl h0 h1;have srg:∀ a:Int,0<=a->a<n1->(0<=rk sec a/\rk sec a<n2)/\π (rk sec a)=a:=λa h0 h1=>by have:=D1.sc a.toNat (by lia);rwa[tf h0] at this
 unfold cF;walk_at "q";refine⟨by lia,by lia,?_⟩;rw[FU];refine aX _ (λk ρ=>∃ (S:List Stp) (o6 o7 o8 o9 D8 D9:Option Sl),Sf n1 n2 l (l.take k) S sec π names/\S.length<=2*k/\ρ=[some (.sh (.tup [.int n1,.list (l.map b6)])),some (.sh (.list (ns.map .int))),some (.sh (.int n2)),some (.ow true (.list (sec.map .int))),o4,some (.ow true (.list (S.map b6))),o6,o7,o8,o9,D8,D9]) ⟨[],_,_,_,_,_,_,⟨λ_ z=>(nomatch z),λ_ z=>(nomatch z),λ_ z=>(nomatch z)⟩,c9 _,rfl⟩ ?_ ?_
 ·rintro k x ρ hx ⟨S,o6,o7,o8,o9,D8,D9,D2,Sz,rfl⟩ N hN;obtain⟨hk,rfl⟩:=dh hx;obtain⟨⟨a,d,b⟩,hs⟩:∃ s,l[k]? = some s:=⟨_,lh hk⟩
  have mem:=mB hs;have ok:=bS _ mem;have o1:0<=a:=ok.1;have o2:a<n1:=ok.2.1;have o3:0<=b:=ok.2.2.2.1;have Z4:b<n1:=ok.2.2.2.2;have dn:=Z3 _ mem;have tk:l.take (k+1)=l.take k++[(a,d,b)]:=by rw[wm,hs];rfl
  have ea:=GY (xs:=l.map b6) (by rw[nK,hs];rfl);rw[show k=0+k by lia] at ea;obtain⟨sa1,sa2⟩:=srg a o1 o2;obtain⟨sF,DT⟩:=srg b o3 Z4;walk_at "q";refine⟨_,ea,?_⟩;rw[show b6 (a,d,b)=.tup [.int a,.str d,.int b] from rfl];walk_at "q";refine⟨_,sat a o1 o2,?_⟩;walk_at "q";refine aX _ (λj ρ=>∃ (S:List Stp) (D8 D9:Option Sl),Sf n1 n2 l (l.take k) S sec π names/\(∀ c∈[a,rk sec a].take j,∃ g,(c,d,g)∈S/\π g=b)/\S.length<=2*k+j/\ρ=[some (.sh (.tup [.int n1,.list (l.map b6)])),some (.sh (.list (ns.map .int))),some (.sh (.int n2)),some (.ow true (.list (sec.map .int))),o4,some (.ow true (.list (S.map b6))),some (.sh (.int (0+k))),some (.sh (.int a)),some (.sh (.str d)),some (.sh (.int b)),D8,D9]) ⟨S,_,_,D2,λc hc=>(nomatch hc),Sz,rfl⟩ ?_ ?_
  ·clear D2 Sz;rintro j x ρ hx ⟨S,D8,D9,D2,cp,Sz,rfl⟩ N hN;obtain⟨c,hc,rfl⟩:∃ c,[a,rk sec a][j]? = some c/\x=.int c:=by rw[show[D.int a,D.int (rk sec a)]=[a,rk sec a].map D.int from rfl,nK] at hx;obtain⟨c,hc,e⟩:=N0.mp hx;exact⟨c,hc,e.symm⟩
   have hj:j<2:=(iF.mp hc).1;have ck:[a,rk sec a].take (j+1)=[a,rk sec a].take j++[c]:=by rw[wm,hc];rfl
   have cr:(0<=c/\c<n2)/\π c=a:=by
    have:=mB hc;simp only[eK,ND,or_false] at this;rcases this with rfl|rfl
    ·exact⟨by lia,D1.IH c o1 o2⟩
    ·exact⟨sa1,sa2⟩
   have fin:∀ g,(g=b\/g=rk sec b)->∀ S':List Stp,(∀ t,t∈S'↔t∈S\/t=(c,d,g))->S'.length<=S.length+1->∀ D8 D9,N [some (.sh (.tup [.int n1,.list (l.map b6)])),some (.sh (.list (ns.map .int))),some (.sh (.int n2)),some (.ow true (.list (sec.map .int))),o4,some (.ow true (.list (S'.map b6))),some (.sh (.int (0+k))),some (.sh (.int a)),some (.sh (.str d)),some (.sh (.int b)),D8,D9]:=λg hg S' B5 hz D8 D9=>by
    have gr:(0<=g/\g<n2)/\π g=b:=by
     rcases hg with rfl|rfl
     ·exact⟨by lia,D1.IH g o3 Z4⟩
     ·exact⟨sF,DT⟩
    refine hN _ ⟨S',_,_,⟨λt ht=>?_,λt ht=>?_,λt ht c' ti=>?_⟩,λc' ti=>?_,by lia,rfl⟩
    ·rcases (B5 t).mp ht with ht|rfl
     ·exact D2.ok t ht
     ·exact⟨⟨cr.1.1,cr.1.2,ok.2.2.1,gr.1.1,gr.1.2⟩,dn⟩
    ·rcases (B5 t).mp ht with ht|rfl
     ·exact D2.U9 t ht
     ·show(π c,d,π g)∈l;rw[cr.2,gr.2];exact mem
    ·obtain⟨g',Z5,Z6⟩:=D2.fwd t ht c' ti;exact⟨g',(B5 _).mpr (.inl Z5),Z6⟩
    ·rw[ck] at ti;rcases fe.mp ti with z|z
     ·obtain⟨g',Z5,Z6⟩:=cp c' z;exact⟨g',(B5 _).mpr (.inl Z5),Z6⟩
     ·rw[nI.mp z];exact⟨g,(B5 _).mpr (.inr rfl),gr.2⟩
   walk_at "q";refine⟨_,sat b o3 Z4,?_⟩;walk_at "q";refine⟨.inl ⟨by lia,by lia⟩,ns,_,rfl,by split<;>lia,?_⟩;generalize ns.getD _ 0=cc;obtain⟨g,eg,hg⟩:∃ g,gi [D.int b,D.int (rk sec b)] (cc % 2)=some (.int g)/\(g=b\/g=rk sec b):=by
    have:cc % 2=0\/cc % 2=1:=by lia
    rcases this with e|e<;>rw[e]
    ·exact⟨b,rfl,.inl rfl⟩
    ·exact⟨rk sec b,rfl,.inr rfl⟩
   have gr:0<=g/\g<n2:=by
    rcases hg with rfl|rfl
    ·lia
    ·exact sF
   have IG:dc 12 (.tup [.int c,.str d,.int g])=true:=zJ 11 (s:=(c,d,g)) ⟨cr.1.1,cr.1.2,ok.2.2.1,gr.1,gr.2⟩;have UM:dc 12 (.list (S.map b6))=true:=tD 10 λs z=>(D2.ok s z).1;walk_at "q";refine⟨_,eg,?_⟩;walk_at "q";refine⟨IG,UM,?_⟩;rw[show DV (S.map b6) (.tup [.int c,.str d,.int g])=_ from En S (c,d,g)];refine R.B (λz=>?_) λz=>?_
   ·walk_at "q";rw[show S.map b6++[D.tup [.int c,.str d,.int g]]=(S++[((c,d,g):Stp)]).map b6 by rw[oI];rfl];exact⟨by lia,fin g hg _ (λt=>by rw[fe,nI]) (by rw[i6,FG];lia) _ _⟩
   ·walk_at "q";have z:(c,d,g)∈S:=by simpa using z
    exact fin g hg S (λt=>⟨.inl,λw=>w.elim id λe=>by rw[e];exact z⟩) (by lia) _ _
  ·clear D2 Sz;rintro ρ ⟨S,D8,D9,D2,cp,Sz,rfl⟩;refine hN _ ⟨S,_,_,_,_,_,_,⟨D2.ok,D2.U9,λt ht c hc=>?_⟩,by have:[D.int a,D.int (rk sec a)].length=2:=rfl;lia,rfl⟩;rw[tk] at ht;rcases fe.mp ht with ht|ht
   ·exact D2.fwd t ht c hc
   ·rw[nI.mp ht] at hc ⊢;refine cp c ?_;rcases hc with rfl|rfl
    ·exact dz
    ·exact dP _ dz
 ·rintro ρ ⟨S,o6,o7,o8,o9,D8,D9,D2,Sz,rfl⟩;rw[eF] at D2 Sz;rw[uj] at D2;walk_at "q";refine lE D2.ok λout hm ho hz=>?_;rw[qe];exact h out (λs z=>(ho s z).1) (λs z=>(ho s z).2) (by lia) ⟨ho,λt ht=>D2.U9 t ((hm t).mp ht),λt ht c hc=>by
   obtain⟨g,hg,eg⟩:=D2.fwd t ht c hc;exact⟨g,(hm _).mpr hg,eg⟩⟩
def qO:∀ ds Q,eO ds Q->jg { nx:=λ_=>Q .sh .non,rt:=Q } (aL 12 ds):=by
 rintro ds Q ⟨n1,l,ns,names,rfl,hn,bS,Z3,hl,h⟩;obtain⟨w3,e3⟩:∃ w,w=cF:=⟨_,rfl⟩
 unfold jg;rw[<- e3];rw[show mD n1 l=.tup [.int n1,.list (l.map b6)] from rfl];walk_at "q";refine⟨by lia,by lia,?_⟩;refine aX _ (λi ρ=>∃ (n2:Int) (sec:List Int) (π:Int->Int) (o4:Option Sl),Fs n1 n2 i sec π/\ρ=[some (.sh (.tup [.int n1,.list (l.map b6)])),some (.sh (.list (ns.map .int))),some (.sh (.int n2)),some (.ow true (.list (sec.map .int))),o4,none,none,none,none,none,none,none]) ⟨n1,[],id,_,⟨by lia,rfl,λ_ _ _=>rfl,λj hj=>absurd hj (FR j),λt a b=>by lia⟩,rfl⟩ ?_ ?_
 ·rintro i x ρ hx ⟨n2,sec,π,o4,D1,rfl⟩ N hN;obtain⟨hi,rfl⟩:=dh hx;have PK:=D1.len;have kS':0+i=(i:Int):=by lia
  walk_at "q";refine⟨by lia,ns,_,rfl,by lia,?_⟩;walk_at "q";refine R.D (λe=>?_) λe=>?_
  ·walk_at "q";refine⟨by lia,by rw[i6,cx,FG];lia,?_⟩;rw[show(sec.map D.int++[D.int (0+i)]).set (0+(i:Int)).toNat (D.int n2)=(sec++[n2]).map D.int by
    rw[show(0+(i:Int)).toNat=(sec.map D.int).length by rw[cx];lia,List.set_append_right _ _ (c9 _),Nat.sub_self,oI];rfl]
   exact hN _ ⟨n2+1,_,_,_,D1.new (by lia),rfl⟩
  ·walk_at "q";rw[show sec.map D.int++[.int (0+i)]=(sec++[(i:Int)]).map D.int by rw[oI,kS'];rfl];exact hN _ ⟨n2,_,π,_,D1.old (by lia),rfl⟩
 ·rintro ρ ⟨n2,sec,π,o4,D1,rfl⟩;rw[eF] at D1;have le:=D1.le;walk_at "q";rw[e3];exact DQ hn bS Z3 hl D1 λS hS hSn Zx D2=>h n2 S _ (by lia) hS hSn Zx (D2.bis D1 bS hn.1) ⟨by lia,(D1.IH 0 (iS 0) (by lia)).symm⟩
def jx:WS :=
 (cq (eT 2 (mh cv))
 (cq (nv (cQ (aw kN (ag 0) (wC (.int 4)))) (gN 3)
 (sD (k9 2) (aw bX (ag 1) (aw iA (wC (.int 1)) (aw kN (aG bu (ak (aw DM (ag 0) (wC (.int 4))) (ak (ag 3) (ak (wC (.int 40014)) (ak (wC (.int 9973)) cv))))) (wC (.int 5)))))))
 (gM 2)))
def eE:ip:=λds Q=>∃ (c:Int) (pool:List Str),ds=[.int c,.list ((("*" : Str) :: pool).map .str)]/\pool.length=5/\(∀ n∈pool,Open n)/\∀ tg:List Str,tg.length<=3->(∀ t∈tg,Open t)->Q (.ow true) (.list (tg.map .str))
def mH (ds Q) (h:eE ds Q):ds.length=["_law_cell", "_law_names_here"].length:=by obtain⟨_,_,rfl,_⟩:=h;rfl
def sG (pl:pool.length=5) (r:Int):∃ n,n∈pool/\gi ((("*" : Str) :: pool).map D.str) (1+r % 5)=some (.str n):=by
 have hn:(r % 5).toNat<pool.length:=by lia
 refine⟨pool[(r % 5).toNat],ui hn,?_⟩;have:=GY (xs:=(("*" : Str) :: pool).map D.str) (j:=(r % 5).toNat+1) (v:=.str pool[(r % 5).toNat]) (by simp[hn]);rwa[show(((r % 5).toNat+1:Nat):Int)=1+r % 5 by lia] at this
def pR:∀ ds Q,eE ds Q->jx { nx:=λ_=>Q .sh .non,rt:=Q } (aL 4 ds):=by
 rintro ds Q ⟨c,pool,rfl,pl,po,h⟩;unfold jx;walk_at "q";refine⟨by lia,by lia,?_⟩;refine aX _ (λi ρ=>∃ (tg:List Str) (o3:Option Sl),tg.length=i/\(∀ t∈tg,Open t)/\ρ=[some (.sh (.int c)),some (.sh (.list ((("*" : Str) :: pool).map .str))),some (.ow true (.list (tg.map .str))),o3]) ⟨[],_,rfl,λ_ z=>(nomatch z),rfl⟩ ?_ ?_
 ·rintro i x ρ hx ⟨tg,o3,tl,to,rfl⟩ N hN;obtain⟨hi,rfl⟩:=dh hx;walk_at "q";refine⟨c / 4,_,40014,9973,rfl,by lia,by decide,by decide,λr _ _=>?_⟩;obtain⟨n,hn,en⟩:=sG pl r;walk_at "q";refine⟨_,en,?_⟩;walk_at "q";refine⟨by lia,hN _ ⟨tg++[n],_,by rw[i6,tl];rfl,λt ht=>?_,by rw[oI];rfl⟩⟩;rcases fe.mp ht with ht|ht
  ·exact to t ht
  ·rw[nI.mp ht];exact po n hn
 ·rintro ρ ⟨tg,o3,tl,to,rfl⟩;rw[eF] at tl;walk_at "q";exact h tg (by lia) to
def uz:WS :=
 (cq (tM (aG bR (ak (ag 2) cv)))
 (cq (eT 3 (aw nh (aw bX (ag 0) (wC (.int 0))) (aw bX (ag 1) (wC (.int 0)))))
 (cq (gv 3 (tM (aG bQ (ak (kB (ak (ag 3) (ak (mh cv) cv))) cv))))
 (cq (eT 4 (aw iA (aG cY (ak (ag 0) (ak (ag 1) (ak (ag 2) cv)))) (aG cj (ak (ag 0) (ak (ag 1) (ak (ag 2) cv))))))
 (cq (gv 3 (eT 5 (kB (ak (ag 3) (ak (f7 d7 (aw iA (ag 4) (aG b8 (ak (ag 0) (ak (ag 1) (ak (ag 2) cv)))))) cv)))))
 (cq (tM (aG bQ (ak (ag 5) cv)))
 (gM 5)))))))
def iH:ip:=λds Q=>∃ (m n:Int) (l1 l2:List Stp) (tg pool:List Str) (x y:Nat),ds=[mD m l1,mD n l2,.list (tg.map .str)]/\(∀ t∈tg,Open t)/\pool.length<=6/\ZV x y m n/\Mch pool x l1/\Mch pool y l2/\∀ out,pj (zk m n tg l1 l2) out->Q (.ow true) (mD (m*n) out)
def vD (ds Q) (h:iH ds Q):ds.length=["one", "other", "together"].length:=by obtain⟨_,_,_,_,_,_,_,_,rfl,_⟩:=h;rfl
def Bx:∀ ds Q,iH ds Q->uz { nx:=λ_=>Q .sh .non,rt:=Q } (aL 6 ds):=by rintro ds Q ⟨m,n,l1,l2,tg,pool,x,y,rfl,ht,hp,F,M1,M2,h⟩;have bl:=Gb (tg:=tg) F M1.2.1 M2.2.1;obtain⟨m1,n1,m2,n2,mn,x1,y1,_⟩:=id F;have l1z:=M1.2.1;have l2z:=M2.2.1;unfold uz mD;walk_at "q";refine⟨tg,rfl,ht,?_⟩;walk_at "q";refine⟨.inl ⟨by lia,by lia⟩,m*n,[],pool,rfl,mn,by simp,hp,(λs hs=>nomatch hs),?_⟩;walk_at "q";refine⟨m,n,l1,l2,tg,rfl,n1,n2,by lia,M1.2.2,?_⟩;walk_at "q";refine⟨m,n,l1,l2,tg,rfl,m1,m2,n1,n2,by lia,M2.2.2,?_⟩;walk_at "q";refine⟨by lia,.inl ⟨aV _,aV _,m,n,l1,l2,tg,rfl,n1,n2,by lia,by lia,M1.2.2,M2.2.2,?_⟩⟩;walk_at "q";rw[<- oI,<- oI];refine⟨by rw[cx,i6];lia,.inl ⟨aV _,aV _,Bd (l:=zk m n tg l1 l2) (by unfold zk;rw[i6,i6];lia) λout M ms e=>?_⟩⟩;rw[e];have ol:out.length<=80:=jS M.len (by unfold zk;rw[i6,i6];lia);refine⟨m*n,out,pool,rfl,mn,ol,hp,(IK M1.1 M2.1).mde M,?_⟩;walk_at "q";exact h out M
def JQ:WS :=
 (cq (tM (aG bR (ak (ag 1) cv)))
 (cq (eT 2 uM)
 (cq (gv 1 (nv (cP (ag 1)) (gN 3)
 (zc (k9 2) (ag 3) (wC (.str "*")))))
 (k8 (aG cR (ak (ag 0) (ak (ag 2) cv)))))))
def sE:ip:=λds Q=>∃ (many:Int) (l:List Stp) (names:List Str),ds=[mD many l,.list (names.map .str)]/\l.length<=80/\names.length<=1000/\(∀ n∈names,Open n)/\∀ out,pj (l.map (hdS names)) out->Q (.ow true) (mD many out)
def Ci (ds Q) (h:sE ds Q):ds.length=["m", "deeds"].length:=by obtain⟨_,_,_,rfl,_⟩:=h;rfl
def Jv:∀ ds Q,sE ds Q->JQ { nx:=λ_=>Q .sh .non,rt:=Q } (aL 4 ds):=by
 rintro ds Q ⟨many,l,names,rfl,hz,hn,ho,h1⟩;walk_at "q";refine⟨names,rfl,ho,?_⟩;walk_at "q";refine aX _ (λi ρ=>∃ (kd:List (Key × D)) (o:Option Sl),Sd (zo (names.take i)) kd/\kd.length<=i/\ρ=[some (.sh (mD many l)),some (.sh (.list (names.map .str))),some (.ow true (.dK kd)),o]) ⟨[],_,(λx=>rfl),fS _,rfl⟩ ?_ ?_
 ·rintro i x ρ hx ⟨kd,o,hk,B6,rfl⟩ N hN;have hi:=(iF.mp hx).1;rw[cx] at hi;obtain⟨n,rfl,To,et⟩:=Dv hx;walk_at "q";refine⟨by lia,hN _ ⟨_,_,λy=>?_,by have:=iD kd (Sum.inr n:Key) (D.str "*");lia,rfl⟩⟩;rw[kW,hk y,et];by_cases e:y=n
  ·subst e;simp[zo]
  ·have:¬ (Sum.inr y:Key)=Sum.inr n:=λz=>e (Sum.inr.inj z);simp[zo,e]
 ·rintro ρ ⟨kd,o,hk,B6,rfl⟩;rw[cx,uj] at hk;walk_at "q";refine⟨many,l,zo names,kd,rfl,hk,by lia,λout M=>?_⟩;walk_at "q";exact h1 out M
def uY:WS :=
 (cq (eT 2 uM)
 (cq (gv 1 (nv (cP (ag 1)) (gT 2 (bj (gN 3) (bj (gN 4) j8)))
 (cq (gv 4 (gv 3 (tM (aG bR (ak (mh (ak (ag 3) (ak (ag 4) cv))) cv)))))
 (gv 4 (gv 3 (ZI (k9 2) (ag 3) (ag 4)))))))
 (k8 (aG cR (ak (ag 0) (ak (ag 2) cv))))))
def jY:ip:=λds Q=>∃ (many:Int) (l:List Stp) (ps:List Pq),ds=[mD many l,.list (ps.map qf)]/\l.length<=80/\ps.length<=1000/\(∀ p∈ps,Sb p)/\∀ out,pj (l.map (Fn (lk ps))) out->Q (.ow true) (mD many out)
def vI (ds Q) (h:jY ds Q):ds.length=["m", "pairs"].length:=by obtain⟨_,_,_,rfl,_⟩:=h;rfl
def Ex(kvs:List (Key × D))(k:Key)(x:D):(DZ kvs k x).length<=kvs.length+1:=by
 unfold DZ;split
 ·exact FT _
 ·exact iD _ _ _
def Lw{ps:List Pq}(hk:Sd (lk ps) kd):Sd (lk (ps++[(a,b)])) (DZ kd (.inr a) (.str b)):=by
 intro y;have ha:=hk a;rw[Hu];unfold DZ;by_cases e:a=y
 ·subst e
  cases h:lk ps a with
  |none =>rw[h] at ha;rw[ha];simp[kW]
  |some z =>rw[h] at ha;simp[ha]
 ·have e':¬ (Sum.inr y:Key)=Sum.inr a:=λz=>e (Sum.inr.inj z).symm;rw[if_neg e,Option.or_none];split
  ·exact hk y
  ·rw[kW,if_neg e'];exact hk y
def Ad:∀ ds Q,jY ds Q->uY { nx:=λ_=>Q .sh .non,rt:=Q } (aL 5 ds):=by
 rintro ds Q ⟨many,l,ps,rfl,hz,hn,ho,h1⟩;unfold uY;walk_at "q";refine aX _ (λi ρ=>∃ (kd:List (Key × D)) (o3 o4:Option Sl),Sd (lk (ps.take i)) kd/\kd.length<=i/\ρ=[some (.sh (mD many l)),some (.sh (.list (ps.map qf))),some (.ow true (.dK kd)),o3,o4]) ⟨[],_,_,(λx=>rfl),fS _,rfl⟩ ?_ ?_
 ·rintro i x ρ hx ⟨kd,o3,o4,hk,B6,rfl⟩ N hN;have hi:=(iF.mp hx).1;rw[cx] at hi;obtain⟨a,b,rfl,hm,et⟩:=Lb hx;walk_at "q";refine⟨[a,b],rfl,λn hn=>?_,?_⟩
  ·rcases eK.mp hn with rfl|hn
   ·exact(ho _ hm).1
   ·rw[nI.mp hn];exact(ho _ hm).2
  walk_at "q";exact⟨by lia,hN _ ⟨_,_,_,by rw[et];exact Lw hk,by have:=Ex kd (Sum.inr a) (D.str b);lia,rfl⟩⟩
 ·rintro ρ ⟨kd,o3,o4,hk,B6,rfl⟩;rw[cx,uj] at hk;walk_at "q";refine⟨many,l,lk ps,kd,rfl,hk,by lia,λout M=>?_⟩;walk_at "q";exact h1 out M
def kI:WS :=
 (cq (eT 1 (aG gK (ak (ag 0) cv)))
 (cq (eT 2 (mh (ak (aw Ca (mh (ak (wC (.int 0)) cv)) (aw bX (ag 0) (wC (.int 0)))) cv)))
 (cq (eT 3 (aG bU (ak (ag 1) (ak (aw bX (ag 2) (wC (.int 0))) cv))))
 (cq (xN (wB (aw DS (ag 3) (aw bX (ag 2) (f7 Rq (wC (.int 1))))))
 (xP 2 3 (aG bU (ak (ag 1) (ak (ag 3) cv)))))
 (gM 2)))))
def rdD(rs:List (List Int)):D:=.list (rs.map D4)
def fJ:ip:=λds Q=>∃ (many:Int) (steps:List Stp),ds=[mD many steps]/\(1<=many/\many<=100)/\eW many steps/\steps.length<=1000/\∀ rest,Chain many steps (zeros many) rest->rest.length<=10000->Q (.ow true) (rdD (zeros many :: rest))
def n_ (ds Q) (h:fJ ds Q):ds.length=["m"].length:=by obtain⟨_,_,rfl,_⟩:=h;rfl
def yM(cur:List Int)(pre:List (List Int)):gi ((cur :: pre).map D4) (-1)=some (D4 (g_ cur pre)):=by
 have e:(cur :: pre).map D4=((cur :: pre).dropLast.map D4)++[D4 (g_ cur pre)]:=by
  conv=>lhs;rw[<- List.dropLast_concat_getLast (show cur :: pre≠[] by simp)]
  rw[oI];rfl
 rw[e];exact gr' _ _
def v8(cur oC:List Int)(pre:List (List Int)):g_ cur (pre++[oC])=oC:=by unfold g_;rw[List.getLast_cons (by simp),List.getLast_concat]
def sY:∀ ds Q,fJ ds Q->kI { nx:=λ_=>Q .sh .non,rt:=Q } (aL 4 ds):=by
 rintro ds Q ⟨many,steps,rfl,hm,bS,hl,h⟩;unfold kI;have hmm:many*many<=10000:=by have:=Int.mul_le_mul hm.2 hm.2 (by lia) (by lia);lia
 have e0:aL 4 [mD many steps]=[some (.sh (mD many steps)),none,none,none]:=rfl;walk_at "q";refine⟨many,steps,rfl,by lia,bS,hl,?_⟩;walk_at "q";unfold mD;walk_at "q";refine⟨by lia,?_⟩;rw[zQ];refine⟨many,steps,zeros many,rfl,by lia,by simp[zeros],bS,hl,λr hr=>?_⟩;walk_at "q";refine⟨λρ=>∃ (pre:List (List Int)) (cur oC:List Int),vU many cur/\RB many steps cur oC/\(∀ rest,Chain many steps cur rest->Chain many steps (zeros many) (pre++rest))/\g_ (zeros many) pre=cur/\pre.length<=cur.sum/\cur.sum<=many*many /\
   ρ=[some (.sh (.tup [.int many,.list (steps.map b6)])),some (.ow true (.list (vF many steps))),some (.ow true (.list ((zeros many :: pre).map D4))),some (.ow true (.list (oC.map .int)))],
  λρ=>match ρ with
   |[_,_,some (.ow _ (.list rs)),_]=>20000-rs.length
   |_=>0,⟨[],zeros many,r,tE hm.1,hr,λrest hc=>hc,rfl,?_,?_,rfl⟩,?_⟩
 ·simp[zeros]
 ·have:0<=many*many:=EG (by lia) (by lia);simp[zeros];lia
 rintro ρ ⟨pre,cur,oC,hd,hb,hc,hla,hp,hs,rfl⟩;walk_at "q";refine⟨_,yM _ _,?_⟩;rw[hla];unfold D4;walk_at "q";refine⟨yl _ _,yl _ _,?_⟩;rw[LC];by_cases e:oC=cur
 ·rw[if_neg (by simp[e])];rw[e] at hb;have:=hc [] hb;rw[sR] at this;exact h pre this (by lia)
 ·rw[if_pos (by simp[e])];have kW':=hb.sum bS hd (by lia) e;refine⟨fK _,by lia,?_⟩;refine⟨many,steps,oC,rfl,by lia,(hb.Af bS).1,bS,hl,λr2 WX=>?_⟩;walk_at "q";refine⟨⟨pre++[oC],oC,r2,hb.Af bS,WX,λrest zI=>?_,v8 _ _ _,by simp;lia,kW'.2,by simp[D4]⟩,?_⟩
  ·have:=hc (oC :: rest) ⟨hb,e,zI⟩;simpa using this
  ·simp;lia
def cT:WS :=
 (gv 7 (sD (k9 5) (kB (ak (ag 7) (ak (aw bX (ag 1) (aw iA (wC (.int 1)) (aw kN (aG bu (ak (aw bX (ag 0) (wC (.int 3))) (ak (ag 6) (ak (wC (.int 45991)) (ak (wC (.int 9949)) cv))))) (wC (.int 5))))) cv)))))
def dC:WS :=
 (cq (j3 (wB (aw rj (ag 2) (wC (.int 4))))
 (k8 (kB (ak (wC (.str "hide")) (ak (BH (ag 3) gW (gk (wC (.int 2)))) cv))))
 bO)
 (cq (eT 5 (mh cv))
 (cq (nv (cQ (aw kN (aw DM (aw bX (ag 0) (wC (.int 0))) (wC (.int 7))) (wC (.int 4)))) (gN 6)
 (cq (eT 7 (aw bX (ag 1) (aw iA (wC (.int 1)) (aw kN (aG bu (ak (aw bX (ag 0) (wC (.int 2))) (ak (ag 6) (ak (wC (.int 39373)) (ak (wC (.int 9967)) cv))))) (wC (.int 5))))))
 cT))
 (wN [.inl (wC (.str "rename")),.inr 5]))))
def nQ:WS :=
 (cq (eT 2 (aw kN (aw bX (ag 0) (wC (.int 0))) (wC (.int 7))))
 (cq (eT 3 (aG eE (ak (aw bX (ag 0) (wC (.int 1))) (ak (ag 1) cv))))
 (cq (j3 (wB (aw Ux (ag 2) (wC (.int 4))))
 (cq (eT 4 (aG bA (ak (BH (ag 0) (gk (wC (.int 2))) (gk (wC (.int 5)))) (ak (aw iA (wC (.int 1)) (aw kN (aw DM (aw bX (ag 0) (wC (.int 0))) (wC (.int 7))) (wC (.int 3)))) (ak (ag 1) cv)))))
 (wN [.inl (aw bX (mh (ak (wC (.str "right")) (ak (wC (.str "left")) cv))) (aw kN (ag 2) (wC (.int 2)))),.inr 4,.inr 3]))
 bO)
 dC)))
def gU:ip:=λds Q=>∃ (cs:List Int) (pool:List Str),ds=[.list (cs.map .int),.list ((("*" : Str) :: pool).map .str)]/\cs.length=5/\pool.length=5/\(∀ n∈pool,Open n)/\∀ r:dv,r.Ok pool->Q (.ow true) r.d
def qD (ds Q) (h:gU ds Q):ds.length=["_law_cells", "_law_names_here"].length:=by obtain⟨_,_,rfl,_⟩:=h;rfl
def Ia {E:jD} {c0 c1 c2 c3 c4 w:Int} {i:Nat} {a:Str} {pool tg:List Str} {ps:List Pq} (pl:pool.length=5) (hi:i<=10) (pz:ps.length<=10) (h:∀ b,b∈pool->E.nx [some (.sh (.list [.int c0,.int c1,.int c2,.int c3,.int c4])),some (.sh (.list (.str "*" :: pool.map .str))),some (.sh (.int w)),some (.ow true (.list (tg.map .str))),none,some (.ow true (.list (ps.map qf++[.tup [.str a,.str b]]))),some (.sh (.int (0+(i:Nat)))),some (.sh (.str a))]):cT E [some (.sh (.list [.int c0,.int c1,.int c2,.int c3,.int c4])),some (.sh (.list (.str "*" :: pool.map .str))),some (.sh (.int w)),some (.ow true (.list (tg.map .str))),none,some (.ow true (.list (ps.map qf))),some (.sh (.int (0+(i:Nat)))),some (.sh (.str a))]:=by have e3:gi [D.int c0,.int c1,.int c2,.int c3,.int c4] 3=some (.int c3):=rfl;unfold cT;walk_at "q";refine⟨_,e3,?_⟩;walk_at "q";refine⟨c3,_,45991,9949,rfl,by lia,by decide,by decide,λr2 _ _=>?_⟩;obtain⟨b,hb,eb⟩:=sG pl r2;walk_at "q";refine⟨_,eb,?_⟩;walk_at "q";exact⟨by lia,h b hb⟩
def Ku {Q:Md->D->Prop} {c0 c1 c2 c3 c4:Int} {pool tg:List Str} (pl:pool.length=5) (po:∀ n∈pool,Open n) (tl:tg.length<=3) (to:∀ t∈tg,Open t) (h:∀ r:dv,r.Ok pool->Q (.ow true) r.d):dC { nx:=λ_=>Q .sh .non,rt:=Q } [some (.sh (.list [.int c0,.int c1,.int c2,.int c3,.int c4])),some (.sh (.list (.str "*" :: pool.map .str))),some (.sh (.int (c0 % 7))),some (.ow true (.list (tg.map .str))),none,none,none,none]:=by
 obtain⟨ws,es⟩:∃ w,w=cT:=⟨_,rfl⟩
 unfold dC;rw[<- es];walk_at "q";refine R.D (λe=>?_) λe=>?_
 ·walk_at "q";rw[j7];exact .inl ⟨dg tg,h (.mv (nV tg none (some 2))) ⟨jS (jV _ _ _) tl,λt ht=>to t (yC ht)⟩⟩
 ·walk_at "q";refine⟨by lia,by lia,?_⟩;refine aX _ (λi ρ=>∃ (ps:List Pq) (o6 o7:Option Sl),ps.length=i/\(∀ p∈ps,Sb p/\p.2∈pool)/\ρ=[some (.sh (.list [.int c0,.int c1,.int c2,.int c3,.int c4])),some (.sh (.list (.str "*" :: pool.map .str))),some (.sh (.int (c0 % 7))),some (.ow true (.list (tg.map .str))),none,some (.ow true (.list (ps.map qf))),o6,o7]) ⟨[],_,_,rfl,λ_ z=>(nomatch z),rfl⟩ ?_ ?_
  ·rintro i x ρ hx ⟨ps,o6,o7,pz,pk,rfl⟩ N hN;obtain⟨hi,rfl⟩:=dh hx;walk_at "q";refine⟨c2,_,39373,9967,rfl,by lia,by decide,by decide,λr _ _=>?_⟩;obtain⟨a,ha,ea⟩:=sG pl r;walk_at "q";refine⟨_,ea,?_⟩;walk_at "q";rw[es];refine Ia pl (by lia) (by lia) λb hb=>?_;rw[show ps.map qf++[D.tup [.str a,.str b]]=(ps++[((a,b):Pq)]).map qf by rw[oI];rfl];refine hN _ ⟨_,_,_,by rw[i6,pz];rfl,λp hp=>?_,rfl⟩;rcases fe.mp hp with hp|hp
   ·exact pk p hp
   ·rw[nI.mp hp];exact⟨⟨po a ha,po b hb⟩,hb⟩
  ·rintro ρ ⟨ps,o6,o7,pz,pk,rfl⟩;rw[eF] at pz;walk_at "q";exact h (.nX ps) ⟨by lia,pk⟩
def wz:∀ ds Q,gU ds Q->nQ { nx:=λ_=>Q .sh .non,rt:=Q } (aL 8 ds):=by
 rintro ds Q ⟨cs,pool,rfl,cl,pl,po,h⟩;obtain⟨c0,c1,c2,c3,c4,rfl⟩:∃ c0 c1 c2 c3 c4,cs=[c0,c1,c2,c3,c4]:=by
  rcases cs with _|⟨a,_|⟨b,_|⟨c,_|⟨d,_|⟨e,_|⟨f,r⟩⟩⟩⟩⟩⟩<;>simp at cl
  exact⟨_,_,_,_,_,rfl⟩
 have nd:∀ x∈("*" : Str) :: pool,xt x:=λx hx=>(eK.mp hx).imp id λz=>po x z;obtain⟨w3,e3⟩:∃ w,w=dC:=⟨_,rfl⟩
 unfold nQ;rw[<- e3];walk_at "q";refine⟨c1,pool,rfl,pl,po,λtg tl to=>?_⟩;walk_at "q";refine R.D (λe=>?_) λe=>?_
 ·walk_at "q";refine .inl ⟨[c2,c3,c4],1+c0 / 7 % 3,("*" : Str) :: pool,rfl,by simp,by lia,by simp,nd,λl li P4 ll=>?_⟩;have kd:Kd pool l:=λs hs=>eK.mp (P4 s hs);have fin:∀ w:Str,(w = "right"\/w = "left")->Q (.ow true) (.tup [.str w,mD (1+c0 / 7 % 3) l,.list (tg.map .str)]):=λw hw=>by
   have ok:1<=1+c0 / 7 % 3/\1+c0 / 7 % 3<=3/\eW (1+c0 / 7 % 3) l/\Kd pool l/\l.length<=3/\tg.length<=3/\∀ t∈tg,Open t:=⟨by lia,by lia,li,kd,ll,tl,to⟩
   rcases hw with rfl|rfl
   ·exact h (.right (1+c0 / 7 % 3) l tg) ok
   ·exact h (.left (1+c0 / 7 % 3) l tg) ok
  unfold mD at fin ⊢;walk_at "q";have:c0 % 7 % 2=0\/c0 % 7 % 2=1:=by lia
  rcases this with e|e<;>rw[e]
  ·refine⟨_,rfl,?_⟩;walk_at "q";exact fin _ (.inl rfl)
  ·refine⟨_,rfl,?_⟩;walk_at "q";exact fin _ (.inr rfl)
 ·walk_at "q";rw[e3];exact Ku pl po tl to h
def Dn:WS :=
 (cq (j3 (wB (aw rj (aw bX (ag 1) (wC (.int 0))) (wC (.str "right"))))
 (k8 (aG iH (ak (ag 0) (ak (aw bX (ag 1) (wC (.int 1))) (ak (aw bX (ag 1) (wC (.int 2))) cv)))))
 bO)
 (cq (j3 (wB (aw rj (aw bX (ag 1) (wC (.int 0))) (wC (.str "left"))))
 (k8 (aG iH (ak (aw bX (ag 1) (wC (.int 1))) (ak (ag 0) (ak (aw bX (ag 1) (wC (.int 2))) cv)))))
 bO)
 (cq (j3 (wB (aw rj (aw bX (ag 1) (wC (.int 0))) (wC (.str "hide"))))
 (k8 (aG sE (ak (ag 0) (ak (aw bX (ag 1) (wC (.int 1))) cv))))
 bO)
 (cq (j3 (wB (aw rj (aw bX (ag 1) (wC (.int 0))) (wC (.str "rename"))))
 (k8 (aG jY (ak (ag 0) (ak (aw bX (ag 1) (wC (.int 1))) cv))))
 bO)
 jt))))
def Hw{m n:Int}{tg:List Str}{l1 l2:List Stp}:(zk m n tg l1 l2).length<=l1.length*n.toNat+l2.length*m.toNat+l1.length*l2.length:=by unfold zk;rw[i6,i6];have a:=i_ (l:=l1) (yt n tg);have b:=i_ (l:=l2) (yE m n tg);have c:=i_ (l:=l1) (xr n tg l2);lia
def G_{pool:List Str}{r:dv}(ok:r.Ok pool){m:Int}{l out:List Stp}(hm:1<=m)(M:pj (r.raw m l) out):(out.length:Int)<=r.more m l.length:=by
 have hl:=M.len
 cases r with
 |right n L tg =>
  have n1:=ok.1;have a:=jS hl (Hw);have e1:((l.length*n.toNat:Nat):Int)=l.length*n:=by rw[Ki,tf (by lia)]
  have e2:((L.length*m.toNat:Nat):Int)=L.length*m:=by rw[Ki,tf (by lia)]
  show out.length<=l.length*n+L.length*m+l.length*L.length;lia
 |left n L tg =>
  have n1:=ok.1;have a:=jS hl (Hw);have e1:((l.length*n.toNat:Nat):Int)=l.length*n:=by rw[Ki,tf (by lia)]
  have e2:((L.length*m.toNat:Nat):Int)=L.length*m:=by rw[Ki,tf (by lia)]
  have e3:((L.length*l.length:Nat):Int)=l.length*L.length:=by rw[Ki,Qq]
  show out.length<=l.length*n+L.length*m+l.length*L.length;lia
 |mv ns=>rw[show(dv.mv ns).raw m l=l.map (Fn (zo ns)) from rfl,cx] at hl;show(out.length:Int)<=l.length;lia
 |nX ps=>rw[show(dv.nX ps).raw m l=l.map (Fn (lk ps)) from rfl,cx] at hl;show(out.length:Int)<=l.length;lia
def eW.up(h:eW m l)(hm:m<=20):∀ s∈l,xv 20 s:=λs hs=>by have:=h s hs;exact⟨this.1,by have:=this.2.1;lia,this.2.2.1,this.2.2.2.1,by have:=this.2.2.2.2;lia⟩
def tX:ip:=λds Q=>∃ (m:Int) (l:List Stp) (r:dv) (pool:List Str),ds=[mD m l,r.d]/\pool.length<=6/\Hm pool m l/\m<=20/\l.length<=80/\r.Ok pool/\r.Fits m l.length/\∀ out,pj (r.raw m l) out->Q (.ow true) (mD (r.many m) out)
def Aq (ds Q) (h:tX ds Q):ds.length=["m", "row"].length:=by obtain⟨_,_,_,_,rfl,_⟩:=h;rfl
def HX:∀ ds Q,tX ds Q->Dn { nx:=λ_=>Q .sh .non,rt:=Q } (aL 2 ds):=by
 rintro ds Q ⟨m,l,r,pool,rfl,pz,H,P5,U_,ok,F,h⟩;have m1:=H.m1;unfold Dn
 cases r with
 |right n L tg =>obtain⟨n1,n3,li,Sg,lz,tz,to⟩:=ok;have F1:m*n<=20:=F.1;have F2:l.length*n+L.length*m+l.length*L.length<=80:=F.2;unfold dv.d mD;walk_at "q";refine⟨m,n,l,L,tg,pool,l.length,L.length,rfl,to,pz,fit_le m1 n1 F1 U_ (by lia) F2,⟨H.k,c9 _,H.i.up P5⟩,⟨Sg,c9 _,li.up (by lia)⟩,λout M=>?_⟩;have:=h out M;walk_at "q";exact this
 |left n L tg =>obtain⟨n1,n3,li,Sg,lz,tz,to⟩:=ok;have F1:m*n<=20:=F.1;have F2:l.length*n+L.length*m+l.length*L.length<=80:=F.2;unfold dv.d mD;walk_at "q";refine R.F (by decide +kernel) ?_;walk_at "q";refine⟨n,m,L,l,tg,pool,L.length,l.length,rfl,to,pz,fit_le n1 m1 (by rw[Qq];exact F1) (by lia) U_ (by rw[Qq L.length l.length,Int.add_comm (L.length*m)];exact F2),⟨Sg,c9 _,li.up (by lia)⟩,⟨H.k,c9 _,H.i.up P5⟩,λout M=>?_⟩;have:=h out M;walk_at "q";exact this
 |mv ns =>unfold dv.d mD;walk_at "q";refine R.F (by decide +kernel) ?_;walk_at "q";refine R.F (by decide +kernel) ?_;walk_at "q";refine⟨m,l,ns,rfl,U_,by have:=ok.1;lia,ok.2,λout M=>?_⟩;have:=h out M;walk_at "q";exact this
 |nX ps =>unfold dv.d mD;walk_at "q";refine R.F (by decide +kernel) ?_;walk_at "q";refine R.F (by decide +kernel) ?_;walk_at "q";refine R.F (by decide +kernel) ?_;walk_at "q";refine⟨m,l,ps,rfl,U_,by have:=ok.1;lia,λp hp=>(ok.2 p hp).1,λout M=>?_⟩;have:=h out M;walk_at "q";exact this
def v5:WS :=
 (k8 (U0 (aG fJ (ak (ag 0) cv)) (f7 Rq (wC (.int 1)))))
def gR:ip:=λds Q=>∃ (many:Int) (steps:List Stp),ds=[mD many steps]/\(1<=many/\many<=100)/\eW many steps/\steps.length<=1000/\∀ k,Kinds many steps k->Q (.ow true) (.list (k.map .int))
def rF (ds Q) (h:gR ds Q):ds.length=["m"].length:=by obtain⟨_,_,rfl,_⟩:=h;rfl
def wI:∀ ds Q,gR ds Q->v5 { nx:=λ_=>Q .sh .non,rt:=Q } (aL 1 ds):=by rintro ds Q ⟨many,steps,rfl,hm,bS,hl,h⟩;walk_at "q";refine⟨many,steps,rfl,hm,bS,hl,λrest hc hr=>?_⟩;walk_at "q";refine⟨_,yM _ _,?_⟩;unfold D4;walk_at "q";exact h _ ⟨rest,hc,rfl⟩
def jk:WS :=
 (cq (eT 4 (mh cv))
 (cq (nv (cQ (wC (.int 6))) (gN 5)
 (j3 (wB (aw LZ (f7 sC (ag 0)) (aw iA (wC (.int 20)) (aw nh (wC (.int 5)) (ag 5)))))
 (cq (eT 6 (aG gU (ak (dM (cQ (wC (.int 5))) (gN 0) vw (aG aJ (ak (ag 2) (ak (aw iA (aw iA (wC (.int 20)) (aw nh (wC (.int 5)) (ag 1))) (ag 0)) cv))) 1 [5,0]) (ak (ag 3) cv))))
 (j3 (wB (aw (yv false) (aw bX (ag 6) (wC (.int 0))) (kB (ak (wC (.str "right")) (ak (wC (.str "left")) cv)))))
 (cq (eT 7 (f7 sC (aw bX (aw bX (ag 6) (wC (.int 1))) (wC (.int 1)))))
 (cq (eT 8 (aw iA (aw iA (aw nh (ag 2) (aw bX (aw bX (ag 6) (wC (.int 1))) (wC (.int 0)))) (aw nh (ag 7) (ag 1))) (aw nh (ag 2) (ag 7))))
 (j3 (Ro (wB (aw PD (aw nh (ag 1) (aw bX (aw bX (ag 6) (wC (.int 1))) (wC (.int 0)))) (wC (.int 20)))) (wB (aw PD (ag 8) (wC (.int 80)))))
 (cq (eT 1 (aw nh (ag 1) (aw bX (aw bX (ag 6) (wC (.int 1))) (wC (.int 0)))))
 (cq (gv 8 (eT 2 (ag 8)))
 (gv 6 (sD (k9 4) (ag 6)))))
 bO)))
 (gv 6 (sD (k9 4) (ag 6)))))
 bO))
 (gM 4)))
def fin:Int->Int->List dv->Int × Int
 |m,x,[]=>(m,x)
 |m,x,r :: rs=>fin (r.many m) (r.more m x) rs
theorem ud:∀ {rs:List dv} {m x:Int},P1 m x rs->r.Fits (fin m x rs).1 (fin m x rs).2->P1 m x (rs++[r])/\fin m x (rs++[r])=(r.many (fin m x rs).1,r.more (fin m x rs).1 (fin m x rs).2)
 |[],_,_,_,f=>⟨⟨f,trivial⟩,rfl⟩
 |a :: rs,m,x,h,f=>by obtain⟨c,e⟩:=ud h.2 f;exact⟨⟨h.1,c⟩,e⟩
def eN:ip:=λds Q=>∃ (ns:List Int) (M X:Int) (pool:List Str),ds=[.list (ns.map .int),.int M,.int X,.list ((("*" : Str) :: pool).map .str)]/\ns.length<=63/\(1<=M/\M<=20)/\(0<=X/\X<=80)/\pool.length=5/\(∀ n∈pool,Open n)/\∀ rows:List dv,rows.length<=6->(∀ r∈rows,r.Ok pool)->P1 M X rows->∀ fl,Q (.ow fl) (.list (rows.map dv.d))
def mq (ds Q) (h:eN ds Q):ds.length=["_law_script", "_law_many", "_law_steps", "_law_names_here"].length:=by obtain⟨_,_,_,_,rfl,_⟩:=h;rfl
def pW:∀ ds Q,eN ds Q->jk { nx:=λ_=>Q .sh .non,rt:=Q } (aL 9 ds):=by
 rintro ds Q ⟨ns,M,X,pool,rfl,nz,hM,hX,pl,po,h⟩;unfold jk;walk_at "q";refine aX _ (λi ρ=>∃ (rows:List dv) (m x:Int) (fl:Bool) (o5 o6 o7 o8:Option Sl),rows.length<=i/\(∀ r∈rows,r.Ok pool)/\P1 M X rows/\fin M X rows=(m,x)/\(1<=m/\m<=20)/\(0<=x/\x<=80)/\ρ=[some (.sh (.list (ns.map .int))),some (.sh (.int m)),some (.sh (.int x)),some (.sh (.list (.str "*" :: pool.map .str))),some (.ow fl (.list (rows.map dv.d))),o5,o6,o7,o8]) ⟨[],M,X,true,_,_,_,_,c9 _,λ_ z=>(nomatch z),trivial,rfl,hM,hX,rfl⟩ ?_ ?_
 ·rintro i x ρ hx ⟨rows,m,x',fl,o5,o6,o7,o8,rz,ok,cp,ef,hm,AJ,rfl⟩ N hN;obtain⟨hi,rfl⟩:=dh hx;have fT:∀ o5 o6 o7 o8,N [some (.sh (.list (ns.map .int))),some (.sh (.int m)),some (.sh (.int x')),some (.sh (.list (.str "*" :: pool.map .str))),some (.ow fl (.list (rows.map dv.d))),o5,o6,o7,o8]:=λo5 o6 o7 o8=>hN _ ⟨rows,m,x',fl,o5,o6,o7,o8,by lia,ok,cp,ef,hm,AJ,rfl⟩;have add:∀ r:dv,r.Ok pool->r.Fits m x'->(1<=r.many m/\r.many m<=20)->(0<=r.more m x'/\r.more m x'<=80)->∀ o5 o6 o7 o8,N [some (.sh (.list (ns.map .int))),some (.sh (.int (r.many m))),some (.sh (.int (r.more m x'))),some (.sh (.list (.str "*" :: pool.map .str))),some (.ow false (.list (rows.map dv.d++[r.d]))),o5,o6,o7,o8]:=λr II ft b1 b2 o5 o6 o7 o8=>by
   rw[show rows.map dv.d++[r.d]=(rows++[r]).map dv.d by rw[oI];rfl];have:=ud cp (by rw[ef];exact ft);rw[ef] at this;refine hN _ ⟨rows++[r],_,_,false,o5,o6,o7,o8,by rw[i6,FG];lia,λy hy=>?_,this.1,this.2,b1,b2,rfl⟩;rcases fe.mp hy with hy|hy
   ·exact ok y hy
   ·rw[nI.mp hy];exact II
  walk_at "q";refine⟨.inl ⟨by lia,by lia⟩,R.D (λe=>?_) λe=>?_⟩
  ·walk_at "q"
   refine aY (λ_=>true) (λd=>match d with
    |.int j=>.int (ns.getD (20+5*(0+i)+j).toNat 0)
    |d=>d) (λρ=>∃ o,ρ=[o,some (.sh (.int (0+i))),some (.sh (.list (ns.map .int)))]) _ _ _ ⟨_,rfl⟩ ?_ ?_
   ·rintro y hy ρ ⟨o,rfl⟩ N1 N2 _ n2;obtain⟨j,hj,rfl⟩:=oK hy;walk_at "q";refine⟨.inl ⟨by lia,by lia⟩,ns,_,rfl,by lia,?_⟩;walk_at "q";exact⟨.inl rfl,n2 _ ⟨_,rfl⟩ rfl⟩
   rw[Nw.mpr λ_ _=>rfl]
   obtain⟨cs,ec,cz⟩:∃ cs:List Int,(gH 0 5).map (λd=>match d with
    |.int j=>D.int (ns.getD (20+5*(0+i)+j).toNat 0)
    |d=>d)=cs.map D.int/\cs.length=5:=⟨(List.range 5).map λj:Nat=>ns.getD (20+5*(0+i)+(0+(j:Int))).toNat 0,by unfold gH;rw[fN,fN];rfl,by simp⟩
   rw[ec];refine⟨cs,pool,rfl,cz,pl,po,λr II=>?_⟩
   cases r with
   |right n l tg =>
    rw[show(dv.right n l tg).d=.tup [.str "right",.tup [.int n,.list (l.map b6)],.list (tg.map .str)] from rfl];obtain⟨n1,n3,li,Sg,lz,tz,to⟩:=id II;walk_at "q";refine⟨rfl,rfl,R.T (by decide +kernel) ?_⟩;walk_at "q";have mn:1<=m*n:=Int.mul_pos (by lia) (by lia);have q1:0<=x'*n:=EG AJ.1 (by lia);have q2:0<=l.length*m:=EG (by lia) (by lia);have q3:0<=x'*l.length:=EG AJ.1 (by lia);refine⟨.inr ⟨by lia,by lia⟩,.inl ⟨by lia,by lia⟩,.inr ⟨by lia,by lia⟩,.inl ⟨by lia,by lia⟩,R.D (λe1=>?_) λe1=>?_⟩
    ·walk_at "q";refine R.D (λe2=>?_) λe2=>?_
     ·walk_at "q";exact⟨.inl ⟨by lia,by lia⟩,by lia,add (.right n l tg) II ⟨e1,e2⟩ ⟨mn,e1⟩ ⟨by show 0<=x'*n+l.length*m+x'*l.length;lia,e2⟩ _ _ _ _⟩
     ·walk_at "q";exact fT _ _ _ _
    ·walk_at "q";exact fT _ _ _ _
   |left n l tg =>
    rw[show(dv.left n l tg).d=.tup [.str "left",.tup [.int n,.list (l.map b6)],.list (tg.map .str)] from rfl];obtain⟨n1,n3,li,Sg,lz,tz,to⟩:=id II;walk_at "q";refine⟨rfl,rfl,R.T (by decide +kernel) ?_⟩;walk_at "q";have mn:1<=m*n:=Int.mul_pos (by lia) (by lia);have q1:0<=x'*n:=EG AJ.1 (by lia);have q2:0<=l.length*m:=EG (by lia) (by lia);have q3:0<=x'*l.length:=EG AJ.1 (by lia);refine⟨.inr ⟨by lia,by lia⟩,.inl ⟨by lia,by lia⟩,.inr ⟨by lia,by lia⟩,.inl ⟨by lia,by lia⟩,R.D (λe1=>?_) λe1=>?_⟩
    ·walk_at "q";refine R.D (λe2=>?_) λe2=>?_
     ·walk_at "q";have em:(dv.left n l tg).many m=m*n:=Qq n m;have:=add (.left n l tg) II ⟨e1,e2⟩ (by rw[em];exact⟨mn,e1⟩) ⟨by show 0<=x'*n+l.length*m+x'*l.length;lia,e2⟩;rw[em] at this;exact⟨.inl ⟨by lia,by lia⟩,by lia,this _ _ _ _⟩
     ·walk_at "q";exact fT _ _ _ _
    ·walk_at "q";exact fT _ _ _ _
   |mv Z7 =>rw[show(dv.mv Z7).d=.tup [.str "hide",.list (Z7.map .str)] from rfl];walk_at "q";refine⟨rfl,rfl,R.F (by decide +kernel) ?_⟩;walk_at "q";exact⟨by lia,add (.mv Z7) II trivial hm AJ _ _ _ _⟩
   |nX ps =>rw[show(dv.nX ps).d=.tup [.str "rename",.list (ps.map qf)] from rfl];walk_at "q";refine⟨rfl,rfl,R.F (by decide +kernel) ?_⟩;walk_at "q";exact⟨by lia,add (.nX ps) II trivial hm AJ _ _ _ _⟩
  ·walk_at "q";exact fT _ _ _ _
 ·rintro ρ ⟨rows,m,x',fl,o5,o6,o7,o8,rz,ok,cp,ef,hm,AJ,rfl⟩;walk_at "q";exact h rows rz ok cp fl
def uh:WS :=
 (cq (eT 2 (kB (ak (aw bX (ag 0) (wC (.int 0))) (ak (f7 lg (aw bX (ag 0) (wC (.int 1)))) cv))))
 (cq (gv 1 (nv (cP (ag 1)) (gN 3)
 (eT 2 (aG tX (ak (ag 2) (ak (ag 3) cv))))))
 (gM 2)))
structure zv(pool:List Str)(m:Int)(l:List Stp)(M X:Int)(rows:List dv):Prop where
 H:Hm pool m l
 mM:m<=M/\M<=20
 xX:(l.length:Int)<=X/\X<=80
 c:P1 M X rows
def zv.step{M X:Int}(po:∀ n∈pool,Open n)(F:zv pool m l M X (r :: rows))(ok:r.Ok pool)(Md:pj (r.raw m l) out):r.Fits m l.length/\zv pool (r.many m) out (r.many M) (r.more M X) rows:=by
 have m1:=F.H.m1;have c1:r.Fits M X:=F.c.1;have ft:=qz ok F.mM.1 F.xX.1 (by lia) (by lia) c1;have rl:=G_ ok m1 Md;refine⟨ft,uA F.H po ok Md,?_,?_,F.c.2⟩
 ·cases r with
  |right n L tg=>exact⟨aP F.mM.1 (iS n) (by lia) (by have:=ok.1;lia),c1.1⟩
  |left n L tg=>exact⟨aP (iS n) F.mM.1 (by have:=ok.1;lia) (by lia),by show n*M<=20;rw[Qq];exact c1.1⟩
  |mv ns=>exact F.mM
  |nX ps=>exact F.mM
 ·have mono:r.more m l.length<=r.more M X:=by
   have x0:(0:Int)<=l.length:=by lia
   cases r with
   |right n L tg =>have n1:=ok.1;have a2:=aP F.xX.1 (iS n) x0 (by lia);have a3:=aP (iS L.length) F.mM.1 (by lia) (by lia);have a4:=aP F.xX.1 (iS L.length) x0 (by lia);show l.length*n+L.length*m+l.length*L.length<=X*n+L.length*M+X*L.length;lia
   |left n L tg =>have n1:=ok.1;have a2:=aP F.xX.1 (iS n) x0 (by lia);have a3:=aP (iS L.length) F.mM.1 (by lia) (by lia);have a4:=aP F.xX.1 (iS L.length) x0 (by lia);show l.length*n+L.length*m+l.length*L.length<=X*n+L.length*M+X*L.length;lia
   |mv ns=>exact F.xX.1
   |nX ps=>exact F.xX.1
  refine⟨x3 rl mono,?_⟩
  cases r with
  |right n L tg=>exact c1.2
  |left n L tg=>exact c1.2
  |mv ns=>exact F.xX.2
  |nX ps=>exact F.xX.2
def dX:ip:=λds Q=>∃ (m:Int) (l:List Stp) (rows:List dv) (pool:List Str) (M X:Int),ds=[mD m l,.list (rows.map dv.d)]/\pool.length<=6/\(∀ n∈pool,Open n)/\zv pool m l M X rows/\(∀ r∈rows,r.Ok pool)/\∀ m' out,Run m l rows m' out->m'<=20->out.length<=80->Q (.ow true) (mD m' out)
def vA (ds Q) (h:dX ds Q):ds.length=["m", "frame"].length:=by obtain⟨_,_,_,_,_,_,rfl,_⟩:=h;rfl
def Ae:∀ ds Q,dX ds Q->uh { nx:=λ_=>Q .sh .non,rt:=Q } (aL 4 ds):=by
 rintro ds Q ⟨m,l,rows,pool,M,X,rfl,pz,po,F,ok,h⟩;unfold uh;rw[show mD m l=.tup [.int m,.list (l.map b6)] from rfl];walk_at "q";refine .inl ⟨aV l,?_⟩;refine aX _ (λi ρ=>∃ (m':Int) (o:List Stp) (M' X':Int) (o3:Option Sl),Run m l (rows.take i) m' o/\zv pool m' o M' X' (rows.drop i)/\ρ=[some (.sh (.tup [.int m,.list (l.map b6)])),some (.sh (.list (rows.map dv.d))),some (.ow true (.tup [.int m',.list (o.map b6)])),o3]) ⟨m,l,M,X,none,.nil,F,rfl⟩ ?_ ?_
 ·rintro i x ρ hx ⟨m',o,M',X',o3,R,F,rfl⟩ N hN;rw[nK] at hx;obtain⟨r,hr,rfl⟩:=N0.mp hx;have hi:=(iF.mp hr).1;have AH:=ok r (mB hr);have ed:rows.drop i=r :: rows.drop (i+1):=by rw[xC hi,(iF.mp hr).2]
  have tk:rows.take (i+1)=rows.take i++[r]:=by rw[wm,hr];rfl
  rw[ed] at F;obtain⟨d,hd⟩:∃ d,r.d=.tup d:=by cases r<;>exact⟨_,rfl⟩
  have P5:=F.mM;have x80:=F.xX;walk_at "q";refine⟨m',o,r,pool,by rw[hd];rfl,pz,F.H,by lia,by lia,AH,qz AH F.mM.1 F.xX.1 (by have:=F.H.m1;lia) (by lia) F.c.1,λout Md=>?_⟩;walk_at "q";exact hN _ ⟨_,out,_,_,_,by rw[tk];exact R.snoc Md,(F.step po AH Md).2,rfl⟩
 ·rintro ρ ⟨m',o,M',X',o3,R,F,rfl⟩;rw[cx,uj] at R;have P5:=F.mM;have x80:=F.xX;walk_at "q";exact h m' o R (by lia) (by lia)
def mX:WS :=
 (cq (eT 1 (aG gR (ak (ag 0) cv)))
 (cq (eT 2 (UN (aw bX (ag 1) (wC (.int 0))) (wC (.int 0))))
 (cq (nv (cP (f7 fO (dM (dG (aG xO (ak (ag 0) cv))) (gN 0) vw (aw bX (ag 1) (ag 0)) 1 [1]))) (gN 3)
 (j3 (wB (aw (yv true) (ag 3) (ag 2)))
 (zc (k9 2) (ag 3) (f7 sC (ag 2)))
 bO))
 (k8 (dM (dG (ag 1)) (gN 0) vw (PY (ag 1) (ag 0) (wC .non)) 1 [2])))))
def gQ:ip:=λds Q=>∃ (many:Int) (steps:List Stp),ds=[mD many steps]/\(1<=many/\many<=20)/\eW many steps/\steps.length<=1000/\∀ hs,bJ many steps hs->Q (.ow true) (.list (hs.map p9))
def pJ (ds Q) (h:gQ ds Q):ds.length=["m"].length:=by obtain⟨_,_,rfl,_⟩:=h;rfl
def vB:∀ ds Q,gQ ds Q->mX { nx:=λ_=>Q .sh .non,rt:=Q } (aL 4 ds):=by
 rintro ds Q ⟨many,steps,rfl,hm,bS,hl,h⟩;unfold mX;walk_at "q";refine⟨many,steps,rfl,by lia,bS,hl,λk hk=>?_⟩;have B6:=hk.len;walk_at "q";refine⟨_,xq B6 (iS 0) (by lia),?_⟩;walk_at "q";refine⟨many,steps,rfl,hm.1,hm.2,bS,λms Z8=>?_⟩;have hml:=Z8.len bS hm.1;walk_at "q"
 refine aY (λ_=>true) (λd=>match d with
  |.int s=>.int (rk k s)
  |d=>d) (λρ=>∃ o,ρ=[o,some (.sh (.list (k.map .int)))]) _ _ _ ⟨_,rfl⟩ ?_ ?_
 ·rintro x hx ρ ⟨o,rfl⟩ N1 N2 n1 n2;obtain⟨s,hs,rfl⟩:=cw.mp hx;have:=((Z8.mem s).mp hs).lt bS hm.1;walk_at "q";refine⟨_,xq B6 this.1 this.2,?_⟩;walk_at "q";exact⟨.inl rfl,n2 _ ⟨_,rfl⟩ rfl⟩
 have e1:((ms.map D.int).filter λ_=>true).map (λd=>match d with
   |.int s=>.int (rk k s)
   |d=>d)=((ms.map (rk k)).map λx=>(Sum.inl x:Key)).map nk:=by
  rw[Nw.mpr λ_ _=>rfl,fN,fN,fN];rfl
 rw[e1];refine⟨_,true,rfl,by rw[cx,cx];lia,λx hx=>?_,λks nd mm pw=>?_⟩
 ·obtain⟨y,_,rfl⟩:=cw.mp hx;rfl
 obtain⟨gV,rfl,dD'⟩:=R5 λx hx=>by obtain⟨y,hy,e⟩:=cw.mp ((mm x).mp hx);exact⟨y,e.symm,hy⟩
 have up:=JW nd pw;have mem:∀ x,x∈gV↔∃ s∈ms,x=rk k s:=λx=>by
  constructor
  ·intro hx;obtain⟨s,hs,e⟩:=cw.mp (dD' x hx);exact⟨s,hs,e.symm⟩
  ·rintro⟨s,hs,rfl⟩;exact dw.mp ((mm _).mpr (dw.mpr (cw.mpr ⟨s,hs,rfl⟩)))
 rw[uU];have UT:gV.length<=ms.length:=by have:=aF (oF up) dD';rwa[cx] at this
 refine aX _ (λi ρ=>∃ o3,ρ=[some (.sh (mD many steps)),some (.ow true (.list (k.map .int))),some (.ow true (.dK (sN (numsOf (rk k 0) (gV.take i))))),o3]) ⟨none,rfl⟩ ?_ ?_
 ·rintro i x ρ hx ⟨o3,rfl⟩ N hN;obtain⟨hi,AJ⟩:=iF.mp hx;have kz:i<gV.length:=by simpa using hi
  have ZZ:x=.int gV[i]:=by rw[<- AJ];simp
  subst ZZ;have tk:gV.take (i+1)=gV.take i++[gV[i]]:=by rw[wm,lh kz];rfl
  have nin:gV[i]∉gV.take i:=λz=>by
   obtain⟨j,hj,e⟩:=Sy.mp z;have sA:j<i:=by rw[mE] at hj;lia
   have:=xD.mp up j i (by lia) kz sA;rw[List.getElem_take] at e;lia
  generalize gV[i]=x at *
  have nl:(numsOf (rk k 0) (gV.take i)).length<=1+i:=by unfold numsOf;have:=Qa (λx=>decide (x≠rk k 0)) (gV.take i);rw[mE] at this;simp only[qh];lia
  walk_at "q";rw[zu];by_cases e:x=rk k 0
  ·refine R.F (by simp[numsOf,e]) ?_;walk_at "q";refine hN _ ⟨some (.sh (.int x)),?_⟩;rw[tk,numsOf,numsOf,List.filter_append];simp[e]
  ·have nn:x∉numsOf (rk k 0) (gV.take i):=by unfold numsOf;simp[e,nin]
   refine R.T (by simp[nn]) ?_;walk_at "q";rw[BW];refine⟨by lia,?_⟩;refine hN _ ⟨some (.sh (.int x)),?_⟩;rw[DX nn,tk];simp[numsOf,e]
 ·rintro ρ ⟨o3,rfl⟩;rw[cx,uj];have nd:=nU (rk k 0) up;walk_at "q"
  refine aY (λ_=>true) (λd=>match d with
   |.int x=>p9 (dU (numsOf (rk k 0) gV) x)
   |d=>d) (λρ=>∃ o,ρ=[o,some (.sh (.dK (sN (numsOf (rk k 0) gV))))]) _ _ _ ⟨_,rfl⟩ ?_ ?_
  ·rintro x hx ρ ⟨o,rfl⟩ N1 N2 n1 n2;obtain⟨s,hs,rfl⟩:=cw.mp hx;walk_at "q";exact BV nd ⟨.inl (Cm _),n2 _ ⟨_,rfl⟩ rfl⟩
  have e2:((k.map D.int).filter λ_=>true).map (λd=>match d with
    |.int x=>p9 (dU (numsOf (rk k 0) gV) x)
    |d=>d)=(k.map (dU (numsOf (rk k 0) gV))).map p9:=by
   rw[Nw.mpr λ_ _=>rfl,fN,fN];rfl
  rw[e2];exact h _ ⟨k,ms,gV,hk,Z8,up,mem,rfl⟩
def nM:WS :=
 (cq (eT 1 (aG gQ (ak (ag 0) cv)))
 (cq (eT 2 (dM (dG (aw bX (ag 0) (wC (.int 1)))) (gT 3 (bj (gN 0) (bj (gN 1) (bj (gN 2) j8)))) (wB (aw Bm (aw bX (ag 3) (ag 0)) (wC .non))) (kB (ak (aw bX (ag 3) (ag 0)) (ak (ag 1) (ak (aw bX (ag 3) (ag 2)) cv)))) 3 [1]))
 (k8 (kB (ak (f7 n8 (dM (dG (ag 1)) (gN 0) (wB (aw Bm (ag 0) (wC .non))) (ag 0) 1 [])) (ak (f7 d7 (ag 2)) cv))))))
def bM:ip:=λds Q=>∃ (many:Int) (steps:List Stp),ds=[mD many steps]/\(1<=many/\many<=20)/\eW many steps/\steps.length<=1000/\∀ hs c out,bJ many steps hs->d9 steps hs c out->Q (.ow true) (mD c out)
def qQ (ds Q) (h:bM ds Q):ds.length=["m"].length:=by obtain⟨_,_,rfl,_⟩:=h;rfl
def vM:∀ ds Q,bM ds Q->nM { nx:=λ_=>Q .sh .non,rt:=Q } (aL 3 ds):=by
 rintro ds Q ⟨many,steps,rfl,RC,bS,hl,h⟩;unfold nM;walk_at "q";refine⟨many,steps,rfl,RC,bS,hl,λhs H=>?_⟩;have Z9:=H.len;walk_at "q";unfold mD;walk_at "q"
 refine aY (λd=>match d with
  |.tup [.int s,_,_]=>(hm hs s).isSome
  |_=>false) (λd=>match d with
  |.tup [.int s,.str x,.int t]=>.tup [.int ((hm hs s).getD 0),.str x,.int ((hm hs t).getD 0)]
  |d=>d) (λρ=>∃ o0 o1 o2,ρ=[o0,o1,o2,some (.sh (.list (hs.map p9)))]) _ _ _ ⟨_,_,_,rfl⟩ ?_ ?_
 ·rintro x hx ρ ⟨o0,o1,o2,rfl⟩ N1 N2 n1 n2;obtain⟨⟨s,d,t⟩,ht,rfl⟩:=cw.mp hx;have ok:=bS _ ht;unfold b6 at n1 n2 ⊢;walk_at "q";refine⟨_,Gy Z9 ok.1 ok.2.1,?_⟩
  cases e:hm hs s with
  |none =>simp only[p9];walk_at "q";exact n1 _ ⟨_,_,_,rfl⟩ (by simp[e])
  |some i =>obtain⟨j,ej⟩:=H.step bS RC.1 ht e;simp only[p9];walk_at "q";refine⟨_,Gy Z9 ok.1 ok.2.1,?_⟩;rw[e];simp only[p9];walk_at "q";refine⟨_,Gy Z9 ok.2.2.2.1 ok.2.2.2.2,?_⟩;rw[show hm hs t=some j from ej];simp only[p9];walk_at "q";have:=n2 [some (.sh (.int s)),some (.sh (.str d)),some (.sh (.int t)),some (.sh (.list (hs.map p9)))] ⟨_,_,_,rfl⟩ (by simp[e]);simp only[e,show hm hs t=some j from ej,VB] at this;exact⟨.inl rfl,this⟩
 have e1:((steps.map b6).filter (λd=>match d with
   |.tup [.int s,_,_]=>(hm hs s).isSome
   |_=>false)).map (λd=>match d with
   |.tup [.int s,.str x,.int t]=>.tup [.int ((hm hs s).getD 0),.str x,.int ((hm hs t).getD 0)]
   |d=>d)=(pP steps hs).map b6:=by
  unfold pP;rw[SX,fN,fN];rfl
 rw[e1];refine aY (λd=>!d.HZ) (λd=>d) (λρ=>∃ o,ρ=[o]) _ _ _ ⟨_,rfl⟩ ?_ ?_
 ·rintro x hx ρ ⟨o,rfl⟩ N1 N2 n1 n2;obtain⟨o,ho,rfl⟩:=cw.mp hx
  cases o with
  |none =>simp only[p9] at n1 ⊢;walk_at "q";exact n1 _ ⟨_,rfl⟩ rfl
  |some i =>simp only[p9] at n2 ⊢;walk_at "q";exact⟨.inl rfl,n2 _ ⟨_,rfl⟩ rfl⟩
 rw[yF];refine tL (by lia) λcs hc=>?_;generalize cs.length=c at hc ⊢;have e2:(pP steps hs).map b6=((pP steps hs).map kr).map kM:=by rw[fN];rfl
 rw[e2];refine⟨_,[false,true],rfl,by rw[cx];exact jS (qg _ _) hl,λk hk=>?_,λms nd mm pw=>?_⟩
 ·obtain⟨s,_,rfl⟩:=cw.mp hk;rfl
 obtain⟨l,rfl,hp⟩:=kJ λk hk=>by obtain⟨p,hp,e⟩:=cw.mp ((mm k).mp hk);exact⟨p,e.symm,hp⟩
 have e:(l.map kr).map kM=l.map b6:=by rw[fN];rfl
 rw[e];refine h hs c l H ⟨hc,?_,λs=>?_⟩
 ·rw[kC] at pw;have R4:l.Pairwise λa b=>kr a≠kr b:=by rw[List.Nodup,kC] at nd;exact nd
  refine(pw.and R4).imp λ{a b} ⟨h1,h2⟩=>?_;unfold d4
  cases h3:gy (kr a) (kr b) with
  |true=>rfl
  |false=>exact absurd (iY (a:=kr a) (b:=kr b) rfl h3 h1) h2
 ·rw[<- q_ H bS RC.1];refine⟨hp s,λg7=>?_⟩;obtain⟨q,hq,e⟩:=cw.mp ((mm (kr s)).mpr (cw.mpr ⟨s,g7,rfl⟩));rw[<- jU e];exact hq
def iT:WS :=
 (cq (nv (cP (aG cH (ak (ag 1) cv))) (gN 2)
 (gv 2 (eT 0 (aG dX (ak (ag 0) (ak (mh (ak (ag 2) cv)) cv))))))
 (gM 0))
def bV:ip:=λds Q=>∃ (m:Int) (l:List Stp) (rows:List dv) (pool:List Str) (M X:Int),ds=[mD m l,.list (rows.map dv.d)]/\pool.length<=6/\(∀ n∈pool,Open n)/\zv pool m l M X rows/\(∀ r∈rows,r.Ok pool)/\rows.length<=100/\∀ m' out,Run m l rows m' out->Q .sh (mD m' out)/\Q (.ow true) (mD m' out)
def gP (ds Q) (h:bV ds Q):ds.length=["_law_some", "_law_frame_here"].length:=by obtain⟨_,_,_,_,_,_,rfl,_⟩:=h;rfl
def iV:∀ ds Q,bV ds Q->iT { nx:=λ_=>Q .sh .non,rt:=Q } (aL 3 ds):=by
 rintro ds Q ⟨m,l,rows,pool,M,X,rfl,pz,po,F,ok,rz,h⟩;walk_at "q";refine⟨rows,pool,rfl,rz,ok,?_⟩;walk_at "q";refine aX _ (λi ρ=>∃ (m':Int) (o:List Stp) (M' X':Int) (s0:Sl) (o2:Option Sl),(s0=.sh (.tup [.int m',.list (o.map b6)])\/s0=.ow true (.tup [.int m',.list (o.map b6)]))/\Run m l (rows.take i) m' o/\zv pool m' o M' X' (rows.drop i)/\ρ=[some s0,some (.sh (.list (rows.map dv.d))),o2]) ⟨m,l,M,X,_,none,.inl rfl,.nil,F,rfl⟩ ?_ ?_
 ·rintro i x ρ hx ⟨m',o,M',X',s0,o2,hs,R,F,rfl⟩ N hN;rw[nK] at hx;obtain⟨r,hr,rfl⟩:=N0.mp hx;have hi:=(iF.mp hr).1;have AH:=ok r (mB hr);have ed:rows.drop i=r :: rows.drop (i+1):=by rw[xC hi,(iF.mp hr).2]
  have tk:rows.take (i+1)=rows.take i++[r]:=by rw[wm,hr];rfl
  rw[ed] at F;obtain⟨d,hd⟩:∃ d,r.d=.tup d:=by cases r<;>exact⟨_,rfl⟩
  have F1:zv pool m' o M' X' [r]:=⟨F.H,F.mM,F.xX,F.c.1,trivial⟩
  have nx:∀ m2 out,Run m' o [r] m2 out->N [some (.ow true (.tup [.int m2,.list (out.map b6)])),some (.sh (.list (rows.map dv.d))),some (.sh (.tup d))]:=λm2 out R2=>by
   cases R2 with
   |cons Md R3 =>cases R3;exact hN _ ⟨_,out,_,_,_,_,.inr rfl,by rw[tk];exact R.snoc Md,(F.step po AH Md).2,rfl⟩
  rw[hd];rcases hs with rfl|rfl
  ·walk_at "q";refine⟨m',o,[r],pool,M',X',by rw[show[r].map dv.d=[r.d] from rfl,hd];rfl,pz,po,F1,λx hx=>by rw[nI.mp hx];exact AH,λm2 out R2 _ _=>?_⟩;walk_at "q";exact nx m2 out R2
  ·walk_at "q";refine⟨m',o,[r],pool,M',X',by rw[show[r].map dv.d=[r.d] from rfl,hd];rfl,pz,po,F1,λx hx=>by rw[nI.mp hx];exact AH,λm2 out R2 _ _=>?_⟩;walk_at "q";exact nx m2 out R2
 ·rintro ρ ⟨m',o,M',X',s0,o2,hs,R,F,rfl⟩;rw[cx,uj] at R;obtain⟨h1,h2⟩:=h m' o R;rcases hs with rfl|rfl
  ·walk_at "q";exact h1
  ·walk_at "q";exact h2
def jO:WS :=
 (cq (iK 12 (aG bM (ak (ag 9) cv)))
 (cq (j3 (PB (LW (wB (f7 (Rt "tuple") (ag 12)))) (PB (LW (wB (f7 (Rt "list") (aw bX (ag 12) (wC (.int 1)))))) (wB (aw LZ (aw bX (ag 12) (wC (.int 0))) (aw bX (ag 11) (wC (.int 0)))))))
 (k8 (wC (.bl false)))
 bO)
 (k8 (Aj (aw rj (aG bM (ak (ag 10) cv)) (ag 12)) (aw rj (aG bM (ak (ag 11) cv)) (ag 12))))))
def jP:WS :=
 (cq (gv 6 (gv 5 (gv 4 (j3 (PB (wB (aw DS (ag 7) (mh (ak (ag 4) (ak (ag 5) (ak (ag 6) cv)))))) (wB (aw DS (ag 9) (aG bV (ak (kB (ak (aw bX (ag 4) (wC (.int 0))) (ak (f7 lg (aw bX (ag 4) (wC (.int 1)))) cv))) (ak (ag 6) cv))))))
 (k8 (wC (.bl false)))
 bO))))
 jO)
def jQ:WS :=
 (cq (iK 9 (aG dX (ak (aw bX (ag 7) (wC (.int 0))) (ak (aw bX (ag 7) (wC (.int 2))) cv))))
 (cq (iK 10 (aG dX (ak (aw bX (ag 7) (wC (.int 1))) (ak (aw bX (ag 7) (wC (.int 2))) cv))))
 (cq (iK 11 (aG dX (ak (kB (ak (aw bX (ag 8) (wC (.int 0))) (ak (f7 lg (aw bX (ag 8) (wC (.int 1)))) cv))) (ak (aw bX (ag 7) (wC (.int 2))) cv))))
 jP)))
def sX:WS :=
 (cq (j3 (wB (aw DS (ag 8) (aG bM (ak (aw bX (ag 7) (wC (.int 1))) cv))))
 (k8 (aw rj (ag 2) (wC (.int 3))))
 bO)
 jQ)
def oR:WS :=
 (cq (iK 8 (aG bM (ak (aw bX (ag 7) (wC (.int 0))) cv)))
 sX)
def oE:WS :=
 (cq (iK 6 (aG eN (ak (ag 0) (ak (aw BL (aw bX (ag 4) (wC (.int 0))) (aw bX (ag 5) (wC (.int 0)))) (ak (aw BL (f7 sC (aw bX (ag 4) (wC (.int 1)))) (f7 sC (aw bX (ag 5) (wC (.int 1))))) (ak (ag 1) cv))))))
 (cq (iK 7 (mh (ak (kB (ak (aw bX (ag 4) (wC (.int 0))) (ak (f7 lg (aw bX (ag 4) (wC (.int 1)))) cv))) (ak (kB (ak (aw bX (ag 5) (wC (.int 0))) (ak (f7 lg (aw bX (ag 5) (wC (.int 1)))) cv))) (ak (aG cH (ak (ag 6) cv)) cv)))))
 oR))
def oN:WS :=
 (cq (j3 (wB (aw rj (ag 2) (wC (.int 3))))
 (cq (iK 4 (aG bA (ak (BH (ag 0) (gk (wC (.int 4))) (gk (wC (.int 6)))) (ak (aw iA (wC (.int 1)) (aw kN (ag 3) (wC (.int 2)))) (ak (BH (ag 1) gW (gk (wC (.int 2)))) cv)))))
 (iK 5 (aG bA (ak (BH (ag 0) (gk (wC (.int 6))) (gk (wC (.int 9)))) (ak (aw iA (wC (.int 1)) (aw kN (aw DM (ag 3) (wC (.int 2))) (wC (.int 3)))) (ak (BH (ag 1) gW (gk (wC (.int 2)))) cv))))))
 bO)
 oE)
def Jc:WS :=
 (cq (iK 1 (aG eG (ak (aG aJ (ak (ag 0) (ak (wC (.int 0)) cv))) (ak (aG aJ (ak (ag 0) (ak (wC (.int 1)) cv))) cv))))
 (cq (eT 2 (aw kN (aG aJ (ak (ag 0) (ak (wC (.int 2)) cv))) (wC (.int 4))))
 (cq (eT 3 (aG aJ (ak (ag 0) (ak (wC (.int 3)) cv))))
 (cq (iK 4 (aG bA (ak (BH (ag 0) (gk (wC (.int 4))) (gk (wC (.int 8)))) (ak (aw iA (wC (.int 1)) (aw kN (ag 3) (wC (.int 3)))) (ak (ag 1) cv)))))
 (cq (iK 5 (aG eO (ak (ag 4) (ak (ag 0) cv))))
 oN)))))
abbrev Sh:ip:=cI'
def Ez (ds Q) (h:Sh ds Q):ds.length=["_law_script"].length:=by obtain⟨_,rfl,_⟩:=h;rfl
def kP.comp{B C:Int->Int->Prop}(E:kP n1 s1 n2 s2 B)(F:kP n2 s2 n3 s3 C):kP n1 s1 n3 s3 λs u=>∃ t,B s t/\C t u:=by
 refine⟨λs u ⟨t,b,c⟩=>⟨(E.ins _ _ b).1,(F.ins _ _ c).2⟩,λs u ⟨t,b,c⟩ d e he=>?_,λs u ⟨t,b,c⟩ d f hf=>?_⟩
 ·obtain⟨g,hg,bg⟩:=E.to _ _ b d e he;obtain⟨f,hf,cf⟩:=F.to _ _ c d g hg;exact⟨f,hf,g,bg,cf⟩
 ·obtain⟨g,hg,cg⟩:=F.back _ _ c d f hf;obtain⟨e,he,be⟩:=E.back _ _ b d g hg;exact⟨e,he,g,be,cg⟩
structure P6(pool:List Str)(n1 n2:Int)(l1 l2:List Stp)(way:Int):Prop where
 pl:pool.length=5
 po:∀ n∈pool,Open n
 H1:Hm pool n1 l1
 H2:Hm pool n2 l2
 b1:n1<=3/\l1.length<=4
 b2:n2<=6/\l2.length<=8
 hx:way≠3->∃ B,kP n1 l1 n2 l2 B/\B 0 0
abbrev mT(m:Int)(l:List Stp):D:=.tup [.int m,.list (l.map b6)]
def AK (ns:List Int) (pool:List Str) (way c3 n1 n2:Int) (l1 l2:List Stp) (r:List (Option Sl)):L2.Q.Env:=some (.sh (.list (ns.map .int))) :: some (.sh (.list (.str "*" :: pool.map .str))) :: some (.sh (.int way)) :: some (.sh (.int c3)) :: some (.sh (mT n1 l1)) :: some (.sh (mT n2 l2)) :: r
structure Frs(pool:List Str)(n1 n2:Int)(l1 l2:List Stp)(M X:Int)(rows:List dv):Prop where
 F1:zv pool n1 l1 M X rows
 F2:zv pool n2 l2 M X rows
 ok:∀ r∈rows,r.Ok pool
 rz:rows.length<=6
abbrev hD(n1 n2:Int)(l1 l2:List Stp)(rows:List dv):D:=.list [mT n1 l1,mT n2 l2,.list (rows.map dv.d)]
def Z_(ha:0<=a)(hb:a<=b):((nV ns (some a) (some b)).length:Int)<=b-a:=by
 unfold nV;rw[mE];have:HT.dr ns.length ns.length (some b)-HT.dr ns.length 0 (some a)<=(b-a).toNat:=by simp only[HT.dr];rw[if_neg (by lia),if_neg (by lia)];lia
 lia
def Lf:js (mT c1 o1) (mT c2 o2)=decide (c1=c2/\o1=o2):=by
 rw[sT,decide_eq_true_iff];refine(cC _ _ (D3 c1 o1) (D3 c2 o2)).trans ?_;constructor
 ·intro e;unfold mD at e;simp only[D.tup.injEq,List.cons.injEq,D.int.injEq,D.list.injEq] at e;exact⟨e.1,uD e.2.1⟩
 ·rintro⟨rfl,rfl⟩;rfl
structure MR(pool:List Str)(n:Int)(l:List Stp)(c:Int)(o:List Stp):Prop where
 H:Hm pool c o
 b:c<=n/\o.length<=l.length
 E:∃ B,kP n l c o B/\B 0 0
 u:∀ hs c' o',bJ n l hs->d9 l hs c' o'->c'=c/\o'=o
def DG(H:Hm pool n l)(Ho:bJ n l hs)(L:d9 l hs c o):MR pool n l c o:=by
 obtain⟨io,c1,cn,_⟩:=L.in Ho H.i H.m1;refine⟨⟨c1,io,λt ht=>?_⟩,⟨cn,L.len Ho H.i H.m1⟩,⟨_,zq L Ho H.i H.m1,⟨by have:=H.m1;lia,Ho.zero H.m1⟩⟩,λg7 c' o' H' L'=>?_⟩
 ·obtain⟨u,hu,_,a2,_⟩:=(L.mem t).mp ht;rw[a2];exact H.k u hu
 ·have:=Ho.uniq H.i H';subst this;obtain⟨a,b⟩:=L.uniq L';exact⟨a.symm,b.symm⟩
def tY{B:Int->Int->Prop}(H1:Hm pool n1 l1)(H2:Hm pool n2 l2)(E:kP n1 l1 n2 l2 B)(b:B 0 0)(A1:bJ n1 l1 h1)(L1:d9 l1 h1 c1 o1)(A2:bJ n2 l2 h2)(oy:d9 l2 h2 c2 o2):c1=c2/\o1=o2:=yO E b H1.i H2.i H1.m1 H2.m1 A1 A2 L1 oy
def Ir(r:dv):r.d.nb=true:=by cases r<;>simp[dv.d,D.nb,oq,D3,uf,xR]
def Fe{rows:List dv}{names:List Str}(ro:∀ r∈rows,r.Ok names):dc 11 (.list (rows.map dv.d))=true:=by
 simp only[dc,Jn,AX];intro r hr;have rk:=ro r hr
 cases r with
 |right n l tg =>have:=rG (many:=n) 6 rk.2.2.1;have h2:dc 9 (.list (tg.map .str))=true:=oY rk.2.2.2.2.2.2;show(dc 9 (.str "right") && (dc 9 (mD n l) && (dc 9 (.list (tg.map .str)) && true)))=true;rw[this,h2];decide +kernel
 |left n l tg =>have:=rG (many:=n) 6 rk.2.2.1;have h2:dc 9 (.list (tg.map .str))=true:=oY rk.2.2.2.2.2.2;show(dc 9 (.str "left") && (dc 9 (mD n l) && (dc 9 (.list (tg.map .str)) && true)))=true;rw[this,h2];decide +kernel
 |mv ns =>have h2:dc 9 (.list (ns.map .str))=true:=oY rk.2;show(dc 9 (.str "hide") && (dc 9 (.list (ns.map .str)) && true))=true;rw[h2];decide +kernel
 |nX ps =>have h2:dc 9 (.list (ps.map qf))=true:=G5 λp hp=>(rk.2 p hp).1;show(dc 9 (.str "rename") && (dc 9 (.list (ps.map qf)) && true))=true;rw[h2];decide +kernel
theorem yQ:∀ rows:List dv,oq (rows.map dv.d)=true
 |[]=>rfl
 |r :: rows=>by rw[gS,oq,Ir,yQ rows];rfl
def least_le{B:Int->Int->Prop}(E:kP m1 r1 m3 r3 B)(b:B 0 0)(i1:eW m1 r1)(p1:1<=m1)(A1:bJ m1 r1 h1)(L1:d9 r1 h1 c1 o1):c1<=m3:=by
 classical
 have rg:=(L1.in A1 i1 p1).2.2.2;have m0:=(E.ins _ _ b).2;let g:Nat→Nat:=λt=>if z:∃ p,B p t then ((hm h1 z.choose).getD 0).toNat else 0
 have:=aF (l:=List.range c1.toNat) (m:=(List.range m3.toNat).map g) SN λx hx=>by
  have hx:=oP.mp hx;obtain⟨s,hs,e⟩:=yS A1.len ((rg x).mpr ⟨by lia,by lia⟩);obtain⟨p,rp,ep,_⟩:=A1.of i1 p1 hs e;obtain⟨q,rq,bq⟩:=E.R9 b rp;have iq:=(E.ins _ _ bq).2;have eq:q.toNat=q:=tf iq.1;have z:∃ p,B p q.toNat:=⟨p,by rw[eq];exact bq⟩
  refine cw.mpr ⟨q.toNat,oP.mpr (by lia),?_⟩;show(if z:∃ p,B p q.toNat then ((hm h1 z.choose).getD 0).toNat else 0)=x;rw[dif_pos z];have hz:=z.choose_spec;rw[qC (E.comp E.symm) ⟨0,b,b⟩ i1 i1 A1 A1 ⟨q.toNat,hz,by rw[eq];exact bq⟩,ep];rfl
 rw[Qg,cx,Qg] at this;lia
def Jg(po:∀ n∈pool,Open n)(R:Run m l rs m' o):(∀ r∈rs,r.Ok pool)->Hm pool m l->Hm pool m' o:=by
 induction R with
 |nil=>exact λ_ H=>H
 |cons M _ ih=>exact λok H=>ih (λx hx=>ok x (dP _ hx)) (uA H po (ok _ dz) M)
def Di{Q:Md->D->Prop}{ns:List Int}{pool:List Str}{way c3 n1 n2:Int}{l1 l2:List Stp}{rows:List dv}{M X c m1 m2 m3:Int}{o r1 r2 r3:List Stp}(T:P6 pool n1 n2 l1 l2 way)(G:Frs pool n1 n2 l1 l2 M X rows)(K1:MR pool n1 l1 c o)(K2:MR pool n2 l2 c o)(FL:zv pool c o M X rows)(R1:Run n1 l1 rows m1 r1)(R2:Run n2 l2 rows m2 r2)(R3:Run c o rows m3 r3)(y:m1<=20/\m2<=20/\m3<=20)(z:r1.length<=80/\r2.length<=80/\r3.length<=80)(h:∀ m,Q m (.bl true)):jO { nx:=λ_=>Q .sh .non,rt:=Q } (AK ns pool way c3 n1 n2 l1 l2 [some (.sh (.list (rows.map dv.d))),some (.sh (hD n1 n2 l1 l2 rows)),some (.sh (mT c o)),some (.sh (mT m1 r1)),some (.sh (mT m2 r2)),some (.sh (mT m3 r3)),none]):=by obtain⟨B1,E1,b1⟩:=K1.E;obtain⟨B2,E2,b2⟩:=K2.E;obtain⟨B3,E3,b3,G1,G3⟩:=x_ T.po R1 G.ok T.H1 K1.H E1 b1 R3;obtain⟨B4,E4,b4,G2,_⟩:=x_ T.po R2 G.ok T.H2 K1.H E2 b2 R3;unfold jO AK mT hD;walk_at "q";refine⟨m1,r1,rfl,⟨G1.m1,y.1⟩,G1.i,by lia,λh1 c1 o1 A1 L1=>?_⟩;have cin:=L1.in A1 G1.i G1.m1;have hV:dc 12 (mT c1 o1)=true:=rG 9 cin.1;rw[show mD c1 o1=.tup [.int c1,.list (o1.map b6)] from rfl];walk_at "q";refine R.F (by decide +kernel) ?_;walk_at "q";refine R.F (by decide +kernel) ?_;have c13:c1<=m3:=least_le E3 b3 G1.i G1.m1 A1 L1;walk_at "q";refine R.F (decide_eq_false (by lia)) ?_;walk_at "q";refine⟨m2,r2,rfl,⟨G2.m1,y.2.1⟩,G2.i,by lia,λh2 c2 o2 A2 oy=>?_⟩;obtain⟨rfl,rfl⟩:=tY G1 G2 (E3.comp E4.symm) ⟨_,b3,b4⟩ A1 L1 A2 oy;rw[show mD c1 o1=.tup [.int c1,.list (o1.map b6)] from rfl];walk_at "q";refine⟨hV,hV,?_⟩;rw[show js (.tup [.int c1,.list (o1.map b6)]) (.tup [.int c1,.list (o1.map b6)])=true from(cC _ _ (D3 c1 o1) (D3 c1 o1)).mpr rfl];walk_at "q";refine⟨m3,r3,rfl,⟨G3.m1,y.2.2⟩,G3.i,by lia,λh3 c3 o3 A3 L3'=>?_⟩;obtain⟨rfl,rfl⟩:=tY G1 G3 E3 b3 A1 L1 A3 L3';rw[show mD c1 o1=.tup [.int c1,.list (o1.map b6)] from rfl];walk_at "q";refine⟨hV,hV,?_⟩;rw[show js (.tup [.int c1,.list (o1.map b6)]) (.tup [.int c1,.list (o1.map b6)])=true from(cC _ _ (D3 c1 o1) (D3 c1 o1)).mpr rfl];exact h _
def Js{Q:Md->D->Prop}{ns:List Int}{pool:List Str}{way c3 n1 n2:Int}{l1 l2:List Stp}{rows:List dv}{M X c m1 m2 m3:Int}{o r1 r2 r3:List Stp}(T:P6 pool n1 n2 l1 l2 way)(G:Frs pool n1 n2 l1 l2 M X rows)(K1:MR pool n1 l1 c o)(K2:MR pool n2 l2 c o)(FL:zv pool c o M X rows)(R1:Run n1 l1 rows m1 r1)(R2:Run n2 l2 rows m2 r2)(R3:Run c o rows m3 r3)(y:m1<=20/\m2<=20/\m3<=20)(z:r1.length<=80/\r2.length<=80/\r3.length<=80)(h:∀ m,Q m (.bl true)):jP { nx:=λ_=>Q .sh .non,rt:=Q } (AK ns pool way c3 n1 n2 l1 l2 [some (.sh (.list (rows.map dv.d))),some (.sh (hD n1 n2 l1 l2 rows)),some (.sh (mT c o)),some (.sh (mT m1 r1)),some (.sh (mT m2 r2)),some (.sh (mT m3 r3)),none]):=by
 obtain⟨w14,e14⟩:∃ w,w=jO:=⟨_,rfl⟩
 unfold jP AK mT hD;rw[<- e14];have nb:(D.list [mT n1 l1,mT n2 l2,.list (rows.map dv.d)]).nb=true:=by show((mD n1 l1).nb && ((mD n2 l2).nb && (oq (rows.map dv.d) && true)))=true;rw[D3,D3,yQ];rfl
 have ok:dc 12 (D.list [mT n1 l1,mT n2 l2,.list (rows.map dv.d)])=true:=by show(dc 11 (mD n1 l1) && (dc 11 (mD n2 l2) && (dc 11 (.list (rows.map dv.d)) && true)))=true;rw[rG 8 T.H1.i,rG 8 T.H2.i,Fe G.ok];rfl
 have hV:dc 12 (mD m1 r1)=true:=rG 9 (Jg T.po R1 G.ok T.H1).i;walk_at "q";refine⟨ok,ok,R.F (by rw[S8];exact(cC _ _ nb nb).mpr rfl) ?_⟩;walk_at "q";refine .inl ⟨aV l1,n1,l1,rows,pool,M,X,rfl,by have:=T.pl;lia,T.po,G.F1,G.ok,by have:=G.rz;lia,λm' out R'=>?_⟩;obtain⟨rfl,rfl⟩:=R1.uniq R';have Va:(mD m1 r1).nb=true:=D3 m1 r1;refine⟨?_,?_⟩
 ·walk_at "q";refine⟨hV,hV,R.F (by rw[S8];exact(cC _ _ Va Va).mpr rfl) ?_⟩;walk_at "q";rw[e14];exact Di T G K1 K2 FL R1 R2 R3 y z h
 ·walk_at "q";refine⟨hV,hV,R.F (by rw[S8];exact(cC _ _ Va Va).mpr rfl) ?_⟩;walk_at "q";rw[e14];exact Di T G K1 K2 FL R1 R2 R3 y z h
def HJ{Q:Md->D->Prop}{ns:List Int}{pool:List Str}{way c3 n1 n2:Int}{l1 l2:List Stp}{rows:List dv}{M X c:Int}{o:List Stp}(T:P6 pool n1 n2 l1 l2 way)(G:Frs pool n1 n2 l1 l2 M X rows)(K1:MR pool n1 l1 c o)(K2:MR pool n2 l2 c o)(h:∀ m,Q m (.bl true)):jQ { nx:=λ_=>Q .sh .non,rt:=Q } (AK ns pool way c3 n1 n2 l1 l2 [some (.sh (.list (rows.map dv.d))),some (.sh (hD n1 n2 l1 l2 rows)),some (.sh (mT c o)),none,none,none,none]):=by
 obtain⟨w13,e13⟩:∃ w,w=jP:=⟨_,rfl⟩
 unfold jQ AK mT hD;rw[<- e13];have po:=T.po;have FL:zv pool c o M X rows:=⟨K1.H,by have:=G.F1.mM;have:=K1.b;lia,by have:=G.F1.xX;have:=K1.b;lia,G.F1.c⟩
 walk_at "q";refine⟨n1,l1,rows,pool,M,X,rfl,by have:=T.pl;lia,po,G.F1,G.ok,λm1 r1 R1 y1 z1=>?_⟩;rw[show mD m1 r1=.tup [.int m1,.list (r1.map b6)] from rfl];walk_at "q";refine⟨n2,l2,rows,pool,M,X,rfl,by have:=T.pl;lia,po,G.F2,G.ok,λm2 r2 R2 y2 z2=>?_⟩;rw[show mD m2 r2=.tup [.int m2,.list (r2.map b6)] from rfl];walk_at "q";refine .inl ⟨aV o,c,o,rows,pool,M,X,rfl,by have:=T.pl;lia,po,FL,G.ok,λm3 r3 R3 y3 z3=>?_⟩;rw[show mD m3 r3=.tup [.int m3,.list (r3.map b6)] from rfl];walk_at "q";rw[e13];exact Js T G K1 K2 FL R1 R2 R3 ⟨y1,y2,y3⟩ ⟨z1,z2,z3⟩ h
def KZ{Q:Md->D->Prop}{ns:List Int}{pool:List Str}{way c3 n1 n2:Int}{l1 l2:List Stp}{rows:List dv}{M X:Int}(T:P6 pool n1 n2 l1 l2 way)(G:Frs pool n1 n2 l1 l2 M X rows)(h:∀ m,Q m (.bl true)):oR { nx:=λ_=>Q .sh .non,rt:=Q } (AK ns pool way c3 n1 n2 l1 l2 [some (.sh (.list (rows.map dv.d))),some (.sh (hD n1 n2 l1 l2 rows)),none,none,none,none,none]):=by
 obtain⟨w9,e9⟩:∃ w,w=sX:=⟨_,rfl⟩
 obtain⟨w10,e10⟩:∃ w,w=jQ:=⟨_,rfl⟩
 unfold oR AK mT hD;rw[<- e9];have b1:=T.b1;have b2:=T.b2;have m1:=T.H1.m1;have m2:=T.H2.m1;walk_at "q";refine⟨n1,l1,rfl,by lia,T.H1.i,by lia,λh1 c1 o1 A1 L1=>?_⟩;have K1:=DG T.H1 A1 L1;rw[show mD c1 o1=.tup [.int c1,.list (o1.map b6)] from rfl];walk_at "q";rw[e9];unfold sX;rw[<- e10];walk_at "q";refine⟨n2,l2,rfl,by lia,T.H2.i,by lia,λh2 c2 o2 A2 oy=>?_⟩;have K2:=DG T.H2 A2 oy;have hV:dc 12 (mT c1 o1)=true:=rG 9 K1.H.i;have D7:dc 12 (mT c2 o2)=true:=rG 9 K2.H.i;rw[show mD c2 o2=.tup [.int c2,.list (o2.map b6)] from rfl];walk_at "q";refine⟨hV,D7,?_⟩;rw[show js (.tup [.int c1,.list (o1.map b6)]) (.tup [.int c2,.list (o2.map b6)])=decide (c1=c2/\o1=o2) from Lf];refine R.B (λz=>?_) λz=>?_
 ·walk_at "q";have w3:way=3:=by
   by_cases e:way=3
   ·exact e
   ·obtain⟨B,E,b⟩:=T.hx e;have:=tY T.H1 T.H2 E b A1 L1 A2 oy;rw[decide_eq_true this] at z;cases z
  rw[decide_eq_true w3];exact h _
 ·have z:c1=c2/\o1=o2:=by simpa using z
  obtain⟨rfl,rfl⟩:=z;walk_at "q";rw[e10];exact HJ T G K1 K2 h
def Ih{Q:Md->D->Prop}{ns:List Int}{pool:List Str}{way c3 n1 n2:Int}{l1 l2:List Stp}(nz:ns.length<=63)(T:P6 pool n1 n2 l1 l2 way)(h:∀ m,Q m (.bl true)):oE { nx:=λ_=>Q .sh .non,rt:=Q } (AK ns pool way c3 n1 n2 l1 l2 [none,none,none,none,none,none,none]):=by
 obtain⟨w8,e8⟩:∃ w,w=oR:=⟨_,rfl⟩
 unfold oE AK mT;rw[<- e8];have m2:=T.H2.m1;have b1:=T.b1;have b2:=T.b2;obtain⟨M,eM,M1,M2,M3⟩:∃ M:Int,(if n2>n1 then n2 else n1)=M/\n1<=M/\n2<=M/\M<=6:=⟨_,rfl,by split<;>lia,by split<;>lia,by split<;>lia⟩
 obtain⟨X,eX,X1,X2,X3⟩:∃ X:Int,(if (l2.length:Int)>l1.length then (l2.length:Int) else l1.length)=X/\l1.length<=X/\l2.length<=X/\X<=8:=⟨_,rfl,by split<;>lia,by split<;>lia,by split<;>lia⟩
 walk_at "q";rw[eM,eX];refine⟨ns,M,X,pool,rfl,nz,by lia,by lia,T.pl,T.po,λrows rz ok cp fl=>?_⟩;have G:Frs pool n1 n2 l1 l2 M X rows:=⟨⟨T.H1,by lia,by lia,cp⟩,⟨T.H2,by lia,by lia,cp⟩,ok,rz⟩
 walk_at "q";refine .inl ⟨aV l1,.inl ⟨aV l2,rows,pool,rfl,by lia,ok,?_⟩⟩;walk_at "q";rw[e8];exact KZ T G h
def Lp{Q:Md->D->Prop}{ns:List Int}{pool:List Str}{way c3 n1 n2:Int}{l1 l2:List Stp}(nz:ns.length<=63)(T:P6 pool n1 n2 l1 l2 way)(c3b:True)(ex:way≠3->∃ B,kP n1 l1 n2 l2 B/\B 0 0)(h:∀ m,Q m (.bl true)):oN { nx:=λ_=>Q .sh .non,rt:=Q } (AK ns pool way c3 n1 n2 l1 l2 [none,none,none,none,none,none,none]):=by
 have pl:=T.pl;have po:=T.po;have nd:∀ x∈("*" : Str) :: pool,xt x:=λx hx=>(eK.mp hx).imp id λz=>po x z;have nm:∀ l (names:List Str),(∀ x∈names,x∈("*" : Str) :: pool)->(∀ s∈l,s.2.1∈names)->Kd pool l:=λl names hs hl s z=>eK.mp (hs _ (hl s z));obtain⟨w6,e6⟩:∃ w,w=oE:=⟨_,rfl⟩
 unfold oN;rw[<- e6];unfold AK mT;walk_at "q";refine R.D (λe=>?_) λe=>?_;rotate_left
 ·walk_at "q";rw[e6];exact Ih nz T h
 have q2:=Z_ (ns:=ns) (a:=4) (b:=6) (by decide) (by decide);have q3:=Z_ (ns:=ns) (a:=6) (b:=9) (by decide) (by decide);have ns1:1<=(nV (("*" : Str) :: pool) none (some 2)).length:=by unfold nV;rw[mE,FK];simp only[HT.dr,qh,pl];decide
 have Vb:∀ x∈nV (("*" : Str) :: pool) none (some 2),x∈("*" : Str) :: pool:=λx hx=>yC hx;have en:nV (D.str "*" :: pool.map D.str) none (some 2)=(nV (("*" : Str) :: pool) none (some 2)).map D.str:=j7 D.str (("*" : Str) :: pool) none (some 2);walk_at "q";rw[en,j7];refine .inl ⟨fK ns,.inl ⟨dg pool,_,1+c3 % 2,_,rfl,by lia,by lia,ns1,λx hx=>nd x (Vb x hx),λl3 i3 k3 z3=>?_⟩⟩;rw[show mD (1+c3 % 2) l3=.tup [.int (1+c3 % 2),.list (l3.map b6)] from rfl];walk_at "q";rw[en,j7];refine .inl ⟨fK ns,.inl ⟨dg pool,_,1+c3 / 2 % 3,_,rfl,by lia,by lia,ns1,λx hx=>nd x (Vb x hx),λl4 i4 k4 z4=>?_⟩⟩;rw[show mD (1+c3 / 2 % 3) l4=.tup [.int (1+c3 / 2 % 3),.list (l4.map b6)] from rfl];walk_at "q";rw[e6];exact Ih nz ⟨pl,po,⟨by lia,i3,nm l3 _ Vb k3⟩,⟨by lia,i4,nm l4 _ Vb k4⟩,by lia,by lia,λz=>absurd e z⟩ h
def Kz:∀ ds Q,Sh ds Q->Jc { nx:=λ_=>Q .sh .non,rt:=Q } (aL 13 ds):=by
 rintro ds Q ⟨ns,rfl,nz,h⟩;obtain⟨w5,e5⟩:∃ w,w=oN:=⟨_,rfl⟩
 unfold Jc;rw[<- e5];walk_at "q";refine⟨ns,0,rfl,by decide,?_⟩;generalize ns.getD _ 0=c0;walk_at "q";refine⟨ns,1,rfl,by decide,?_⟩;generalize ns.getD _ 0=c1;walk_at "q";refine⟨c0,c1,rfl,λpool pl po=>?_⟩;have nd:∀ x∈("*" : Str) :: pool,xt x:=λx hx=>(eK.mp hx).imp id λz=>po x z;walk_at "q";refine⟨ns,2,rfl,by decide,?_⟩;generalize ns.getD _ 0=c2;walk_at "q";refine⟨ns,3,rfl,by decide,?_⟩;generalize ns.getD _ 0=c3;walk_at "q";have nm:∀ l (names:List Str),(∀ x∈names,x∈("*" : Str) :: pool)->(∀ s∈l,s.2.1∈names)->Kd pool l:=λl names hs hl s z=>eK.mp (hs _ (hl s z));rw[j7];have q1:=Z_ (ns:=ns) (a:=4) (b:=8) (by decide) (by decide);generalize nV ns (some 4) (some 8)=cs at *
 refine .inl ⟨fK ns,cs,1+c3 % 3,("*" : Str) :: pool,rfl,by lia,by lia,by simp,nd,λl1 i1 k1 z1=>?_⟩;rw[show mD (1+c3 % 3) l1=.tup [.int (1+c3 % 3),.list (l1.map b6)] from rfl];walk_at "q";refine⟨1+c3 % 3,l1,ns,("*" : Str) :: pool,rfl,by lia,i1,k1,by lia,λn2 l2 B p2 i2 k2 z2 E b0=>?_⟩;rw[show mD n2 l2=.tup [.int n2,.list (l2.map b6)] from rfl];walk_at "q";rw[e5];refine Lp nz ⟨pl,po,⟨by lia,i1,nm l1 _ (λ_ z=>z) k1⟩,⟨by lia,i2,nm l2 _ (λ_ z=>z) k2⟩,by lia,by lia,λ_=>⟨B,E,b0⟩⟩ trivial (λ_=>⟨B,E,b0⟩) h
def top(i:Nat):Stmt:=PySem.Challenge.pw_kinlook_k65_whole_parts_put_in_frames.main.body.getD i (.Pass ⟨0,0,0,0⟩)
abbrev sZ:Stmt:=top 49
structure Txt(K:aE)(mg:Str->Option ae):Prop where
 ab':mg "all" = none
 ac':mg "int" = none
 Si:mg "isinstance" = none
 ub:mg "len" = none
 B8:mg "list" = none
 Vc:mg "max" = none
 vS:mg "range" = none
 Fu:mg "set" = none
 AO:mg "sorted" = none
 ad':mg "str" = none
 ae':mg "tuple" = none
 af':Uh mg "HIDDEN" "*"
 ag':Uh mg "LETTERS" "abcdefghijklmnopqrstuvwxyz"
 ah':OV mg "MOST_LETTERS" 6
 ai':OV mg "MOST_STATES" 20
 aj':OV mg "MOST_STEPS" 80
 ak':OV mg "MOST_OPEN_DEEDS" 6
abbrev FA(K:aE)(x:Str)(s:Stmt):Prop:=∃ (f:ai) (oc:ae) (od an:Option ai) (Dp:Array (Option ae)) (kV doc pm gI ct:ae),oD K kc x=some (some (.ref f))/\K.lookup f=some ⟨oc,od,.func (zC x x (DC s) (x8 s) (nL s) .none kV doc pm an gI ct),Dp⟩/\M0 K gI x=true/\IY K (.ref f)=true
def bK{K:aE}{h:eh}{mg:Str->Option ae}{x:Str}{s:Stmt}(X:K.In h)(G:h.Ns kc mg)(a:FA K x s):∃ f fd,mg x=some (.ref f)/\DE K x x s f fd:=by obtain⟨f,_,_,_,_,_,_,_,_,_,a,l,c,k⟩:=a;exact⟨_,_,FD X G a,bB' l c k⟩
def Lj{K:aE}{x:Str}{s:Stmt}{f:ai}{oc:ae}{od an:Option ai}{Dp:Array (Option ae)}{kV doc pm gI ct:ae}(a:oD K kc x=some (some (.ref f)))(l:K.lookup f=some ⟨oc,od,.func (zC x x (DC s) (x8 s) (nL s) .none kV doc pm an gI ct),Dp⟩)(c:M0 K gI x=true)(k:IY K (.ref f)=true):FA K x s:=⟨_,_,_,_,_,_,_,_,_,_,a,l,c,k⟩
set_option maxHeartbeats 0 in
def all_mk {l:Vh} {w:eR} {K:aE} {h:eh} {mg:Str->Option ae} {fa:ai} (X:K.In h) (G:h.Ns kc mg) (hfa:mg "law" = some (.ref fa))(a0:FA K "is_open" (top 9))(a1:FA K "check_bounds" (top 14))(a2:FA K "exits_of" (top 15))(a3:FA K "deeds_of" (top 16))(a4:FA K "met" (top 17))(a5:FA K "check_open" (top 19))(a6:FA K "steps_of_one" (top 20))(a7:FA K "steps_of_other" (top 21))(a8:FA K "steps_together" (top 22))(a9:FA K "beside" (top 23))(a10:FA K "with_deeds" (top 24))(a11:FA K "hide" (top 25))(a12:FA K "rename" (top 26))(a13:FA K "done" (top 28))(a14:FA K "framed" (top 29))(a15:FA K "key_of" (top 31))(a16:FA K "ranks_behind" (top 32))(a17:FA K "rounds_of" (top 33))(a18:FA K "kinds_of" (top 34))(a19:FA K "homes_of" (top 36))(a20:FA K "least_of" (top 37))(a21:FA K "_law_cell_at" (top 39))(a22:FA K "_law_mix" (top 40))(a23:FA K "_law_names" (top 41))(a24:FA K "_law_drawn" (top 42))(a25:FA K "_law_twice" (top 43))(a26:FA K "_law_deeds" (top 44))(a27:FA K "_law_row" (top 45))(a28:FA K "_law_frame" (top 46))(a29:FA K "_law_copied" (top 47))(a30:FA K "_law_row_by_row" (top 48))(a31:oD K kc "law" = some (some (.ref f31))) (l31:K.lookup f31=some ⟨o31,d31,.func (zC "law" "law" (DC sZ) (x8 sZ) (nL sZ) .none v31 j31 p31 e31 r31 u31),t31⟩) (c31:M0 K r31 "law" = true) (k31:IY K (.ref f31)=true)(ab':oD K kc "all" = some none)(ac':oD K kc "int" = some none)(Si:oD K kc "isinstance" = some none)(ub:oD K kc "len" = some none)(B8:oD K kc "list" = some none)(Vc:oD K kc "max" = some none)(vS:oD K kc "range" = some none)(Fu:oD K kc "set" = some none)(AO:oD K kc "sorted" = some none)(ad':oD K kc "str" = some none)(ae':oD K kc "tuple" = some none){lI':Tok} (af':oD K kc "HIDDEN" = some (some (.str "*" lI'))){lJ':Tok} (ag':oD K kc "LETTERS" = some (some (.str "abcdefghijklmnopqrstuvwxyz" lJ'))){lK':Tok} (ah':oD K kc "MOST_LETTERS" = some (some (.int 6 lK'))){lL':Tok} (ai':oD K kc "MOST_STATES" = some (some (.int 20 lL'))){lM':Tok} (aj':oD K kc "MOST_STEPS" = some (some (.int 80 lM'))){lN':Tok} (ak':oD K kc "MOST_OPEN_DEEDS" = some (some (.int 6 lN')))
  : ∃ fd:FuncData,(∀ (s:ay) (v:ae),BindsTo s fd ⟨[v],[]⟩ [("_law_script",v)])/\∀ base:eh,K.In base->base.Ns kc mg->Ap l.prog w K mg base wx 7 fa fd ["_law_script"] (gD K Sh):=by
 have e:=hfa.symm.trans (FD X G a31);cases e;have T:Txt K mg:=⟨AV X G ab',AV X G ac',AV X G Si,AV X G ub,AV X G B8,AV X G Vc,AV X G vS,AV X G Fu,AV X G AO,AV X G ad',AV X G ae',⟨_,FD X G af'⟩,⟨_,FD X G ag'⟩,⟨_,FD X G ah'⟩,⟨_,FD X G ai'⟩,⟨_,FD X G aj'⟩,⟨_,FD X G ak'⟩⟩
 obtain⟨_,_,m0,F0⟩:=bK X G a0;obtain⟨_,_,m1,F1⟩:=bK X G a1;obtain⟨_,_,m2,F2⟩:=bK X G a2;obtain⟨_,_,m3,F3⟩:=bK X G a3;obtain⟨_,_,m4,F4⟩:=bK X G a4;obtain⟨_,_,m5,F5⟩:=bK X G a5;obtain⟨_,_,m6,F6⟩:=bK X G a6;obtain⟨_,_,m7,F7⟩:=bK X G a7;obtain⟨_,_,m8,F8⟩:=bK X G a8;obtain⟨_,_,m9,F9⟩:=bK X G a9;obtain⟨_,_,m10,F10⟩:=bK X G a10;obtain⟨_,_,m11,F11⟩:=bK X G a11;obtain⟨_,_,m12,F12⟩:=bK X G a12;obtain⟨_,_,m13,F13⟩:=bK X G a13;obtain⟨_,_,m14,F14⟩:=bK X G a14;obtain⟨_,_,m15,F15⟩:=bK X G a15;obtain⟨_,_,m16,F16⟩:=bK X G a16;obtain⟨_,_,m17,F17⟩:=bK X G a17;obtain⟨_,_,m18,F18⟩:=bK X G a18;obtain⟨_,_,m19,F19⟩:=bK X G a19;obtain⟨_,_,P5,F20⟩:=bK X G a20;obtain⟨_,_,m21,F21⟩:=bK X G a21;obtain⟨_,_,m22,F22⟩:=bK X G a22;obtain⟨_,_,m23,F23⟩:=bK X G a23;obtain⟨_,_,m24,F24⟩:=bK X G a24;obtain⟨_,_,m25,F25⟩:=bK X G a25;obtain⟨_,_,m26,F26⟩:=bK X G a26;obtain⟨_,_,m27,F27⟩:=bK X G a27;obtain⟨_,_,m28,F28⟩:=bK X G a28;obtain⟨_,_,m29,F29⟩:=bK X G a29;obtain⟨_,_,m30,F30⟩:=bK X G a30;have F31:=bB' (st:=sZ) l31 c31 k31;refine⟨zC "law" "law" (DC sZ) (x8 sZ) (nL sZ) .none v31 j31 p31 e31 r31 u31,λs v=>.of_eq rfl,λbase _ _=>?_⟩;have mk:=@Za.mk l.prog w K mg base;obtain C0:=(mk m0 F0 ["thing"] 1 0 rR yx (aj (bL (PC (z9 (qZ (pN (Gh T.Si (qv 0) (GF T.ad' Ju)))) (xJ (qZ (Ay vp vp Ac Ac ao (a_ aQ dW T.ub dD (qv 0)) (Uv T.ah')))))) (aq (bh Rm))
   aM)
   (aq (bh (a_ iD' Jp T.ab' JG (eY (tn:=["sign"]) (cn:=[]) (ix:=[]) (mV (JB (qv 0))) (az 0) cA (xZ lS pY (qv 0) (cx' T.ag')))))))).1
 obtain C2:=(mk m2 F2 ["m", "exits", "start", "deed", "end"] 1 0 qd wH (aj (dN 1 (tn:=["state"]) (cn:=[]) (ix:=[]) (mV (cu T.vS (b9 (qv 0) ao))) (az 0) cA (di au)) (aj (aD 0 (bC (b_ (b9 (qv 0) ao)) (jA (aN (az 2) (aN (az 3) (aN (az 4) fU)))) (aq (aD 4 (aD 3 (dF (LK (aU (pv 1)) (qv 2)) (bW (aa (qv 3) (aa (qv 4) au))))))))) (aq (cL (pv 1)))))).1
 obtain C3:=(mk m3 F3 ["m"] 1 0 rE wJ (aq (bh (nP T.AO T.Fu (eY (tn:=["step"]) (cn:=[]) (ix:=[]) (dq (b9 (qv 0) ao)) (az 0) cA (b9 (qv 0) ao)))))).1;obtain C4:=(mk m4 F4 ["m", "reached", "waiting", "state", "step"] 1 0 Gm Li (aj (aB 1 (xx ao Rm)) (aj (aB 2 (di (aa ao au))) (aj (uH (G9 (qv 2)) (aj (Hi 3 (aU (pv 2))) (aq (aD 0 (bC (b_ (b9 (qv 0) ao)) (az 4) (aq (bL (PC (yI (aO w_ ig (b9 (qv 4) ao) (qv 3)) (sJ (aO uF pY (b9 (qv 4) ao) (qv 1))))) (aj (tO (aU (pv 1)) (b9 (qv 4) ao) Rm) (aq (dF (aU (pv 2)) (b9 (qv 4) ao))))
   aM)))))))
   (aq (bh (a_ JT BR T.AO du (qv 1)))))))).1
 obtain C6:=(mk m6 F6 ["one", "other", "together", "many", "steps", "start", "deed", "end"] 3 0 jC mj (aj (aB 3 (b9 (qv 1) ao)) (aj (aB 4 (di au)) (aj (aD 0 (bC (b_ (b9 (qv 0) ao)) (jA (aN (az 5) (aN (az 6) (aN (az 7) fU)))) (aq (bL (aO uF pY (qv 6) (qv 2)) (aq (aD 6 (zN (aU (pv 4)) (eY (tn:=["q"]) (cn:=["deed", "end", "many", "start"]) (ix:=[6,7,3,5]) (mV (cu T.vS (qv 3))) (az 0) cA (bW (aa (bD (dJ (qv 4) (qv 3)) (qv 0)) (aa (qv 1) (aa (bD (dJ (qv 2) (qv 3)) (qv 0)) au))))))))
   aM))))
   (aq (cL (pv 4))))))).1
 obtain C7:=(mk m7 F7 ["one", "other", "together", "many", "steps", "start", "deed", "end"] 3 0 iJ jL (aj (aB 3 (b9 (qv 1) ao)) (aj (aB 4 (di au)) (aj (aD 1 (bC (b_ (b9 (qv 1) ao)) (jA (aN (az 5) (aN (az 6) (aN (az 7) fU)))) (aq (bL (aO uF pY (qv 6) (qv 2)) (aq (aD 6 (zN (aU (pv 4)) (eY (tn:=["p"]) (cn:=["deed", "end", "many", "start"]) (ix:=[6,7,3,5]) (mV (cu T.vS (b9 (qv 0) ao))) (az 0) cA (bW (aa (bD (dJ (qv 0) (qv 3)) (qv 4)) (aa (qv 1) (aa (bD (dJ (qv 0) (qv 3)) (qv 2)) au))))))))
   aM))))
   (aq (cL (pv 4))))))).1
 obtain C8:=(mk m8 F8 ["one", "other", "together", "many", "steps", "start", "deed", "end", "mates"] 3 0 iQ jK (aj (aB 3 (b9 (qv 1) ao)) (aj (aB 4 (di au)) (aj (aD 0 (bC (b_ (b9 (qv 0) ao)) (jA (aN (az 5) (aN (az 6) (aN (az 7) fU)))) (aq (bL (aO lS pY (qv 6) (qv 2)) (aj (dN 8 (tn:=["step"]) (cn:=["deed"]) (ix:=[6]) (dq (b9 (qv 1) ao)) (az 0) (oJ (aO w_ ig (b9 (qv 0) ao) (qv 1))) (qv 0)) (aq (aD 6 (zN (aU (pv 4)) (eY (tn:=["mate"]) (cn:=["deed", "end", "many", "start"]) (ix:=[6,7,3,5]) (dq (qv 8)) (az 0) cA (bW (aa (bD (dJ (qv 4) (qv 3)) (b9 (qv 0) ao)) (aa (qv 1) (aa (bD (dJ (qv 2) (qv 3)) (b9 (qv 0) ao)) au)))))))))
   aM))))
   (aq (cL (pv 4))))))).1
 obtain C10:=(mk m10 F10 ["m", "new_deeds", "steps"] 2 0 mJ qL (aj (dN 2 (tn:=["step"]) (cn:=["new_deeds"]) (ix:=[1]) (dq (b9 (qv 0) ao)) (az 0) cA (bW (aa (b9 (qv 0) ao) (aa (Km (qv 1) (b9 (qv 0) ao) (b9 (qv 0) ao)) (aa (b9 (qv 0) ao) au))))) (aq (bh (bW (aa (b9 (qv 0) ao) (aa (iU T.AO T.Fu (qv 2)) au))))))).1
 obtain C15:=(mk m15 F15 ["exits", "ranks", "state"] 3 0 vV Bt (aq (bh (bW (aa (b9 (qv 1) (qv 2)) (aa (wy T.AO T.Fu (eY (tn:=["deed", "end"]) (cn:=["ranks"]) (ix:=[1]) (dq (b9 (qv 0) (qv 2))) (jA (aN (az 0) (aN (az 1) fU))) cA (bW (aa (qv 0) (aa (b9 (qv 2) (qv 1)) au))))) au)))))).1;obtain MS:=(mk m21 F21 ["_law_script", "_law_k"] 2 0 jJ l_ (aj (bL (aO Dg Ig (qv 1) (a_ aQ dW T.ub dD (qv 0))) (aq (bh (b9 (qv 0) (qv 1))))
   aM)
   (aq (bh ao)))).1
 obtain P7:=(mk m22 F22 ["_law_cell", "_law_k", "_law_by", "_law_prime"] 4 0 pQ vO (aq (bh (cO (dJ (bD (bD (bD (cO (qv 0) ao) (dJ (dJ ao (qv 1)) (qv 1))) (dJ ao (qv 1))) ao) (qv 2)) (qv 3))))).1;obtain C23:=(mk m23 F23 ["_law_cell", "_law_other", "_law_letters", "_law_size", "_law_at", "_law_names_here", "_law_k", "_law_name", "_law_j", "_law_sign"] 2 0 lX pZ (aj (aB 2 gJ) (aj (aB 3 (bD ao (cO (qv 0) ao))) (aj (aB 4 (cO (tG (qv 1) ao) (qv 3))) (aj (aB 5 (di (aa gJ au))) (aj (bC (cu T.vS ao) (az 6) (aj (aB 7 gJ) (aj (bC (cu T.vS ao) (az 8) (aj (aB 9 (bD (tG (qv 0) ao) (dJ (dJ (qv 8) (qv 8)) (bD ao (cO (tG (qv 1) ao) ao))))) (aj (bL (PC (yI (aO w_ ig (qv 8) (qv 4)) (sJ (aO OW wA (cO (qv 1) ao) ao)))) (aq (aB 9 (bD (qv 9) (qv 6))))
   aM)
   (aq (aB 7 (bD (qv 7) (b9 (qv 2) (cO (qv 9) ao))))))))
   (aq (bL (aO w_ ig (cO (qv 1) ao) ao)
   (aq (dF (aU (pv 5)) (eV (qv 7) kh (cB (bD (qv 6) ao)))))
   (aq (dF (aU (pv 5)) (eV (qv 7) kh (cB (qv 3))))))))))
   (aq (cL (pv 5))))))))).1
 obtain C29:=(mk m29 F29 ["_law_frame_here", "_law_rows", "_law_row_here"] 1 0 lu nW (aj (aB 1 (di au)) (aj (aD 0 (bC (b_ (qv 0)) (az 2) (aq (bL (aO lS pY (b9 (qv 2) ao) (bW (aa gJ (aa gJ au)))) (aq (dF (aU (pv 1)) (bW (aa (b9 (qv 2) ao) (aa (bW (aa (b9 (b9 (qv 2) ao) ao) (aa (cU bN fL T.B8 d_ (b9 (b9 (qv 2) ao) ao)) au))) (aa (cU bN fL T.B8 d_ (b9 (qv 2) ao)) au)))))) (aq (dF (aU (pv 1)) (bW (aa (b9 (qv 2) ao) (aa (cU bN fL T.B8 d_ (b9 (qv 2) ao)) au))))))))) (aq (cL (pv 1)))))).1
 obtain C1:=(mk m1 F1 ["m"] 1 1 jB mL (aj (bL (aO qx zj (b9 (qv 0) ao) (Uv T.ai'))
   ir
   aM)
   (aj (bL (aO qx zj (a_ aQ dW T.ub dD (b9 (qv 0) ao)) (Uv T.aj'))
   ir
   aM)
   (aq (bL (aO qx zj (a_ aQ dW T.ub dD (eY (tn:=["deed"]) (cn:=[]) (ix:=[]) (dq (aH C3 (aa (qv 0) au))) (az 0) (oJ (pN (aH C0 (aa (qv 0) au)))) (qv 0))) (Uv T.ak'))
   ir
   aM))))).1
 obtain C5:=(mk m5 F5 ["deeds", "deed"] 1 1 lZ pX (aq (aD 0 (bC (b_ (qv 0)) (az 1) (aq (bL (qZ (pN (aH C0 (aa (qv 1) au))))
   ir
   aM)))))).1
 obtain C16:=(mk m16 F16 ["exits", "ranks", "keys", "different", "key"] 2 1 jH lV (aj (dN 2 (tn:=["state"]) (cn:=["exits", "ranks"]) (ix:=[0,1]) (mV (cu T.vS (a_ aQ dW T.ub dD (qv 1)))) (az 0) cA (aH C15 (aa (qv 1) (aa (qv 2) (aa (qv 0) au))))) (aj (aB 3 (di au)) (aj (aD 2 (bC (b_ (a_ Hy Ab T.AO du (qv 2))) (az 4) (aq (bL (aO rQ za (qv 4) (qv 3)) (aq (aD 4 (dF (aU (pv 3)) (qv 4))))
   aM))))
   (aq (bh (eY (tn:=["key"]) (cn:=["different"]) (ix:=[3]) (dq (qv 2)) (az 0) cA (Eo (qv 1) (qv 0))))))))).1
 obtain Vd:=(mk m24 F24 ["_law_cells", "_law_many", "_law_names_here", "_law_steps", "_law_k", "_law_start", "_law_deed", "_law_step"] 3 1 lW qN (aj (aB 3 (di au)) (aj (bC (cu T.vS (a_ aQ dW T.ub dD (qv 0))) (az 4) (aj (aB 5 (cO (aH P7 (aa (b9 (qv 0) (qv 4)) (aa (qv 4) (aa ao (aa ao au))))) (qv 1))) (aj (aB 6 (b9 (qv 2) (cO (aH P7 (aa (b9 (qv 0) (qv 4)) (aa (qv 4) (aa ao (aa ao au))))) (a_ aQ dW T.ub dD (qv 2))))) (aj (aD 6 (aD 5 (aB 7 (bW (aa (qv 5) (aa (qv 6) (aa (cO (aH P7 (aa (b9 (qv 0) (qv 4)) (aa (qv 4) (aa ao (aa ao au))))) (qv 1)) au))))))) (aq (bL (aO rQ za (qv 7) (qv 3)) (aq (aD 7 (dF (aU (pv 3)) (qv 7))))
   aM))))))
   (aq (oW (Rz (pv 1) (UL (a_ Dm uo T.AO du (qv 3)) ug))))))).1
 obtain C25:=(mk m25 F25 ["_law_some", "_law_script", "_law_many", "_law_second", "_law_p", "_law_steps", "_law_k", "_law_start", "_law_deed", "_law_end", "_law_copy", "_law_goal"] 2 1 mC qO (aj (aB 2 (b9 (qv 0) ao)) (aj (aB 3 (di au)) (aj (bC (cu T.vS (b9 (qv 0) ao)) (az 4) (aj (aD 4 (dF (aU (pv 3)) (qv 4))) (aq (bL (aO w_ ig (cO (aH MS (aa (qv 1) (aa (bD ao (qv 4)) au))) ao) ao) (aj (aD 2 (F_ (aU (pv 3)) (qv 4) (qv 2))) (aq (aB 2 (bD (qv 2) ao))))
   aM))))
   (aj (aB 5 (di au))
   (aj (bC (cu T.vS (a_ aQ dW T.ub dD (b9 (qv 0) ao))) (az 6)
   (aj (Fp (b9 (b9 (qv 0) ao) (qv 6)) (jA (aN (az 7) (aN (az 8) (aN (az 9) fU)))))
   (aq (aD 7 (bC (Hx (bW (aa (qv 7) (aa (b9 (qv 3) (qv 7)) au)))) (az 10)
   (aj (aD 9 (aB 11 (b9 (di (aa (qv 9) (aa (b9 (qv 3) (qv 9)) au))) (cO (aH MS (aa (qv 1) (aa (bD (bD ao (dJ ao (qv 6))) (cU fL' Hh T.ac' CJ (xZ OW wA (qv 10) (qv 7)))) au))) ao))))
   (aq (aD 11 (aD 8 (aD 10 (bL (aO rQ za (bW (aa (qv 10) (aa (qv 8) (aa (qv 11) au)))) (qv 5))
   (aq (aD 11 (aD 8 (aD 10 (dF (aU (pv 5)) (bW (aa (qv 10) (aa (qv 8) (aa (qv 11) au)))))))))
   aM)))))))))))
   (aq (oW (Rz (pv 2) (UL (a_ Dm uo T.AO du (qv 5)) ug)))))))))).1
 obtain C26:=(mk m26 F26 ["_law_cell", "_law_names_here", "_law_some", "_law_k"] 2 1 mH pR (aj (aB 2 (di au)) (aj (bC (cu T.vS (cO (qv 0) ao)) (az 3) (aq (dF (aU (pv 2)) (b9 (qv 1) (bD ao (cO (aH P7 (aa (tG (qv 0) ao) (aa (qv 3) (aa ao (aa ao au))))) ao)))))) (aq (cL (pv 2)))))).1
 obtain C9:=(mk m9 F9 ["one", "other", "together", "many", "steps", "m"] 3 2 vD Bx (aj (lC (aH C5 (aa (qv 2) au))) (aj (aB 3 (dJ (b9 (qv 0) ao) (b9 (qv 1) ao))) (aj (aD 3 (lC (aH C1 (aa (bW (aa (qv 3) (aa (di au) au))) au)))) (aj (aB 4 (bD (aH C6 (aa (qv 0) (aa (qv 1) (aa (qv 2) au)))) (aH C7 (aa (qv 0) (aa (qv 1) (aa (qv 2) au)))))) (aj (aD 3 (aB 5 (bW (aa (qv 3) (aa (iU T.AO T.Fu (bD (qv 4) (aH C8 (aa (qv 0) (aa (qv 1) (aa (qv 2) au)))))) au))))) (aj (lC (aH C1 (aa (qv 5) au))) (aq (cL (pv 5)))))))))).1
 obtain C11:=(mk m11 F11 ["m", "deeds", "new_deeds", "deed"] 2 2 Ci Jv (aj (lC (aH C5 (aa (qv 1) au))) (aj (aB 2 wQ) (aj (aD 1 (bC (b_ (qv 1)) (az 3) (aq (tO (aU (pv 2)) (qv 3) (cx' T.af'))))) (aq (bh (aH C10 (aa (qv 0) (aa (qv 2) au))))))))).1
 obtain C12:=(mk m12 F12 ["m", "pairs", "new_deeds", "old", "new"] 2 2 vI Ad (aj (aB 2 wQ) (aj (aD 1 (bC (b_ (qv 1)) (jA (aN (az 3) (aN (az 4) fU))) (aj (aD 4 (aD 3 (lC (aH C5 (aa (di (aa (qv 3) (aa (qv 4) au))) au))))) (aq (aD 4 (aD 3 (Jd (aU (pv 2)) (qv 3) (qv 4)))))))) (aq (bh (aH C10 (aa (qv 0) (aa (qv 2) au)))))))).1
 obtain C17:=(mk m17 F17 ["m", "exits", "rounds", "ranks"] 1 2 n_ sY (λ{_ _ _ _ _ _ hr hu nd _}=>(aj (aB 1 (aH C2 (aa (qv 0) au))) (aj (aB 2 (di (aa (I_ (di (aa ao au)) (b9 (qv 0) ao)) au))) (aj (aB 3 (aH C16 (aa (qv 1) (aa (b9 (qv 2) ao) au)))) (aj (uH (aO OW wA (qv 3) (b9 (qv 2) (JM ao))) (Ax nd rfl (Or.inl rfl) (pv 2) (pv 3) (aH C16 (aa (qv 1) (aa (qv 3) au))))) (aq (cL (pv 2))))))))).1
 obtain C27:=(mk m27 F27 ["_law_cells", "_law_names_here", "_law_way", "_law_deeds_here", "_law_other", "_law_pairs", "_law_j", "_law_old"] 2 2 qD wz (aj (aB 2 (cO (b9 (qv 0) ao) ao)) (aj (aB 3 (aH C26 (aa (b9 (qv 0) ao) (aa (qv 1) au)))) (aj (bL (aO Dg Ig (qv 2) ao) (aj (aB 4 (aH Vd (aa (eV (qv 0) (cB ao) (cB ao)) (aa (bD ao (cO (tG (b9 (qv 0) ao) ao) ao)) (aa (qv 1) au))))) (aq (oW (UL (b9 (di (aa gJ (aa gJ au))) (cO (qv 2) ao)) (Rz (pv 4) (Rz (pv 3) ug))))))
   aM)
   (aj (bL (aO w_ ig (qv 2) ao)
   (aq (bh (bW (aa gJ (aa (eV (qv 3) kh (cB ao)) au)))))
   aM)
   (aj (aB 5 (di au))
   (aj (bC (cu T.vS (cO (tG (b9 (qv 0) ao) ao) ao)) (az 6)
   (aj (aB 7 (b9 (qv 1) (bD ao (cO (aH P7 (aa (b9 (qv 0) ao) (aa (qv 6) (aa ao (aa ao au))))) ao))))
   (aq (aD 7 (dF (aU (pv 5)) (bW (aa (qv 7) (aa (b9 (qv 1) (bD ao (cO (aH P7 (aa (b9 (qv 0) ao) (aa (qv 6) (aa ao (aa ao au))))) ao))) au))))))))
   (aq (oW (UL gJ (Rz (pv 5) ug))))))))))).1
 obtain C13:=(mk m13 F13 ["m", "row"] 2 3 Aq HX (aj (bL (aO w_ ig (b9 (qv 1) ao) gJ) (aq (bh (aH C9 (aa (qv 0) (aa (b9 (qv 1) ao) (aa (b9 (qv 1) ao) au))))))
   aM)
   (aj (bL (aO w_ ig (b9 (qv 1) ao) gJ)
   (aq (bh (aH C9 (aa (b9 (qv 1) ao) (aa (qv 0) (aa (b9 (qv 1) ao) au))))))
   aM)
   (aj (bL (aO w_ ig (b9 (qv 1) ao) gJ)
   (aq (bh (aH C11 (aa (qv 0) (aa (b9 (qv 1) ao) au)))))
   aM)
   (aj (bL (aO w_ ig (b9 (qv 1) ao) gJ)
   (aq (bh (aH C12 (aa (qv 0) (aa (b9 (qv 1) ao) au)))))
   aM)
   (aq Ba)))))).1
 obtain C18:=(mk m18 F18 ["m"] 1 3 rF wI (aq (bh (Kg (aH C17 (aa (qv 0) au)) (JM ao))))).1;obtain C28:=(mk m28 F28 ["_law_script", "_law_many", "_law_steps", "_law_names_here", "_law_frame_here", "_law_k", "_law_row_here", "_law_size", "_law_more"] 4 3 mq pW (aj (aB 4 (di au)) (aj (bC (cu T.vS ao) (az 5) (aq (bL (aO qx zj (a_ aQ dW T.ub dD (qv 0)) (bD ao (dJ ao (qv 5)))) (aj (aB 6 (aH C27 (aa (eY (tn:=["_law_j"]) (cn:=["_law_k", "_law_script"]) (ix:=[5,0]) (mV (cu T.vS ao)) (az 0) cA (aH MS (aa (qv 2) (aa (bD (bD ao (dJ ao (qv 1))) (qv 0)) au)))) (aa (qv 3) au)))) (aq (bL (aO lS pY (b9 (qv 6) ao) (bW (aa gJ (aa gJ au)))) (aj (aB 7 (a_ aQ dW T.ub dD (b9 (b9 (qv 6) ao) ao))) (aj (aB 8 (bD (bD (dJ (qv 2) (b9 (b9 (qv 6) ao) ao)) (dJ (qv 7) (qv 1))) (dJ (qv 2) (qv 7)))) (aq (bL (PC (yI (aO vp Ac (dJ (qv 1) (b9 (b9 (qv 6) ao) ao)) ao) (sJ (aO vp Ac (qv 8) ao)))) (aj (aB 1 (dJ (qv 1) (b9 (b9 (qv 6) ao) ao))) (aj (aD 8 (aB 2 (qv 8))) (aq (aD 6 (dF (aU (pv 4)) (qv 6))))))
   aM))))
   (aq (aD 6 (dF (aU (pv 4)) (qv 6)))))))
   aM)))
   (aq (cL (pv 4)))))).1
 obtain Ve:=(mk m14 F14 ["m", "frame", "told", "row"] 2 4 vA Ae (aj (aB 2 (bW (aa (b9 (qv 0) ao) (aa (cU bN fL T.B8 d_ (b9 (qv 0) ao)) au)))) (aj (aD 1 (bC (b_ (qv 1)) (az 3) (aq (aB 2 (aH C13 (aa (qv 2) (aa (qv 3) au))))))) (aq (cL (pv 2)))))).1
 obtain C19:=(mk m19 F19 ["m", "kinds", "numbers", "kind"] 1 4 pJ vB (aj (aB 1 (aH C18 (aa (qv 0) au))) (aj (aB 2 (xx (b9 (qv 1) ao) ao)) (aj (bC (b_ (nP T.AO T.Fu (eY (tn:=["state"]) (cn:=["kinds"]) (ix:=[1]) (dq (aH C4 (aa (qv 0) au))) (az 0) cA (b9 (qv 1) (qv 0))))) (az 3) (aq (bL (aO uF pY (qv 3) (qv 2)) (aq (tO (aU (pv 2)) (qv 3) (a_ aQ dW T.ub dD (qv 2))))
   aM)))
   (aq (bh (eY (tn:=["kind"]) (cn:=["numbers"]) (ix:=[2]) (dq (qv 1)) (az 0) cA (Ht (qv 1) (qv 0))))))))).1
 obtain Sj:=(mk P5 F20 ["m", "homes", "steps"] 1 5 qQ vM (aj (aB 1 (aH C19 (aa (qv 0) au))) (aj (dN 2 (tn:=["start", "deed", "end"]) (cn:=["homes"]) (ix:=[1]) (dq (b9 (qv 0) ao)) (jA (aN (az 0) (aN (az 1) (aN (az 2) fU)))) (oJ (aO aS' xY (b9 (qv 3) (qv 0)) Ip)) (bW (aa (b9 (qv 3) (qv 0)) (aa (qv 1) (aa (b9 (qv 3) (qv 2)) au))))) (aq (bh (bW (aa (Cq rfl T.ub rfl T.Fu (eY (tn:=["home"]) (cn:=[]) (ix:=[]) (dq (qv 1)) (az 0) (oJ (aO aS' xY (qv 0) Ip)) (qv 0))) (aa (iU T.AO T.Fu (qv 2)) au)))))))).1
 obtain C30:=(mk m30 F30 ["_law_some", "_law_frame_here", "_law_row_here"] 2 5 gP iV (aj (bC (b_ (aH C29 (aa (qv 1) au))) (az 2) (aq (aD 2 (aB 0 (aH Ve (aa (qv 0) (aa (di (aa (qv 2) au)) au))))))) (aq (cL (pv 0))))).1
 exact(mk hfa F31 ["_law_script", "_law_names_here", "_law_way", "_law_many", "_law_one", "_law_other", "_law_frame_here", "_law_handed", "_law_first", "_law_found", "_law_beside_it", "_law_within", "_law_due"] 1 6 Ez Kz (aj (cN 1 (aH C23 (aa (aH MS (aa (qv 0) (aa ao au))) (aa (aH MS (aa (qv 0) (aa ao au))) au)))) (aj (aB 2 (cO (aH MS (aa (qv 0) (aa ao au))) ao)) (aj (aB 3 (aH MS (aa (qv 0) (aa ao au)))) (aj (cN 4 (aH Vd (aa (eV (qv 0) (cB ao) (cB ao)) (aa (bD ao (cO (qv 3) ao)) (aa (qv 1) au))))) (aj (cN 5 (aH C25 (aa (qv 4) (aa (qv 0) au)))) (aj (bL (aO w_ ig (qv 2) ao) (aj (cN 4 (aH Vd (aa (eV (qv 0) (cB ao) (cB ao)) (aa (bD ao (cO (qv 3) ao)) (aa (eV (qv 1) kh (cB ao)) au))))) (aq (cN 5 (aH Vd (aa (eV (qv 0) (cB ao) (cB ao)) (aa (bD ao (cO (tG (qv 3) ao) ao)) (aa (eV (qv 1) kh (cB ao)) au)))))))
   aM)
   (aj (cN 6 (aH C28 (aa (qv 0) (aa (ym Dl yH T.Vc Dc (b9 (qv 4) ao) (b9 (qv 5) ao)) (aa (ym Dl yH T.Vc Dc (a_ aQ dW T.ub dD (b9 (qv 4) ao)) (a_ aQ dW T.ub dD (b9 (qv 5) ao))) (aa (qv 1) au))))))
   (aj (cN 7 (di (aa (bW (aa (b9 (qv 4) ao) (aa (cU bN fL T.B8 d_ (b9 (qv 4) ao)) au))) (aa (bW (aa (b9 (qv 5) ao) (aa (cU bN fL T.B8 d_ (b9 (qv 5) ao)) au))) (aa (aH C29 (aa (qv 6) au)) au)))))
   (aj (cN 8 (aH Sj (aa (b9 (qv 7) ao) au)))
   (aj (bL (aO OW wA (qv 8) (aH Sj (aa (b9 (qv 7) ao) au)))
   (aq (bh (xZ w_ ig (qv 2) ao)))
   aM)
   (aj (cN 9 (aH Ve (aa (b9 (qv 7) ao) (aa (b9 (qv 7) ao) au))))
   (aj (cN 10 (aH Ve (aa (b9 (qv 7) ao) (aa (b9 (qv 7) ao) au))))
   (aj (cN 11 (aH Ve (aa (bW (aa (b9 (qv 8) ao) (aa (cU bN fL T.B8 d_ (b9 (qv 8) ao)) au))) (aa (b9 (qv 7) ao) au))))
   (aj (aD 6 (aD 5 (aD 4 (bL (PC (z9 (aO OW wA (qv 7) (di (aa (qv 4) (aa (qv 5) (aa (qv 6) au))))) (xJ (aO OW wA (qv 9) (aH C30 (aa (bW (aa (b9 (qv 4) ao) (aa (cU bN fL T.B8 d_ (b9 (qv 4) ao)) au))) (aa (qv 6) au)))))))
   (aq (bh Rm))
   aM))))
   (aj (cN 12 (aH Sj (aa (qv 9) au)))
   (aj (bL (PC (z9 (qZ (pN (Gh T.Si (qv 12) (GF T.ae' Ck)))) (z9 (qZ (pN (Gh T.Si (b9 (qv 12) ao) (GF T.B8 d_)))) (xJ (aO qx zj (b9 (qv 12) ao) (b9 (qv 11) ao))))))
   (aq (bh Rm))
   aM)
   (aq (bh (Ks (xZ w_ ig (aH Sj (aa (qv 10) au)) (qv 12)) (Kw (xZ w_ ig (aH Sj (aa (qv 11) au)) (qv 12))))))))))))))))))))))).2
def walk{l:Vh}{q:eL}{loose:List Str}{XP:(Str->Option ae)->eh->Prop}{YP:eR->eh->Prop}{d:DefRec}{K:Params->aE}(hn:l.most=some 63)(Q0:d.params.defaults=[])(hY:∀ (w:eR) (h:eh),YP w h->(K w.params).In h)(F:∀ (w:eR) (mg:Str->Option ae) (fa:ai) (h:eh),(K w.params).In h->h.Ns kc mg->mg d.name=some (.ref fa) ->
   ∃ fd:FuncData,(∀ (s:ay) (u:ae),BindsTo s fd ⟨[u],[]⟩ [("_law_script",u)])/\∀ base:eh,(K w.params).In base->base.Ns kc mg->Ap l.prog w (K w.params) mg base wx 7 fa fd ["_law_script"] (gD (K w.params) Sh)) :
  PySem.W.WalkO q loose XP YP l.row.toRowW d [] (λf vs=>PySem.call f vs) :=
 L2.hW' (n:=63) (k:=7) (x := "_law_script") (CX:=λ_=>wx) (sp:=λw=>gD (K w.params) Sh) hn (by decide) Q0 ⟨rfl,by decide,by decide⟩ hY F (λw H a ns hl hO hS=>Bk hl hS) λ_ _ _ _ _ z=>z
end L2.Q.U6
end
open PySem PySem.W PyProof.Rows
namespace PySem.W.Fast
def tw18397939028719299341:=0
def tw4263210577215041443:=0
def tw174939135587253192:=0
def tw14335642776016929087:=0
def tw6859332864618244982:=0
def tw2545863586390135163:=0
def tw17644105170837959367:=0
def tw14592747993455973275:=0
def tw8331578989426492576:=0
def tw17625188239317273385:=0
def tw14182153350232962946:=0
def tw705402688896627774:=0
def tw6762029047378726776:=0
def tw13864911242432392555:=0
def tw13402173151474228628:=0
def tw9786386311191511815:=0
def tw14944127740807767883:=0
def tw9907170703156402324:=0
def tw18249277887672556417:=0
def tw10615752726189870189:=0
def tw8976476483943629927:=0
def tw17605420157090785018:=0
def tw9344324117882002513:=0
def tw11913219160359820550:=0
def tw13374082364435180293:=0
def tw16668192720365193184:=0
def tw8251222071094339927:=0
def tw10530288862404980260:=0
def tw580314348530784592:=0
def tw4983906848160499663:=0
def tw288594310992011672:=0
def tw12848055846478912213:=0
def tw14731345290515021192:=0
def tw7532758271668494549:=0
def tw3496475009505230258:=0
def tw12532892550446794549:=0
def tw7422178488487500205:=0
def tw2438981403754924197:=0
def tw6097212192847806941:=0
def tw13899019399163659236:=0
def tw9220293217501697298:=0
def tw8475183835828350406:=0
def tw1828895981256930570:=0
def tw5820513152433104785:=0
def tw9552860389795388138:=0
def tw13622417782089760075:=0
def tw4198776317378141346:=0
def tw4652814998407512439:=0
def tw17659142761477476346:=0
def tw9790042996341930966:=0
def tw7723779223267048907:=0
def tw14841071278107967329:=0
def tw4157059358150653046:=0
def tw11763431813978209068:=0
def tw7186350724684226072:=0
def tw14079330119228735147:=0
def tw6368755265611226973:=0
def tw11813811082955315754:=0
def tw5241447075772211480:=0
def tw687943088043788318:=0
def tw16982667716859630728:=0
def tw17025838360919949321:=0
def tw5903420962015496972:=0
def tw15896050040812750583:=0
def tw17570453095797007321:=0
def tw4214457224936541980:=0
def tw6907778421326285030:=0
def tw4650833158223301406:=0
def tw8720477322169044838:=0
def tw17910093801734385477:=0
def tw13904283562423042236:=0
def tw9801267670226856187:=0
def tw2424318524173582919:=0
def tw2826745659383873647:=0
def tw12195606269826684049:=0
def tw5501312585580459792:=0
def tw13337757612728227221:=0
def tw15246379715379484810:=0
def tw17043229315411729126:=0
def tw8600067283183124515:=0
def tw11950771871273626892:=0
def tw12977185660824782186:=0
def tw17326056070052859295:=0
def tw11766697350224294757:=0
def tw7951377861826266771:=0
def tw7775477351967436642:=0
def tw3105603334884826591:=0
def tw10893254812329974668:=0
def tw5111721880968971759:=0
def tw10475965585764854359:=0
def tw7452236321440958608:=0
def tw11873878174675931105:=0
def tw17960945212721851091:=0
def tw10031646218631089309:=0
def tw12941985564403358757:=0
def tw5581894742452383206:=0
def tw6009658207595806758:=0
def tw9909448781526986809:=0
def tw5243939443864499364:=0
def tw1835371914562239508:=0
def tw17718217742342274621:=0
def tw16320174989078771752:=0
def tw7922763429819105148:=0
def tw15446822394520985977:=0
def tw16756435770883154230:=0
def tw15673045038771612391:=0
def tw11506700909711640214:=0
def tw11056338939107459299:=0
def tw7151902005063440076:=0
def tw14025660351361585187:=0
def tw4037512263667380761:=0
def tw11501471544917943299:=0
def tw4297401191449585731:=0
def tw3505121589307093168:=0
def tw14792817730614201769:=0
def tw2635418227993813070:=0
def tw1358578230994268353:=0
def tw6355683030925213874:=0
def tw17078836212386662303:=0
def tw4321701768776908312:=0
def tw4258976129649145562:=0
def tw15526756469258357641:=0
def tw10427289798659405968:=0
def tw8398444689987229115:=0
def tw10021147437706428275:=0
def tw11579273522451329321:=0
def tw4006577242655126406:=0
def tw16108931199507060959:=0
def tw6011539641706202365:=0
def tw2956161435192090744:=0
def tw14677405080699930878:=0
def tw13619022345118856553:=0
def tw3083194786177087760:=0
def tw4968358341626284000:=0
def tw9065326098799275099:=0
def tw8662094188400971971:=0
def tw3467668868610322252:=0
def tw17177199389414025419:=0
def tw10171259692728178190:=0
def tw5607258181147147229:=0
def tw13891166286498207111:=0
def tw13533365895784524674:=0
def tw5748800322376087766:=0
def tw10087181738098087512:=0
def tw15220261831914850706:=0
def tw1312697428743199434:=0
def tw10510954908399572682:=0
def tw10394198857696177369:=0
def tw3021192423374672032:=0
def tw14027298016068939378:=0
def tw7697755602297920346:=0
def tw1620974233280103698:=0
def tw3630315231453874008:=0
def tw13100186340786190130:=0
def tw10108909961915684949:=0
def tw15241332549235054862:=0
def tw6541515519150992925:=0
def tw8665720082572389112:=0
def tw6567645323090406605:=0
def tw9375166460167573246:=0
def tw8780442217742531023:=0
def tw9085807223338868288:=0
def tw16005583188242926520:=0
def tw11026658190053934128:=0
def tw11351285612210455897:=0
def tw5635704161677317768:=0
def tw15678118788836047117:=0
def tw4609749402086598551:=0
def tw6007264700296384007:=0
def tw1686909601001521027:=0
def tw3688730344670543259:=0
def tw3690812730857814593:=0
def tw3617285230978465192:=0
def tw6191517032084906339:=0
def tw12965666955705480088:=0
def tw13544929970946501441:=0
def tw13083693270037666445:=0
def tw10102215404951446951:=0
def tw11397938179473427205:=0
def tw14865652647322540736:=0
def tw6515711462719453633:=0
def tw12518122007045393046:=0
def tw16707550345468070255:=0
def tw15701614141947450011:=0
def tw8916633468165105387:=0
def tw954281277425700233:=0
def tw7822796110882247462:=0
def tw3526885303176946679:=0
def tw6177083067415155583:=0
def tw5068823386621749292:=0
def tw4670579675823928944:=0
def tw737046345039742827:=0
def tw7047600368496360127:=0
def tw10618370707571604854:=0
def tw11393842904199751565:=0
def tw3450829208057833187:=0
def tw14001765153080888109:=0
def tw11125304171695782713:=0
def tw9924372808198330134:=0
def tw7211831136372118267:=0
def tw1305210889793453180:=0
def tw2438830760462403101:=0
def tw10657628256660617580:=0
def tw13143374480090819221:=0
def tw14672553773998443414:=0
def tw8780621453620766897:=0
def tw11160205031714716678:=0
def tw12125098246102084741:=0
def tw16607938988822095184:=0
def tw9779750202435666552:=0
def tw6264584200990463453:=0
def tw17669094915669988960:=0
def tw9590031448678489944:=0
def tw16440668048454550859:=0
def tw15091385262754686602:=0
def tw13866193576408762490:=0
def tw4629174629578866727:=0
def tw6455652735194462123:=0
def tw11825110369236003817:=0
def tw14165520098752462042:=0
def tw5490118186726236504:=0
def tw6065027120812318572:=0
def tw1970449467641579020:=0
end PySem.W.Fast
set_option maxRecDepth 100000 in
set_option maxHeartbeats 0 in
theorem PySem.Challenge.cw_kinlook_k65_whole_parts_put_in_frames_holds : PySem.Challenge.rw_kinlook_k65_whole_parts_put_in_frames.Holds := by
 w_on;o_law;k_head;(case hw=>w_witness2)
 k_fill
 refine L2.Q.U6.walk (l:=PySem.Challenge.rw_kinlook_k65_whole_parts_put_in_frames) rfl rfl (λw h Y=>PySem.W.kIn_of Y) ?F
 case F =>
  intro w mg fa h KX G Q5
  refine' L2.Q.U6.all_mk KX G Q5 ..
  all_goals first|k_is|k_exc|kit_is|(refine' L2.Q.U6.Lj ..<;>first|k_is|skip)|skip
