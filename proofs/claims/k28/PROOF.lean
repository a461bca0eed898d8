import PyProof.Rows.All
import Wide.All
import OpenK.AllK
import Wide.FinOn
import Lean
import PyProof.EqAt
import PyProof.EqKinds
import PyProof.TupleCall
import PyProof.CompUse
import PyProof.NeData
import PyProof.WalksEnum
import PyProof.EnumMake
import PyProof.ZipIter
import PyProof.Rows.EnumRows
import PyProof.Rows.FactsT2
import KE.KDictList
import PyProof.Rows.SortRuns
import PyProof.Rows.SortWalk
import KE.KSortTup
import PyProof.Rows.SortStr
import PyProof.ListRange
import PyProof.StrOps2
import PyProof.StrBlock2
import PyProof.AutoIntG3
import PyProof.ListMulRight
import PyProof.Rows.ListMulArg
import PyProof.Rows.CallKwBuiltin
import PyProof.Rows.StrMul
import KE.KMinBuiltin
import PyProof.TupleKey
import PyProof.SetKind
import PyProof.Rows.SetFrom
import PyProof.DictWalks
import KE.KRevIter
import PyProof.NsDelKeeps
import PyProof.AutoSeq1
import KE.KItem
import PyProof.MeetsSeq
import PyProof.FactsAll.list_4
import PyProof.StrCalls2
import PyProof.StrLawsTight
import PyProof.Rows.StrNews2
import PyProof.Rows.StrLawsPart
import PyProof.Rows.StrFirst
import PyProof.CallStr
import KE.KIntText
import Wide.Seal
import KE.KRevSl
import PySem.Challenge.RW_kinlook_k28_told_in_words
open PySem.W renaming Frag->ay,findIn->kS,nsIn->kL,kitOne->oa,mg_none_of->vF,fnOf->qh,keepIn->ui,kia_one->xt,mg_of->uj,codeIn->B7,emptyDict->Fn,instObj->Fs,mroIn->Fu,isFn->IH,plainGet->QY,hasDictIn->S9,kitx_dict->S_,plainGet_of->VA,lookIn->Ta,callWith_K->VB,plainOver->VC,kitx_list->VD,excIn->Tb,takerIn->VF,makesIn->VG,OpenLaw->VH
open PySem renaming Value->ah,Addr->ae,wpAny_bind->bT,starEach->aT,sizeLine->bE,Shared->aE,wpAny_pure->dv,model->bq,Program->cq,wpAny->b6,eval->b3,mainGlobals->gE,World->cS,compareOp->hZ,Heap->dk,Around->ft,bootBuiltins->nL,sizeLine_eq->nS,backTo->gV,swapsWith->lP,attributeBase->vS,cLine->iE,FuncData->og,wpAny_mono->sD,wpAny_truthy_bool->B8,assignEach->sF,binaryOp->oz,Stmt->h8,foldedSetIterable->DU,wpAny_newObj_type->DV,sysModules->xv,keywordEach->A3,wpAny_loadPart_at->II,wpAny_typeNameOfWhole_keyiter->Tc,Keyword->uk,wpAny_passesOwn->IJ,behindInMarks->FC,wpAny_typeNameOf_keyiter->Td,wpAny_callSpecial?_slot->Te,wpAny_Call_Name_kw->Q6,typeIs_str->DZ,backToKw->A4,NameKind->A5,wpAny_call_entry->Q7,call_meets->FD,sliceBounds->IL
open List renaming mem_cons_of_mem->eI,mem_append_right->eT,length_map->dz,mem_cons_self->fA,mem_append->eR,mem_cons->eW,sublist_append_right->k9,nodup_append->g7,mem_append_left->kg,length_append->iq,mem_singleton->iP,getElem?_eq_some_iff->ng,map_cons->fR,size_toArray->kB,length_cons->jv,getElem?_eq_getElem->qk,append_nil->kM,getElem?_map->mz,mem_map->iX,nodup_nil->kT,length_take->mB,getD_eq_getElem?_getD->xA,mem_of_getElem?->rV,map_append->nh,append_assoc->pE,map_map->mh,drop_eq_getElem_cons->A6,nodup_cons->rX,getElem?_append_right->D1,mem_iff_getElem?->A7,mem_zipIdx_iff_getElem?->FE,length_reverse->A8,flatten_cons->An,take_add_one->Ap,replicate_succ->B9,all_eq_true->Au,nil_sublist->AA,reverse_reverse->D2,getElem?_append_left->IQ,take_length->A9,map_congr_left->D3,length_drop->Cb,filterMap_cons->FG,pairwise_iff_getElem->NC,find?_cons->Ct,getElem?_eq_none->IU,sublist_append_left->ND,reverse_cons->FH,take_of_length_le->NF,not_mem_nil->FI,cons_ne_nil->FK,all_cons->D4,any_cons->D5,dropLast_concat_getLast->Tf,append_eq_nil_iff->Q8,take_append_drop->Q9,mem_of_mem_take->Q_,mem_range->IX,drop_length->NH,length_eq_zero_iff->Tg,all_map->FL,reverse_eq_nil_iff->Ti,zip_cons_cons->Ra,foldl_cons->NJ,length_replicate->Tj,pairwise_map->Rb,foldl_append->Rc,flatMap_cons->Rf,getElem?_set_ne->Tn,length_dropLast->To,pairwise_append->Tp,mem_of_mem_drop->Tq,any_eq_true->Rg,extract_eq_drop_take->VJ,sum_cons->NM,getElem?_replicate->VL,length_range->Tr,length_singleton->VM,lookup_cons->Ts,getElem_mem->Tt,perm_append_comm->VN,cons_append->Tv,map_reverse->Tw,eq_nil_iff_forall_not_mem->xdw,dropLast_subset->VP,length_nil->Tx,length_zip->Tz,getLast?_eq_some_getLast->xdB,getElem?_range->VQ,reverse_append->VR,contains_cons->VS,ext_getElem?->VW,getElem_inj->VX,map_fst_zip->VY
open Nat renaming le_refl->c9,zero_le->gd,le_trans->kD,lt_of_lt_of_le->qo,ne_of_lt->kE,lt_irrefl->AB,le_of_lt->IY,lt_succ_of_lt->NR,add_sub_of_le->Rh,mul_le_mul->Ri,lt_of_succ_lt->VZ,le_of_eq->Rj,add_comm->Rk,ne_of_gt->TB,zero_add->TC,add_zero->TF,min_self->TH
open PyProof.Rows renaming wpS_bind->cx,arrOf->bI,wpS_pure->dr,Keyed->bX,SortSt->dP,kindOf->fw,pendingOf->nr,wpS_forRange->sL,envOfC->kN,failedOf->sM,SortKind->vT,wpS_mono->v3,wpS_modify->D6
open PySem.Heap renaming get?_push_of_some->ki,lt_size->gI,get?_push_size->oi,size_update->Rl,get?_push_ne->TJ
open Option renaming map_eq_some_iff->kr,bind_eq_some_iff->TK,map_some->NS,ne_none_iff_exists'->V0,isSome_iff_exists->V1,isSome_map->TL,map_eq_none_iff->V2,bind_some->TN
open Int renaming toNat_of_nonneg->kF,emod_lt_of_pos->oB,emod_nonneg->oC,toNat_natCast->CB,le_trans->AF,le_refl->AG,le_of_lt->IZ
open Bool renaming and_eq_true->nv,false_ne_true->pS,false_eq_true->yB,eq_iff_iff->D7,true_and->I0,not_eq_true'->V3
open Array renaming toList_push->sN,getElem?_toList->CC,length_toList->Bi,eq_empty_of_size_eq_zero->Rm,size_extract->Jn,append_assoc->Rn,getElem?_eq_none->TQ,getElem?_extract->TR,perm_iff_toList_perm->V4,getElem?_eq_some_iff->V5,toList_inj->TV,toList_extract->V6,append_empty->V7
open PySem.PyData renaming keyHash->Ro
def bv:Lean.Syntax:=(Lean.Unhygienic.run `(tacticSeq|rfl)).raw
local macro_rules | `(command| def $i:declId $s:optDeclSig $v:declVal)=>`(command| noncomputable def $i:declId $s:optDeclSig $v:declVal)
local macro_rules | `(command| abbrev $i:declId $s:optDeclSig $v:declVal)=>`(command| noncomputable abbrev $i:declId $s:optDeclSig $v:declVal)
set_option compiler.extract_closed false
def L2.eM{α β:Type _}{A B C:α->β->Prop}{G:Prop}(x:∃ a b,A a b/\B a b/\C a b)(k:∀ a b,A a b->B a b->C a b->G):G :=
 let ⟨a,b,p,q,r⟩:=x
 k a b p q r
set_option Elab.async false
set_option linter.all false
set_option maxHeartbeats 4000000
set_option maxRecDepth 100000
set_option linter.defProp false
section
open PySem PySem.Spec PyProof.Rows
set_option bootstrap.genMatcherCode false
set_option genSizeOf false
namespace L2
abbrev Key:=Sum Int Str
def JA:Key->ah->Bool
 |.inl k,v=>Value.isInt k v
 |.inr x,v=>Value.isStrOf x v
def eH'(w:cS):Key->Int
 |.inl k=>hashInt k
 |.inr x=>hashStr w x
theorem Bn:∀ {k:Key} {v:ah},JA k v=true->(∃ i t,k=Sum.inl i/\v=Value.int i t)\/(∃ x t,k=Sum.inr x/\v=Value.str x t)
 |.inl i,v,h=>by obtain⟨t,e⟩:=Value.isInt_shape h;exact .inl ⟨i,t,rfl,e⟩
 |.inr x,v,h=>by obtain⟨t,e⟩:=Value.isStrOf_shape h;exact .inr ⟨x,t,rfl,e⟩
def eI'(i:Int)(t:Tok):JA (.inl i) (.int i t)=true:=by simp[JA,Value.isInt]
def eJ'(x:Str)(t:Tok):JA (.inr x) (.str x t)=true:=by simp[JA,Value.isStrOf]
def eK'(a b:Int):decide ((Sum.inl a:Key)=Sum.inl b)=(a == b):=by
 by_cases e:a=b
 ·subst e;simp
 ·have h:¬ (Sum.inl a:Key)=Sum.inl b:=λq=>e (Sum.inl.inj q);rw[decide_eq_false h];exact(beq_eq_false_iff_ne.mpr e).symm
def eL'(a b:Str):decide ((Sum.inr a:Key)=Sum.inr b)=decide (a=b):=by
 by_cases e:a=b
 ·subst e;simp
 ·have h:¬ (Sum.inr a:Key)=Sum.inr b:=λq=>e (Sum.inr.inj q);rw[decide_eq_false h,decide_eq_false e]
def eM'(a:Int)(b:Str):decide ((Sum.inl a:Key)=Sum.inr b)=false:=decide_eq_false (λq=>nomatch q)
def eN'(a:Str)(b:Int):decide ((Sum.inr a:Key)=Sum.inl b)=false:=decide_eq_false (λq=>nomatch q)
def kG(prog:cq)(w:cS):PySem.KeyKind prog w Key where
 is:=JA
 hash:=eH' w
 inj:=λv a b ha hb=>by
  rcases Bn ha with⟨i,t,rfl,rfl⟩|⟨x,t,rfl,rfl⟩
  ·rcases Bn hb with⟨j,u,rfl,e⟩|⟨y,u,rfl,e⟩
   ·injection e with e1 _;rw[e1]
   ·exact nomatch e
  ·rcases Bn hb with⟨j,u,rfl,e⟩|⟨y,u,rfl,e⟩
   ·exact nomatch e
   ·injection e with e1 _;rw[e1]
 byValue:=λk v h=>by rcases Bn h with⟨i,t,rfl,rfl⟩|⟨x,t,rfl,rfl⟩<;>rfl
 pyHash:=λhv h=>by
  rcases Bn hv with⟨i,t,rfl,rfl⟩|⟨x,t,rfl,rfl⟩
  ·exact wpAny_pyHash_int h
  ·exact wpAny_pyHash_str h
 eqBool:=λhu hv h=>by
  rcases Bn hu with⟨i,t,rfl,rfl⟩|⟨x,t,rfl,rfl⟩
  ·rcases Bn hv with⟨j,u,rfl,rfl⟩|⟨y,u,rfl,rfl⟩
   ·rw[eK'] at h;exact wpAny_eqBool_int h
   ·rw[eM'] at h;exact SeqAt.EqAt.int_str i t y u _ _ _ _ h
  ·rcases Bn hv with⟨j,u,rfl,rfl⟩|⟨y,u,rfl,rfl⟩
   ·rw[eN'] at h;exact SeqAt.EqAt.str_int x t j u _ _ _ _ h
   ·rw[eL'] at h;exact wpAny_eqBool_str h
 «strs» := λk x t v h=>by
  rcases Bn h with⟨i,u,rfl,e⟩|⟨y,u,rfl,e⟩
  ·exact nomatch e
  ·injection e with e1 _;subst e1;cases v<;>rfl
def eO'(prog:cq)(w:cS)(i:Int)(t:Tok):(kG prog w).is (.inl i) (.int i t)=true:=eI' i t
def TX(prog:cq)(w:cS)(x:Str)(t:Tok):(kG prog w).is (.inr x) (.str x t)=true:=eJ' x t
inductive V where
 |non|bl (b:Bool)|int (i:Int)|str (x:Str)|xB (b:Array UInt8)|AH (b:UInt64)|ref (a:ae)|ty (n:String)
 deriving DecidableEq
set_option genInjectivity false
def RelV:V->ah->Prop
 |.non,u=>u=Value.none
 |.bl b,u=>u=Value.bool b
 |.int i,u=>∃ t,u=Value.int i t
 |.str x,u=>∃ t,u=Value.str x t
 |.xB b,u=>∃ t,u=Value.bytes b t
 |.AH b,u=>∃ t,u=Value.float b t
 |.ref a,u=>u=Value.ref a
 |.ty n,u=>u=Value.type n
abbrev Vals:List V->List ah->Prop:=Paired RelV
def Vals.length(r:Vals xs us):xs.length=us.length:=Paired.length r
theorem Vals.get:∀ {xs:List V} {us:List ah} {i:Nat} {x:V},Vals xs us->xs[i]? = some x->∃ u,us[i]? = some u/\RelV x u
 |_,_,_,_,.nil,e=>by simp at e
 |_,_,0,_,.cons r _,e=>by simp at e;subst e;exact⟨_,rfl,r⟩
 |_,_,i+1,x,.cons _ t,e=>by obtain⟨u,h1,h2⟩:=Vals.get t (by simpa using e);exact⟨u,by simpa using h1,h2⟩
theorem Vals.append:∀ {xs ys:List V} {us ws:List ah},Vals xs us->Vals ys ws->Vals (xs++ys) (us++ws)
 |_,_,_,_,.nil,s=>s
 |_,_,_,_,.cons r t,s=>.cons r (Vals.append t s)
theorem Vals.take:∀ {xs:List V} {us:List ah} (n:Nat),Vals xs us->Vals (xs.take n) (us.take n)
 |_,_,0,_=>.nil
 |_,_,_+1,.nil=>.nil
 |_,_,n+1,.cons r t=>.cons r (Vals.take n t)
theorem Vals.drop:∀ {xs:List V} {us:List ah} (n:Nat),Vals xs us->Vals (xs.drop n) (us.drop n)
 |_,_,0,r=>r
 |_,_,_+1,.nil=>.nil
 |_,_,n+1,.cons _ t=>Vals.drop n t
def sd:Option V->Option ah->Prop
 |some v,some u=>RelV v u
 |none,none=>True
 |_,_=>False
def KV{κ:Type}:List (κ × V)->List (κ × ah)->Prop:=Paired λ(p:κ × V) (q:κ × ah)=>p.1=q.1/\RelV p.2 q.2
def kV:Key->V
 |.inl i=>.int i
 |.inr x=>.str x
inductive HO where
 |lst (xs:List V)
 |tup (xs:List V)
 |dK (ag:List (Key × V))|dT (ag:List (List Key × V))
 |set (S:Int->Bool) (n:Nat)
 |ins (C dx:ae) (fs:List (Str × V))
 |own (x:ae)
 |xd (fs:List (Str × V))
 |met (f x:ae)
 |TY (lo hi:Int)
 |qq (o:Obj) (u:HO)
 |FP (ps:Array ah)
 |ext (φ:dk->Prop)
abbrev Hp:=ae->Option HO
def upd(H:Hp)(a:ae)(o:HO):Hp:=λb=>if b=a then some o else H b
def eJ:upd H a o a=some o:=by unfold upd;rw[if_pos rfl]
def df(h:b≠a):upd H a o b=H b:=by unfold upd;rw[if_neg h]
def eP'{H:Hp}{a b:ae}{o u:HO}(h:H a=some o)(h':H b=some u)(d:o≠u):a≠b:=by intro e;subst e;rw[h] at h';exact d (Option.some.inj h')
def sP{H:Hp}{a b:ae}{o:HO}(h:H a=some o)(h':H b=none):a≠b:=by intro e;subst e;rw[h] at h';cases h'
section
variable (P:cq)(w:cS)
def lS(H:Hp)(h:dk)(a:ae):HO->Prop
 |.lst xs=>xs.length<=bE/\∃ (its:List ah) (n:Nat),Vals xs its/\h.get? a=some { cls:=.type "list",data:=.seq its.toArray n }
 |.tup xs=>xs.length<=bE/\∃ its:List ah,Vals xs its/\IsTup h a its.toArray
 |.dK ag=>ag.length<=bE/\(a == xv)=false/\∃ vs,KV ag vs/\h.DictOf (kG P w) a vs
 |.dT ag=>ag.length<=bE/\(a == xv)=false/\∃ xs:List (List Key × ae × ah),
   Paired (λ(p:List Key × V) (q:List Key × ae × ah)=>p.1=q.1/\H q.2.1=some (.tup (p.1.map kV))/\RelV p.2 q.2.2) ag xs /\
   ∃ o es ep,h.get? a=some o/\o.ExactDict/\o.data=.dict es ep/\es.toList=xs.map (entryOfKey (tupleKind (kG P w)))/\(xs.map (·.1)).Nodup
 |.set S n=>h.SetOf (intKind P w) a S n
 |.ins C dx fs=>H dx=some (.own a)/\fs.length<=1000/\dx≠a/\h.get? a=some (Fs C dx) /\
   ∃ mA,h.Ns1 dx mA/\(∀ f,sd (fs.lookup f) (mA f))/\PySem.Within mA (fs.map (·.1))
 |.own _=>∃ o,h.get? a=some o
 |.xd fs=>∃ mA,h.Ns1 a mA/\∀ f,sd (fs.lookup f) (mA f)
 |.TY lo hi=>∃ t u v,h.get? a=some { cls:=.type "range",data:=.fields #[.int lo t,.int hi u,.int 1 v] }
 |.qq o u=>h.get? a=some o/\lS H h a u
 |.FP ps=>h.get? a=some { cls:=.none,data:=.fields ps }
 |.met f x=>h.get? a=some (PySem.W.methodObj (.ref f) (.ref x))
 |.ext φ=>φ h/\(∃ o,h.get? a=some o)/\∀ h1 h2:dk,φ h1->(∀ o,h1.get? a=some o->h2.get? a=some o)->φ h2
def ic(H:Hp)(h:dk):Prop:=∀ a o,H a=some o->lS P w H h a o
end
section
variable {P:cq}{w:cS}{H H':Hp}{h h':dk}{a:ae}{o:HO}
def lS.lt(x:lS P w H h a o):a<h.objs.size:=by
 cases o with
 |lst xs=>obtain⟨_,_,_,_,e⟩:=x;exact gI e
 |tup xs=>obtain⟨_,_,_,p⟩:=x;exact p.lt
 |dK ag=>obtain⟨_,_,_,_,o,_,_,e,_⟩:=x;exact gI e
 |dT ag=>obtain⟨_,_,_,_,o,_,_,e,_⟩:=x;exact gI e
 |set S n=>obtain⟨o,_,_,_,e,_⟩:=x;exact gI e
 |ins C dx fs=>obtain⟨_,_,_,e,_⟩:=x;exact gI e
 |own y=>obtain⟨_,e⟩:=x;exact gI e
 |xd fs=>obtain⟨_,⟨_,_,_,e,_⟩,_⟩:=x;exact gI e
 |TY lo hi=>obtain⟨_,_,_,e⟩:=x;exact gI e
 |qq ob u=>obtain⟨e,_⟩:=x;exact gI e
 |FP ps=>exact gI (x)
 |met f y=>exact gI (x)
 |ext φ=>obtain⟨_,⟨_,e⟩,_⟩:=x;exact gI e
theorem Paired.T1{α β:Type}{F G:α->β->Prop}:∀ {Rp:List α} {l₂:List β},Paired F Rp l₂->(∀ a b,F a b->G a b)->Paired G Rp l₂
 |_,_,.nil,_=>.nil
 |_,_,.cons r t,f=>.cons (f _ _ r) (Paired.T1 t f)
def Paired.imp'{α β:Type}{F G:α->β->Prop}(f:∀ a b,F a b->G a b){Rp:List α}{l₂:List β}(r:Paired F Rp l₂):Paired G Rp l₂:=Paired.T1 r f
def lS.fS(x:lS P w H h a o)(k:∀ b u,(b=a\/H b=some (.own a))->h.get? b=some u->h'.get? b=some u)(ho:∀ b,H b=some (.own a)->H' b=some (.own a)) (ht:∀ b xs,H b=some (.tup xs)->H' b=some (.tup xs)):lS P w H' h' a o:=by
 induction o with
 |lst xs=>obtain⟨z,its,n,r,e⟩:=x;exact⟨z,its,n,r,k _ _ (.inl rfl) e⟩
 |tup xs=>obtain⟨z,its,r,ob,e,c⟩:=x;exact⟨z,its,r,ob,k _ _ (.inl rfl) e,c⟩
 |dK ag=>obtain⟨z,y,vs,r,ob,es,ep,e,c⟩:=x;exact⟨z,y,vs,r,ob,es,ep,k _ _ (.inl rfl) e,c⟩
 |dT ag =>obtain⟨z,y,xs,r,ob,es,ep,e,c⟩:=x;exact⟨z,y,xs,Paired.T1 r λp q z=>⟨z.1,ht _ _ z.2.1,z.2.2⟩,ob,es,ep,k _ _ (.inl rfl) e,c⟩
 |set S n=>obtain⟨ob,es,ep,t,e,c⟩:=x;exact⟨ob,es,ep,t,k _ _ (.inl rfl) e,c⟩
 |ins C dx fs =>obtain⟨d,z,ne,e,mA,⟨od,es,ep,e2,c⟩,r⟩:=x;exact⟨ho _ d,z,ne,k _ _ (.inl rfl) e,mA,⟨od,es,ep,k _ _ (.inr d) e2,c⟩,r⟩
 |own y=>obtain⟨ob,e⟩:=x;exact⟨ob,k _ _ (.inl rfl) e⟩
 |xd fs=>obtain⟨mA,⟨od,es,ep,e,c⟩,r⟩:=x;exact⟨mA,⟨od,es,ep,k _ _ (.inl rfl) e,c⟩,r⟩
 |TY lo hi=>obtain⟨t,u,v,e⟩:=x;exact⟨t,u,v,k _ _ (.inl rfl) e⟩
 |qq ob u ih=>obtain⟨e,q⟩:=x;exact⟨k _ _ (.inl rfl) e,ih q⟩
 |FP ps =>have e:h.get? a=some { cls:=.none,data:=.fields ps }:=x;exact k a _ (.inl rfl) e
 |met f y =>have e:h.get? a=some (PySem.W.methodObj (.ref f) (.ref y)):=x;exact k a _ (.inl rfl) e
 |ext φ=>obtain⟨p,⟨o,e⟩,st⟩:=x;exact⟨st _ _ p λo q=>k _ _ (.inl rfl) q,⟨o,k _ _ (.inl rfl) e⟩,st⟩
def ic.lt(x:ic P w H h)(e:H a=some o):a<h.objs.size:=(x a o e).lt
def ic.fresh(x:ic P w H h)(e:h.objs.size<=a):H a=none:=by
 cases q:H a with
 |none=>rfl
 |some u=>exact absurd (qo (x.lt q) e) (AB _)
def ic.kept(x:ic P w H h)(k:∀ b u,h.get? b=some u->h'.get? b=some u):ic P w H h':=λa o e =>
 (x a o e).fS (λb u _ q=>k b u q) (λ_ q=>q) λ_ _ q=>q
def ic.laid(x:ic P w H h)(k:∀ b u,h.get? b=some u->h'.get? b=some u)(hp:h.objs.size<=a)(new:lS P w (upd H a o) h' a o):ic P w (upd H a o) h':=λb u e=>by
 have hn:=x.fresh hp;by_cases hb:b=a
 ·subst hb;rw[eJ] at e;cases e;exact new
 ·rw[df hb] at e;exact(x b u e).fS (λc v _ q=>k c v q) (λc q=>by rw[df (sP q hn)];exact q) λc xs q=>by rw[df (sP q hn)];exact q
end
def Rd(H:Hp)(a:ae)(u:HO):Prop:=H a=some u\/∃ o,H a=some (.qq o u)
def Rd.of(h:H a=some u):Rd H a u:=.inl h
def Rd.ok{P:cq}(r:Rd H a u)(x:ic P w H h):lS P w H h a u:=by
 rcases r with r|⟨o,r⟩
 ·exact x a u r
 ·obtain⟨_,q⟩:=x a _ r;exact q
def Rq:Option HO->Prop
 |some (.lst _)=>True
 |some (.dK _)=>True
 |some (.dT _)=>True
 |some (.set _ _)=>True
 |some (.ins _ _ _)=>True
 |some (.ext _)=>True
 |_=>False
section
variable {P:cq}{w:cS}{H:Hp}{h h':dk}{x e:ae}{o':HO}
def ic.write(ok:ic P w H h)(mu:Rq (H x))(he:e=x\/H e=some (.own x))(k:∀ b u,b≠e->h.get? b=some u->h'.get? b=some u)(NV:∃ u,h'.get? e=some u)(new:lS P w (upd H x o') h' x o'):ic P w (upd H x o') h':=λb u q=>by
 have aJ':∀ c y,H c=some (.own y)->c≠x:=λc y r z=>by subst z;rw[r] at mu;exact mu
 have eQ':∀ c xs,H c=some (.tup xs)->c≠x:=λc xs r z=>by subst z;rw[r] at mu;exact mu
 by_cases hb:b=x
 ·subst hb;rw[eJ] at q;cases q;exact new
 ·rw[df hb] at q;by_cases JJ:b=e
  ·have q':H b=some (.own x):=by
    rcases he with z|z
    ·exact absurd (JJ.trans z) hb
    ·rw[JJ];exact z
   rw[q] at q';cases q';obtain⟨v,hv⟩:=NV;exact⟨v,by rw[JJ];exact hv⟩
  ·refine(ok b u q).fS (λc v hc r=>k c v ?_ r) (λc r=>by rw[df (aJ' c b r)];exact r) λc xs r=>by rw[df (eQ' c xs r)];exact r
   rcases hc with rfl|hc
   ·exact JJ
   ·rintro rfl;rcases he with z|z
    ·exact aJ' c b hc z
    ·rw[hc] at z;cases z;exact hb rfl
end
structure Un(fs ex:List ae)(H H':Hp)(h h':dk):Prop where
 keep:∀ b o,h.get? b=some o->H b=none->b∉fs->b∉ex->h'.get? b=some o
 slot:∀ b o,h.get? b=some o->H b=none->b∈fs->b∉ex->∃ sl,h'.get? b=some { o with slots:=sl }
 free:∀ b o,h.get? b=some o->H b=none->b∉ex->H' b=none
 there:∀ b o,h.get? b=some o->b∉ex->∃ o',h'.get? b=some o'
 iF:∀ b xs,H b=some (.tup xs)->H' b=some (.tup xs)
 xC:∀ b o u,H b=some (.qq o u)->H' b=some (.qq o u)
 yT:∀ b ps,H b=some (.FP ps)->∃ more,H' b=some (.FP (ps++more))
section
variable {fs ex:List ae}{H H1:Hp}{h h1 h':dk}{a x e:ae}{o:HO}
def Un.any(u:Un fs ex H H1 h h1)(q:h.get? b=some ob)(n:H b=none)(hx:b∉ex):∃ sl,h1.get? b=some { ob with slots:=sl }:=by
 by_cases hb:b∈fs
 ·exact u.slot b ob q n hb hx
 ·exact⟨ob.slots,u.keep b ob q n hb hx⟩
def Un.kept(k:∀ b u,h.get? b=some u->h'.get? b=some u):Un fs ex H H h h' :=
 ⟨λb ob q _ _ _=>k b ob q,λb ob q _ _ _=>⟨ob.slots,k b ob q⟩,λ_ _ _ n _=>n,λb ob q _=>⟨ob,k b ob q⟩,λ_ _ q=>q,λ_ _ _ q=>q,λ_ ps q=>⟨#[],by rw[q];simp⟩⟩
def Un.refl:Un fs ex H H h h:=Un.kept λ_ _ q=>q
def Un.laid(k:∀ b u,h.get? b=some u->h'.get? b=some u)(hp:h.objs.size<=a)(hn:H a=none):Un fs ex H (upd H a o) h h' where
 keep:=λb u q _ _ _=>k b u q
 slot:=λb u q _ _ _=>⟨u.slots,k b u q⟩
 free:=λb u q n _=>by rw[df (kE (qo (gI q) hp))];exact n
 there:=λb u q _=>⟨u,k b u q⟩
 iF:=λb xs q=>by rw[df (sP q hn)];exact q
 xC:=λb u xs q=>by rw[df (sP q hn)];exact q
 yT:=λb ps q=>⟨#[],by rw[df (sP q hn),q];simp⟩
def Un.write(mu:Rq (H x))(he:e=x\/H e=some (.own x))(k:∀ b u,b≠e->h.get? b=some u->h'.get? b=some u)(NV:∃ u,h'.get? e=some u):Un fs ex H (upd H x o) h h':=by
 have hx:∀ b,H b=none->b≠x:=λb n z=>by subst z;rw[n] at mu;exact mu
 have hb:∀ b,H b=none->b≠e:=λb n z=>by
  subst z;rcases he with r|r
  ·exact hx b n r
  ·rw[n] at r;cases r
 have hm:∀ b u,H b=some u->¬ Rq (some u)->b≠x:=λb u q nm z=>by subst z;rw[q] at mu;exact nm mu
 refine⟨λb u q n _ _=>k b u (hb b n) q,λb u q n _ _=>⟨u.slots,k b u (hb b n) q⟩,λb u q n _=>by rw[df (hx b n)];exact n,λb u q _=>?_,
  λb xs q=>by rw[df (hm b _ q λz=>z)];exact q,λb u xs q=>by rw[df (hm b _ q λz=>z)];exact q,λb ps q=>⟨#[],by rw[df (hm b _ q λz=>z),q];simp⟩⟩
 by_cases JJ:b=e
 ·subst JJ;exact NV
 ·exact⟨u,k b u JJ q⟩
end
def T2(h:dk)(H:Hp):List ae:=(List.range h.objs.size).filter λa=>(H a).isSome
def D8(h:dk)(H:Hp):dk:=PySem.W.hideAll h (T2 h H)
def eR'(h:dk)(H:Hp):(D8 h H).objs.size=h.objs.size:=PySem.W.hideAll_size _ _
def eS'(e:h.get? b=some o)(n:H b=none):(D8 h H).get? b=some o :=
 PySem.W.hideAll_get _ e λhm=>by have q:(H b).isSome=true:=(List.mem_filter.mp hm).2;rw[n] at q;simp at q
def eT'(e:(D8 h H).get? b=some o):h.get? b=some o/\H b=none:=by
 have e':h.get? b=some o:=PySem.W.of_hideAll (T2 h H) e;refine⟨e',?_⟩
 cases q:H b with
 |none=>rfl
 |some x =>have hm:b∈T2 h H:=List.mem_filter.mpr ⟨IX.mpr (gI e'),by simp[q]⟩;have z:(D8 h H).get? b=none:=PySem.W.hideAll_none (T2 h H) hm;rw[z] at e;cases e
def eU'(g h:dk)(L:ae):List (ae × Obj):=(List.range h.objs.size).filterMap λa=>if a=L\/(g.get? a).isSome=true then none else (h.get? a).map λo=>(a,o)
def rest(g h:dk)(L d:ae):List (ae × Obj):=(eU' g h L).filter λp=>decide (p.1≠d)
structure Mod(K:ay)(mg:Str->Option ah)(base:dk):Prop where
 NW:K.In base
 glob:base.Ns gE mg
 blt:∃ mb,base.Ns builtinsNs mb/\∀ x:Str,x ≠ "__name__"->mb x=nL x
 nolimit:base.NoLimit
structure Cx where
 prog:cq
 w:cS
 K:ay
 mg:Str->Option ah
 base:dk
 A:ft
 N:List Str
 gL:aE
 D9:Hp
 env:Env
 outer:List Env
 stack:List Env
 ex:List ae
 fn:Str->Bool
 calm:Bool
 pn:List (ae × Obj)
 xe:ah->aE->Prop
def g9(l:List Env):List ae:=l.filterMap (·.frame)
abbrev Cx.fs(X:Cx):List ae:=g9 X.outer
def Rr(sc:Scope)(x:Str):Prop:=sc.names.lookup x=some .local\/sc.names.lookup x=some .cell\/sc.names.lookup x=some .free
def Loc(sc:Scope)(x:Str):Prop:=sc.names.lookup x=some .local\/sc.names.lookup x=some .cell
def Look(env:Env)(h:dk)(m:Str->Option ah)(x:Str)(u:ah):Prop :=
 (env.kindOf x=some .local/\m x=some u)\/((env.kindOf x=some .cell\/env.kindOf x=some .free)/\∃ c,env.cells.lookup x=some c/\h.IsCell c (some u))
structure Cx.Ok(X:Cx):Prop where
 mod:Mod X.K X.mg X.base
 kind:X.env.scope.kind=.function
 glob:X.env.globals=gE
 blt:X.env.builtins=builtinsNs
 above:X.gL.heap.objs.size<=X.env.locals
 inj:∀ x y c,X.env.cells.lookup x=some c->X.env.cells.lookup y=some c->x=y
 has:∀ x,(X.env.kindOf x=some .cell\/X.env.kindOf x=some .free)->∃ c,X.env.cells.lookup x=some c
 CD:∀ x c,X.fn x=true->X.env.cells.lookup x=some c->X.gL.heap.objs.size<=c
 hd:X.calm=true->X.A.handled=none
 frames:X.A.frames=some X.stack
 Ee:X.stack=X.outer\/(X.stack=X.env :: X.outer/\X.env.frame=some X.env.locals)
 EA:∀ b∈X.ex,b≠X.env.locals/\∀ x c,X.env.cells.lookup x=some c->c≠b
 bs:∀ b o,X.base.get? b=some o->X.gL.heap.get? b=some o/\X.D9 b=none
 xD:X.base.objs.size<=X.gL.heap.objs.size
 CF:∀ b o,X.base.get? b=some o->b∉X.ex
 CH:∀ b∈X.ex,b∉X.fs
 sQ:X.gL.heap.FunFrames X.base X.outer
 AI:∀ b∈X.fs,X.D9 b=none
structure Inv(X:Cx)(pins:List (ae × Obj))(σ:List (Option V))(H:Hp)(s:aE):Prop where
 ok:X.Ok
 os:s.os=X.gL.os
 bare:AllBare s.gens
 base:Un X.fs X.ex X.D9 H X.gL.heap s.heap
 loc:∃ m,s.heap.Ns X.env.locals m/\∀ (i:Nat) (x:Str) (v:V),X.N[i]? = some x->σ[i]? = some (some v)->Rr X.env.scope x->∃ u,RelV v u/\Look X.env s.heap m x u
 cell:∀ x c,X.env.cells.lookup x=some c->∃ v,s.heap.IsCell c v
 free:H X.env.locals=none
 sR:∀ x c,X.env.cells.lookup x=some c->H c=none
 pin:∀ p∈X.pn++pins,s.heap.get? p.1=some p.2/\H p.1=none/\p.1≠X.env.locals/\p.1∉X.fs/\∀ v,p.2.data≠.cell v
 bG:ic X.prog X.w H s.heap
 len:σ.length=X.N.length
section
variable {X:Cx}{pins:List (ae × Obj)}{σ:List (Option V)}{H H':Hp}{s:aE}{h':dk}
def Cx.Ok.eV'(ok:X.Ok)(e:X.base.get? b=some o):b∉X.fs:=λhb=>by have:=(ok.sQ.mem hb).1;rw[e] at this;cases this
def Inv.bs(I:Inv X pins σ H s):∀ b o,X.base.get? b=some o->s.heap.get? b=some o/\H b=none:=λb o e =>
 ⟨I.base.keep b o (I.ok.bs b o e).1 (I.ok.bs b o e).2 (I.ok.eV' e) (I.ok.CF b o e),I.base.free b o (I.ok.bs b o e).1 (I.ok.bs b o e).2 (I.ok.CF b o e)⟩
def Inv.bk(I:Inv X pins σ H s):∀ b o,X.base.get? b=some o->s.heap.get? b=some o:=λb o e=>(I.bs b o e).1
def Inv.mod(I:Inv X pins σ H s):Mod X.K X.mg X.base:=I.ok.mod
def Inv.iA(I:Inv X pins σ H s):X.K.In s.heap:=I.ok.mod.NW.keeps I.bk
def Inv.lt(I:Inv X pins σ H s):X.env.locals<s.heap.objs.size:=let ⟨_,hn,_⟩:=I.loc;hn.lt
def Inv.sz(I:Inv X pins σ H s):X.gL.heap.objs.size<=s.heap.objs.size:=kD I.ok.above (IY I.lt)
def Inv.eW'(I:Inv X pins σ H s)(h:s.heap.objs.size<=a):a∉X.fs:=λhb=>by obtain⟨_,o,ho,_⟩:=I.ok.sQ.mem hb;exact absurd (qo (gI ho) (kD I.sz h)) (AB _)
def Inv.EB(I:Inv X pins σ H s):∀ x c,X.env.cells.lookup x=some c->c≠X.env.locals:=λx c e z=>by obtain⟨v,o,ho,hd⟩:=I.cell x c e;obtain⟨m,⟨o',es,ep,wa,V8,_⟩,_⟩:=I.loc;rw[z,wa] at ho;cases ho;rw[V8] at hd;cases hd
def Inv.sQ(I:Inv X pins σ H s):s.heap.FunFrames X.base X.outer:=by
 have all:∀ l,(∀ b∈g9 l,b∈X.fs)->X.gL.heap.FunFrames X.base l->s.heap.FunFrames X.base l:=by
  intro l
  induction l with
  |nil=>intro _ _;trivial
  |cons env r ih =>intro hs hl;obtain⟨hk,⟨L,o,hf,hn,ho,hd⟩,hr⟩:=hl;have hL:L∈X.fs:=hs L (by unfold g9;rw[FG,hf];exact fA);obtain⟨sl,e⟩:=I.base.slot L o ho (I.ok.AI L hL) hL λz=>I.ok.CH L z hL;exact⟨hk,⟨L,_,hf,hn,e,hd⟩,ih (λb hb=>hs b (by unfold g9;rw[FG,hf];exact eI _ hb)) hr⟩
 exact all X.outer (λ_ hb=>hb) I.ok.sQ
def Inv.stack(I:Inv X pins σ H s):s.heap.FunFrames X.base X.stack:=by
 rcases I.ok.Ee with e|⟨e,hf⟩
 ·rw[e];exact I.sQ
 ·rw[e];obtain⟨m,hn,_⟩:=I.loc;refine .cons (by rw[I.ok.kind];decide) hf hn ?_ I.sQ;exact Heap.get?_none_of_le (kD I.ok.xD I.ok.above)
def Inv.V9(I:Inv X pins σ H s):∀ b∈g9 X.stack,b∈X.env.locals :: X.fs:=λb hb=>by
 rcases I.ok.Ee with e|⟨e,hf⟩
 ·rw[e] at hb;exact eI _ hb
 ·rw[e] at hb;unfold g9 at hb;rw[FG,hf] at hb;exact hb
def Inv.V_(I:Inv X pins σ H s):∀ b∈g9 X.stack,H b=none:=λb hb=>by
 rcases eW.mp (I.V9 b hb) with e|hb
 ·rw[e];exact I.free
 ·obtain⟨_,o,ho,_⟩:=I.ok.sQ.mem hb;exact I.base.free b o ho (I.ok.AI b hb) λz=>I.ok.CH b z hb
def Inv.step{g':Array GenState}{t':Nat}{d':Drawn}{ch:List ae}(I:Inv X pins σ H s)(CL:∀ b∈ch,(b∈X.ex\/X.gL.heap.objs.size<=b)/\b≠X.env.locals/\(∀ x c,X.env.cells.lookup x=some c->c≠b)/\∀ p∈X.pn++pins,p.1≠b)(keep:∀ b o,b≠X.env.locals->b∉X.fs->b∉ch->s.heap.get? b=some o->H b=none->h'.get? b=some o)(slot:∀ b o,b≠X.env.locals->b∈X.fs->b∉ch->s.heap.get? b=some o->H b=none->∃ sl,h'.get? b=some { o with slots:=sl }) (free:∀ b o,b∉ch->s.heap.get? b=some o->H b=none->H' b=none) (there:∀ b o,b∉ch->s.heap.get? b=some o->∃ o',h'.get? b=some o') (iF:∀ b xs,H b=some (.tup xs)->H' b=some (.tup xs)) (xC:∀ b o u,H b=some (.qq o u)->H' b=some (.qq o u)) (yT:∀ b ps,H b=some (.FP ps)->∃ more,H' b=some (.FP (ps++more))) (ns:∀ m,s.heap.Ns X.env.locals m->h'.Ns X.env.locals m) (bG:ic X.prog X.w H' h') (hg:AllBare g') :
  Inv X pins σ H' { s with heap:=h',gens:=g',drawn:=d',toks:=t' }:=by
 have Rt:∀ b o,X.gL.heap.get? b=some o->b≠X.env.locals:=λb o e=>kE (qo (gI e) I.ok.above);have T3:∀ b o,X.gL.heap.get? b=some o->b∉X.ex->b∉ch:=λb o e hx hb=>by
  rcases (CL b hb).1 with z|z
  ·exact hx z
  ·exact absurd (qo (gI e) z) (AB _)
 have cellK:∀ x c,X.env.cells.lookup x=some c->∀ v,s.heap.IsCell c v->h'.IsCell c v:=λx c e v dA=>by
  obtain⟨o,ho,hd⟩:=dA;have Ru:c∉ch:=λz=>(CL c z).2.2.1 x c e rfl;by_cases hc:c∈X.fs
  ·obtain⟨sl,q⟩:=slot c o (I.EB x c e) hc Ru ho (I.sR x c e);exact⟨_,q,hd⟩
  ·exact⟨o,keep c o (I.EB x c e) hc Ru ho (I.sR x c e),hd⟩
 refine⟨I.ok,I.os,hg,⟨λb o e n hb hx=>?_,λb o e n hb hx=>?_,λb o e n hx=>?_,λb o e hx=>?_,λb xs e=>iF b xs (I.base.iF b xs e),λb o xs e=>xC b o xs (I.base.xC b o xs e),λb ps e=>?_⟩,?_,λx c e=>?_,?_,λx c e=>?_,λp hp=>?_,bG,I.len⟩
 ·exact keep b o (Rt b o e) hb (T3 b o e hx) (I.base.keep b o e n hb hx) (I.base.free b o e n hx)
 ·obtain⟨sl,e1⟩:=I.base.slot b o e n hb hx;obtain⟨T4,e2⟩:=slot b _ (Rt b o e) hb (T3 b o e hx) e1 (I.base.free b o e n hx);exact⟨T4,e2⟩
 ·obtain⟨o',e1⟩:=I.base.there b o e hx;exact free b o' (T3 b o e hx) e1 (I.base.free b o e n hx)
 ·obtain⟨o',e1⟩:=I.base.there b o e hx;exact there b o' (T3 b o e hx) e1
 ·obtain⟨m1,e1⟩:=I.base.yT b ps e;obtain⟨m2,e2⟩:=yT b _ e1;exact⟨m1++m2,by rw[e2,Rn]⟩
 ·obtain⟨m,hn,hl⟩:=I.loc;refine⟨m,ns m hn,λi x v e1 e2 e3=>?_⟩;obtain⟨u,r,l⟩:=hl i x v e1 e2 e3;refine⟨u,r,?_⟩;rcases l with l|⟨k,c,e,z⟩
  ·exact .inl l
  ·exact .inr ⟨k,c,e,cellK x c e _ z⟩
 ·obtain⟨v,z⟩:=I.cell x c e;exact⟨v,cellK x c e v z⟩
 ·obtain⟨m,⟨o,_,_,ho,_⟩,_⟩:=I.loc;exact free _ o (λz=>(CL _ z).2.1 rfl) ho I.free
 ·obtain⟨v,o,ho,hd⟩:=I.cell x c e;exact free c o (λz=>(CL c z).2.2.1 x c e rfl) ho (I.sR x c e)
 ·obtain⟨e,n,ne,nf,d⟩:=I.pin p hp;have Ru:p.1∉ch:=λz=>(CL p.1 z).2.2.2 p hp rfl;exact⟨keep p.1 p.2 ne nf Ru e n,free p.1 p.2 Ru e n,ne,nf,d⟩
def Inv.un{t':Nat}(I:Inv X pins σ H s)(u:Un X.fs [] H H' s.heap h')(bG:ic X.prog X.w H' h'):Inv X pins σ H' { s with heap:=h',toks:=t' }:=by
 obtain⟨m,⟨o,es,ep,ho,r⟩,_⟩:=id I.loc;obtain⟨sl,hL⟩:=u.any ho I.free (by simp);exact I.step (ch:=[]) (λ_ z=>nomatch z) (λb o _ hb _ e n=>u.keep b o e n hb (by simp)) (λb o _ hb _ e n=>u.slot b o e n hb (by simp)) (λb o _ e n=>u.free b o e n (by simp)) (λb o _ e=>u.there b o e (by simp)) u.iF u.xC u.yT (λm' hm=>by
  obtain⟨o',Wa,Wb,wa,r'⟩:=hm;rw[ho] at wa;cases wa;exact⟨_,Wa,Wb,hL,r'⟩) bG I.bare
def Inv.call{g':Array GenState}{t':Nat}{d':Drawn}{ch:List ae}(I:Inv X pins σ H s)(u:Un (g9 X.stack) ch H H' s.heap h')(bG:ic X.prog X.w H' h')(hg:AllBare g')(CL:∀ b∈ch,(b∈X.ex\/X.gL.heap.objs.size<=b)/\b≠X.env.locals/\(∀ x c,X.env.cells.lookup x=some c->c≠b)/\∀ p∈X.pn++pins,p.1≠b) :
  Inv X pins σ H' { s with heap:=h',gens:=g',drawn:=d',toks:=t' }:=by
 obtain⟨m,⟨o,es,ep,ho,r⟩,_⟩:=id I.loc;obtain⟨sl,hL⟩:=u.any ho I.free λz=>(CL _ z).2.1 rfl;exact I.step CL (λb o hL hb hc e n=>u.keep b o e n (λz=>(eW.mp (I.V9 b z)).elim hL hb) hc) (λb o _ _ hc e n=>u.any e n hc) (λb o hc e n=>u.free b o e n hc) (λb o hc e=>u.there b o e hc) u.iF u.xC u.yT (λm' hm=>by
  obtain⟨o',Wa,Wb,wa,r'⟩:=hm;rw[ho] at wa;cases wa;exact⟨_,Wa,Wb,hL,r'⟩) bG hg
def Inv.turned{t':Nat}{it:ae}(I:Inv X pins σ H s)(k:∀ b o,b≠it->s.heap.get? b=some o->h'.get? b=some o)(hn:H it=none)(hL:it≠X.env.locals)(h1:it∈X.ex\/X.gL.heap.objs.size<=it) (h2:∀ x c,X.env.cells.lookup x=some c->c≠it) (h3:∀ p∈X.pn++pins,p.1≠it):Inv X pins σ H { s with heap:=h',toks:=t' }:=by
 have FR:∀ b u,H b=some u->b≠it:=λb u e z=>by rw[z,hn] at e;cases e
 refine I.step (ch:=[it]) (λb hb=>?_) (λb o _ _ hc e _=>k b o (λz=>hc (by simp[z])) e) (λb o _ _ hc e _=>⟨o.slots,k b o (λz=>hc (by simp[z])) e⟩) (λ_ _ _ _ n=>n) (λb o hc e=>⟨o,k b o (λz=>hc (by simp[z])) e⟩) (λ_ _ e=>e) (λ_ _ _ e=>e) (λb ps e=>⟨#[],by rw[e];simp⟩) (λm hm=>?_) (λb u e=>?_) I.bare
 ·have e:b=it:=by simpa using hb
  subst e;exact⟨h1,hL,h2,h3⟩
 ·obtain⟨o,es,ep,ho,r⟩:=hm;exact⟨o,es,ep,k _ o (Ne.symm hL) ho,r⟩
 ·refine(I.bG b u e).fS (λc v hc q=>k c v ?_ q) (λ_ q=>q) λ_ _ q=>q;rcases hc with z|z
  ·rw[z];exact FR b u e
  ·exact FR c _ z
def Inv.tok(I:Inv X pins σ H s)(t:Nat):Inv X pins σ H { s with toks:=t }:=I.un Un.refl I.bG
def Inv.kept(I:Inv X pins σ H s)(k:∀ b u,s.heap.get? b=some u->h'.get? b=some u):Inv X pins σ H { s with heap:=h',toks:=t' }:=I.un (Un.kept k) (I.bG.kept k)
def Inv.laid(I:Inv X pins σ H s)(k:∀ b u,s.heap.get? b=some u->h'.get? b=some u)(hp:s.heap.objs.size<=a)(new:lS X.prog X.w (upd H a o) h' a o) :
  Inv X pins σ (upd H a o) { s with heap:=h',toks:=t' }:=I.un (Un.laid k hp (I.bG.fresh hp)) (I.bG.laid k hp new)
def Inv.write(I:Inv X pins σ H s)(mu:Rq (H x))(he:e=x\/H e=some (.own x))(k:∀ b u,b≠e->s.heap.get? b=some u->h'.get? b=some u)(NV:∃ u,h'.get? e=some u)(new:lS X.prog X.w (upd H x o) h' x o):Inv X pins σ (upd H x o) { s with heap:=h',toks:=t' }:=I.un (Un.write mu he k NV) (I.bG.write mu he k NV new)
def Inv.aK'(I:Inv X pins σ H s)(h:∀ p∈se,s.heap.get? p.1=some p.2/\H p.1=none/\p.1≠X.env.locals/\p.1∉X.fs/\∀ v,p.2.data≠.cell v):Inv X se σ H s :=
 ⟨I.ok,I.os,I.bare,I.base,I.loc,I.cell,I.free,I.sR,λp hp=>(eR.mp hp).elim (λz=>I.pin p (kg _ z)) (h p),I.bG,I.len⟩
def aL'{N:List Str}(hN:N.Nodup){i j:Nat}{x:Str}(a:N[i]? = some x)(b:N[j]? = some x):i=j:=by obtain⟨h1,e1⟩:=ng.mp a;obtain⟨h2,e2⟩:=ng.mp b;exact(VX hN).mp (e1.trans e2.symm)
def Wc{M:Model}{A:ft}{E:ah->aE->Prop}{i:Nat}{x:Str}{v:V}{u:ah}{Q:Unit->aE->Prop}(I:Inv X pins σ H s)(hN:X.N.Nodup)(hi:X.N[i]? = some x)(hx:Loc X.env.scope x)(r:RelV v u)(h:∀ s',Inv X pins (σ.set i (some v)) H s'->(∃ a,Heap.SameBut a s.heap s'.heap/\(a=X.env.locals\/X.env.cells.lookup x=some a))->Q () s') (hf:X.fn x=true\/X.env.scope.names.lookup x=some .local:=by first|exact .inl rfl|exact .inr rfl|assumption):b6 M A (storeName X.env x u) Q E s:=by
 obtain⟨m,hn,hl⟩:=id I.loc;have Wd:(X.env.scope.kind == .class || (X.env.scope.kind == .module && X.env.locals != X.env.globals))=false:=by rw[I.ok.kind];rfl
 have aM':i<σ.length:=by rw[I.len];exact(ng.mp hi).1
 have EB:=I.EB;have tracked:∀ {a:ae} {h':dk},(∃ o,s.heap.get? a=some o/\H a=none)->Heap.SameBut a s.heap h'->ic X.prog X.w H h':=λ{a h'} ha hs b ob e=>by
  obtain⟨_,_,aN'⟩:=ha;refine(I.bG b ob e).fS (λc w' hc q=>(hs.2 c ?_).trans q) (λ_ q=>q) λ_ _ q=>q;rintro rfl;rcases hc with rfl|hc
  ·rw[aN'] at e;cases e
  ·rw[aN'] at hc;cases hc
 rcases hx with hk|hk
 ·refine wpAny_storeName_local hk hn (λh' FT hs=>?_) Wd;obtain⟨oL,_,_,Rv,_⟩:=id hn;refine h _ ⟨I.ok,I.os,I.bare,⟨λb o e n hb hx=>?_,λb o e n hb hx=>?_,I.base.free,λb o e hx=>?_,I.base.iF,I.base.xC,I.base.yT⟩,⟨_,FT,λj y v' e1 e2 e3=>?_⟩,λy c e=>?_,I.free,I.sR,λp hp=>?_,tracked ⟨oL,Rv,I.free⟩ hs,by simpa using I.len⟩ ⟨_,hs,.inl rfl⟩
  ·exact(hs.2 b (kE (qo (gI e) I.ok.above))).trans (I.base.keep b o e n hb hx)
  ·obtain⟨sl,e1⟩:=I.base.slot b o e n hb hx;exact⟨sl,(hs.2 b (kE (qo (gI e) I.ok.above))).trans e1⟩
  ·obtain⟨o',e1⟩:=I.base.there b o e hx;exact⟨o',(hs.2 b (kE (qo (gI e) I.ok.above))).trans e1⟩
  ·by_cases hj:j=i
   ·subst hj;rw[hi] at e1;cases e1;rw[List.getElem?_set_self aM'] at e2;cases e2;exact⟨u,r,.inl ⟨hk,by simp⟩⟩
   ·rw[Tn (Ne.symm hj)] at e2;obtain⟨u',r',q⟩:=hl j y v' e1 e2 e3;refine⟨u',r',?_⟩;rcases q with⟨k,e⟩|⟨k,c,e,z⟩
    ·refine .inl ⟨k,?_⟩;have:y≠x:=λe=>hj (aL' hN e1 (e ▸ hi));simp[this,e]
    ·exact .inr ⟨k,c,e,z.sameBut hs (EB y c e)⟩
  ·obtain⟨w',z⟩:=I.cell y c e;exact⟨w',z.sameBut hs (EB y c e)⟩
  ·obtain⟨e,n,ne,nf,d⟩:=I.pin p hp;exact⟨(hs.2 p.1 ne).trans e,n,ne,nf,d⟩
 ·have Rx:X.fn x=true:=by
   rcases hf with z|z
   ·exact z
   ·rw[z] at hk;cases hk
  obtain⟨c,hc⟩:=I.ok.has x (.inl hk);obtain⟨w',z⟩:=I.cell x c hc;refine wpAny_storeName_cell I.ok.kind hk hc z (λh' Ry hs=>?_);obtain⟨oc,T5,eX'⟩:=id z;refine h { s with heap:=h' } ⟨I.ok,I.os,I.bare,⟨λb o e n hb hx=>?_,λb o e n hb hx=>?_,I.base.free,λb o e hx=>?_,I.base.iF,I.base.xC,I.base.yT⟩,⟨m,hn.sameBut hs (Ne.symm (EB x c hc)),λj y v' e1 e2 e3=>?_⟩,λy c' e=>?_,I.free,I.sR,λp hp=>?_,tracked ⟨oc,T5,I.sR x c hc⟩ hs,by simpa using I.len⟩ ⟨c,hs,.inr hc⟩
  ·exact(hs.2 b (kE (qo (gI e) (I.ok.CD x c Rx hc)))).trans (I.base.keep b o e n hb hx)
  ·obtain⟨sl,e1⟩:=I.base.slot b o e n hb hx;exact⟨sl,(hs.2 b (kE (qo (gI e) (I.ok.CD x c Rx hc)))).trans e1⟩
  ·obtain⟨o',e1⟩:=I.base.there b o e hx;exact⟨o',(hs.2 b (kE (qo (gI e) (I.ok.CD x c Rx hc)))).trans e1⟩
  ·by_cases hj:j=i
   ·subst hj;rw[hi] at e1;cases e1;rw[List.getElem?_set_self aM'] at e2;cases e2;exact⟨u,r,.inr ⟨.inl hk,c,hc,Ry⟩⟩
   ·rw[Tn (Ne.symm hj)] at e2;obtain⟨u',r',q⟩:=hl j y v' e1 e2 e3;refine⟨u',r',?_⟩;rcases q with q|⟨k,c',e,z'⟩
    ·exact .inl q
    ·refine .inr ⟨k,c',e,z'.sameBut hs ?_⟩;rintro rfl;exact hj (aL' hN e1 (I.ok.inj _ _ _ e hc ▸ hi))
  ·by_cases T6:c'=c
   ·subst T6;exact⟨_,Ry⟩
   ·obtain⟨w2,z2⟩:=I.cell y c' e;exact⟨w2,z2.sameBut hs T6⟩
  ·obtain⟨e,n,ne,nf,d⟩:=I.pin p hp;refine⟨(hs.2 p.1 ?_).trans e,n,ne,nf,d⟩;intro q;rw[q,T5] at e;have q':oc=p.2:=Option.some.inj e;exact d w' (by rw[<- q'];exact eX')
def aO'(I:Inv X pins σ H s)(hN:X.N.Nodup)(hi:X.N[i]? = some x)(hx:Loc X.env.scope x)(r:RelV v u)(h:∀ s',Inv X pins (σ.set i (some v)) H s'->Q () s') (hf:X.fn x=true\/X.env.scope.names.lookup x=some .local:=by first|exact .inl rfl|exact .inr rfl|assumption):b6 M A (storeName X.env x u) Q E s :=
 Wc I hN hi hx r (λs' I' _=>h s' I') hf
def Inv.eY'(I:Inv X pins σ H s)(ho:s'.os=s.os)(u:Un (g9 X.stack) ch H H' s.heap s'.heap)(bG:ic X.prog X.w H' s'.heap)(hg:AllBare s'.gens)(CL:∀ b∈ch,(b∈X.ex\/X.gL.heap.objs.size<=b)/\b≠X.env.locals/\(∀ x c,X.env.cells.lookup x=some c->c≠b)/\∀ p∈X.pn++pins,p.1≠b):Inv X pins σ H' s':=by
 obtain⟨h',g',d',t',o'⟩:=s';have e:o'=s.os:=ho;subst e;exact I.call u bG hg CL
end
abbrev XK:=ah->Option ae->Hp->Prop
abbrev St:=List (Option V)
abbrev VK:=V->Hp->Prop
abbrev TE:=St->Hp->VK->Prop
abbrev TT:=St->Hp->(Bool->Hp->Prop)->Prop
abbrev TA:=St->Hp->(List V->Hp->Prop)->Prop
structure Ends where
 nx:St->Hp->Prop
 rt:VK
 bk:St->Hp->Prop:=fun _ _=>False
 ct:St->Hp->Prop:=fun _ _=>False
abbrev TS:=Ends->St->Hp->Prop
def EP(X:Cx)(pins:List (ae × Obj))(σ:St)(Q:VK)(u:ah)(s':aE):Prop:=∃ v H',Inv X pins σ H' s'/\RelV v u/\Q v H'
def TP(X:Cx)(pins:List (ae × Obj))(σ:St)(Q:Bool->Hp->Prop)(b:Bool)(s':aE):Prop:=∃ H',Inv X pins σ H' s'/\Q b H'
def AP(X:Cx)(pins:List (ae × Obj))(σ:St)(Q:List V->Hp->Prop)(us:List ah)(s':aE):Prop:=∃ vs H',Inv X pins σ H' s'/\Vals vs us/\Q vs H'
def SP(X:Cx)(pins:List (ae × Obj))(D:Ends)(f:Flow)(s':aE):Prop :=
 match f with
 |.next=>∃ b4 H',Inv X pins b4 H' s'/\D.nx b4 H'
 |.brk=>∃ b4 H',Inv X pins b4 H' s'/\D.bk b4 H'
 |.cont=>∃ b4 H',Inv X pins b4 H' s'/\D.ct b4 H'
 |.ret u=>∃ v b4 H',Inv X pins b4 H' s'/\RelV v u/\D.rt v H'
def PE(X:Cx)(e:Expr)(t:TE):Prop :=
 ∀ (pins:List (ae × Obj)) (s:aE) (σ:St) (H:Hp) (Q:VK),Inv X pins σ H s->t σ H Q->b6 (bq X.prog X.w) X.A (b3 e X.env) (EP X pins σ Q) X.xe s
def PT(X:Cx)(e:Expr)(t:TT):Prop :=
 ∀ (pins:List (ae × Obj)) (s:aE) (σ:St) (H:Hp) (Q:Bool->Hp->Prop),Inv X pins σ H s->t σ H Q->b6 (bq X.prog X.w) X.A (isTrue e X.env (b3 e X.env)) (TP X pins σ Q) X.xe s
def PW(X:Cx)(e:Expr)(t:TT):Prop :=
 ∀ (whole:Sem ah) (pins:List (ae × Obj)) (s:aE) (σ:St) (H:Hp) (Q:Bool->Hp->Prop),Inv X pins σ H s->t σ H Q->b6 (bq X.prog X.w) X.A (isTrue e X.env whole) (TP X pins σ Q) X.xe s
def PA(X:Cx)(es:List Expr)(t:TA):Prop :=
 ∀ (pos:Pos) (pins:List (ae × Obj)) (s:aE) (σ:St) (H:Hp) (Q:List V->Hp->Prop),Inv X pins σ H s->t σ H Q->b6 (bq X.prog X.w) X.A (spliced (gV pos (aT es X.env))) (AP X pins σ Q) X.xe s
def PS(X:Cx)(st:h8)(t:TS):Prop :=
 ∀ (pins:List (ae × Obj)) (s:aE) (σ:St) (H:Hp) (D:Ends),Inv X pins σ H s->t D σ H->b6 (bq X.prog X.w) X.A (exec st X.env) (SP X pins D) X.xe s
def mE(X:Cx)(st:List h8)(t:TS):Prop :=
 ∀ (pins:List (ae × Obj)) (s:aE) (σ:St) (H:Hp) (D:Ends),Inv X pins σ H s->t D σ H->b6 (bq X.prog X.w) X.A (execs st X.env) (SP X pins D) X.xe s
def cv{α:Type}{t:Sem α}{Q Q':α->aE->Prop}{M:Model}{A:ft}{E:ah->aE->Prop}{s:aE}(h:b6 M A t Q E s)(hQ:∀ a s,Q a s->Q' a s):b6 M A t Q' E s:=sD h hQ λ_ _ x=>x
section
variable {X:Cx}
def jI(i:Nat):TE:=λσ H Q=>∃ v,σ[i]? = some (some v)/\Q v H
def tC(v:V):TE:=λ_ H Q=>Q v H
def Rz (hN:X.N[i]? = some x) (hv:Rr X.env.scope x) (hd:(x == ("__debug__" : Str))=false:=by decide) (qA:(x == ("__classdict__" : Str))=false:=by decide):PE X (.Name x pos) (jI i):=by
 intro pins s σ H Q I h;obtain⟨v,e,h⟩:=h;obtain⟨m,hn,hl⟩:=I.loc;obtain⟨u,r,l⟩:=hl i x v hN e hv;have fin:EP X pins σ Q u s:=⟨v,H,I,r,h⟩
 rcases l with⟨hk,hm⟩|⟨hk,c,hc,aP'⟩
 ·exact wpAny_Name (wpAny_loadName_local I.ok.kind hk hn hm fin) hd
 ·rcases hk with hk|hk
  ·exact wpAny_Name (wpAny_loadName_cell I.ok.kind hk hc aP' fin) hd
  ·exact wpAny_Name (wpAny_loadName_free I.ok.kind hk hc aP' fin qA) hd
def eZ'{i j pos}:PE X (.Constant (.int i) j pos) (tC (.int i)):=λ_ _ _ H _ I h=>wpAny_Constant_int ⟨.int i,H,I.tok _,⟨_,rfl⟩,h⟩
def fa'{b j pos}:PE X (.Constant (.bool b) j pos) (tC (.bl b)):=λ_ _ _ H _ I h=>Constant_bool ⟨.bl b,H,I,rfl,h⟩
def fc'{j pos}:PE X (.Constant .none j pos) (tC .non):=λ_ _ _ H _ I h=>Constant_none ⟨.non,H,I,rfl,h⟩
def RA{x j pos}:PE X (.Constant (.str x) j pos) (tC (.str x)):=λ_ _ _ H _ I h=>Calls.Constant_str ⟨.str x,H,I.tok _,⟨_,rfl⟩,h⟩
def Gl(X:Cx)(x:Str):Prop:=X.env.kindOf x=some .globalImplicit
def JY(I:Inv X pins σ H s)(hg:Gl X x)(hm:X.mg x=some u)(h:Q u s)(hd:(x == ("__debug__" : Str))=false:=by decide):b6 (bq X.prog X.w) X.A (b3 (.Name x pos) X.env) Q E s :=
 Calls.Name_function_global I.ok.kind hg (Calls.loadGlobal_global (by rw[I.ok.glob];exact I.mod.glob.keeps I.bk) hm h) hd
def FU(I:Inv X pins σ H s)(hg:Gl X x)(hm:X.mg x=none)(hv:nL x=some u)(h:Q u s)(hn:x ≠ "__name__" := by decide) (hd:(x == ("__debug__" : Str))=false:=by decide):b6 (bq X.prog X.w) X.A (b3 (.Name x pos) X.env) Q E s:=by
 obtain⟨mb,h1,h2⟩:=I.mod.blt;exact Calls.Name_function_global I.ok.kind hg (Calls.loadGlobal_builtin (by rw[I.ok.glob];exact I.mod.glob.keeps I.bk) hm (by rw[I.ok.blt];exact h1.keeps I.bk) ((h2 x hn).trans hv) h) hd
def NX (hg:Gl X x) (hm:X.mg x=some u) (r:RelV v u) (hd:(x == ("__debug__" : Str))=false:=by decide):PE X (.Name x pos) (tC v) :=
 λ_ _ _ H _ I h=>JY I hg hm ⟨v,H,I,r,h⟩ hd
def fd' (hg:Gl X x) (hm:X.mg x=none) (hv:nL x=some u) (r:RelV v u) (hn:x ≠ "__name__" := by decide) (hd:(x == ("__debug__" : Str))=false:=by decide):PE X (.Name x pos) (tC v) :=
 λ_ _ _ H _ I h=>FU I hg hm hv ⟨v,H,I,r,h⟩ hn hd
variable {a b:Expr}{ta tb:TE}{pos:Pos}
def PC(X:Cx)(op:CmpOp)(a b:Expr)(t:TE):Prop :=
 ∀ (pins:List (ae × Obj)) (s:aE) (σ:St) (H:Hp) (Q:VK),Inv X pins σ H s->t σ H Q ->
  b6 (bq X.prog X.w) X.A (b3 a X.env) (λv fz=>b6 (bq X.prog X.w) X.A (b3 b X.env) (λu Bz=>b6 (bq X.prog X.w) X.A (hZ op v u) (EP X pins σ Q) X.xe Bz) X.xe fz) X.xe s
def tB(t:TE):TT:=λσ H Q=>t σ H λx H1=>∃ c,x=.bl c/\Q c H1
def fe'(h:PC X op a b t)(h1:FC op b=false:=by first|exact qa' _ (by decide) (by decide)|rfl):PT X (.Compare a [op] [b] pos) (tB t):=by intro pins s σ H Q I hw;refine wpAny_isTrue_Compare1 (cv (h pins s σ H _ I hw) λv s1 h1=>cv h1 λu s2 h2=>cv h2 λc s3 ck=>L2.eM ck λx H1 I1 r1 q1=>?_) h1;obtain⟨d,rfl,q⟩:=q1;cases r1;exact B8 ⟨H1,I1,q⟩
def fg'(h:PE X e t)(he:∀ whole,isTrue e X.env whole=(do let v <- whole;standAt e.pos;holding [v] (truthy v)):=by intro _;rfl):PT X e (tB t):=by intro pins s σ H Q I hw;refine isTrue_plain (cv (h pins s σ H _ I hw) λv s1 ck=>L2.eM ck λx H1 I1 r1 q1=>?_) (he _);obtain⟨d,rfl,q⟩:=q1;cases r1;exact B8 ⟨H1,I1,q⟩
variable {tA tB':TT}{rest:List Expr}
def tOr(t u:TT):TT:=λσ H Q=>t σ H λc H1=>if c=true then Q true H1 else u σ H1 Q
def fi'(t:TT):TT:=λσ H Q=>t σ H λc H1=>Q (!c) H1
def pw_or1(ha:PT X a tA):PW X (.BoolOp .Or [a] pos) tA:=by
 intro wh pins s σ H Q I h;refine isTrue_or (cv (ha pins s σ H Q I h) λc s1 e=>?_)
 cases c with
 |false=>exact isTrue_or_nil e
 |true=>exact e
def pw_or(ha:PT X a tA)(hb:PW X (.BoolOp .Or (b :: rest) pos) tB'):PW X (.BoolOp .Or (a :: b :: rest) pos) (tOr tA tB'):=by
 intro wh pins s σ H Q I h;refine isTrue_or (cv (ha pins s σ H _ I h) λc s1 dA=>?_);obtain⟨H1,I1,q1⟩:=dA
 cases c with
 |true=>exact⟨H1,I1,q1⟩
 |false=>exact hb wh pins s1 σ H1 Q I1 q1
def fj'(ha:PT X a tA):PT X (.UnaryOp .Not a pos) (fi' tA):=by intro pins s σ H Q I h;exact isTrue_not (ha pins s σ H (λc H1=>Q (!c) H1) I h)
def fk'(ta tb:TE):TE:=λσ H Q=>ta σ H λx H1=>∃ c,x=.bl c/\if c=true then tb σ H1 Q else Q (.bl false) H1
def fm'(ta tb:TE):TE:=λσ H Q=>ta σ H λx H1=>∃ c,x=.bl c/\if c=true then Q (.bl true) H1 else tb σ H1 Q
def fn'(ta:TE):TE:=λσ H Q=>ta σ H λx H1=>∃ c,x=.bl c/\Q (.bl (!c)) H1
def fo'{op}(h:PE X a t):PE X (.BoolOp op [a] pos) t:=λpins s σ H Q I hw=>BoolOp_one (h pins s σ H Q I hw)
def fp'(ha:PE X a ta)(hb:PE X (.BoolOp .And (b :: rest) pos) tb):PE X (.BoolOp .And (a :: b :: rest) pos) (fk' ta tb):=by
 intro pins s σ H Q I h;refine BoolOp_and (cv (ha pins s σ H _ I h) λv s1 ck=>L2.eM ck λx H1 I1 r1 q1=>?_);obtain⟨c,rfl,q1⟩:=q1;cases r1;refine B8 ?_
 cases c with
 |true=>exact hb pins s1 σ H1 Q I1 q1
 |false=>exact⟨.bl false,H1,I1,rfl,q1⟩
def fq'(ha:PE X a ta)(hb:PE X (.BoolOp .Or (b :: rest) pos) tb):PE X (.BoolOp .Or (a :: b :: rest) pos) (fm' ta tb):=by
 intro pins s σ H Q I h;refine BoolOp_or (cv (ha pins s σ H _ I h) λv s1 ck=>L2.eM ck λx H1 I1 r1 q1=>?_);obtain⟨c,rfl,q1⟩:=q1;cases r1;refine B8 ?_
 cases c with
 |false=>exact hb pins s1 σ H1 Q I1 q1
 |true=>exact⟨.bl true,H1,I1,rfl,q1⟩
def fr'(ha:PE X a ta):PE X (.UnaryOp .Not a pos) (fn' ta):=by intro pins s σ H Q I h;refine UnaryOp_ (cv (ha pins s σ H _ I h) λv s1 ck=>L2.eM ck λx H1 I1 r1 q1=>?_);obtain⟨c,rfl,q1⟩:=q1;cases r1;exact not_of (B8 ⟨.bl (!c),H1,I1,rfl,q1⟩)
def tIf(t:TT)(ta tb:TE):TE:=λσ H Q=>t σ H λc H1=>if c=true then ta σ H1 Q else tb σ H1 Q
def ft'(hc:PT X c tA)(ha:PE X a ta)(hb:PE X b tb):PE X (.IfExp c a b pos) (tIf tA ta tb):=by
 intro pins s σ H Q I h;refine wpAny_IfExp (cv (hc pins s σ H _ I h) λd s1 dA=>?_);obtain⟨H1,I1,q1⟩:=dA
 cases d with
 |true=>exact ha pins s1 σ H1 Q I1 q1
 |false=>exact hb pins s1 σ H1 Q I1 q1
end
def e7(K:ay)(H:Hp)(a:ae)(xs:List V):Prop :=
 Rd H a (.lst xs) \/
  ∃ (o:Obj) (its:Array ah) (n:Nat),K.lookup a=some o/\o.cls=.type "list"/\o.dict=none/\o.data=.seq its n/\its.size<=bE/\Vals xs its.toList
def kU(K:ay)(H:Hp)(a:ae)(xs:List V):Prop :=
 Rd H a (.tup xs) \/
  ∃ (o:Obj) (its:Array ah) (n:Nat),K.lookup a=some o/\o.cls=.type "tuple"/\o.data=.seq its n/\its.size<=bE/\Vals xs its.toList
def fu':ah->Option V
 |.none=>some .non
 |.bool b=>some (.bl b)
 |.int i _=>some (.int i)
 |.str x _=>some (.str x)
 |.bytes b _=>some (.xB b)
 |.float b _=>some (.AH b)
 |.ref a=>some (.ref a)
 |.type n=>some (.ty n)
 |_=>none
def RelV.abs(r:RelV x u):fu' u=some x:=by
 cases x with
 |non=>cases r;rfl
 |bl _=>cases r;rfl
 |int _=>obtain⟨t,rfl⟩:=r;rfl
 |str _=>obtain⟨t,rfl⟩:=r;rfl
 |xB _=>obtain⟨t,rfl⟩:=r;rfl
 |AH _=>obtain⟨t,rfl⟩:=r;rfl
 |ref _=>cases r;rfl
 |ty _=>cases r;rfl
def RelV.inj(r:RelV x u)(q:RelV y u):x=y:=Option.some.inj (r.abs.symm.trans q.abs)
theorem Vals.inj:∀ {xs ys:List V} {us:List ah},Vals xs us->Vals ys us->xs=ys
 |_,_,_,.nil,.nil=>rfl
 |_,_,_,.cons r t,.cons r' t'=>by rw[r.inj r',Vals.inj t t']
section
variable {X:Cx}{pins:List (ae × Obj)}{σ:St}{H:Hp}{s:aE}{a:ae}{xs ys:List V}
def e7.of{K:ay}(h:H a=some (.lst xs)):e7 K H a xs:=.inl (.inl h)
def kU.of{K:ay}(h:H a=some (.tup xs)):kU K H a xs:=.inl (.inl h)
def Inv.list(I:Inv X pins σ H s)(h:e7 X.K H a xs):∃ its:List ah,Vals xs its/\PlainL s.heap a its.toArray/\xs.length<=bE:=by
 rcases h with h|⟨o,its,n,hk,hc,hd,hs,hz,r⟩
 ·obtain⟨z,its,n,r,e⟩:=h.ok I.bG;exact⟨its,r,⟨_,n,e,rfl,rfl,rfl⟩,z⟩
 ·refine⟨its.toList,r,⟨o,n,I.iA a o hk,hc,hd,by simpa using hs⟩,?_⟩;have e:=r.length;simp only[Bi] at e;lia
def Inv.tuple(I:Inv X pins σ H s)(h:kU X.K H a xs):∃ its:List ah,Vals xs its/\IsTup s.heap a its.toArray/\xs.length<=bE:=by
 rcases h with h|⟨o,its,n,hk,hc,hs,hz,r⟩
 ·obtain⟨z,its,r,p⟩:=h.ok I.bG;exact⟨its,r,p,z⟩
 ·refine⟨its.toList,r,⟨o,I.iA a o hk,hc,n,by simpa using hs⟩,?_⟩;have e:=r.length;simp only[Bi] at e;lia
def Inv.Wg(I:Inv X pins σ H s)(h:e7 X.K H a xs)(h':e7 X.K H a ys):xs=ys:=by
 obtain⟨its,r,⟨o,n,e,_,_,d⟩,_⟩:=I.list h;obtain⟨Kb,r',⟨o',n',e',_,_,d'⟩,_⟩:=I.list h';rw[e] at e';cases e';rw[d] at d';injection d' with d1 _;have:its=Kb:=by simpa using congrArg Array.toList d1
 subst this;exact r.inj r'
def Inv.fv'(I:Inv X pins σ H s)(h:kU X.K H a xs)(h':kU X.K H a ys):xs=ys:=by
 obtain⟨its,r,⟨o,e,_,n,d⟩,_⟩:=I.tuple h;obtain⟨Kb,r',⟨o',e',_,n',d'⟩,_⟩:=I.tuple h';rw[e] at e';cases e';rw[d] at d';injection d' with d1 _;have:its=Kb:=by simpa using congrArg Array.toList d1
 subst this;exact r.inj r'
end
abbrev Cx.wish(X:Cx)(E:ah->aE->Prop):Cx:={ X with xe:=E }
abbrev Cx.xE(X:Cx):Cx:=X.wish λ_ _=>False
def Cx.Ok.wish{X:Cx}(ok:X.Ok)(E:ah->aE->Prop):(X.wish E).Ok :=
 ⟨ok.mod,ok.kind,ok.glob,ok.blt,ok.above,ok.inj,ok.has,ok.CD,ok.hd,ok.frames,ok.Ee,ok.EA,ok.bs,ok.xD,ok.CF,ok.CH,ok.sQ,ok.AI⟩
def Cx.Ok.FV{X:Cx}(ok:(X.wish E).Ok):X.Ok :=
 ⟨ok.mod,ok.kind,ok.glob,ok.blt,ok.above,ok.inj,ok.has,ok.CD,ok.hd,ok.frames,ok.Ee,ok.EA,ok.bs,ok.xD,ok.CF,ok.CH,ok.sQ,ok.AI⟩
section
variable {X:Cx}{pins:List (ae × Obj)}{σ:St}{H:Hp}{s:aE}{E:ah->aE->Prop}
def Inv.wish(I:Inv X pins σ H s)(E:ah->aE->Prop):Inv (X.wish E) pins σ H s:=⟨I.ok.wish E,I.os,I.bare,I.base,I.loc,I.cell,I.free,I.sR,I.pin,I.bG,I.len⟩
def Inv.FV(I:Inv (X.wish E) pins σ H s):Inv X pins σ H s:=⟨I.ok.FV,I.os,I.bare,I.base,I.loc,I.cell,I.free,I.sR,I.pin,I.bG,I.len⟩
def SP.FV{D:Ends}(h:SP (X.wish E) pins D f s'):SP X pins D f s':=by
 cases f with
 |next=>obtain⟨b4,H',I,q⟩:=h;exact⟨b4,H',I.FV,q⟩
 |brk=>obtain⟨b4,H',I,q⟩:=h;exact⟨b4,H',I.FV,q⟩
 |cont=>obtain⟨b4,H',I,q⟩:=h;exact⟨b4,H',I.FV,q⟩
 |ret u=>obtain⟨v,b4,H',I,r,q⟩:=h;exact⟨v,b4,H',I.FV,r,q⟩
def mE.xE{st:List h8}(h:mE X.xE st t):mE X st t:=λpins s σ H D I hw =>
 sD (h pins s σ H D (I.wish _) hw) (λ_ _ q=>q.FV) λ_ _ z=>False.elim z
end
section
variable {X:Cx}{st:h8}{rest:List h8}{t u:TS}{e:Expr}{te:TE}{pos:Pos}
def aR':TS:=λD σ H=>D.nx σ H
def RB(t u:TS):TS:=λD σ H=>t { D with nx:=u D } σ H
def Wh:mE X [] aR':=λ_ _ σ H _ I h=>wpAny_execs_nil ⟨σ,H,I,h⟩
def T7(h1:PS X st t)(h2:mE X rest u):mE X (st :: rest) (RB t u):=by
 intro pins s σ H D I h;refine wpAny_execs_cons (cv (h1 pins s σ H { D with nx:=u D } I h) λf s1 q=>?_)
 cases f with
 |next =>obtain⟨b4,H',I',q⟩:=q;exact h2 pins s1 b4 H' D I' q
 |ret v=>exact q
 |brk=>exact q
 |cont=>exact q
def RC(h1:PS X st t):mE X [st] t:=by
 intro pins s σ H D I h;refine wpAny_execs_cons (cv (h1 pins s σ H D I h) λf s1 q=>?_)
 cases f with
 |next=>exact wpAny_execs_nil q
 |ret v=>exact q
 |brk=>exact q
 |cont=>exact q
def Inv.quiet(I:Inv X pins σ H s):interactive X.env=false:=by simp[interactive,I.ok.kind]
def aS'(te:TE):TS:=λD σ H=>te σ H λ_ H1=>D.nx σ H1
def N0(he:PE X e te)(hs:autoParam (lP e none pos.line X.env=pure false) bv):PS X (.Expr e pos) (aS' te):=by intro pins s σ H D I h;exact wpAny_Expr_any (cv (he pins s σ H _ I h) λv s1 ck=>L2.eM ck λx H1 I1 r1 q1=>⟨σ,H1,I1,q1⟩) I.quiet hs
def T8(te:TE):TS:=λD σ H=>te σ H D.rt
def Ki(he:PE X e te):PS X (.Return (some e) pos) (T8 te):=by intro pins s σ H D I h;exact wpAny_Return_some (cv (he pins s σ H _ I h) λv s1 ck=>L2.eM ck λx H1 I1 r1 q1=>⟨x,σ,H1,I1,r1,q1⟩)
def aT'(c:TT)(t u:TS):TS:=λD σ H=>c σ H λb H1=>if b=true then t D σ H1 else u D σ H1
def aU'(hc:PT X c tc)(ha:mE X a t)(hb:mE X b u):PS X (.If c a b pos) (aT' tc t u):=by
 intro pins s σ H D I h;refine wpAny_If (cv (hc pins s σ H _ I h) λd s1 dA=>?_);obtain⟨H1,I1,q1⟩:=dA
 cases d with
 |true=>exact ha pins s1 σ H1 D I1 q1
 |false=>exact hb pins s1 σ H1 D I1 q1
end
abbrev TG:=V->St->Hp->(St->Hp->Prop)->Prop
abbrev N3:=List V->St->Hp->(St->Hp->Prop)->Prop
def PG(X:Cx)(target:Expr)(t:TG):Prop :=
 ∀ (pins:List (ae × Obj)) (s:aE) (σ:St) (H:Hp) (v:V) (u:ah) (Q:St->Hp->Prop),Inv X pins σ H s->RelV v u->t v σ H Q ->
  b6 (bq X.prog X.w) X.A (assign target X.env u) (λ_ s'=>∃ b4 H',Inv X pins b4 H' s'/\Q b4 H') X.xe s
def CM(X:Cx)(ts:List Expr)(t:N3):Prop :=
 ∀ (pins:List (ae × Obj)) (s:aE) (σ:St) (H:Hp) (vs:List V) (us:List ah) (Q:St->Hp->Prop),Inv X pins σ H s->Vals vs us->t vs σ H Q ->
  b6 (bq X.prog X.w) X.A (assignInOrder ((sF ts X.env).map (·.2)) us) (λ_ s'=>∃ b4 H',Inv X pins b4 H' s'/\Q b4 H') X.xe s
section
variable {X:Cx}{pos:Pos}
def Wi(i:Nat):TG:=λv σ H Q=>Q (σ.set i (some v)) H
def Wj(hN:X.N.Nodup)(hi:X.N[i]? = some x)(hx:Loc X.env.scope x)(hf:X.fn x=true\/X.env.scope.names.lookup x=some .local:=by first|exact .inl rfl|exact .inr rfl|assumption):PG X (.Name x pos) (Wi i):=by intro pins s σ H v u Q I r h;exact wpAny_assign_Name (aO' I hN hi hx r (λs' I'=>⟨_,H,I',h⟩) hf)
def fw':N3:=λvs σ H Q=>vs=[]/\Q σ H
def fx'(t:TG)(u:N3):N3:=λvs σ H Q=>∃ v r,vs=v :: r/\t v σ H λb4 H'=>u r b4 H' Q
def aV':CM X [] fw':=by intro pins s σ H vs us Q I r h;obtain⟨e,h⟩:=h;subst e;cases r;exact assignInOrder_nil ⟨σ,H,I,h⟩
def Wk(h1:PG X e t)(h2:CM X es u)(hs:autoParam ((sF (e :: es) X.env).map (·.2)=assign e X.env :: (sF es X.env).map (·.2)) bv):CM X (e :: es) (fx' t u):=by
 intro pins s σ H vs us Q I r h;obtain⟨v,vr,e1,h⟩:=h;subst e1
 cases r with
 |cons r rr =>rw[hs];refine assignInOrder_cons (cv (h1 pins s σ H _ _ _ I r h) λ_ s1 dA=>?_);obtain⟨N4,H1,I1,q1⟩:=dA;exact h2 pins s1 N4 H1 _ _ Q I1 rr q1
def fy'(K:ay)(n:Nat)(t:N3):TG:=λv σ H Q=>∃ a xs,v=.ref a/\kU K H a xs/\xs.length=n/\t xs σ H Q
def aW'(hc:X.calm=true)(h:CM X es t)(hn:autoParam ((sF es X.env).length=n) bv) (pT:autoParam ((sF es X.env).findIdx? (·.1)=none) bv):PG X (.Tuple es k pos) (fy' X.K n t):=by
 intro pins s σ H v u Q I r hw;obtain⟨a,xs,e1,hq,hl,hw⟩:=hw;subst e1;cases r;obtain⟨its,rv,ht,hz⟩:=I.tuple hq;refine assign_Tuple_tuple (I.ok.hd hc) ht (by simp[hn,<- hl,rv.length]) pT λh' hx=>?_;have I1:Inv X pins σ H { s with heap:=h' }:=I.kept λb o e=>hx b o (kE (gI e)) e;exact h pins _ σ H xs _ Q I1 (by simpa using rv) hw
def Wl(te:TE)(g:TG):TS:=λD σ H=>te σ H λx H1=>g x σ H1 D.nx
def fz'(he:PE X e te)(hg:PG X tg g)(hs:autoParam (swapsWithSole [tg] e pos.line X.env=pure false) bv)(hw:autoParam (swappedStores [tg] e X.env=pure none) bv) (h1:autoParam ((sF [tg] X.env).map (·.2)=[assign tg X.env]) bv):PS X (.Assign [tg] e pos) (Wl te g):=by
 intro pins s σ H D I h;refine wpAny_Assign_stores (cv (he pins s σ H _ I h) λv s1 ck=>L2.eM ck λx H1 I1 r1 q1=>?_) hs hw;rw[h1];exact cv (hg pins s1 σ H1 x v _ I1 r1 q1) λ_ s2 q=>q
def Kj(hN:X.N.Nodup)(hi:X.N[i]? = some x)(hx:Loc X.env.scope x)(he:PE X e te)(hs:autoParam (lP e (some (.Name x pos')) pos.line X.env=pure false) bv)(hf:X.fn x=true\/X.env.scope.names.lookup x=some .local:=by first|exact .inl rfl|exact .inr rfl|assumption) :
  PS X (.Assign [.Name x pos'] e pos) (Wl te (Wi i)):=by
 intro pins s σ H D I h;refine wpAny_Assign_Name (cv (he pins s σ H _ I h) λv s1 ck=>L2.eM ck λy H1 I1 r1 q1=>?_) hs;exact aO' I1 hN hi hx r1 (λs2 I2=>⟨_,H1,I2,q1⟩) hf
def fA'(c:TT)(tb:TS):TS:=λD σ H=>∃ W:Nat->St->Hp->Prop,(∃ m,W m σ H)/\∀ m σ H,W m σ H ->
 c σ H λb H1=>if b=true then ∃ N:St->Hp->Prop,(∀ b4 H',N b4 H'->∃ m',m'<m/\W m' b4 H')/\tb { D with nx:=N,ct:=N,bk:=D.nx } σ H1 else D.nx σ H1
def fB'(hp:PassesOwn (bq X.prog X.w) X.A X.env X.xe)(hc:PT X c tc)(hb:mE X body tb):PS X (.While c body [] pos) (fA' tc tb):=by
 intro pins s σ H D I h;obtain⟨W,⟨m0,w0⟩,turn⟩:=h;refine wpAny_While (codeAny_whileLoop (λn s'=>∃ b4 H',Inv X pins b4 H' s'/\W n b4 H') ?_ m0 ⟨σ,H,I,w0⟩);rintro n s1 ⟨N4,H1,I1,w1⟩;refine IJ hp (cv (hc pins s1 N4 H1 _ I1 (turn n N4 H1 w1)) λb s2 dA=>?_);obtain⟨H2,I2,q2⟩:=dA
 cases b with
 |true =>
  obtain⟨N,hN,q2⟩:=q2;refine IJ hp (cv (hb pins s2 N4 H2 _ I2 q2) λf s3 q3=>?_)
  cases f with
  |next =>obtain⟨qB,H3,I3,n3⟩:=q3;obtain⟨m',hm,w3⟩:=hN qB H3 n3;exact⟨m',hm,qB,H3,I3,w3⟩
  |cont =>obtain⟨qB,H3,I3,n3⟩:=q3;obtain⟨m',hm,w3⟩:=hN qB H3 n3;exact⟨m',hm,qB,H3,I3,w3⟩
  |brk=>exact q3
  |ret v=>exact q3
 |false =>exact wpAny_execs_nil ⟨N4,H2,I2,q2⟩
end
structure It where
 go:Nat->Hp->Prop
 mG:Nat->Hp->V->Hp->Prop
 stop:Nat->Hp->Prop
def y1(X:Cx)(pins:List (ae × Obj))(H:Hp)(b:ae):Prop :=
 H b=none/\b≠X.env.locals/\b∉X.fs/\(b∈X.ex\/X.gL.heap.objs.size<=b)/\(∀ x c,X.env.cells.lookup x=some c->c≠b)/\∀ p∈X.pn++pins,p.1≠b
def Inv.FX{X:Cx}(I:Inv X pins σ H s)(hb:s.heap.objs.size<=b)(hn:H' b=none):y1 X pins H' b:=by
 refine⟨hn,TB (qo I.lt hb),I.eW' hb,.inr (kD I.sz hb),λx c e z=>?_,λp hp z=>?_⟩
 ·obtain⟨v,q⟩:=I.cell x c e;exact absurd (qo q.lt (by rw[z];exact hb)) (AB _)
 ·exact absurd (qo (gI (I.pin p hp).1) (by rw[z];exact hb)) (AB _)
structure Turn(P:cq)(w:cS)(K:ay)(tg:Expr)(J:It)(fp:List ae)(it:ae)(tn:Nat->dk->Prop):Prop where
 mem:it∈fp
 obj:∀ i h,tn i h->∀ b∈fp,∃ o,h.get? b=some o/\∀ v,o.data≠.cell v
 keep:∀ i h h',tn i h->(∀ b∈fp,∀ o,h.get? b=some o->h'.get? b=some o)->tn i h'
 item:∀ (X:Cx),X.prog=P->X.w=w->X.K=K->X.calm=true->∀ (i:Nat) (pins:List (ae × Obj)) (s:aE) (σ:St) (H:Hp) (E:ah->aE->Prop),Inv X pins σ H s->(∀ b∈fp,y1 X pins H b)->tn i s.heap->J.go i H ->
  b6 (bq P w) X.A (pyNext (.ref it)) (fun r s1=>∃ u,r=some u /\
   b6 (bq P w) X.A (letOwnedTupleGo tg (.ref it) u) (fun _ s2=>∃ x H',Inv X pins σ H' s2/\RelV x u/\J.mG i H x H'/\tn (i+1) s2.heap/\∀ b∈fp,H' b=none) E s1) E s
 done:∀ (X:Cx),X.prog=P->X.w=w->X.K=K->X.calm=true->∀ (i:Nat) (pins:List (ae × Obj)) (s:aE) (σ:St) (H:Hp) (E:ah->aE->Prop),Inv X pins σ H s->(∀ b∈fp,y1 X pins H b)->tn i s.heap->J.stop i H ->
  b6 (bq P w) X.A (pyNext (.ref it)) (fun r s1=>r=none/\Inv X pins σ H s1) E s
 self:∀ (A:ft) (i:Nat) (s:aE) (Q:ah->aE->Prop) (E:ah->aE->Prop),tn i s.heap->Q (.ref it) s->b6 (bq P w) A (pyIter (.ref it)) Q E s
abbrev TI:=St->Hp->(It->Hp->Prop)->Prop
def PIE(X:Cx)(pins:List (ae × Obj))(σ:St)(tg:Expr)(R:It->Hp->Prop)(Wm:ah)(s2:aE):Prop :=
 ∃ (it:ae) (fp:List ae) (tn:Nat->dk->Prop) (J:It) (H':Hp),Wm=.ref it/\Inv X pins σ H' s2/\Turn X.prog X.w X.K tg J fp it tn/\tn 0 s2.heap/\(∀ b∈fp,y1 X pins H' b)/\R J H'
def PI(X:Cx)(tg iter:Expr)(wi:TI):Prop :=
 ∀ (pins:List (ae × Obj)) (s:aE) (σ:St) (H:Hp) (R:It->Hp->Prop),Inv X pins σ H s->wi σ H R ->
  b6 (bq X.prog X.w) X.A (b3 iter X.env) (λv s1=>b6 (bq X.prog X.w) X.A (pyIter v) (PIE X pins σ tg R) X.xe s1) X.xe s
def N9(ho:s.heap.get? it=some o)(hc:o.cls=.type n)(hd:o.data=.fields vs)(hn:["enumerate", "zip", "dict_itemiterator", "dict_reverseitemiterator", "odict_iterator", "itertools.zip_longest", "itertools.pairwise"].contains n=false) (hQ:Q () s):b6 M A (letOwnedTupleGo tg (.ref it) u) Q E s:=by
 cases tg<;>first
  |exact dv hQ
  | (cases u<;>first
     |exact dv hQ
     | (refine bT (wpAny_load ho ?_)
        rw[hc,hd];show b6 M A (if (["enumerate", "zip", "dict_itemiterator", "dict_reverseitemiterator", "odict_iterator", "itertools.zip_longest", "itertools.pairwise"].contains n && vs[0]? == some (rawInt _))=true then _ else _) Q E s;rw[if_neg (by intro h;rw[hn,Bool.false_and] at h;cases h)];exact dv hQ))
def T9(K:ay)(a:ae):It :=
 ⟨λi H=>∃ xs x,e7 K H a xs/\xs[i]? = some x,λi H x H'=>H'=H/\∀ xs,e7 K H a xs->xs[i]? = some x,λi H=>∃ xs,e7 K H a xs/\xs.length<=i⟩
def Wn(K:ay)(a:ae):It :=
 ⟨λi H=>∃ xs x,kU K H a xs/\xs[i]? = some x,λi H x H'=>H'=H/\∀ xs,kU K H a xs->xs[i]? = some x,λi H=>∃ xs,kU K H a xs/\xs.length<=i⟩
def Kk(lo:Int)(n:Nat):It:=⟨λi _=>i<n,λi H x H'=>H'=H/\x=.int (lo+i),λi _=>n<=i⟩
def fC'{P:cq}{K:ay}(a it:ae):Turn P w K tg (T9 K a) [it] it (λi h=>h.IsListIter it a i) where
 mem:=by simp
 obj:=λi h st b hb=>by
  have e:b=it:=by simpa using hb
  subst e;obtain⟨o,e,c,d⟩:=st;exact⟨o,e,λv z=>by rw[d] at z;cases z⟩
 keep:=λi h h' st k=>st.at λo e=>k it (by simp) o e
 item:=by intro X hP hw hK hc i pins s σ H E I hf st hg;subst hP hw hK;obtain⟨xs,x,hq,hx⟩:=hg;obtain⟨its,rv,p,hz⟩:=I.list hq;obtain⟨u,hu,ru⟩:=rv.get hx;obtain⟨f0,f1,f2,f3,f4,f5⟩:=hf it (by simp);refine wpAny_pyNext_list_item st p.isList (x:=u) (by simpa using hu) λh' av sb=>?_;have I1:Inv X pins σ H { s with heap:=h' }:=I.turned (t':=s.toks) (λb o hb e=>(sb.2 b hb).trans e) f0 f1 f3 f4 f5;obtain⟨o,e,c,d⟩:=id av;exact⟨u,rfl,N9 (s:={ s with heap:=h' }) e c d (by decide) ⟨x,H,I1,ru,⟨rfl,λys hy=>by rw[I.Wg hy hq];exact hx⟩,av,λb hb=>(hf b hb).1⟩⟩
 done:=by intro X hP hw hK hc i pins s σ H E I hf st hg;subst hP hw hK;obtain⟨xs,hq,hx⟩:=hg;obtain⟨its,rv,p,hz⟩:=I.list hq;obtain⟨f0,f1,f2,f3,f4,f5⟩:=hf it (by simp);have hl:=rv.length;exact wpAny_pyNext_list_end (I.ok.hd hc) st p.isList (by simp;lia) λh' eb=>⟨rfl,I.turned (t':=s.toks) (λb o hb e=>eb b o hb e) f0 f1 f3 f4 f5⟩
 self:=λ_ _ _ _ _ st h=>wpAny_pyIter_listiter st h
def fD'{P:cq}{K:ay}(a it:ae):Turn P w K tg (Wn K a) [it] it (λi h=>h.IsTupleIter it a i) where
 mem:=by simp
 obj:=λi h st b hb=>by
  have e:b=it:=by simpa using hb
  subst e;obtain⟨o,e,c,d⟩:=st;exact⟨o,e,λv z=>by rw[d] at z;cases z⟩
 keep:=λi h h' st k=>st.at λo e=>k it (by simp) o e
 item:=by intro X hP hw hK hc i pins s σ H E I hf st hg;subst hP hw hK;obtain⟨xs,x,hq,hx⟩:=hg;obtain⟨its,rv,p,hz⟩:=I.tuple hq;obtain⟨u,hu,ru⟩:=rv.get hx;obtain⟨f0,f1,f2,f3,f4,f5⟩:=hf it (by simp);refine wpAny_pyNext_tuple_item st (show s.heap.IsTuple a its.toArray from p) (x:=u) (by simpa using hu) λh' av sb=>?_;have I1:Inv X pins σ H { s with heap:=h' }:=I.turned (t':=s.toks) (λb o hb e=>(sb.2 b hb).trans e) f0 f1 f3 f4 f5;obtain⟨o,e,c,d⟩:=id av;exact⟨u,rfl,N9 (s:={ s with heap:=h' }) e c d (by decide) ⟨x,H,I1,ru,⟨rfl,λys hy=>by rw[I.fv' hy hq];exact hx⟩,av,λb hb=>(hf b hb).1⟩⟩
 done:=by intro X hP hw hK hc i pins s σ H E I hf st hg;subst hP hw hK;obtain⟨xs,hq,hx⟩:=hg;obtain⟨its,rv,p,hz⟩:=I.tuple hq;obtain⟨f0,f1,f2,f3,f4,f5⟩:=hf it (by simp);have hl:=rv.length;exact wpAny_pyNext_tuple_end (I.ok.hd hc) st (show s.heap.IsTuple a its.toArray from p) (by simp;lia) λh' eb=>⟨rfl,I.turned (t':=s.toks) (λb o hb e=>eb b o hb e) f0 f1 f3 f4 f5⟩
 self:=λ_ _ _ _ _ st h=>wpAny_pyIter_tupleiter st h
def fE'{P:cq}{K:ay}(it:ae)(lo:Int)(n:Nat):Turn P w K tg (Kk lo n) [it] it (λi h=>IsRangeIter h it (lo+(i:Nat)*1) ((n:Int)-(i:Nat)) 1) where
 mem:=by simp
 obj:=λi h st b hb=>by
  have e:b=it:=by simpa using hb
  subst e;exact⟨_,st,λv z=>by
   have z':Data.fields _=Data.cell v:=z;cases z'⟩
 keep:=λi h h' st k=>k it (by simp) _ st
 item:=by intro X hP hw hK hc i pins s σ H E I hf st hg;subst hP hw hK;obtain⟨f0,f1,f2,f3,f4,f5⟩:=hf it (by simp);have W:=Walks.range (prog:=X.prog) (w:=X.w) (I.ok.hd hc) it lo 1 n;refine W.item i s _ _ hg st λv h' tk hv av kk=>?_;obtain⟨t,rfl⟩:=hv;have I1:Inv X pins σ H { s with heap:=h',toks:=tk }:=I.turned (λb o hb e=>kk b o (by simpa using hb) e) f0 f1 f3 f4 f5;refine⟨_,rfl,N9 (s:={ s with heap:=h',toks:=tk }) (n := "range_iterator") av rfl rfl (by decide) ⟨.int (lo+i),H,I1,⟨t,?_⟩,⟨rfl,rfl⟩,av,λb hb=>(hf b hb).1⟩⟩;rw[Int.mul_one]
 done:=by intro X hP hw hK hc i pins s σ H E I hf st hg;subst hP hw hK;obtain⟨f0,f1,f2,f3,f4,f5⟩:=hf it (by simp);exact wpAny_pyNext_range_end (I.ok.hd hc) st (by have:n<=i:=hg;lia) λh' eb=>⟨rfl,I.turned (t':=s.toks) (λb o hb e=>eb b o hb e) f0 f1 f3 f4 f5⟩
 self:=λ_ _ _ _ _ st h=>wpAny_pyIter_rangeiter st h
section
variable {X:Cx}{tg:Expr}
def fF'(K:ay)(tl:TE):TI:=λσ H R=>tl σ H λx H1=>∃ a,x=.ref a/\(∃ xs,e7 K H1 a xs)/\R (T9 K a) H1
def fG'(K:ay)(tl:TE):TI:=λσ H R=>tl σ H λx H1=>∃ a,x=.ref a/\(∃ xs,kU K H1 a xs)/\R (Wn K a) H1
def aY'(hl:PE X l tl):PI X tg l (fF' X.K tl):=by
 intro pins s σ H R I h;refine cv (hl pins s σ H _ I h) λv s1 ck=>L2.eM ck λx H1 I1 r1 q1=>?_;obtain⟨a,e,⟨xs,hq⟩,q⟩:=q1;subst e;cases r1;obtain⟨its,rv,p,hz⟩:=I1.list hq;refine wpAny_pyIter_list p.isList ?_;refine⟨s1.heap.objs.size,[s1.heap.objs.size],_,_,H1,rfl,I1.kept λb o e=>ki _ e,fC' a _,⟨_,oi _ rfl,rfl,rfl⟩,λb hb=>?_,q⟩;have e:b=s1.heap.objs.size:=by simpa using hb
 subst e;exact I1.FX (c9 _) (I1.bG.fresh (c9 _))
def aZ'(hl:PE X l tl):PI X tg l (fG' X.K tl):=by
 intro pins s σ H R I h;refine cv (hl pins s σ H _ I h) λv s1 ck=>L2.eM ck λx H1 I1 r1 q1=>?_;obtain⟨a,e,⟨xs,hq⟩,q⟩:=q1;subst e;cases r1;obtain⟨its,rv,p,hz⟩:=I1.tuple hq;refine wpAny_pyIter_tuple (p) ?_;refine⟨s1.heap.objs.size,[s1.heap.objs.size],_,_,H1,rfl,I1.kept λb o e=>ki _ e,fD' a _,⟨_,oi _ rfl,rfl,rfl⟩,λb hb=>?_,q⟩;have e:b=s1.heap.objs.size:=by simpa using hb
 subst e;exact I1.FX (c9 _) (I1.bG.fresh (c9 _))
def ba'{R:It->Hp->Prop}{lo hi:Int}(I:Inv X pins σ H s)(h1:-(2 ^ 62)<=lo)(h2:lo<2 ^ 62)(h3:-(2 ^ 62)<=hi)(h4:hi<2 ^ 62)(q:R (Kk lo (hi-lo).toNat) H):b6 (bq X.prog X.w) X.A (pyIter (.ref s.heap.objs.size)) (PIE X pins σ tg R) E { s with heap:=s.heap.push { cls:=.type "range",data:=.fields #[.int lo t,.int hi u,.int 1 v] },toks:=tk }:=by
 refine wpAny_pyIter_range (IsRange.new ..) (small_one h1 h2 h3 h4) ?_;have I1:Inv X pins σ H { s with heap:=s.heap.push { cls:=.type "range",data:=.fields #[.int lo t,.int hi u,.int 1 v] },toks:=tk }:=I.kept λb o e=>ki _ e;refine⟨(s.heap.push { cls:=.type "range",data:=.fields #[.int lo t,.int hi u,.int 1 v] }).objs.size,[(s.heap.push { cls:=.type "range",data:=.fields #[.int lo t,.int hi u,.int 1 v] }).objs.size],_,_,H,rfl,
  I1.kept λb o e=>ki _ e,fE' _ lo (hi-lo).toNat,?_,λb hb=>?_,q⟩
 ·have e1:lo+((0:Nat):Int)*1=lo:=by simp
  have e2:(((hi-lo).toNat:Nat):Int)-((0:Nat):Int)=Builtin.Range.rangeSize lo hi 1:=by rw[rangeSize_one];split<;>lia
  rw[e1,e2];exact oi _ rfl
 ·have e:b=(s.heap.push { cls:=.type "range",data:=.fields #[.int lo t,.int hi u,.int 1 v] }).objs.size:=by simpa using hb
  subst e;exact I1.FX (c9 _) (I1.bG.fresh (c9 _))
def fH'(ta:TA):TI:=λσ H R=>ta σ H λvs H1=>∃ j:Int,vs=[.int j]/\-(2 ^ 62)<=j/\j<2 ^ 62/\R (Kk 0 j.toNat) H1
def fI'(ta:TA):TI:=λσ H R=>ta σ H λvs H1=>∃ i j:Int,vs=[.int i,.int j]/\(-(2 ^ 62)<=i/\i<2 ^ 62/\-(2 ^ 62)<=j/\j<2 ^ 62)/\R (Kk i (j-i).toNat) H1
def fJ' (hg:Gl X "range") (hm:X.mg "range" = none) (ha:PA X [a] ta) (hs:autoParam (aT [a] X.env=[(false,b3 a X.env)]) bv):PI X tg (.Call (.Name "range" p) [a] [] pos) (fH' ta):=by
 intro pins s σ H R I h;refine Call_ (FU I hg hm boot_range (PyProof.Rows.callWith_type1 (cv (ha pos pins s σ H _ I h) λus s1 ck=>L2.eM ck λvs H1 I1 r1 q1=>?_) hs rfl));obtain⟨j,e,q1,q2,q⟩:=q1;subst e
 cases r1 with
 |cons r rr =>cases rr;obtain⟨t,rfl⟩:=r;exact call_range_1 (ba' I1 (by lia) (by lia) q1 q2 (by simpa using q))
def fK' (hg:Gl X "range") (hm:X.mg "range" = none) (ha:PA X [a,b] ta) (hs:autoParam (aT [a,b] X.env=[(false,b3 a X.env),(false,b3 b X.env)]) bv) (ny:autoParam (aT [b] X.env=[(false,b3 b X.env)]) bv) :
  PI X tg (.Call (.Name "range" p) [a,b] [] pos) (fI' ta):=by
 intro pins s σ H R I h;refine Call_ (FU I hg hm boot_range (PyProof.Rows.callWith_type1 (cv (ha pos pins s σ H _ I h) λus s1 ck=>L2.eM ck λvs H1 I1 r1 q1=>?_) (by rw[hs,ny]) (by rw[ny];rfl)));obtain⟨i,j,e,⟨q1,q2,q3,q4⟩,q⟩:=q1;subst e
 cases r1 with
 |cons r rr =>
  cases rr with
  |cons r' rr =>cases rr;obtain⟨t,rfl⟩:=r;obtain⟨t',rfl⟩:=r';exact call_range_2 (ba' I1 q1 q2 q3 q4 q)
def bb'(wi:TI)(g:TG)(tb:TS):TS:=λD σ H=>wi σ H λJ H1=>∃ W:Nat->Nat->St->Hp->Prop,(∃ m,W 0 m σ H1)/\∀ i m σ H,W i m σ H -> (J.stop i H/\D.nx σ H)\/(J.go i H/\∃ N:St->Hp->Prop,(∀ b4 H',N b4 H'->∃ m',m'<m/\W (i+1) m' b4 H')/\∀ x H',J.mG i H x H'->g x σ H' λlh H2=>tb { D with nx:=N,ct:=N,bk:=D.nx } lh H2)
def RG(fp:List ae)(h:dk):List (ae × Obj):=fp.filterMap λb=>(h.get? b).map λo=>(b,o)
def T_(hb:b∈fp)(e:h.get? b=some o):(b,o)∈RG fp h:=List.mem_filterMap.mpr ⟨b,hb,by rw[e];rfl⟩
def fL'(hp:p∈RG fp h):p.1∈fp/\h.get? p.1=some p.2:=by
 obtain⟨b,hb,e⟩:=List.mem_filterMap.mp hp
 cases q:h.get? b with
 |none=>rw[q] at e;cases e
 |some o =>rw[q] at e;have e':(b,o)=p:=Option.some.inj e;subst e';exact⟨hb,q⟩
def Inv.pinned(I:Inv X pins σ H s)(hf:∀ b∈fp,y1 X pins H b)(ho:∀ b∈fp,∃ o,s.heap.get? b=some o/\∀ v,o.data≠.cell v):Inv X (pins++RG fp s.heap) σ H s :=
 I.aK' λp hp=>(eR.mp hp).elim (λz=>I.pin p (eT _ z)) λz=>by obtain⟨hb,e⟩:=fL' z;obtain⟨f0,f1,f2,_⟩:=hf p.1 hb;obtain⟨o,e',d⟩:=ho p.1 hb;rw[e] at e';cases e';exact⟨e,f0,f1,f2,d⟩
def Inv.Ua(I:Inv X (pins++pl) σ H s):Inv X pins σ H s:=I.aK' λp hp=>I.pin p (eT _ (kg _ hp))
def bc'(hp:PassesOwn (bq X.prog X.w) X.A X.env X.xe)(hc:X.calm=true)(hi:PI X tg iter wi)(hg:PG X tg g)(hb:mE X body tb)(hs:∀ x,DU iter X.env x=pure x:=by intro _;rfl):PS X (.For tg iter body [] pos) (bb' wi g tb):=by
 intro pins s σ H D I h;refine wpAny_For (cv (hi pins s σ H _ I h) λv s1 h1=>cv h1 λWm s2 h2=>?_) hs;obtain⟨it,fp,tn,J,H2,e,I2,T,AJ,f2,W,⟨m0,w0⟩,turn⟩:=h2;subst e
 -- what stays true of the iterator's objects through the loop
 have stat:∀ {H':Hp},(∀ b∈fp,H' b=none)->∀ b∈fp,y1 X pins H' b:=λhn b hb=>⟨hn b hb,(f2 b hb).2⟩
 refine codeAny_forLoop_any (λn s'=>∃ i b4 H',Inv X pins b4 H' s'/\tn i s'.heap/\(∀ b∈fp,H' b=none)/\W i n b4 H') ?_ m0 ⟨0,σ,H2,I2,AJ,λb hb=>(f2 b hb).1,w0⟩;rintro n s3 ⟨i,qB,H3,I3,AK,fr3,w3⟩;rcases turn i n qB H3 w3 with⟨stop,qn⟩|⟨go,N,hN,step⟩
 ·refine IJ hp (cv (T.done X rfl rfl rfl hc i pins s3 qB H3 X.xe I3 (stat fr3) AK stop) λr s4 dA=>?_);obtain⟨hr,I4⟩:=dA;subst hr;exact wpAny_execs_nil ⟨qB,H3,I4,qn⟩
 ·refine IJ hp (cv (T.item X rfl rfl rfl hc i pins s3 qB H3 X.xe I3 (stat fr3) AK go) λr s4 dA=>?_);obtain⟨u,hr,h4⟩:=dA;subst hr;refine IJ hp (cv h4 λ_ s5 dA=>?_);obtain⟨x,H5,I5,r5,y5,Kn,Ub⟩:=dA;have I5':=I5.pinned (stat Ub) (T.obj _ _ Kn);refine IJ hp (cv (hg _ s5 qB H5 x u _ I5' r5 (step x H5 y5)) λ_ s6 dA=>?_);obtain⟨σ6,H6,I6,q6⟩:=dA;refine IJ hp (cv (hb _ s6 σ6 H6 _ I6 q6) λf s7 q7=>?_);have again:∀ {BD:St} {H7:Hp},Inv X (pins++RG fp s5.heap) BD H7 s7->N BD H7->∃ m,m<n/\∃ i b4 H',Inv X pins b4 H' s7/\tn i s7.heap/\(∀ b∈fp,H' b=none)/\W i m b4 H':=λ{BD H7} I7 n7=>by obtain⟨m',hm,w7⟩:=hN BD H7 n7;refine⟨m',hm,i+1,BD,H7,I7.Ua,T.keep _ _ _ Kn λb hb o e=>(I7.pin (b,o) (eT _ (eT _ (T_ hb e)))).1,λb hb=>?_,w7⟩;obtain⟨o,e,d⟩:=T.obj _ _ Kn b hb;exact(I7.pin (b,o) (eT _ (eT _ (T_ hb e)))).2.1
  cases f with
  |next=>obtain⟨BD,H7,I7,n7⟩:=q7;exact again I7 n7
  |cont=>obtain⟨BD,H7,I7,n7⟩:=q7;exact again I7 n7
  |brk=>obtain⟨BD,H7,I7,q7⟩:=q7;exact⟨BD,H7,I7.Ua,q7⟩
  |ret v=>obtain⟨x7,BD,H7,I7,r7,q7⟩:=q7;exact⟨x7,BD,H7,I7.Ua,r7,q7⟩
end
abbrev R2:=V->V->Hp->VK->Prop
def d5(X:Cx)(f:ah->ah->Sem ah)(r:R2):Prop :=
 ∀ (pins:List (ae × Obj)) (s:aE) (σ:St) (H:Hp) (x y:V) (v u:ah) (Q:VK),Inv X pins σ H s->RelV x v->RelV y u->r x y H Q ->
  b6 (bq X.prog X.w) X.A (f v u) (EP X pins σ Q) X.xe s
def Uc(X:Cx)(f:ah->Sem ah)(r:V->Hp->VK->Prop):Prop :=
 ∀ (pins:List (ae × Obj)) (s:aE) (σ:St) (H:Hp) (x:V) (v:ah) (Q:VK),Inv X pins σ H s->RelV x v->r x H Q ->
  b6 (bq X.prog X.w) X.A (f v) (EP X pins σ Q) X.xe s
def mn(X:Cx)(f:ah)(r:List V->Hp->VK->Prop):Prop :=
 ∀ (pins:List (ae × Obj)) (s:aE) (σ:St) (H:Hp) (xs:List V) (us:List ah) (Q:VK),Inv X pins σ H s->Vals xs us->r xs H Q ->
  b6 (bq X.prog X.w) X.A (call f us) (EP X pins σ Q) X.xe s
def RH(r:R2)(ta tb:TE):TE:=λσ H Q=>ta σ H λx H1=>tb σ H1 λy H2=>r x y H2 Q
def tUn(r:V->Hp->VK->Prop)(ta:TE):TE:=λσ H Q=>ta σ H λx H1=>r x H1 Q
def rI(C:Int->Int->Prop)(g:Int->Int->V):R2:=λx y H Q=>∃ i j,x=.int i/\y=.int j/\C i j/\Q (g i j) H
def Kx(g:Int->Int->V):R2:=λx y H Q=>∃ i j,x=.int i/\y=.int j/\Q (g i j) H
def rU(g:Int->V):V->Hp->VK->Prop:=λx H Q=>∃ i,x=.int i/\Q (g i) H
section
variable {X:Cx}{a b:Expr}{ta tb:TE}{pos:Pos}
def Wo(ha:PE X a ta)(hb:PE X b tb){pins:List (ae × Obj)}{s:aE}{σ:St}{H:Hp}{R:V->V->Hp->Prop}(I:Inv X pins σ H s)(h:ta σ H λx H1=>tb σ H1 λy H2=>R x y H2) {Q:ah->aE->Prop} {f:ah->ah->Sem ah}(hf:∀ v u s2 x y H2,Inv X pins σ H2 s2->RelV x v->RelV y u->R x y H2->b6 (bq X.prog X.w) X.A (f v u) Q X.xe s2) :
  b6 (bq X.prog X.w) X.A (b3 a X.env) (λv fz=>b6 (bq X.prog X.w) X.A (b3 b X.env) (λu Bz=>b6 (bq X.prog X.w) X.A (f v u) Q X.xe Bz) X.xe fz) X.xe s:=by
 refine cv (ha pins s σ H _ I h) λv s1 ck=>L2.eM ck λx H1 I1 r1 q1=>?_;refine cv (hb pins s1 σ H1 _ I1 q1) λu s2 ck=>L2.eM ck λy H2 I2 r2 q2=>?_;exact hf v u s2 x y H2 I2 r1 r2 q2
def fP'{op:Operator}{r:R2}(ho:d5 X (oz op) r)(ha:PE X a ta)(hb:PE X b tb):PE X (.BinOp a op b pos) (RH r ta tb):=by intro pins s σ H Q I h;exact wpAny_BinOp (Wo ha hb I h λv u s2 x y H2 I2 rx ry q=>ho pins s2 σ H2 x y v u Q I2 rx ry q)
def fQ'(ho:Uc X (unaryOp op) r)(ha:PE X a ta):PE X (.UnaryOp op a pos) (tUn r ta):=by intro pins s σ H Q I h;exact UnaryOp_ (cv (ha pins s σ H _ I h) λv s1 ck=>L2.eM ck λx H1 I1 r1 q1=>ho pins s1 σ H1 x v Q I1 r1 q1)
def Wq{f:ah->ah->Sem ah}{C:Int->Int->Prop}{g:Int->Int->Int}(rule:∀ (i j:Int) (t u:Tok) (s:aE) (Q:ah->aE->Prop) (E:ah->aE->Prop),C i j->Q (.int (g i j) s.toks) { s with toks:=s.toks+1 }->b6 (bq X.prog X.w) X.A (f (.int i t) (.int j u)) Q E s) :
  d5 X f (rI C λi j=>.int (g i j)):=by
 intro pins s σ H x y v u Q I rx ry h;obtain⟨i,j,rfl,rfl,hc,q⟩:=h;obtain⟨t,rfl⟩:=rx;obtain⟨t',rfl⟩:=ry;exact rule i j t t' s _ _ hc ⟨.int (g i j),H,I.tok _,⟨_,rfl⟩,q⟩
def be'{f:ah->ah->Sem ah}{g:Int->Int->Int}(rule:∀ (i j:Int) (t u:Tok) (s:aE) (Q:ah->aE->Prop) (E:ah->aE->Prop),Q (.int (g i j) s.toks) { s with toks:=s.toks+1 }->b6 (bq X.prog X.w) X.A (f (.int i t) (.int j u)) Q E s) :
  d5 X f (Kx λi j=>.int (g i j)):=by
 intro pins s σ H x y v u Q I rx ry h;obtain⟨i,j,rfl,rfl,q⟩:=h;obtain⟨t,rfl⟩:=rx;obtain⟨t',rfl⟩:=ry;exact rule i j t t' s _ _ ⟨.int (g i j),H,I.tok _,⟨_,rfl⟩,q⟩
def Wr{f:ah->ah->Sem ah}{g:Int->Int->Bool}(rule:∀ (i j:Int) (t u:Tok) (s:aE) (Q:ah->aE->Prop) (E:ah->aE->Prop),Q (.bool (g i j)) s->b6 (bq X.prog X.w) X.A (f (.int i t) (.int j u)) Q E s) :
  d5 X f (Kx λi j=>.bl (g i j)):=by
 intro pins s σ H x y v u Q I rx ry h;obtain⟨i,j,rfl,rfl,q⟩:=h;obtain⟨t,rfl⟩:=rx;obtain⟨t',rfl⟩:=ry;exact rule i j t t' s _ _ ⟨.bl (g i j),H,I,rfl,q⟩
def fR'(i j:Int):Prop:=0<j/\j<1073741824
def Oy(i j:Int):Prop:=(-(2 ^ 64)<i/\i<2 ^ 64)\/(-(2 ^ 64)<j/\j<2 ^ 64)
def Oy.ok(h:Oy i j):IntMulOk i j:=by
 rcases h with⟨h1,h2⟩|⟨h1,h2⟩
 ·exact .of_left (intBits_le_64 h1 h2)
 ·exact .of_right (intBits_le_64 h1 h2)
def fS':d5 X (oz .Add) (Kx λi j=>.int (i+j)):=be' λ_ _ _ _ _ _ _ q=>add_int q
def fT':d5 X (oz .Sub) (Kx λi j=>.int (i-j)):=be' λ_ _ _ _ _ _ _ q=>sub_int q
def fU':d5 X (oz .Mult) (rI Oy λi j=>.int (i*j)):=Wq λ_ _ _ _ _ _ _ hc q=>mul_int q hc.ok
def fV':d5 X (oz .FloorDiv) (rI fR' λi j=>.int (i / j)):=Wq λi j _ _ _ _ _ hc q=>by have h1:0<j:=hc.1;have h2:j<1073741824:=hc.2;exact floordiv_int (by lia) (by rw[Int.fdiv_eq_ediv_of_nonneg i (by lia)];exact q) (.inl (PyProof.noPylong_small (by lia)))
def fW':d5 X (oz .Mod) (rI (λ_ j=>0<j) λi j=>.int (i % j)):=Wq λi j _ _ _ _ _ hc q=>by exact mod_int' (by lia) (by rw[Int.fmod_eq_emod_of_nonneg i (by lia)];exact q)
def unI{f:ah->Sem ah}{g:Int->Int}(rule:∀ (i:Int) (t:Tok) (s:aE) (Q:ah->aE->Prop) (E:ah->aE->Prop),Q (.int (g i) s.toks) { s with toks:=s.toks+1 }->b6 (bq X.prog X.w) X.A (f (.int i t)) Q E s) :
  Uc X f (rU λi=>.int (g i)):=by
 intro pins s σ H x v Q I rx h;obtain⟨i,rfl,q⟩:=h;obtain⟨t,rfl⟩:=rx;exact rule i t s _ _ ⟨.int (g i),H,I.tok _,⟨_,rfl⟩,q⟩
def fY':Uc X (unaryOp .USub) (rU λi=>.int (-i)):=unI λ_ _ _ _ _ q=>neg_int q
end
def bf':V->V->Bool
 |.non,.non=>true|.non,.int _=>true|.int _,.non=>true|.non,.bl _=>true|.bl _,.non=>true|.non,.str _=>true|.str _,.non=>true
 |.int _,.int _=>true|.bl _,.bl _=>true|.str _,.str _=>true|.xB _,.xB _=>true
 |.int _,.str _=>true|.str _,.int _=>true|.bl _,.str _=>true|.str _,.bl _=>true
 |_,_=>false
def rEq:R2:=λx y H Q=>bf' x y=true/\Q (.bl (decide (x=y))) H
def rNe:R2:=λx y H Q=>bf' x y=true/\Q (.bl (!decide (x=y))) H
def bg':decide (V.int i=V.int j)=(i == j):=by rw[D7];simp
def bh':decide (V.bl i=V.bl j)=(i == j):=by rw[D7];simp
def bi':decide (V.str i=V.str j)=(i == j):=by rw[D7];simp
def bj':decide (V.xB i=V.xB j)=(i.toList == j.toList):=by rw[D7];cases i;cases j;simp
section
variable {X:Cx}{a b c:Expr}{ta tb tc:TE}{pos:Pos}
def ku(I:Inv X pins σ H s)(q:Q (.bl k) H)(e:k=k'):EP X pins σ Q (.bool k') s:=by subst e;exact⟨.bl k,H,I,rfl,q⟩
def gb':d5 X (hZ .Eq) rEq:=by
 intro pins s σ H x y v u Q I rx ry h;obtain⟨hs,q⟩:=h
 cases x with
 |non =>
  cases rx
  cases y with
  |non=>cases ry;exact PySem.EqNone.eq_none_none (ku I q (by simp))
  |bl j=>cases ry;exact PySem.EqNone.eq_none_bool (ku I q (by simp))
  |int j=>obtain⟨t',rfl⟩:=ry;exact PySem.EqNone.eq_none_int (ku I q (by simp))
  |str j=>obtain⟨t',rfl⟩:=ry;exact PySem.EqNone.eq_none_str (ku I q (by simp))
  |_=>exact absurd (hs) pS
 |bl i =>
  cases rx
  cases y with
  |non=>cases ry;exact PySem.EqNone.eq_bool_none (ku I q (by simp))
  |bl j=>cases ry;exact eq_bool (ku I q bh')
  |str j=>obtain⟨t',rfl⟩:=ry;exact PySem.EqMixed.eq_bool_str (ku I q (by simp))
  |_=>exact absurd (hs) pS
 |int i =>
  obtain⟨t,rfl⟩:=rx
  cases y with
  |non=>cases ry;exact PySem.EqNone.eq_int_none (ku I q (by simp))
  |int j=>obtain⟨t',rfl⟩:=ry;exact eq_int (ku I q bg')
  |str j=>obtain⟨t',rfl⟩:=ry;exact PySem.EqMixed.eq_int_str (ku I q (by simp))
  |_=>exact absurd (hs) pS
 |str i =>
  obtain⟨t,rfl⟩:=rx
  cases y with
  |non=>cases ry;exact PySem.EqNone.eq_str_none (ku I q (by simp))
  |bl j=>cases ry;exact PySem.EqMixed.eq_str_bool (ku I q (by simp))
  |int j=>obtain⟨t',rfl⟩:=ry;exact PySem.EqMixed.eq_str_int (ku I q (by simp))
  |str j=>obtain⟨t',rfl⟩:=ry;exact eq_str (ku I q bi')
  |_=>exact absurd (hs) pS
 |xB i =>
  obtain⟨t,rfl⟩:=rx
  cases y with
  |xB j=>obtain⟨t',rfl⟩:=ry;exact PySem.W.eq_bytes (ku I q bj')
  |_=>exact absurd (hs) pS
 |_=>cases y<;>exact absurd (hs) pS
def gc':d5 X (hZ .NotEq) rNe:=by
 intro pins s σ H x y v u Q I rx ry h;obtain⟨hs,q⟩:=h
 cases x with
 |non =>
  cases rx
  cases y with
  |non=>cases ry;exact PySem.EqNone.ne_none_none (ku I q (by simp))
  |bl j=>cases ry;exact PySem.EqNone.ne_none_bool (ku I q (by simp))
  |int j=>obtain⟨t',rfl⟩:=ry;exact PySem.EqNone.ne_none_int (ku I q (by simp))
  |str j=>obtain⟨t',rfl⟩:=ry;exact PySem.EqNone.ne_none_str (ku I q (by simp))
  |_=>exact absurd (hs) pS
 |bl i =>
  cases rx
  cases y with
  |non=>cases ry;exact PySem.EqNone.ne_bool_none (ku I q (by simp))
  |bl j=>cases ry;exact ne_bool (ku I q (congrArg not bh'))
  |str j=>obtain⟨t',rfl⟩:=ry;exact PySem.EqMixed.ne_bool_str (ku I q (by simp))
  |_=>exact absurd (hs) pS
 |int i =>
  obtain⟨t,rfl⟩:=rx
  cases y with
  |non=>cases ry;exact PySem.EqNone.ne_int_none (ku I q (by simp))
  |int j=>obtain⟨t',rfl⟩:=ry;exact ne_int (ku I q (congrArg not bg'))
  |str j=>obtain⟨t',rfl⟩:=ry;exact PySem.EqMixed.ne_int_str (ku I q (by simp))
  |_=>exact absurd (hs) pS
 |str i =>
  obtain⟨t,rfl⟩:=rx
  cases y with
  |non=>cases ry;exact PySem.EqNone.ne_str_none (ku I q (by simp))
  |bl j=>cases ry;exact PySem.EqMixed.ne_str_bool (ku I q (by simp))
  |int j=>obtain⟨t',rfl⟩:=ry;exact PySem.EqMixed.ne_str_int (ku I q (by simp))
  |str j=>obtain⟨t',rfl⟩:=ry;exact ne_str (ku I q (congrArg not bi'))
  |_=>exact absurd (hs) pS
 |xB i =>
  obtain⟨t,rfl⟩:=rx
  cases y with
  |xB j=>obtain⟨t',rfl⟩:=ry;exact PySem.W.ne_bytes (ku I q (congrArg not bj'))
  |_=>exact absurd (hs) pS
 |_=>cases y<;>exact absurd (hs) pS
def gd':d5 X (hZ .Lt) (Kx λi j=>.bl (decide (i<j))):=Wr λ_ _ _ _ _ _ _ q=>lt_int q
def ge':d5 X (hZ .LtE) (Kx λi j=>.bl (decide (i<=j))):=Wr λ_ _ _ _ _ _ _ q=>le_int q
def gf':d5 X (hZ .Gt) (Kx λi j=>.bl (decide (j<i))):=Wr λ_ _ _ _ _ _ _ q=>gt_int q
def gg':d5 X (hZ .Lt) (λx y H Q=>∃ i j,x=.str i/\y=.str j/\Q (.bl (decide (i.cps.toList<j.cps.toList))) H):=by intro pins s σ H x y v u Q I rx ry h;obtain⟨i,j,rfl,rfl,q⟩:=h;obtain⟨t,rfl⟩:=rx;obtain⟨t',rfl⟩:=ry;exact lt_str (ku I q rfl)
def gh':d5 X (hZ .In) (λx y H Q=>∃ i j,x=.str i/\y=.str j/\Q (.bl (!(Builtin.Str.occurrences j i 0 j.length 1).isEmpty)) H):=by intro pins s σ H x y v u Q I rx ry h;obtain⟨i,j,rfl,rfl,q⟩:=h;obtain⟨t,rfl⟩:=rx;obtain⟨t',rfl⟩:=ry;exact in_str (ku I q rfl)
def gi':d5 X (hZ .Is) (λx y H Q=>y=.non/\Q (.bl (decide (x=.non))) H):=by
 intro pins s σ H x y v u Q I rx ry h;obtain⟨rfl,q⟩:=h;cases ry;refine is_none_gen (ku I q ?_);cases x<;>first
  | (cases rx;rfl)
  | (obtain⟨t,rfl⟩:=rx;rfl)
def gj':d5 X (hZ .IsNot) (λx y H Q=>y=.non/\Q (.bl (!decide (x=.non))) H):=by
 intro pins s σ H x y v u Q I rx ry h;obtain⟨rfl,q⟩:=h;cases ry;refine isnot_none_gen (ku I q ?_);cases x<;>first
  | (cases rx;rfl)
  | (obtain⟨t,rfl⟩:=rx;rfl)
def d5.or(h:d5 X f r)(h':d5 X f r'):d5 X f (λx y H Q=>r x y H Q\/r' x y H Q):=by
 intro pins s σ H x y v u Q I rx ry q;rcases q with q|q
 ·exact h pins s σ H x y v u Q I rx ry q
 ·exact h' pins s σ H x y v u Q I rx ry q
def bk'(b:Expr)(h:op≠.In:=by decide)(h2:op≠.NotIn:=by decide):FC op b=false:=by
 have e1:(op == CmpOp.In)=false:=by cases op<;>first|rfl|exact absurd rfl h
 have e2:(op == CmpOp.NotIn)=false:=by cases op<;>first|rfl|exact absurd rfl h2
 cases b<;>simp[FC,e1,e2]
def gk'{op:CmpOp}{r:R2}(ho:d5 X (hZ op) r)(ha:PE X a ta)(hb:PE X b tb)(hm:FC op b=false):PE X (.Compare a [op] [b] pos) (RH r ta tb):=by intro pins s σ H Q I h;exact wpAny_Compare1 (Wo ha hb I h λv u s2 x y H2 I2 rx ry q=>ho pins s2 σ H2 x y v u Q I2 rx ry q) hm
def Ws(t:TE):TT:=λσ H Q=>t σ H λx H'=>∃ k,x=.bl k/\Q k H'
def gl'(ho:d5 X (hZ op) r)(ha:PE X a ta)(hb:PE X b tb)(hm:FC op b=false):PT X (.Compare a [op] [b] pos) (Ws (RH r ta tb)):=by
 intro pins s σ H Q I h;refine wpAny_isTrue_Compare1 (cv (ha pins s σ H _ I h) λv s1 ck=>L2.eM ck λx H1 I1 r1 q1=>cv (hb pins s1 σ H1 _ I1 q1) λu s2 ck=>L2.eM ck λy H2 I2 r2 q2 =>
  cv (ho pins s2 σ H2 x y v u _ I2 r1 r2 q2) λc s3 ⟨z,H3,I3,r3,k,e,q3⟩=>?_) hm
 subst e;cases r3;exact B8 ⟨H3,I3,q3⟩
def Wt(r r':R2)(ta tb tc:TE):TE:=λσ H Q=>ta σ H λx H1=>tb σ H1 λy H2=>r x y H2 λz H3=>∃ k,z=.bl k /\ (if k=true then tc σ H3 λw' H4=>r' y w' H4 Q else Q (.bl false) H3)
def gm'(ho:d5 X (hZ op) r)(wa:d5 X (hZ op') r')(ha:PE X a ta)(hb:PE X b tb)(hc:PE X c tc)(hm:lastMarks [op,op'] [b,c]=false:=by with_unfolding_all rfl):PE X (.Compare a [op,op'] [b,c] pos) (Wt r r' ta tb tc):=by
 intro pins s σ H Q I h;refine Compare_chain (cv (ha pins s σ H _ I h) λv s1 ck=>L2.eM ck λx H1 I1 r1 q1=>chain_link (cv (hb pins s1 σ H1 _ I1 q1) λu s2 ck=>L2.eM ck λy H2 I2 r2 q2 =>
  cv (ho pins s2 σ H2 x y v u _ I2 r1 r2 q2) λd s3 ⟨z,H3,I3,r3,k,e,q3⟩=>?_)) hm
 subst e;cases r3;refine B8 ?_
 cases k with
 |false=>exact ite_ff ⟨.bl false,H3,I3,rfl,q3⟩
 |true=>exact ite_tt (chain_last (cv (hc pins s3 σ H3 _ I3 q3) λw' s4 ⟨z',H4,I4,r4,q4⟩=>wa pins s4 σ H4 y z' u w' Q I4 r2 r4 q4))
def gn'(ho:d5 X (hZ op) r)(wa:d5 X (hZ op') r')(ha:PE X a ta)(hb:PE X b tb)(hc:PE X c tc)(hm:lastMarks [op,op'] [b,c]=false:=by with_unfolding_all rfl):PT X (.Compare a [op,op'] [b,c] pos) (Ws (Wt r r' ta tb tc)):=by
 intro pins s σ H Q I h;refine isTrue_chain (cv (ha pins s σ H _ I h) λv s1 ck=>L2.eM ck λx H1 I1 r1 q1=>test_link (cv (hb pins s1 σ H1 _ I1 q1) λu s2 ck=>L2.eM ck λy H2 I2 r2 q2 =>
  cv (ho pins s2 σ H2 x y v u _ I2 r1 r2 q2) λd s3 ⟨z,H3,I3,r3,k,e,q3⟩=>?_)) hm
 subst e;cases r3;refine B8 ?_
 cases k with
 |false =>obtain⟨k',e',q'⟩:=q3;cases e';exact ite_ff ⟨H3,I3,q'⟩
 |true =>refine ite_tt (test_last (cv (hc pins s3 σ H3 _ I3 q3) λw' s4 ⟨z',H4,I4,r4,q4⟩=>cv (wa pins s4 σ H4 y z' u w' _ I4 r2 r4 q4) λd' s5 dA=>?_));obtain⟨z2,H5,I5,r5,k2,e2,q5⟩:=dA;subst e2;cases r5;exact B8 ⟨H5,I5,q5⟩
def Wu:(bE:Nat)<2 ^ 63:=by rw[nS];decide
def gp':d5 X (oz .Add) (λx y H Q=>∃ i j,x=.str i/\y=.str j/\i.length+j.length<=bE/\Q (.str (i++j)) H):=by intro pins s σ H x y v u Q I rx ry h;obtain⟨i,j,rfl,rfl,hz,q⟩:=h;obtain⟨t,rfl⟩:=rx;obtain⟨t',rfl⟩:=ry;exact add_str (λt' tk=>⟨.str (i++j),H,I.tok _,⟨_,rfl⟩,q⟩) hz
def vals1(r:Vals [x] us):∃ u,us=[u]/\RelV x u:=by
 cases r with
 |cons r1 r2=>cases r2;exact⟨_,rfl,r1⟩
def vals2(r:Vals [x,y] us):∃ u w',us=[u,w']/\RelV x u/\RelV y w':=by
 cases r with
 |cons r1 r2 =>
  cases r2 with
  |cons r3 r4=>cases r4;exact⟨_,_,rfl,r1,r3⟩
def gq' (hc:X.calm=true):mn X (.builtin "min") (λxs H Q=>∃ i j,xs=[.int i,.int j]/\Q (.int (if j<i then j else i)) H):=by
 intro pins s σ H xs us Q I r h;obtain⟨i,j,rfl,q⟩:=h;obtain⟨u,w',rfl,⟨t,rfl⟩,⟨t',rfl⟩⟩:=vals2 r;refine min_two_ints (I.ok.hd hc) λh' tk k=>⟨_,H,I.kept k,?_,q⟩
 by_cases hj:j<i
 ·rw[if_pos hj,if_pos hj];exact⟨_,rfl⟩
 ·rw[if_neg hj,if_neg hj];exact⟨_,rfl⟩
def bl'(K:ay)(x:V)(H:Hp)(n:Nat):Prop :=
 match x with
 |.str y=>y.length<=bE/\n=y.length
 |.xB y=>y.size<=bE/\n=y.size
 |.ref p=>(∃ xs,e7 K H p xs/\n=xs.length)\/∃ xs,kU K H p xs/\n=xs.length
 |_=>False
def Ud:mn X (.builtin "len") (λxs H Q=>∃ x n,xs=[x]/\bl' X.K x H n/\Q (.int n) H):=by
 intro pins s σ H xs us Q I r h;obtain⟨x,n,rfl,e,q⟩:=h;obtain⟨u,rfl,rx⟩:=vals1 r;have hs:bE=16777216:=nS
 cases x with
 |str y =>obtain⟨t,rfl⟩:=rx;obtain⟨hy,e'⟩:y.length<=bE/\n=y.length:=e;subst e';exact len_str (by lia) ⟨.int _,H,I.tok _,⟨_,rfl⟩,q⟩
 |xB y =>obtain⟨t,rfl⟩:=rx;obtain⟨hy,e'⟩:y.size<=bE/\n=y.size:=e;subst e';exact PySem.W.len_bytes (by lia) ⟨.int _,H,I.tok _,⟨_,rfl⟩,q⟩
 |ref p =>
  cases rx;have e':(∃ xs,e7 X.K H p xs/\n=xs.length)\/∃ xs,kU X.K H p xs/\n=xs.length:=e;rcases e' with⟨xs,hx,e'⟩|⟨xs,hx,e'⟩
  ·subst e';obtain⟨its,r',pl,hz⟩:=I.list hx;have hlen:=r'.length;exact Calls.call_len_list pl.isList (by simp only[kB];lia) ⟨.int xs.length,H,I.tok _,⟨_,by simp only[kB];rw[hlen]⟩,q⟩
  ·subst e';obtain⟨its,r',pl,hz⟩:=I.tuple hx;have hlen:=r'.length;exact len_tuple pl (by simp only[kB];lia) ⟨.int xs.length,H,I.tok _,⟨_,by simp only[kB];rw[hlen]⟩,q⟩
 |_=>exact(e).elim
end
structure KG(h:dk)(x dx C:ae)(mA:Str->Option ah):Prop where
 obj:h.get? x=some (Fs C dx)
 ns:h.Ns1 dx mA
 ne:dx≠x
def lookIn_ns{h:dk}{dx:ae}{mA:Str->Option ah}(n:h.Ns1 dx mA):∃ od,h.get? dx=some od/\∀ name,Ta name od=some (mA name):=by
 obtain⟨o,es,ep,ho,hd,hk,_,hm⟩:=n;refine⟨o,ho,λname=>?_⟩;have e:=hm name;unfold nsFind findBy at e;rw[<- Array.find?_toList] at e;unfold Ta;rw[hd];dsimp only;split
 ·rename_i y q;rw[q] at e;exact congrArg some e
 ·rename_i q;rw[q] at e;have a:es.toList.any (·.refKey)=false:=by rw[List.any_eq_false];intro y hy;obtain⟨z,t,gr'⟩:=hk y (Array.mem_toList_iff.mp hy);simp[DictEntry.refKey,gr']
  have a':¬ es.toList.any (·.refKey)=true:=by rw[a];exact pS
  rw[if_neg a'];exact congrArg some e
def KG.look(I:KG h x dx C mA):∃ od,PySem.W.InstAt h x (Fs C dx) C (some od)/\∀ name,Ta name od=some (mA name) :=
 let ⟨od,ho,hl⟩:=lookIn_ns I.ns
 ⟨od,⟨I.obj,rfl,rfl,ho⟩,hl⟩
section
variable {prog:cq}{w:cS}{A:ft}{E:ah->aE->Prop}{s:aE}{K:ay}{x dx C f:ae}{mA:Str->Option ah}{name:Str}{v:ah}
def get_map(X:K.In s.heap)(I:KG s.heap x dx C mA)(hg:QY K C name=true)(hh:S9 K C=true)(ha:kS K (.ref C) name=some none) (hv:mA name=some v) (Ue:PySem.W.handedIn v=true) (h:Q v { s with toks:=s.toks+1 }) :
  b6 (bq prog w) A (getAttr (.ref x) name expr) Q E s:=by
 obtain⟨od,J,hl⟩:=I.look;exact PySem.W.get_value X J (VA hg).1 (PySem.W.findObj_own hh ha rfl (by rw[hl,hv])) Ue h
def gs'(X:K.In s.heap)(I:KG s.heap x dx C mA)(hg:QY K C name=true)(hf:kS K (.ref C) name=some (some (.ref f))) (ht:IH K (.ref f)=true) (hv:mA name=none) (h:Q (.ref f,[.ref x]) s) :
  b6 (bq prog w) A (getMethod (.ref x) name pl) Q E s:=by
 obtain⟨od,J,hl⟩:=I.look;exact PySem.W.method_fn X J (VA hg).1 (VA hg).2 hf (beq_iff_eq.mp ht) (by show(Ta name od).map (·.isSome)=some false;rw[hl,hv];rfl) h
def gt'(X:K.In s.heap)(I:KG s.heap x dx C mA)(hs:kS K (.ref C) "__setattr__" = some (some (.builtin "object.__setattr__"))) (hp:VC K C=true) (ht:VF K C name=some none) (hh:S9 K C=true)(hw:PySem.Within mA ns) (jS:ns.length<=bE)(h:∀ h',KG h' x dx C (λy=>if y=name then some v else mA y)->Heap.SameBut dx s.heap h'->Q () { s with heap:=h',toks:=s.toks+2 }) :
  b6 (bq prog w) A (setAttr (.ref x) name v) Q E s:=by
 obtain⟨od,J,hl⟩:=I.look;refine PySem.W.set_plain X J hs (PySem.W.osa_open X J hp ht λb=>?_);obtain⟨cd,hc,V8⟩:=PySem.W.any_some hh;have hx:s.heap.get? x=some ⟨.ref C,some dx,.plain,#[]⟩:=I.obj;refine bT (dv (bT (bT (wpAny_loadPart hx (bT (PySem.W.Looks.here (PySem.W.looks_clsIn X hc) ?_))))));rw[V8];refine dv (bT (dv (bT ?_)));refine wpAny_nsSet1 I.ns λh' KL ny=>?_;obtain⟨oD,esD,epD,hoD,BE,hcD⟩:=KL.count (PySem.Within.cons name v hw);refine bT (wpAny_lookBehind hoD (by rw[BE];exact pastItsLine_dict (kD hcD (by rw[jv];lia))) ?_);exact dv (h _ ⟨(ny.2 _ (Ne.symm I.ne)).trans I.obj,KL,I.ne⟩ ny)
def gw'{R:Result->aE->Prop}(X:K.In s.heap)(hm:VG K C=true)(hi:kS K (.ref C) "__init__" = some (some (.ref f))) (hf:PySem.W.typeIn K (.ref f)=some (.type "function"))(h:codeAny (bq prog w) (A.under (.builtin "type.__call__" ⟨.ref C :: vs,kw⟩)) (.call (.ref f) ⟨.ref (s.heap.objs.size+1) :: vs,kw⟩) (PySem.W.InitBack (s.heap.objs.size+1) R) { s with heap:=(s.heap.push Fn).push (Fs C s.heap.objs.size) }) :
  codeAny (bq prog w) A (.call (.ref C) ⟨vs,kw⟩) R s:=by
 obtain⟨hh,g,d,t,os⟩:=s;exact PySem.W.make_core (PySem.W.makes_of X hm) (PySem.W.looks_findIn X hi) (λself=>PySem.W.bind_fn X self hf) (.inl rfl) h
end
def hJ(f:Str)(v:V):List (Str × V)->List (Str × V)
 |[]=>[(f,v)]
 | (g,x) :: r=>if g=f then (g,v) :: r else (g,x) :: hJ f v r
theorem bm'(f g:Str)(v:V):∀ fs:List (Str × V),(hJ f v fs).lookup g=if g=f then some v else fs.lookup g
 |[]=>by
  show List.lookup g [(f,v)]=_;by_cases h:g=f
  ·have hb:(g == f)=true:=beq_iff_eq.mpr h;simp only[List.lookup,hb,if_pos h]
  ·have hb:(g == f)=false:=beq_eq_false_iff_ne.mpr h;simp only[List.lookup,hb,if_neg h]
 | (k,x) :: r=>by
  have ih:=bm' f g v r;rw[show hJ f v ((k,x) :: r)=(if k=f then (k,v) :: r else (k,x) :: hJ f v r) from rfl];by_cases hk:k=f
  ·rw[if_pos hk];by_cases h:g=k
   ·have hb:(g == k)=true:=beq_iff_eq.mpr h;simp only[List.lookup,hb,if_pos (h.trans hk)]
   ·have hb:(g == k)=false:=beq_eq_false_iff_ne.mpr h;simp only[List.lookup,hb,if_neg (λe:g=f=>h (e.trans hk.symm))]
  ·rw[if_neg hk];by_cases h:g=k
   ·have hb:(g == k)=true:=beq_iff_eq.mpr h;simp only[List.lookup,hb,if_neg (λe:g=f=>hk (h.symm.trans e))]
   ·have hb:(g == k)=false:=beq_eq_false_iff_ne.mpr h;simp only[List.lookup,hb];exact ih
theorem Wv(f:Str)(v:V):∀ fs:List (Str × V),f∈(hJ f v fs).map (·.1)/\∀ g,g∈fs.map (·.1)->g∈(hJ f v fs).map (·.1)
 |[]=>⟨by simp[hJ],λg h=>by simp at h⟩
 | (k,x) :: r=>by
  obtain⟨i1,i2⟩:=Wv f v r;rw[show hJ f v ((k,x) :: r)=(if k=f then (k,v) :: r else (k,x) :: hJ f v r) from rfl];by_cases hk:k=f
  ·rw[if_pos hk];subst hk;exact⟨by simp,λg h=>by simpa using h⟩
  ·rw[if_neg hk];refine⟨?_,λg h=>?_⟩
   ·rw[fR];exact eI _ i1
   ·rw[fR] at h ⊢;rcases eW.mp h with e|e
    ·exact eW.mpr (.inl e)
    ·exact eI _ (i2 g e)
theorem bn'(f:Str)(v:V):∀ fs:List (Str × V),(hJ f v fs).length<=fs.length+1
 |[]=>by simp[hJ]
 | (k,x) :: r=>by
  have ih:=bn' f v r;rw[show hJ f v ((k,x) :: r)=(if k=f then (k,v) :: r else (k,x) :: hJ f v r) from rfl];by_cases hk:k=f
  ·rw[if_pos hk,jv,jv];lia
  ·rw[if_neg hk,jv,jv];lia
def sd.some_of(r:sd (some v) o):∃ u,o=some u/\RelV v u:=by
 cases o with
 |none=>exact(r).elim
 |some u=>exact⟨u,rfl,r⟩
def sd.none_of(r:sd none o):o=none:=by
 cases o with
 |none=>rfl
 |some u=>exact(r).elim
def gx'(r:RelV v u):PySem.W.handedIn u=true:=by
 cases v with
 |non=>cases (show u=Value.none from r);rfl
 |bl b=>cases (r);rfl
 |int i=>obtain⟨t,e⟩:=(r);cases e;rfl
 |str x=>obtain⟨t,e⟩:=(r);cases e;rfl
 |xB b=>obtain⟨t,e⟩:=(r);cases e;rfl
 |AH b=>obtain⟨t,e⟩:=(r);cases e;rfl
 |ref a=>cases (r);rfl
 |ty n=>cases (r);rfl
section
variable {P:cq}{w:cS}{H:Hp}{h:dk}{a C dx:ae}{fs:List (Str × V)}
def RJ(bG:ic P w H h)(e:H a=some (.ins C dx fs)):∃ mA,KG h a dx C mA/\(∀ f,sd (fs.lookup f) (mA f))/\PySem.Within mA (fs.map (·.1))/\fs.length<=1000/\H dx=some (.own a):=by
 obtain⟨d,z,ne,ob,mA,n,r,q⟩:=(bG a _ e)
 exact⟨mA,⟨ob,n,ne⟩,r,q,z,d⟩
end
structure uS(K:ay)(C:ae):Prop where
 pg:QY K C Str.empty=true
 hd:S9 K C=true
 po:VC K C=true
 sa:kS K (.ref C) "__setattr__" = some (some (.builtin "object.__setattr__"))
def uS.get{K:ay}(c:uS K C)(f:Str):QY K C f=true:=c.pg
def vb(K:ay)(C:ae)(f:Str):Prop:=kS K (.ref C) f=some none
def vb.gy'{K:ay}(n:vb K C f):VF K C f=some none:=by unfold VF;rw[show kS K (.ref C) f=some none from n];rfl
structure Meth(K:ay)(C:ae)(m:Str)(f:ae):Prop where
 at_:kS K (.ref C) m=some (some (.ref f))
 fn:IH K (.ref f)=true
 kp:ui K (.ref f)=true
section
variable {X:Cx}{pins:List (ae × Obj)}{σ:St}{H:Hp}{s:aE}{a C dx:ae}{fs:List (Str × V)}{f:Str}{v:V}{A:ft}{E:ah->aE->Prop}
def gz'(I:Inv X pins σ H s)(e:H a=some (.ins C dx fs))(c:uS X.K C)(n:vb X.K C f)(l:fs.lookup f=some v)(h:∀ u s',Inv X pins σ H s'->RelV v u->Q u s'):b6 (bq X.prog X.w) A (getAttr (.ref a) f b) Q E s:=by
 obtain⟨mA,O,r,_,_,_⟩:=RJ I.bG e;obtain⟨u,hu,ru⟩:=sd.some_of (by rw[<- l];exact r f);exact get_map I.iA O (c.get f) c.hd n hu (gx' ru) (h u _ (I.tok _) ru)
def gA'(I:Inv X pins σ H s)(e:H a=some (.ins C dx fs))(c:uS X.K C)(k:Meth X.K C m g)(l:fs.lookup m=none)(h:Q (.ref g,[.ref a]) s):b6 (bq X.prog X.w) A (getMethod (.ref a) m pl) Q E s:=by
 obtain⟨mA,O,r,_,_,_⟩:=RJ I.bG e;have hn:mA m=none:=sd.none_of (by rw[<- l];exact r m);exact gs' I.iA O (c.get m) k.at_ k.fn hn h
def gB'(I:Inv X pins σ H s)(e:H a=some (.ins C dx fs))(c:uS X.K C)(n:vb X.K C f)(hl:fs.length<1000)(ry:RelV y u)(h:∀ s',Inv X pins σ (upd H a (.ins C dx (hJ f y fs))) s'->Q () s'):b6 (bq X.prog X.w) A (setAttr (.ref a) f u) Q E s:=by
 obtain⟨mA,O,r,wi,_,ho⟩:=RJ I.bG e;have hz:(fs.map (·.1)).length<=bE:=by rw[dz,nS];lia
 refine gt' I.iA O c.sa c.po n.gy' c.hd wi hz λh' O' sb=>h _ ?_;have hd:∃ o,h'.get? dx=some o:=let ⟨o,_,_,e',_⟩:=O'.ns;⟨o,e'⟩
 refine I.write (by rw[e];exact True.intro) (.inr ho) (λb q hb z=>(sb.2 b hb).trans z) hd ?_;refine⟨by rw[df O.ne];exact ho,?_,O.ne,O'.obj,_,O'.ns,λg=>?_,λg hg=>?_⟩
 ·have:=bn' f y fs;lia
 ·show sd ((hJ f y fs).lookup g) (if g=f then some u else mA g);rw[bm'];by_cases q:g=f
  ·rw[if_pos q,if_pos q];exact ry
  ·rw[if_neg q,if_neg q];exact r g
 ·by_cases q:g=f
  ·rw[q];exact(Wv f y fs).1
  ·refine(Wv f y fs).2 g (wi g λz=>hg ?_);show(if g=f then some u else mA g)=none;rw[if_neg q];exact z
def Inv.made(I:Inv X pins σ H s):Inv X pins σ (upd (upd H s.heap.objs.size (.own (s.heap.objs.size+1))) (s.heap.objs.size+1) (.ins C s.heap.objs.size [])) { s with heap:=(s.heap.push Fn).push (Fs C s.heap.objs.size) }:=by
 have e1:(s.heap.push Fn).get? s.heap.objs.size=some Fn:=oi s.heap rfl;have e2:((s.heap.push Fn).push (Fs C s.heap.objs.size)).get? (s.heap.objs.size+1)=some (Fs C s.heap.objs.size):=by have:=oi (s.heap.push Fn) (o:=Fs C s.heap.objs.size) rfl;rwa[Heap.size_push] at this
 have e3:(s.heap.push Fn).Ns s.heap.objs.size (λ_=>none):=⟨Fn,#[],_,e1,rfl,(λe he=>absurd he (by simp)),λ_=>rfl⟩
 have I1:=I.laid (a:=s.heap.objs.size) (o:=.own (s.heap.objs.size+1)) (t':=s.toks) (λb u q=>ki _ q) (c9 _) ⟨_,e1⟩;refine I1.laid (t':=s.toks) (λb u q=>ki _ q) (Rj (Heap.size_push _ _)) ?_;have ne:s.heap.objs.size≠s.heap.objs.size+1:=kE (Nat.lt_succ_self _);refine⟨by rw[df ne,eJ],gd _,ne,e2,λ_=>none,(Heap.Ns1.of_empty e3).at λo q=>ki _ q,λ_=>True.intro,λy hy=>absurd rfl hy⟩
def gC'(hb:vS e f env (b3 e env)=b3 e env)(h:b6 (bq prog w) A (b3 e env) (λo fz=>b6 (bq prog w) A (getAttr o f true) Q E fz) E s):b6 (bq prog w) A (b3 (.Attribute e f pos) env) Q E s :=
 Attribute_any_ h (by rw[arm_eval_Attribute,hb])
end
def EC(K:ay)(ta:TE)(f:Str):TE:=λσ H Q=>ta σ H λx H1=>∃ a C dx fs v,x=.ref a/\H1 a=some (.ins C dx fs)/\uS K C/\vb K C f/\fs.lookup f=some v/\Q v H1
def Ww(K:ay)(ta tv:TE)(f:Str):TS:=λD σ H=>tv σ H λy H1=>ta σ H1 λx H2=>∃ a C dx fs,x=.ref a/\H2 a=some (.ins C dx fs)/\uS K C/\vb K C f/\fs.length<1000 /\
 D.nx σ (upd H2 a (.ins C dx (hJ f y fs)))
section
variable {X:Cx}{o e value:Expr}{f:Str}{pos pos':Pos}{ta tv:TE}
def OB(he:PE X e ta)(hb:vS e f X.env (b3 e X.env)=b3 e X.env):PE X (.Attribute e f pos) (EC X.K ta f):=by intro pins s σ H Q I h;refine gC' hb (cv (he pins s σ H _ I h) λu s1 dA=>?_);obtain⟨x,H1,I1,rx,a,C,dx,fs,v,ex,ea,c,n,l,q⟩:=dA;subst ex;obtain rfl:u=Value.ref a:=rx;exact gz' I1 ea c n l λu' s2 I2 ru=>⟨v,H1,I2,ru,q⟩
def bo'(ha:PE X o ta)(hv:PE X value tv)(hs:lP value (some (.Attribute o f pos')) pos.line X.env=pure false):PS X (.Assign [.Attribute o f pos'] value pos) (Ww X.K ta tv f):=by intro pins s σ H D I h;refine plainObj_wpAny_Assign_Attribute (cv (hv pins s σ H _ I h) λu s1 ck=>L2.eM ck λy H1 I1 ry q=>cv (ha pins s1 σ H1 _ I1 q) λov s2 dA=>?_) hs;obtain⟨x,H2,I2,rx,a,C,dx,fs,ex,ea,c,n,l,q2⟩:=dA;subst ex;obtain rfl:ov=Value.ref a:=rx;exact gB' I2 ea c n l ry λs3 I3=>⟨σ,_,I3,q2⟩
end
section
variable {X:Cx}{pins:List (ae × Obj)}{σ:St}{H:Hp}{s:aE}{A:ft}{E:ah->aE->Prop}{Q:ah->aE->Prop}{c:ah}{b:Bool}
inductive AO(K:ay)(H:Hp):V->ah->Prop where
 |non:AO K H .non (.type "NoneType")
 |bl (x:Bool):AO K H (.bl x) (.type "bool")
 |int (i:Int):AO K H (.int i) (.type "int")
 |str (x:Str):AO K H (.str x) (.type "str")
 |AH (x:UInt64):AO K H (.AH x) (.type "float")
 |lst {a:ae} {xs:List V} (e:H a=some (.lst xs)):AO K H (.ref a) (.type "list")
 |qq {a:ae} {o:Obj} {xs:List V} (e:H a=some (.qq o (.lst xs))):AO K H (.ref a) (.type "list")
 |tup {a:ae} {xs:List V} (e:H a=some (.tup xs)):AO K H (.ref a) (.type "tuple")
 |dK {a:ae} {ag:List (Key × V)} (e:H a=some (.dK ag)):AO K H (.ref a) (.type "dict")
 |dT {a:ae} {ag:List (List Key × V)} (e:H a=some (.dT ag)):AO K H (.ref a) (.type "dict")
 |ins {a C dx:ae} {fs:List (Str × V)} (e:H a=some (.ins C dx fs)) (cl:uS K C) (ha:kS K (.ref C) "__class__" = some (some (.builtin "object.__class__")))
   (hn:PySem.W.specialIn K (.builtin "object.__class__") "__get__" = some (some (.builtin "getset_descriptor.__get__"))) (htk:PySem.W.takesIn K (.builtin "object.__class__")=some true)
   (hm:Fu K C (.type "object")=some true):AO K H (.ref a) (.ref C)
def RK(I:Inv X pins σ H s)(rx:RelV x u)(ty:AO X.K H x t)(e:oa X.K t c=some b)(h:∀ tk,Q (.bool b) { s with toks:=tk }) :
  b6 (bq X.prog X.w) A (call (.builtin "isinstance") [u,c]) Q E s:=by
 cases ty with
 |non=>cases (show u=Value.none from rx);exact xt PySem.W.kitx_none I.iA True.intro e (λz=>nomatch z) h
 |bl y=>cases (show u=Value.bool y from rx);exact xt PySem.W.kitx_bool I.iA True.intro e (λz=>nomatch z) h
 |int i=>obtain⟨t,q⟩:=(rx);cases q;exact xt PySem.W.kitx_int I.iA True.intro e (λz=>nomatch z) h
 |str y=>obtain⟨t,q⟩:=(show ∃ t,u=Value.str y t from rx);cases q;exact xt PySem.W.kitx_str I.iA True.intro e (λz=>nomatch z) h
 |AH y=>obtain⟨t,q⟩:=(rx);cases q;exact xt PySem.W.kitx_float I.iA True.intro e (λz=>nomatch z) h
 |@lst a xs ea =>
  cases (show u=Value.ref a from rx);obtain⟨_,_,n,_,h1⟩:=(I.bG a _ ea)
  exact xt VD I.iA ⟨_,h1,rfl⟩ e (λz=>nomatch z) h
 |@qq a ob xs ea =>
  cases (show u=Value.ref a from rx);obtain⟨_,_,_,n,_,h1⟩:=(I.bG a _ ea)
  exact xt VD I.iA ⟨_,h1,rfl⟩ e (λz=>nomatch z) h
 |@tup a xs ea =>
  cases (show u=Value.ref a from rx);obtain⟨_,_,_,p⟩:=(I.bG a _ ea)
  obtain⟨o,h1,h2,_⟩:=p;exact xt PySem.W.kitx_tuple I.iA ⟨o,h1,h2⟩ e (λz=>nomatch z) h
 |@dK a ag ea =>
  cases (show u=Value.ref a from rx);obtain⟨_,_,vs,_,p⟩:=(I.bG a _ ea)
  obtain⟨o,es,ep,h1,h2,_⟩:=p;exact xt S_ I.iA ⟨o,h1,h2.1⟩ e (λz=>nomatch z) h
 |@dT a ag ea =>
  cases (show u=Value.ref a from rx);obtain⟨_,_,xs,_,o,es,ep,h1,h2,_⟩:=(I.bG a _ ea)
  exact xt S_ I.iA ⟨o,h1,h2.1⟩ e (λz=>nomatch z) h
 |@ins a C dx fs ea cl ha hn htk hm =>cases (show u=Value.ref a from rx);obtain⟨mA,O,_⟩:=RJ I.bG ea;obtain⟨od,J,_⟩:=O.look;exact xt (PySem.W.kitx_own (cl.get _) cl.hd ha hn htk hm) I.iA J e (λz=>nomatch z) h
end
structure gi(k:Nat)(A:ft):Prop where
 hd:A.handled=none
 dp:A.depth+3*k+5<recursionLimit
 un:A.units+16*k+200<iE
def gi.mono(r:gi k A)(h:j<=k):gi j A:=⟨r.hd,by have:=r.dp;lia,by have:=r.un;lia⟩
def gi.deeper(r:gi (k+1) A)(env:Env):gi k (A.deeper env) :=
 ⟨r.hd,by have:=r.dp;show A.depth+1+3*k+5<_;lia,by have:=r.un;show A.units+3+16*k+200<_;lia⟩
def gD' {A:ft} {C:ae} {us:List ah} {kw:List (Str × ah)}:(A.under (.builtin "type.__call__" ⟨.ref C :: us,kw⟩)).depth=A.depth+1:=by first|rfl|simp[Around.under,Code.weight,Code.isCreation,Code.isGuard,Code.isCaller,Code.frames,Code.isFrame,guardIds]
def gE' {A:ft} {C:ae} {us:List ah} {kw:List (Str × ah)}:(A.under (.builtin "type.__call__" ⟨.ref C :: us,kw⟩)).units=A.units+1:=by first|rfl|simp[Around.under,Code.cUnits,Code.frames,Code.isFrame]
def gi.make (r:gi (k+1) A) (C:ae) (us:List ah) (kw:List (Str × ah)):gi k (A.under (.builtin "type.__call__" ⟨.ref C :: us,kw⟩)) :=
 ⟨r.hd,by have:=r.dp;rw[gD'];lia,by have:=r.un;rw[gE'];lia⟩
def gi.depth(r:gi k A):A.depth<recursionLimit:=by have:=r.dp;lia
def gi.units(r:gi k A):A.units+64<iE:=by have:=r.un;lia
def OG:TA:=λ_ H Q=>Q [] H
def Ug(ta:TE)(tr:TA):TA:=λσ H Q=>ta σ H λx H1=>tr σ H1 λxs H2=>Q (x :: xs) H2
section
variable {X:Cx}{e:Expr}{es:List Expr}{te:TE}{t:TA}{pos:Pos}
def ly:PA X [] OG:=λ_ _ _ _ H Q I h=>Calls.spliced_nil ⟨[],H,I,.nil,h⟩
def i3(ha:PE X e te)(hr:PA X es t)(hs:autoParam (aT (e :: es) X.env=(false,b3 e X.env) :: aT es X.env) bv):PA X (e :: es) (Ug te t):=by intro pos pins s σ H Q I h;rw[hs];refine Calls.spliced_cons (cv (ha pins s σ H _ I h) λu s1 ck=>L2.eM ck λx H1 I1 r1 q1=>?_);exact cv (hr pos pins s1 σ H1 _ I1 q1) λus s2 ck=>L2.eM ck λxs H2 I2 r2 q2=>⟨x :: xs,H2,I2,.cons r1 r2,q2⟩
def gF'(t:TA):TE:=λσ H Q=>t σ H λxs H1=>xs.length<=bE/\∀ p,H1 p=none->Q (.ref p) (upd H1 p (.tup xs))
def bq'(t:TA):TE:=λσ H Q=>t σ H λxs H1=>xs.length<=bE/\∀ p,H1 p=none->Q (.ref p) (upd H1 p (.lst xs))
def RL{x1}(h:PA X es t):PE X (.Tuple es x1 pos) (gF' t):=by intro pins s σ H Q I hq;refine wpAny_Tuple_spliced (cv (h pos pins s σ H _ I hq) λus s1 ⟨xs,H1,I1,r,z,q⟩=>⟨by rw[<- r.length];exact z,?_⟩);have hf:H1 s1.heap.objs.size=none:=I1.bG.fresh (c9 _);refine⟨.ref s1.heap.objs.size,upd H1 s1.heap.objs.size (.tup xs),I1.laid (λb u e=>ki _ e) (c9 _) ?_,rfl,q _ hf⟩;exact⟨z,us,r,⟨_,oi _ rfl,rfl,_,rfl⟩⟩
def Wx(h:PA X es t):PE X (.List es pos) (bq' t):=by intro pins s σ H Q I hq;refine wpAny_List_spliced (cv (h pos pins s σ H _ I hq) λus s1 ⟨xs,H1,I1,r,z,q⟩=>⟨by rw[<- r.length];exact z,?_⟩);have hf:H1 s1.heap.objs.size=none:=I1.bG.fresh (c9 _);refine⟨.ref s1.heap.objs.size,upd H1 s1.heap.objs.size (.lst xs),I1.laid (λb u e=>ki _ e) (c9 _) ?_,rfl,q _ hf⟩;exact⟨z,us,0,r,oi _ rfl⟩
end
abbrev Sp:=List V->Hp->VK->XK->Prop
abbrev ED:=List Env->Hp->aE->XK->ah->aE->Prop
structure KP(P:cq)(w:cS)(K:ay)(mg:Str->Option ah)(base:dk)(A:ft)(outer:List Env)(s:aE)(H:Hp):Prop where
 frames:A.frames=some outer
 mod:Mod K mg base
 bs:∀ b o,base.get? b=some o->s.heap.get? b=some o/\H b=none
 xD:base.objs.size<=s.heap.objs.size
 sQ:s.heap.FunFrames base outer
 AI:∀ b∈g9 outer,H b=none
 bG:ic P w H s.heap
 bare:AllBare s.gens
def CE(outer:List Env)(P:cq)(w:cS)(H:Hp)(s:aE)(Q:VK)(u:ah)(s':aE):Prop :=
 ∃ v H',s'.os=s.os/\AllBare s'.gens/\Un (g9 outer) [] H H' s.heap s'.heap/\ic P w H' s'.heap/\RelV v u/\Q v H'
def CR(CX:ED)(outer:List Env)(P:cq)(w:cS)(H:Hp)(s:aE)(Q:VK)(E:XK)(r:Result)(s':aE):Prop :=
 match r with
 |.ok (.ret u)=>CE outer P w H s Q u s'
 |.ok _=>False
 |.error e=>CX outer H s E e s'
structure kR(P:cq)(w:cS)(K:ay)(mg:Str->Option ah)(base:dk)(CX:ED)(k:Nat)(f:ae)(fd:og)(ps:List Str)(sp:Sp):Prop where
 len:∀ vs H Q E,sp vs H Q E->vs.length=ps.length
 run:∀ (A:ft) (outer:List Env) (s:aE) (H:Hp) (args:Args) (us:List ah) (vs:List V) (Q:VK) (E:XK),gi k A->KP P w K mg base A outer s H->BindsTo s fd args (ps.zip us)->Vals vs us->sp vs H Q E ->
  codeAny (bq P w) A (.call (.ref f) args) (CR CX outer P w H s Q E) s
def KP.make{P:cq}{K:ay}(e:KP P w K mg base A outer s H)(C:ae)(us:List ah)(kw:List (Str × ah)) :
  KP P w K mg base (A.under (.builtin "type.__call__" ⟨.ref C :: us,kw⟩)) outer s H:=⟨by first|exact e.frames|(simpa[Around.under,Code.envs,Code.isFrame,pushEnvs] using e.frames),e.mod,e.bs,e.xD,e.sQ,e.AI,e.bG,e.bare⟩
section
variable {X:Cx}{pins:List (ae × Obj)}{σ:St}{H:Hp}{s s':aE}
def Inv.Wy(I:Inv X pins σ H s):KP X.prog X.w X.K X.mg X.base X.A X.stack s H :=
 ⟨I.ok.frames,I.ok.mod,I.bs,kD I.ok.xD I.sz,I.stack,I.V_,I.bG,I.bare⟩
def Inv.after(I:Inv X pins σ H s)(h:CE X.stack X.prog X.w H s Q u s'):EP X pins σ Q u s':=by obtain⟨v,H',os,bare,un,bG,r,q⟩:=h;obtain⟨hh,g,d,t,Wz⟩:=s';obtain rfl:Wz=s.os:=os;exact⟨v,H',I.call un bG bare (λb z=>absurd z (by simp)),r,q⟩
end
def KS(sp:Sp)(qE:List V)(E:XK)(t:TA):TE:=λσ H Q=>t σ H λvs H1=>sp (vs++qE) H1 Q E
def gG'(C:ae)(m:Str)(sp:Sp)(qE:List V)(E:XK)(ta:TE)(t:TA):TE:=λσ H Q=>ta σ H λx H1=>∃ a dx fs,x=.ref a/\H1 a=some (.ins C dx fs)/\fs.lookup m=none /\
 t σ H1 λvs H2=>sp (x :: (vs++qE)) H2 Q E
def gH'(C:ae)(sp:Sp)(qE:List V)(E:XK)(t:TA):TE:=λσ H Q=>t σ H λvs H1=>∀ x dx,H1 x=none->H1 dx=none->dx≠x ->
 sp (.ref x :: (vs++qE)) (upd (upd H1 dx (.own x)) x (.ins C dx [])) (λv H2=>v=.non/\Q (.ref x) H2) E
def Binds(K:ay)(fd:og)(ps:List Str)(ds:List ah):Prop :=
 ∀ (s:aE) (us:List ah),K.In s.heap->(us++ds).length=ps.length->BindsTo s fd ⟨us,[]⟩ (ps.zip (us++ds))
def Binds.all{K:ay}{ps:List Str}(h:∀ us:List ah,us.length=ps.length->bindArgs fd ⟨us,[]⟩=pure (ps.zip us)):Binds K fd ps []:=λs us _ hl=>by rw[kM] at hl ⊢;exact .of_eq (h us hl)
def Passes(CX:ED)(X:Cx)(E:XK):Prop:=∀ (pins:List (ae × Obj)) (σ:St) (H:Hp) (s:aE) (e:ah) (s':aE),Inv X pins σ H s->CX X.stack H s E e s'->X.xe e s'
section
variable {X:Cx}{CX:ED}{k:Nat}{f C:ae}{fd:og}{ps:List Str}{sp:Sp}{qE:List V}{ds:List ah}{E:XK}{x m:Str}{p pos apos:Pos}{e o:Expr}{es:List Expr}{ta:TE}{t:TA}
def bs'(F:kR X.prog X.w X.K X.mg X.base CX k f fd ps sp)(hr:gi k X.A)(hb:Binds X.K fd ps ds)(hd:Vals qE ds)(hx:Passes CX X E)(I:Inv X pins σ H s) (r:Vals vs us) (h:sp (vs++qE) H Q E):b6 (bq X.prog X.w) X.A (call (.ref f) us) (EP X pins σ Q) X.xe s:=by
 have r2:Vals (vs++qE) (us++ds):=r.append hd;have hl:(us++ds).length=ps.length:=by rw[<- r2.length];exact F.len _ _ _ _ h
 refine wpAny_call (codeAny_mono (F.run X.A X.stack s H ⟨us,[]⟩ (us++ds) (vs++qE) Q E hr I.Wy (hb s us I.iA hl) r2 h) λr s' hq=>?_)
 cases r with
 |error e=>exact hx pins σ H s e s' I hq
 |ok fl =>
  cases fl with
  |ret u=>exact I.after hq
  |next=>exact False.elim hq
  |brk=>exact False.elim hq
  |cont=>exact False.elim hq
def WC(F:kR X.prog X.w X.K X.mg X.base CX k f fd ps sp)(hr:gi k X.A)(hg:Gl X x)(hm:X.mg x=some (.ref f))(hk:ui X.K (.ref f)=true)(hb:Binds X.K fd ps ds)(hd:Vals qE ds)(hx:Passes CX X E)(ha:PA X (e :: es) t) (ip:(x == ("__debug__" : Str))=false:=by decide) (he:autoParam (aT (e :: es) X.env=(false,b3 e X.env) :: aT es X.env) bv) (hU:autoParam ((gV pos (aT es X.env)).any (·.1)=false) bv) :
  PE X (.Call (.Name x p) (e :: es) [] pos) (KS sp qE E t):=by
 intro pins s σ H Q I h;refine Q6 (JY I hg hm ?_ ip);refine VB I.ok.mod.NW hk (cv (ha pos pins s σ H _ I h) λus s1 ck=>L2.eM ck λvs H1 I1 r q=>⟨I1.iA,?_⟩) he hU;exact bs' F hr hb hd hx I1 r q
def bt'(he:PE X o ta)(c:uS X.K C)(hm:Meth X.K C m f)(F:kR X.prog X.w X.K X.mg X.base CX k f fd ps sp)(hr:gi k X.A)(hb:Binds X.K fd ps ds)(hd:Vals qE ds)(hx:Passes CX X E)(ha:PA X (e :: es) t)(pT:autoParam (aT (e :: es) X.env=(false,b3 e X.env) :: aT es X.env) bv) (hU:autoParam ((gV pos (aT es X.env)).any (·.1)=false) bv) (ht:autoParam (b3 (.Call (.Attribute o m apos) (e :: es) [] pos) X.env=(do
   let ov ← eval o X.env
   standAt apos.atName
   let (f,first) ← holding [ov] (getMethod ov m pl)
   callWith pos f first (gV pos (aT (e :: es) X.env)) (A4 pos (A3 [] X.env)))) bv) :
  PE X (.Call (.Attribute o m apos) (e :: es) [] pos) (gG' C m sp qE E ta t):=by
 intro pins s σ H Q I h;refine PySem.W.methodCall_KW (cv (he pins s σ H _ I h) λu s1 dA=>?_) ht;obtain⟨x,H1,I1,rx,a,dx,fs,ex,ea,l,q⟩:=dA;subst ex;obtain rfl:u=Value.ref a:=rx;refine gA' I1 ea c hm l ?_;refine VB I.ok.mod.NW hm.kp (cv (ha pos pins s1 σ H1 _ I1 q) λus s2 ck=>L2.eM ck λvs H2 I2 r q2=>⟨I2.iA,?_⟩) pT hU;exact bs' (vs:=.ref a :: vs) F hr hb hd hx I2 (.cons rfl r) q2
structure Mk(K:ay)(C f:ae):Prop where
 makes:VG K C=true
 init:kS K (.ref C) "__init__" = some (some (.ref f))
 fn:IH K (.ref f)=true
 kp:ui K (.ref C)=true
def gI'(M:Mk X.K C f)(F:kR X.prog X.w X.K X.mg X.base CX k f fd ps sp)(hr:gi (k+1) X.A)(hb:Binds X.K fd ps ds)(hd:Vals qE ds)(hx:Passes CX X E) (I:Inv X pins σ H s) (r:Vals vs us)(h:∀ x dx,H x=none->H dx=none->dx≠x->sp (.ref x :: (vs++qE)) (upd (upd H dx (.own x)) x (.ins C dx [])) (λv H2=>v=.non/\Q (.ref x) H2) E) :
  b6 (bq X.prog X.w) X.A (call (.ref C) us) (EP X pins σ Q) X.xe s:=by
 have hq:=h (s.heap.objs.size+1) s.heap.objs.size (I.bG.fresh (Nat.le_succ _)) (I.bG.fresh (c9 _)) (kE (Nat.lt_succ_self _));have I2:=Inv.made (C:=C) I;have r2:Vals (V.ref (s.heap.objs.size+1) :: (vs++qE)) (Value.ref (s.heap.objs.size+1) :: (us++ds)):=.cons rfl (r.append hd);have hl:(Value.ref (s.heap.objs.size+1) :: us++ds).length=ps.length:=by have e:=r2.length;rw[F.len _ _ _ _ hq] at e;exact e.symm
 refine wpAny_call (gw' I.iA M.makes M.init (beq_iff_eq.mp M.fn) (codeAny_mono (F.run _ X.stack _ _ ⟨Value.ref (s.heap.objs.size+1) :: us,[]⟩ (Value.ref (s.heap.objs.size+1) :: (us++ds)) _ _ E (hr.make C us []) (I2.Wy.make C us []) (hb _ (Value.ref (s.heap.objs.size+1) :: us) I2.iA hl) r2 hq) λr s' KW=>?_))
 cases r with
 |error e=>exact hx pins σ _ _ e s' I2 KW
 |ok fl =>
  cases fl with
  |ret u =>obtain⟨v,H',I3,rv,ev,q3⟩:=I2.after KW;subst ev;exact⟨rv,⟨V.ref (s.heap.objs.size+1),H',I3,rfl,q3⟩⟩
  |next=>exact False.elim KW
  |brk=>exact False.elim KW
  |cont=>exact False.elim KW
def gJ'(M:Mk X.K C f)(F:kR X.prog X.w X.K X.mg X.base CX k f fd ps sp)(hr:gi (k+1) X.A)(hg:Gl X x)(hm:X.mg x=some (.ref C))(hb:Binds X.K fd ps ds)(hd:Vals qE ds)(hx:Passes CX X E)(ip:(x == ("__debug__" : Str))=false:=by decide):PE X (.Call (.Name x p) [] [] pos) (gH' C sp qE E OG):=by
 intro pins s σ H Q I h;refine Q6 (JY I hg hm ?_ ip);exact PySem.W.callWith_K0 I.iA M.kp (gI' M F hr hb hd hx I .nil h)
end
structure xI(N P:List Str)(sc:Scope):Prop where
 kind:sc.kind=.function
 co:sc.isCoroutine=false
 gen:sc.isGenerator=false
 nd:N.Nodup
 pre:N.take P.length=P
 par:∀ x∈P,sc.names.lookup x=some .local\/sc.names.lookup x=some .cell
 gK':∀ y∈sc.names,y.2≠.free
theorem bu'{fw:Str->Option A5}:∀ {binds:List (Str × ah)} {m:Str->Option ah},(∀ v,(x,v)∉binds)->bindL fw binds m x=m x
 |[],_,_=>rfl
 | (n,v) :: r,m,h=>by
  unfold bindL;rw[bu' λw hw=>h w (eI _ hw)];split
  ·have:x≠n:=by rintro rfl;exact h v fA
   simp[this]
  ·rfl
theorem bv'{fw:Str->Option A5}:∀ {binds:List (Str × ah)} {m:Str->Option ah},(∀ v,(x,v)∉binds)->bindC fw binds m x=m x
 |[],_,_=>rfl
 | (n,v) :: r,m,h=>by
  unfold bindC;rw[bv' λw hw=>h w (eI _ hw)];split
  ·rfl
  ·have:x≠n:=by rintro rfl;exact h v fA
   simp[this]
def bw'{fw:Str->Option A5}:∀ {P:List Str} {vs:List ah} {i:Nat} {m:Str->Option ah},P.Nodup->P[i]? = some x->vs[i]? = some v->fw x=some .local ->
  bindL fw (P.zip vs) m x=some v
 |[],_,_,_,_,h,_,_=>by simp at h
 |_ :: _,[],_,_,_,_,h,_=>by simp at h
 |p :: P,w :: vs,0,m,nd,h1,h2,hk=>by simp at h1 h2;subst h1;subst h2;show bindL fw ((p,w) :: P.zip vs) m p=_;unfold bindL;rw[bu' λv hv=>(rX.mp nd).1 (List.of_mem_zip hv).1,if_pos hk];simp
 |p :: P,w :: vs,i+1,m,nd,h1,h2,hk=>by unfold bindL;exact bw' (rX.mp nd).2 (by simpa using h1) (by simpa using h2) hk
def bx'{fw:Str->Option A5}:∀ {P:List Str} {vs:List ah} {i:Nat} {m:Str->Option ah},P.Nodup->P[i]? = some x->vs[i]? = some v->fw x≠some .local ->
  bindC fw (P.zip vs) m x=some v
 |[],_,_,_,_,h,_,_=>by simp at h
 |_ :: _,[],_,_,_,_,h,_=>by simp at h
 |p :: P,w :: vs,0,m,nd,h1,h2,hk=>by simp at h1 h2;subst h1;subst h2;show bindC fw ((p,w) :: P.zip vs) m p=_;unfold bindC;rw[bv' λv hv=>(rX.mp nd).1 (List.of_mem_zip hv).1,if_neg hk];simp
 |p :: P,w :: vs,i+1,m,nd,h1,h2,hk=>by unfold bindC;exact bx' (rX.mp nd).2 (by simpa using h1) (by simpa using h2) hk
def start(N:List Str)(vs:List V):St:=vs.map some++List.replicate (N.length-vs.length) none
def mI(CX:ED)(P:cq)(w:cS)(K:ay)(mg:Str->Option ah)(base:dk)(N:List Str)(qual:Str)(scope:Scope)(f:ae)(cd:ah)(A:ft)(outer:List Env)(s:aE)(H:Hp)(E:XK):Cx where
 prog:=P
 w:=w
 K:=K
 mg:=mg
 base:=base
 A:=A.deeper (kN qual scope s.heap.objs.size f cd)
 N:=N
 gL:=s
 D9:=H
 env:=kN qual scope s.heap.objs.size f cd
 outer:=outer
 stack:=kN qual scope s.heap.objs.size f cd :: outer
 ex:=[]
 calm:=true
 fn:=λ_=>true
 pn:=[]
 xe:=λe s'=>b6 (bq P w) (A.deeper (kN qual scope s.heap.objs.size f cd)) (leaving (kN qual scope s.heap.objs.size f cd) e) (λ_ WD=>CX outer H s E e WD) (λe' WD=>CX outer H s E e' WD) s'
def by'{sc:Scope}{n:Nat}{x:Str}(h:sc.names.lookup x=some .cell):∃ c,(cellsFrom n sc.names []).lookup x=some c:=by have q:=PySem.W.cellsFrom_some sc.names n [] (.inl h);exact V1.mp q
def gL'{CX:ED}{P:cq}{w:cS}{K:ay}{mg:Str->Option ah}{base:dk}{N ps:List Str}{qual:Str}{scope:Scope}{f:ae}{cd:ah}{A:ft}{outer:List Env}{s s1:aE}{H:Hp}{E:XK}{us:List ah}{vs:List V}(S:xI N ps scope) (hd:A.handled=none) (e0:KP P w K mg base A outer s H) (hl:vs.length=ps.length) (r:Vals vs us)(x:InCallC s s.heap.objs.size (bindL (kN qual scope s.heap.objs.size f cd).kindOf (ps.zip us) λ_=>none) (cellsFrom (s.heap.objs.size+1) scope.names []) (bindC (kN qual scope s.heap.objs.size f cd).kindOf (ps.zip us) λ_=>none) s1) :
  Inv (mI CX P w K mg base N qual scope f cd A outer s H E) [] (start N vs) H s1:=by
 have hU:ps.length<=N.length:=by have:=congrArg List.length S.pre;rw[mB] at this;lia
 obtain⟨h1,tk,rfl,hk⟩:=x.done;have RN:∀ b:ae,b∉(mI CX P w K mg base N qual scope f cd A outer s H E).ex:=λb z=>absurd (show b∈([]:List ae) from z) (by simp);refine⟨⟨e0.mod,S.kind,rfl,rfl,c9 _,λy z c h1 h2=>?_,λy hy=>?_,λy c _ h=>?_,λ_=>hd,Around.frames_deeper e0.frames,.inr ⟨rfl,rfl⟩,λb z=>absurd z (RN b),e0.bs,e0.xD,λb _ _=>RN b,λb z=>absurd z (RN b),e0.sQ,e0.AI⟩,
  rfl,e0.bare,Un.kept hk,⟨_,x.toInCall.ns,λi y v h1 h2 h3=>?_⟩,λy c h=>⟨_,x.cell y c h⟩,e0.bG.fresh (c9 _),λy c h=>?_,λp hp=>absurd (show p∈([]:List (ae × Obj)) from hp) (by simp),e0.bG.kept hk,?_⟩
 ·exact name_of_addr x.apart (PySem.mem_of_lookup h1) (PySem.mem_of_lookup h2)
 ·have hy:scope.names.lookup y=some .cell\/scope.names.lookup y=some .free:=hy;rcases hy with hy|hy
  ·exact by' hy
  ·exact absurd rfl (S.gK' _ (PySem.mem_of_lookup hy))
 ·exact IY (x.above y c (PySem.mem_of_lookup h))
 ·have hi:i<vs.length:=by
   unfold start at h2;by_cases hi:i<vs.length
   ·exact hi
   ·rw[D1 (by simpa using hi)] at h2;rw[VL] at h2;split at h2<;>cases h2
  have ha:vs[i]? = some v:=by
   unfold start at h2;rw[IQ (by simpa using hi),mz] at h2
   cases e:vs[i]? with
   |none=>rw[e] at h2;cases h2
   |some a=>rw[e] at h2;cases h2;rfl
  obtain⟨u,hu,rv⟩:=r.get ha;have hp:ps[i]? = some y:=by rw[<- S.pre,List.getElem?_take_of_lt (by lia)];exact h1
  have ndP:ps.Nodup:=by rw[<- S.pre];exact S.nd.sublist (List.take_sublist _ _)
  refine⟨u,rv,?_⟩;rcases S.par y (rV hp) with k|k
  ·exact .inl ⟨k,bw' ndP hp hu k⟩
  ·obtain⟨c,e⟩:=by' k;refine .inr ⟨.inl k,c,e,?_⟩;have q:=x.cell y c e;rw[bx' ndP hp hu (by show scope.names.lookup y≠_;rw[k];decide)] at q;exact q
 ·exact e0.bG.fresh (IY (x.above y c (PySem.mem_of_lookup h)))
 ·unfold start;show _=N.length;rw[iq,dz,Tj];lia
def WH{P:cq}{K:ay}{dV kV doc pm dc ct oc:ah}{N ps:List Str} (lk:K.lookup f=some ⟨oc,od,.func (qh name qual params body scope dV kV doc pm an dc ct),AQ⟩) (qA:B7 K dc qual=true) (S:xI N ps scope)(len:∀ vs H Q E,sp vs H Q E->vs.length=ps.length)(wc:∀ (A:ft) (outer:List Env) (s:aE) (H:Hp) (vs:List V) (Q:VK) (E:XK),gi k (A.deeper (kN qual scope s.heap.objs.size f dc))->sp vs H Q E ->
   ∃ t,mE (mI CX P w K mg base N qual scope f dc A outer s H E) body t/\t { nx:=λ_ H'=>Q .non H',rt:=Q } (start N vs) H) :
  kR P w K mg base CX (k+1) f (qh name qual params body scope dV kV doc pm an dc ct) ps sp:=by
 refine⟨len,λA outer s H args us vs Q E hr e0 hb r AR=>?_⟩;have hl:=len _ _ _ _ AR;have KX:K.In s.heap:=e0.mod.NW.keeps λb o e=>(e0.bs b o e).1;have lim:s.heap.NoLimit:=e0.mod.nolimit.keeps λb o e=>(e0.bs b o e).1;have gM':∀ y∈ps.zip us,scope.names.lookup y.1=some .local\/(scope.names.lookup y.1=some .cell/\((cellsFrom (s.heap.objs.size+1) scope.names []).lookup y.1).isSome=true):=λ⟨n,v⟩ hy=>by
  rcases S.par n (List.of_mem_zip hy).1 with q|q
  ·exact .inl q
  ·exact .inr ⟨q,PySem.W.cellsFrom_some _ _ _ (.inl q)⟩
 refine codeAny_call_function hr.depth (KX _ _ lk) rfl S.co S.gen rfl (PySem.W.codeRec_of KX qA) (hb _ _ _ _ ?_);refine wpAny_newFunctionEnv_cells S.kind gM' λenv he s1 x=>?_;subst he;refine⟨lim.keeps x.toInCall.keep,codeAny_func ?_⟩;obtain⟨t,ht,hq⟩:=wc A outer s H vs Q E (hr.deeper _) AR;have I:Inv (mI CX P w K mg base N qual scope f dc A outer s H E) [] (start N vs) H s1:=gL' S hr.hd e0 hl r x;refine sD (ht [] s1 (start N vs) H _ I hq) (λfl s' hs=>?_) λe s' hs=>hs;have fin:∀ {b4:St} {H':Hp} {v:V} {u:ah},Inv (mI CX P w K mg base N qual scope f dc A outer s H E) [] b4 H' s'->RelV v u->Q v H'->CE outer P w H s Q u s' :=
  λ{b4 H' v u} J rv q=>⟨v,H',J.os,J.bare,J.base,J.bG,rv,q⟩
 cases fl with
 |ret u =>obtain⟨v,b4,H',J,rv,q⟩:=hs;exact fin J rv q
 |next =>obtain⟨b4,H',J,q⟩:=hs;exact fin (v:=V.non) J rfl q
 |brk =>obtain⟨_,_,_,q⟩:=hs;exact False.elim q
 |cont =>obtain⟨_,_,_,q⟩:=hs;exact False.elim q
section
variable {X:Cx}{x:Str}{p pos:Pos}{e:Expr}{es:List Expr}{t:TA}{id T:String}{r:List V->Hp->VK->Prop}
def Uh(r:List V->Hp->VK->Prop)(t:TA):TE:=λσ H Q=>t σ H λvs H1=>r vs H1 Q
def OI (hc:mn X (.builtin id) r) (hg:Gl X x) (hm:X.mg x=none) (hv:nL x=some (.builtin id)) (ha:PA X (e :: es) t) (hn:x ≠ "__name__" := by decide) (ip:(x == ("__debug__" : Str))=false:=by decide) (he:autoParam (aT (e :: es) X.env=(false,b3 e X.env) :: aT es X.env) bv) (hU:autoParam ((gV pos (aT es X.env)).any (·.1)=false) bv):PE X (.Call (.Name x p) (e :: es) [] pos) (Uh r t):=by
 intro pins s σ H Q I h;refine Q6 (FU I hg hm hv ?_ hn ip);exact PyProof.Rows.callWith_builtin1 (cv (ha pos pins s σ H _ I h) λus s1 ck=>L2.eM ck λvs H1 I1 r1 q1=>hc pins s1 σ H1 vs us Q I1 r1 q1) he hU
def gN' (hc:mn X (.type T) r) (hg:Gl X x) (hm:X.mg x=none) (hv:nL x=some (.type T)) (ha:PA X (e :: es) t) (hn:x ≠ "__name__" := by decide) (ip:(x == ("__debug__" : Str))=false:=by decide) (he:autoParam (aT (e :: es) X.env=(false,b3 e X.env) :: aT es X.env) bv) (hU:autoParam ((gV pos (aT es X.env)).any (·.1)=false) bv):PE X (.Call (.Name x p) (e :: es) [] pos) (Uh r t):=by
 intro pins s σ H Q I h;refine Q6 (FU I hg hm hv ?_ hn ip);exact PyProof.Rows.callWith_type1 (cv (ha pos pins s σ H _ I h) λus s1 ck=>L2.eM ck λvs H1 I1 r1 q1=>hc pins s1 σ H1 vs us Q I1 r1 q1) he hU
end
end L2
end
namespace HT
open PySem PyProof.Rows
section
open PySem.SeqAt
open PySem.AutoSeq1 (wpAny_loadPart')
open PySem.MeetsSeq PySem.MeetsSeq2 PySem.MeetsSeq3
end
section
variable {prog:cq}{w:cS}{A:ft}{E:ah->aE->Prop}{s:aE}
def gO'(ht:IsTup s.heap t vs.toArray)(hb:IsTup s.heap b ws.toArray)(hv:vs≠[])(h1:ws=[]->Q (.ref t) s) (h2:ws≠[]->Q (.ref s.heap.objs.size) { s with heap:=s.heap.push { cls:=.type "tuple",data:=.seq (vs++ws).toArray } }) (jS:vs.length+ws.length<=bE):b6 (bq prog w) A (oz .Add (.ref t) (.ref b)) Q E s:=by
 obtain⟨⟨cls,dd,data,sl⟩,ho,hc,n,hd⟩:=id ht;obtain⟨⟨gP',Ui,data2,OL⟩,K0,WK,n2,hd2⟩:=id hb;subst hc hd WK hd2;have e:vs.toArray++ws.toArray=(vs++ws).toArray:=by simp
 by_cases hw:ws=[]
 ·exact concat_meets ⟨_,ho,rfl⟩ ⟨_,K0,rfl⟩ noFill_tuple_add seq_tuple_add PySem.F.slot_tuple_add PySem.F.entry_tuple_add (PySem.F.args_tuple_add_2 _ _) (tuple_addW1 t b vs.toArray ws.toArray n n2 dd Ui sl OL (by simpa using hv) (by simp[hw])) ⟨ho,K0,h1 hw⟩
 ·refine concat_meets ⟨_,ho,rfl⟩ ⟨_,K0,rfl⟩ noFill_tuple_add seq_tuple_add PySem.F.slot_tuple_add PySem.F.entry_tuple_add (PySem.F.args_tuple_add_2 _ _) (tuple_addW2 t b vs.toArray ws.toArray n n2 dd Ui sl OL (by simpa using hv) (by simpa using hw) (by rw[kB,kB];exact jS)) ⟨ho,K0,?_⟩
  rw[e];exact h2 hw
def cE(n d:Nat):Option Int->Nat
 |none=>d
 |some v=>if v<0 then (v+(n:Int)).toNat else min v.toNat n
def bA'(v:Int)(n d:Nat):(if v<0 then max (v+(n:Int)) 0 else min v (n:Int))=((cE n d (some v):Nat):Int):=by
 show(if v<0 then max (v+n) 0 else min v n)=(((if v<0 then (v+n).toNat else min v.toNat n):Nat):Int)
 by_cases hv:v<0
 ·simp only[if_pos hv];lia
 ·simp only[if_neg hv];lia
def gQ'(lo hi:Option Int)(n:Nat):Builtin.Slice.sliceAdjust lo hi 1 (n:Int)=(((cE n 0 lo:Nat):Int),((cE n n hi:Nat):Int)):=by
 refine Prod.ext ?_ ?_
 ·cases lo with
  |none=>rfl
  |some v=>exact bA' v n 0
 ·cases hi with
  |none=>rfl
  |some v=>exact bA' v n n
def gR'(i j:Nat):Builtin.Slice.slicePlaces (i:Int) (j:Int) 1=j-i:=by unfold Builtin.Slice.slicePlaces;split<;>lia
def bB'(p:IsPart v o)(h:Q o s):b6 (bq prog w) A (Builtin.Slice.slicePartIndex v) Q E s:=by
 cases p with
 |none=>exact slicePart_none h
 |int i t=>exact slicePart_int h
def gS'{sl:ae}{vl vu:ah}{lo hi:Option Int}{n:Nat}{Q:Int × Int × Nat->aE->Prop}(hs:s.heap.IsSliceOf sl vl vu .none)(pl:IsPart vl lo)(pu:IsPart vu hi)(h:Q (((cE n 0 lo:Nat):Int),1,cE n n hi-cE n 0 lo) s):b6 (bq prog w) A (Builtin.Slice.sliceApplied (.ref sl) (pure (n:Int))) Q E s:=by
 obtain⟨os,RP,xS,Uj⟩:=id hs;refine bT (bT (wpAny_field RP Uj rfl (bT (wpAny_field RP Uj rfl (bT (wpAny_field RP Uj rfl (dv ?_)))))));refine bT (slicePart_none ?_);refine bT (bB' pl (bT (bB' pu (bT (dv ?_)))));show b6 _ _ (match Builtin.Slice.sliceAdjust lo hi 1 n with|(lo,hi)=>pure (lo,(1:Int),Builtin.Slice.slicePlaces lo hi 1)) _ _ s;rw[gQ' lo hi n];show b6 _ _ (pure (((cE n 0 lo:Nat):Int),1,Builtin.Slice.slicePlaces ((cE n 0 lo:Nat):Int) ((cE n n hi:Nat):Int) 1)) _ _ s;rw[gR'];exact dv h
def gT'(xs:Array ah)(i k:Nat):((List.range k).filterMap λ(m:Nat)=>xs[((i:Int)+(m:Int)*1).toNat]?).toArray=((xs.toList.drop i).take k).toArray:=by
 have e:(λ(m:Nat)=>xs[(i+(m:Int)*1).toNat]?)=λm=>xs[i+m]? := by
  funext m;have:(i+(m:Int)*1).toNat=i+m:=by lia
  rw[this]
 rw[e];have:=pick_run xs i k;rw[List.filterMap_map] at this;have e2:((λx=>xs[x]?) ∘ λx=>i+x)=λm=>xs[i+m]? := rfl;rw[e2] at this;rw[this]
def gU'{lo hi:Option Int}(ht:IsTup s.heap t items)(hs:s.heap.IsSliceOf sl vl vu .none)(pl:IsPart vl lo)(pu:IsPart vu hi)(hw:¬ (cE items.size 0 lo=0/\cE items.size items.size hi=items.size))(h:Q (.ref s.heap.objs.size) { s with heap:=s.heap.push { cls:=.type "tuple",data:=.seq ((items.toList.drop (cE items.size 0 lo)).take (cE items.size items.size hi-cE items.size 0 lo)).toArray } }) (jS:items.size<=bE):b6 (bq prog w) A (getItem (.ref t) (.ref sl)) Q E s:=by
 have Uk:sizeOk (.seq ((items.toList.drop (cE items.size 0 lo)).take (cE items.size items.size hi-cE items.size 0 lo)).toArray):=by show((items.toList.drop (cE items.size 0 lo)).take (cE items.size items.size hi-cE items.size 0 lo)).toArray.size<=bE;rw[kB,mB,Cb,Bi];lia
 obtain⟨os,RP,xS,Uj⟩:=id hs;have hTs:s.TypeIs (.ref sl) "slice" := ⟨os,RP,xS⟩
 unfold getItem;try with_reducible refine wpAny_holding ?_
 first|refine bT (dv ?_)|skip
 refine bT (wpAny_sequenceKey ht.typeIs (by decide) ?_);refine bT (Te ht.typeIs PyProof.Rows.slot_tuple_getitem (Q7 PyProof.Rows.slot_tuple_getitem ht.typeIs entry_tuple_getitem ?_ (args_tuple_getitem _ _)))
 show b6 _ _ (Builtin.Tuple.tupleItemsOf (.ref t) >>= _) _ _ s;refine bT (tupleItemsOf_ ht ?_);refine bT (wpAny_typeOf hTs ?_);refine bT (gS' hs pl pu ?_);have hno:¬ ((((cE items.size 0 lo:Nat):Int) == 0 && (1:Int) == 1 && (cE items.size items.size hi-cE items.size 0 lo) == items.size)=true):=by intro q;rw[nv,nv] at q;have q1:((cE items.size 0 lo:Nat):Int)=0:=eq_of_beq q.1.1;have q2:cE items.size items.size hi-cE items.size 0 lo=items.size:=eq_of_beq q.2;exact hw ⟨by lia,by lia⟩
 show b6 _ _ (if (((cE items.size 0 lo:Nat):Int) == 0 && 1 == 1 && (cE items.size items.size hi-cE items.size 0 lo) == items.size)=true then _ else _) _ _ s;rw[if_neg hno,gT'];first
  |exact bT (DV (dv ⟨_,rfl,dv h⟩) Uk)
  |exact bT (DV (bT (dv (dv ⟨_,rfl,dv h⟩))) Uk)
  |exact bT (bT (DV (dv (dv ⟨_,rfl,dv h⟩)) Uk))
  |exact bT (bT (DV (dv ⟨_,rfl,dv h⟩) Uk))
end
end HT
section
open PySem PySem.Spec PyProof.Rows
namespace L2
abbrev TO:=St->Hp->(Option Int->Hp->Prop)->Prop
def PO(X:Cx)(e:Option Expr)(t:TO):Prop :=
 ∀ (pins:List (ae × Obj)) (s:aE) (σ:St) (H:Hp) (Q:Option Int->Hp->Prop),Inv X pins σ H s->t σ H Q ->
  b6 (bq X.prog X.w) X.A (evalPart e X.env) (λu s'=>∃ o H',Inv X pins σ H' s'/\IsPart u o/\Q o H') X.xe s
def gX':TO:=λ_ H Q=>Q none H
def gY'(t:TE):TO:=λσ H Q=>t σ H λx H1=>∃ i,x=.int i/\Q (some i) H1
section
variable {X:Cx}{e:Expr}{te:TE}{lo hi:Option Expr}{tl th:TO}{pos p2:Pos}
def gZ':PO X none gX':=by intro pins s σ H Q I h;exact dv ⟨none,H,I,.none,h⟩
def ha'(h:PE X e te):PO X (some e) (gY' te):=by intro pins s σ H Q I hw;refine cv (h pins s σ H _ I hw) λu s1 ck=>L2.eM ck λx H1 I1 r1 q1=>?_;obtain⟨i,rfl,q⟩:=q1;obtain⟨t,rfl⟩:=r1;exact⟨some i,H1,I1,.int i t,q⟩
def OO(X:Cx)(r:V->Option Int->Option Int->Hp->VK->Prop):Prop :=
 ∀ (pins:List (ae × Obj)) (s:aE) (σ:St) (H:Hp) (x:V) (v vl vu:ah) (lo hi:Option Int) (sl:ae) (Q:VK),Inv X pins σ H s->RelV x v->s.heap.IsSliceOf sl vl vu .none->IsPart vl lo->IsPart vu hi->r x lo hi H Q ->
  ∃ T id,typeLookup (.type T) "__getitem__" = pure (some (.builtin id))/\s.TypeIs v T/\b6 (bq X.prog X.w) X.A (getItem v (.ref sl)) (EP X pins σ Q) X.xe s
def tSl(r:V->Option Int->Option Int->Hp->VK->Prop)(te:TE)(tl th:TO):TE:=λσ H Q=>te σ H λx H1=>tl σ H1 λl H2=>th σ H2 λu H3=>r x l u H3 Q
def hf'(hr:OO X r)(he:PE X e te)(hl:PO X lo tl)(hu:PO X hi th):PE X (.Subscript e (.Slice lo hi none p2) pos) (tSl r te tl th):=by intro pins s σ H Q I h;refine Subscript_ (cv (he pins s σ H _ I h) λv s1 ck=>L2.eM ck λx H1 I1 r1 q1=>?_);refine wpAny_Slice (cv (hl pins s1 σ H1 _ I1 q1) λvl s2 ck=>L2.eM ck λl H2 I2 pl q2=>cv (hu pins s2 σ H2 _ I2 q2) λvu s3 ck=>L2.eM ck λu H3 I3 pu q3=>?_);refine dv ?_;have I4:Inv X pins σ H3 { s3 with heap:=s3.heap.push { cls:=.type "slice",data:=.fields #[vl,vu,.none] } }:=I3.kept λb ob q=>ki _ q;obtain⟨T,id,hT,ht,hg⟩:=hr pins { s3 with heap:=s3.heap.push { cls:=.type "slice",data:=.fields #[vl,vu,.none] } } σ H3 x v vl vu l u s3.heap.objs.size Q I4 r1 (Heap.IsSliceOf.new ..) pl pu q3;exact tail_any ht hT hg (by with_unfolding_all rfl)
def K2(xs:List V)(lo hi:Option Int):List V:=(xs.drop (HT.cE xs.length 0 lo)).take (HT.cE xs.length xs.length hi-HT.cE xs.length 0 lo)
def bC'(xs:List V)(lo hi:Option Int):(K2 xs lo hi).length<=xs.length:=by unfold K2;rw[mB,Cb];lia
def bD'(K:ay):V->Option Int->Option Int->Hp->VK->Prop:=λx lo hi H Q=>∃ a xs,x=.ref a/\kU K H a xs /\
 ¬ (HT.cE xs.length 0 lo=0/\HT.cE xs.length xs.length hi=xs.length)/\∀ p,H p=none->Q (.ref p) (upd H p (.tup (K2 xs lo hi)))
def hg':OO X (bD' X.K):=by
 intro pins s σ H x v vl vu lo hi sl Q I rx hs pl pu h;obtain⟨a,xs,rfl,hx,hw,q⟩:=h;cases rx;obtain⟨its,r,ht,hz⟩:=I.tuple hx;have hlen:its.toArray.size=xs.length:=by rw[kB];exact r.length.symm
 refine⟨"tuple",_,PyProof.Rows.slot_tuple_getitem.lookup,ht.typeIs,?_⟩;refine HT.gU' ht hs pl pu (by rw[hlen];exact hw) ?_ (by rw[hlen];exact hz);rw[hlen];refine⟨.ref s.heap.objs.size,_,I.laid (λb ob q=>ki _ q) (c9 _) ?_,rfl,q _ (I.bG.fresh (c9 _))⟩;exact⟨kD (bC' xs lo hi) hz,_,(r.drop (HT.cE xs.length 0 lo)).take (HT.cE xs.length xs.length hi-HT.cE xs.length 0 lo),IsTup.new _ _⟩
def WL(K:ay):R2:=λx y H Q=>∃ a b xs ys,x=.ref a/\y=.ref b/\kU K H a xs/\kU K H b ys/\xs≠[]/\xs.length+ys.length<=bE /\ (ys=[]->Q (.ref a) H)/\(ys≠[]->∀ p,H p=none->Q (.ref p) (upd H p (.tup (xs++ys))))
def Vals.WM(r:Vals xs us):us=[]↔xs=[]:=by
 cases r with
 |nil=>simp
 |cons _ _=>simp
def ht':d5 X (oz .Add) (WL X.K):=by intro pins s σ H x y v u Q I rx ry h;obtain⟨a,b,xs,ys,rfl,rfl,ha,hb,hx,hz,q1,q2⟩:=h;cases rx;cases ry;obtain⟨its,r1,p1,_⟩:=I.tuple ha;obtain⟨FY,r2,p2,_⟩:=I.tuple hb;refine HT.gO' p1 p2 (λz=>hx (r1.WM.mp z)) (λz=>⟨.ref a,H,I,rfl,q1 (r2.WM.mp z)⟩) (λz=>?_) (by rw[<- r1.length,<- r2.length];exact hz);refine⟨.ref s.heap.objs.size,_,I.laid (λb ob q=>ki _ q) (c9 _) ?_,rfl,q2 (λw=>z (r2.WM.mpr w)) _ (I.bG.fresh (c9 _))⟩;exact⟨by rw[iq];exact hz,_,r1.append r2,IsTup.new _ _⟩
end
def x3(n:Nat)(i:Int):Option Nat:=if 0<=i then (if i<n then some i.toNat else none) else if -(n:Int)<=i then some (i+n).toNat else none
def e8{α:Type}(xs:List α)(i:Int):Option α:=(x3 xs.length i).bind λj=>xs[j]?
def hu'(h:x3 n i=some j):seqIndex? i n=some j/\j<n/\-(n:Int)<=i/\i<n:=by
 unfold x3 at h;by_cases h0:0<=i
 ·rw[if_pos h0] at h;by_cases h1:i<n
  ·rw[if_pos h1] at h;have e:i.toNat=j:=Option.some.inj h;exact⟨by rw[seqIndex_of h0 h1,e],by lia,by lia,h1⟩
  ·rw[if_neg h1] at h;cases h
 ·rw[if_neg h0] at h;by_cases h1:-n<=i
  ·rw[if_pos h1] at h;have e:(i+n).toNat=j:=Option.some.inj h;exact⟨by rw[seqIndex_neg (by lia) h1,e],by lia,h1,by lia⟩
  ·rw[if_neg h1] at h;cases h
def WN{α:Type}{xs:List α}{i:Int}{v:α}(h:e8 xs i=some v):∃ j,seqIndex? i xs.length=some j/\xs[j]? = some v/\j<xs.length/\-(xs.length:Int)<=i/\i<xs.length:=by
 unfold e8 at h
 cases e:x3 xs.length i with
 |none=>rw[e] at h;cases h
 |some j =>rw[e] at h;obtain⟨h1,h2,h3,h4⟩:=hu' e;exact⟨j,h1,h,h2,h3,h4⟩
def wo{α:Type}{xs:List α}{j:Nat}{v:α}(h:xs[j]? = some v):e8 xs (j:Int)=some v:=by
 have hj:j<xs.length:=(ng.mp h).1;have e:x3 xs.length j=some j:=by unfold x3;rw[if_pos (by lia),if_pos (by lia)];simp
 unfold e8;rw[e];exact h
def WQ{α:Type}(xs:List α)(v:α):e8 (xs++[v]) (-1)=some v:=by
 have hl:(xs++[v]).length=xs.length+1:=by simp
 have e:x3 (xs++[v]).length (-1)=some xs.length:=by unfold x3;rw[hl,if_neg (by decide),if_pos (by lia)];congr 1;lia
 unfold e8;rw[e];simp
def Ul(b:Expr):Prop:=∀ o i,subscripted b false o i=operate [o,i] (getItem o i)
def y2(X:Cx)(r:R2):Prop :=
 ∀ (value slice:Expr) (pins:List (ae × Obj)) (s:aE) (σ:St) (H:Hp) (x y:V) (v u:ah) (Q:VK),Inv X pins σ H s->RelV x v->RelV y u->r x y H Q ->
  subscripted slice false v u=operate [v,u] (getItem v u)->b6 (bq X.prog X.w) X.A (subscriptTail value slice v u) (EP X pins σ Q) X.xe s
def Um(X:Cx)(id:String)(r:V->List V->Hp->VK->Prop):Prop :=
 ∀ (pins:List (ae × Obj)) (s:aE) (σ:St) (H:Hp) (x:V) (xs:List V) (v:ah) (us:List ah) (Q:VK),Inv X pins σ H s->RelV x v->Vals xs us->r x xs H Q ->
  b6 (bq X.prog X.w) X.A (call (.builtin id) (v :: us)) (EP X pins σ Q) X.xe s
section
variable {X:Cx}{a b:Expr}{ta tb:TE}{pos:Pos}
def y2.or(h:y2 X r)(h':y2 X r'):y2 X (λx y H Q=>r x y H Q\/r' x y H Q):=by
 intro value slice pins s σ H x y v u Q I rx ry q hs;rcases q with q|q
 ·exact h value slice pins s σ H x y v u Q I rx ry q hs
 ·exact h' value slice pins s σ H x y v u Q I rx ry q hs
def WR{r:R2}(hr:y2 X r)(ha:PE X a ta)(hb:PE X b tb)(hs:Ul b):PE X (.Subscript a b pos) (RH r ta tb):=by intro pins s σ H Q I h;exact Subscript_ (Wo ha hb I h λv u s2 x y H2 I2 rx ry q=>hr a b pins s2 σ H2 x y v u Q I2 rx ry q (hs _ _))
def bE'(K:ay):R2:=λx y H Q=>∃ p xs i v,x=.ref p/\y=.int i/\e7 K H p xs/\e8 xs i=some v/\Q v H
def bF'(K:ay):R2:=λx y H Q=>∃ p xs i v,x=.ref p/\y=.int i/\kU K H p xs/\e8 xs i=some v/\Q v H
def bG':R2:=λx y H Q=>∃ z i c,x=.str z/\y=.int i/\z.length<=bE/\e8 z.cps.toList i=some c/\Q (.str ⟨#[c]⟩) H
def hz':y2 X (bE' X.K):=by
 intro value slice pins s σ H x y v u Q I rx ry h hs;obtain⟨p,xs,i,z,rfl,rfl,hq,he,q⟩:=h;cases rx;obtain⟨t,rfl⟩:=ry;obtain⟨its,r,pl,hz⟩:=I.list hq;obtain⟨j,h1,h2,h3,h4,h5⟩:=WN he;obtain⟨w,ew,qS⟩:=r.get h2;have hl:=r.length;have hn:=Wu;have fin:EP X pins σ Q w s:=⟨z,H,I,qS,q⟩
 by_cases h0:0<=i
 ·have hj:i.toNat=j:=by rw[seqIndex_of h0 h5] at h1;exact Option.some.inj h1
  exact item_listR pl.isList h0 (by lia) (by rw[hj];simpa using ew) fin hs
 ·have hj:(i+its.toArray.size).toNat=j:=by rw[seqIndex_neg (by lia) h4] at h1;rw[kB,<- hl];exact Option.some.inj h1
  exact subscriptTail_builtinR pl.isList.typeIs slot_list_getitem.lookup (wpAny_getItem_list_neg pl.isList (by lia) (by rw[kB]<;>lia) (by lia) (by rw[hj];simpa using ew) ⟨rfl,fin⟩) hs
def hA':y2 X (bF' X.K):=by
 intro value slice pins s σ H x y v u Q I rx ry h hs;obtain⟨p,xs,i,z,rfl,rfl,hq,he,q⟩:=h;cases rx;obtain⟨t,rfl⟩:=ry;obtain⟨its,r,pl,hz⟩:=I.tuple hq;obtain⟨j,h1,h2,h3,h4,h5⟩:=WN he;obtain⟨w,ew,qS⟩:=r.get h2;have hl:=r.length;have hn:=Wu;have fin:EP X pins σ Q w s:=⟨z,H,I,qS,q⟩
 exact subscriptTail_builtinR pl.typeIs slot_tuple_getitem.lookup (getItem_tuple pl (by lia) (by lia) (by rw[kB,<- hl];exact h1) (by simpa using ew) ⟨rfl,fin⟩) hs
def hC':y2 X bG':=by
 intro value slice pins s σ H x y v u Q I rx ry h hs;obtain⟨z,i,c,rfl,rfl,hz,he,q⟩:=h;obtain⟨t,rfl⟩:=rx;obtain⟨t',rfl⟩:=ry;obtain⟨j,h1,h2,h3,h4,h5⟩:=WN he;have hl:z.cps.toList.length=z.length:=by simp[Str.length]
 rw[hl] at h1 h4 h5;have hn:=Wu;exact tail_any (DZ s z t) slot_str_getitem.lookup (getItem_str (by
  have e1:decide (i < -(2 ^ 63:Int))=false:=decide_eq_false (by lia);have e2:decide (i >= 2 ^ 63)=false:=decide_eq_false (by lia);rw[e1,e2,Bool.or_false]) (by rw[h1];simpa using h2) ⟨.str ⟨#[c]⟩,H,I.tok _,⟨_,rfl⟩,q⟩) hs
def rIx(K:ay):R2:=λx y H Q=>bE' K x y H Q\/bF' K x y H Q\/bG' x y H Q
def hE':y2 X (rIx X.K):=hz'.or (hA'.or hC')
def Inv.lst(I:Inv X pins σ H s)(h:H p=some (.lst xs)) :
  ∃ (its:List ah) (n:Nat),Vals xs its/\s.heap.get? p=some { cls:=.type "list",data:=.seq its.toArray n }/\xs.length<=bE:=by
 obtain⟨z,its,n,r,e⟩:=I.bG p _ h;exact⟨its,n,r,e,z⟩
def hF'(lo hi:Option Int)(n:Nat):(IL lo hi none n).1=((HT.cE n 0 lo:Nat):Int)/\(IL lo hi none n).2.1=((HT.cE n n hi:Nat):Int)/\(IL lo hi none n).2.2=1:=by
 refine⟨?_,?_,rfl⟩
 ·cases lo with
  |none=>simp[IL,HT.cE]
  |some i =>
   simp only[IL,HT.cE,Option.getD_none,show 1>0 by decide,if_true];by_cases h:i<0
   ·simp only[h,if_true]<;>lia
   ·simp only[h,if_false]<;>lia
 ·cases hi with
  |none=>simp[IL,HT.cE]
  |some i =>
   simp only[IL,HT.cE,Option.getD_none,show 1>0 by decide,if_true];by_cases h:i<0
   ·simp only[h,if_true]<;>lia
   ·simp only[h,if_false]<;>lia
def hG'(its:List ah)(lo hi:Option Int):slicePick its.toArray lo hi none=((its.drop (HT.cE its.length 0 lo)).take (HT.cE its.length its.length hi-HT.cE its.length 0 lo)).toArray:=by obtain⟨h1,h2,h3⟩:=hF' lo hi its.toArray.size;unfold slicePick;rw[h1,h2,h3];simp only[sliceRange_one,pick_run,kB]<;>rfl
def hH'(K:ay):V->Option Int->Option Int->Hp->VK->Prop:=λx lo hi H Q=>∃ a xs,x=.ref a/\e7 K H a xs/\∀ p,H p=none->Q (.ref p) (upd H p (.lst (K2 xs lo hi)))
def hI':OO X (hH' X.K):=by intro pins s σ H x v vl vu lo hi sl Q I rx hs pl pu h;obtain⟨a,xs,rfl,hx,q⟩:=h;cases rx;obtain⟨its,r,ht,hz⟩:=I.list hx;have hlen:=r.length;refine⟨"list",_,slot_list_getitem.lookup,ht.isList.typeIs,?_⟩;refine wpAny_getItem_list_slice ht.isList hs pl pu .none (by simp) ?_ (by rw[kB]<;>lia);rw[hG',<- hlen];refine⟨.ref s.heap.objs.size,_,I.laid (λb ob q=>ki _ q) (c9 _) ?_,rfl,q _ (I.bG.fresh (c9 _))⟩;exact⟨kD (bC' xs lo hi) hz,_,0,(r.drop (HT.cE xs.length 0 lo)).take (HT.cE xs.length xs.length hi-HT.cE xs.length 0 lo),oi _ rfl⟩
def CY:V->Bool
 |.non=>true
 |.bl _=>true
 |.int _=>true
 |.str _=>true
 |_=>false
def EE:V->V->Bool
 |.non,.non=>true
 |.bl a,.bl b=>a == b
 |.bl a,.int b=>(if a then 1 else 0) == b
 |.int a,.bl b=>a == (if b then 1 else 0)
 |.int a,.int b=>a == b
 |.str a,.str b=>a == b
 |_,_=>false
def hJ'(ry:RelV y u)(rx:RelV x v)(fy:CY y=true)(fx:CY x=true):SeqAt.EqAt A s u v (EE y x):=by
 cases y with
 |non =>
  cases ry
  cases x with
  |non=>cases rx;exact SeqAt.EqAt.same _
  |bl b=>cases rx;exact SeqAt.EqAt.none_bool b
  |int b=>obtain⟨t,rfl⟩:=rx;exact SeqAt.EqAt.none_int b t
  |str b=>obtain⟨t,rfl⟩:=rx;exact SeqAt.EqAt.none_str b t
  |_=>exact absurd (fx) pS
 |bl a =>
  cases ry
  cases x with
  |non=>cases rx;exact SeqAt.EqAt.bool_none a
  |bl b=>cases rx;exact SeqAt.EqAt.bool_bool a b
  |int b=>obtain⟨t,rfl⟩:=rx;exact SeqAt.EqAt.bool_int a b t
  |str b=>obtain⟨t,rfl⟩:=rx;exact SeqAt.EqAt.bool_str a b t
  |_=>exact absurd (fx) pS
 |int a =>
  obtain⟨t',rfl⟩:=ry
  cases x with
  |non=>cases rx;exact SeqAt.EqAt.int_none a t'
  |bl b=>cases rx;exact SeqAt.EqAt.int_bool a t' b
  |int b=>obtain⟨t,rfl⟩:=rx;exact SeqAt.EqAt.int_int a t' b t
  |str b=>obtain⟨t,rfl⟩:=rx;exact SeqAt.EqAt.int_str a t' b t
  |_=>exact absurd (fx) pS
 |str a =>
  obtain⟨t',rfl⟩:=ry
  cases x with
  |non=>cases rx;exact SeqAt.EqAt.str_none a t'
  |bl b=>cases rx;exact SeqAt.EqAt.str_bool a t' b
  |int b=>obtain⟨t,rfl⟩:=rx;exact SeqAt.EqAt.str_int a t' b t
  |str b=>obtain⟨t,rfl⟩:=rx;exact SeqAt.EqAt.str_str a t' b t
  |_=>exact absurd (fx) pS
 |_=>exact absurd (fy) pS
def EF(x:V)(u:ah):Bool:=match u with
 |.none=>EE .non x
 |.bool b=>EE (.bl b) x
 |.int i _=>EE (.int i) x
 |.str z _=>EE (.str z) x
 |_=>false
def bH'(r:RelV y u)(f:CY y=true):EF x u=EE y x:=by
 cases y with
 |non=>cases r;rfl
 |bl b=>cases r;rfl
 |int i=>obtain⟨t,rfl⟩:=r;rfl
 |str z=>obtain⟨t,rfl⟩:=r;rfl
 |_=>exact absurd (f) pS
theorem WU:∀ {xs:List V} {us:List ah},Vals xs us->xs.all CY=true->us.any (EF x)=xs.any λy=>EE y x
 |_,_,.nil,_=>rfl
 |y :: xs,u :: us,.cons r t,f=>by rw[D4,nv] at f;rw[D5,D5,bH' r f.1,WU t f.2]
theorem WV(rx:RelV x v)(fx:CY x=true):∀ {xs:List V} {us:List ah},Vals xs us->xs.all CY=true->∀ u∈us,SeqAt.EqAt A s u v (EF x u)
 |_,_,.nil,_=>λu hu=>by cases hu
 |y :: xs,u :: us,.cons r t,f=>λu' hu=>by
  rw[D4,nv] at f;rcases eW.mp hu with rfl|hu
  ·rw[bH' r f.1];exact hJ' r rx f.1 fx
  ·exact WV rx fx t f.2 u' hu
def Uo(x:V)(xs:List V):Bool:=xs.any λy=>EE y x
def Uq(K:ay)(neg:Bool):R2:=λx y H Q=>∃ p xs,y=.ref p/\(e7 K H p xs\/kU K H p xs)/\CY x=true/\xs.all CY=true/\Q (.bl (if neg then !Uo x xs else Uo x xs)) H
def hK':d5 X (hZ .In) (Uq X.K false):=by
 intro pins s σ H x y v u Q I rx ry h;obtain⟨p,xs,rfl,hq,fx,fs,q⟩:=h;cases ry;rcases hq with hq|hq
 ·obtain⟨its,r,pl,hz⟩:=I.list hq;refine SeqAt.in_listAt (EF x) pl.isList (λw hw=>WV rx fx r fs w (by simpa using hw)) ⟨.bl _,H,I,rfl,?_⟩;rw[show its.toArray.any (EF x)=its.any (EF x) by simp,WU r fs];exact q
 ·obtain⟨its,r,pl,hz⟩:=I.tuple hq;refine SeqAt.in_tupleAt (EF x) pl (λw hw=>WV rx fx r fs w (by simpa using hw)) ⟨.bl _,H,I,rfl,?_⟩;rw[show its.toArray.any (EF x)=its.any (EF x) by simp,WU r fs];exact q
def mn.or(h:mn X f r)(h':mn X f r'):mn X f (λxs H Q=>r xs H Q\/r' xs H Q):=by
 intro pins s σ H xs us Q I rs q;rcases q with q|q
 ·exact h pins s σ H xs us Q I rs q
 ·exact h' pins s σ H xs us Q I rs q
def hL':mn X (.type "list") (λxs H Q=>∃ p ys,xs=[.ref p]/\(e7 X.K H p ys\/kU X.K H p ys)/\∀ l,H l=none->Q (.ref l) (upd H l (.lst ys))):=by
 intro pins s σ H xs us Q I r h;obtain⟨p,ys,rfl,hq,q⟩:=h;obtain⟨u,rfl,rx⟩:=vals1 r;cases rx;have fin:∀ its,Vals ys its->ys.length<=bE->∀ h' c',(∀ b o',s.heap.get? b=some o'->h'.get? b=some o') ->
   h'.get? s.heap.objs.size=some { cls:=.type "list",dict:=none,data:=.seq its.toArray c',slots:=#[] }->EP X pins σ Q (.ref s.heap.objs.size) { s with heap:=h' }:=λits r' hz h' c' kp e =>
  ⟨.ref s.heap.objs.size,_,I.laid kp (c9 _) (show lS X.prog X.w _ h' _ (.lst ys) from⟨hz,its,c',r',e⟩),rfl,q _ (I.bG.fresh (c9 _))⟩
 rcases hq with hq|hq
 ·obtain⟨its,r',pl,hz⟩:=I.list hq;have hlen:=r'.length;obtain⟨o,ho,hc,n,hd⟩:=pl.isList;exact call_list_seq p (.inl rfl) ho hc hd (λh' c' kp e=>fin its r' hz h' c' kp e) (by simp only[kB]<;>lia)
 ·obtain⟨its,r',pl,hz⟩:=I.tuple hq;have hlen:=r'.length;obtain⟨o,ho,hc,n,hd⟩:=pl;exact call_list_seq p (.inr rfl) ho hc hd (λh' c' kp e=>fin its r' hz h' c' kp e) (by simp only[kB]<;>lia)
def hM':mn X (.type "tuple") (λxs H Q=>∃ p ys,xs=[.ref p]/\((e7 X.K H p ys/\∀ l,H l=none->Q (.ref l) (upd H l (.tup ys)))\/(kU X.K H p ys/\Q (.ref p) H))):=by
 intro pins s σ H xs us Q I r h;obtain⟨p,ys,rfl,h⟩:=h;obtain⟨u,rfl,rx⟩:=vals1 r;cases rx;rcases h with⟨hq,q⟩|⟨hq,q⟩
 ·obtain⟨its,r',pl,hz⟩:=I.list hq;have hlen:=r'.length;refine call_tuple_list pl.isList (λh' kp=>?_) (by simp only[kB]<;>lia);have I1:Inv X pins σ H { s with heap:=h' }:=I.kept kp;have I2:Inv X pins σ (upd H h'.objs.size (.tup ys)) { s with heap:=h'.push { cls:=.type "tuple",data:=.seq its.toArray } } :=
   I1.laid (λb o e=>ki _ e) (c9 _) (⟨hz,its,r',IsTup.new _ _⟩)
  exact⟨.ref h'.objs.size,_,I2,rfl,q _ (I1.bG.fresh (c9 _))⟩
 ·obtain⟨its,r',pl,hz⟩:=I.tuple hq;exact call_tuple_same pl ⟨.ref p,H,I,rfl,q⟩
def WW(K:ay)(T:String)(x:V)(H:Hp):Prop:=match x with
 |.str _=>T = "str"
 |.int _=>T = "int"
 |.ref p=>(T = "list"/\∃ xs,e7 K H p xs)\/(T = "tuple"/\∃ o,K.lookup p=some o/\o.cls=.type "tuple"/\o.dict=none) \/
   (T = "dict"/\((∃ ag,H p=some (.dK ag))\/∃ ag,H p=some (.dT ag)))\/(T = "set"/\∃ S n,H p=some (.set S n))
 |_=>False
def bI'{T:String}(I:Inv X pins σ H s)(r:RelV x v)(ty:WW X.K T x H) :
  s.TypeIs v T/\∀ a,v=.ref a->∃ ob,s.heap.get? a=some ob/\ob.dict=none:=by
 cases x with
 |str z =>obtain⟨t,rfl⟩:=r;cases (ty);exact⟨DZ s z t,λ_ e=>nomatch e⟩
 |int i =>obtain⟨t,rfl⟩:=r;cases (ty);exact⟨typeIs_int s i t,λ_ e=>nomatch e⟩
 |ref p =>
  cases r;rcases ty with⟨rfl,xs,hq⟩|⟨rfl,o,hk,hc,hd⟩|⟨rfl,hk⟩|⟨rfl,S,n,hk⟩
  ·obtain⟨its,_,pl,_⟩:=I.list hq;refine⟨pl.isList.typeIs,λa e=>?_⟩;cases e;obtain⟨o,n,e,c,hd,_⟩:=pl;exact⟨o,e,hd⟩
  ·refine⟨⟨o,I.iA p o hk,hc⟩,λa e=>?_⟩;cases e;exact⟨o,I.iA _ o hk,hd⟩
  ·have z:∃ o,s.heap.get? p=some o/\o.ExactDict:=by
    rcases hk with⟨ag,hk⟩|⟨ag,hk⟩
    ·obtain⟨_,_,_,_,o,_,_,e,ex,_⟩:=I.bG p _ hk;exact⟨o,e,ex⟩
    ·obtain⟨_,_,_,_,o,_,_,e,ex,_⟩:=I.bG p _ hk;exact⟨o,e,ex⟩
   obtain⟨o,e,ex⟩:=z;refine⟨⟨o,e,ex.1⟩,λa e2=>?_⟩;cases e2;exact⟨o,e,ex.2.1⟩
  ·obtain⟨o,_,_,_,e,ex,_⟩:=I.bG p _ hk;refine⟨⟨o,e,ex.1⟩,λa e2=>?_⟩;cases e2;exact⟨o,e,ex.2.1⟩
 |_=>exact False.elim ty
def hO'(K:ay)(T:String)(r:V->List V->Hp->VK->Prop)(to:TE):TE:=λσ H Q=>to σ H λx H1=>WW K T x H1/\r x [] H1 Q
def tBM(K:ay)(T:String)(r:V->List V->Hp->VK->Prop)(to:TE)(t:TA):TE:=λσ H Q=>to σ H λx H1=>WW K T x H1/\t σ H1 λxs H2=>r x xs H2 Q
variable {o e:Expr}{es:List Expr}{to:TE}{t:TA}{name:Str}{apos eP:Pos}{T id:String}{r:V->List V->Hp->VK->Prop}
def bK' (pa:PlainAttrs T) (slot:Slot T name id) (GA:typeOf (.builtin id)=pure (.type "method_descriptor")) (hm:Um X id r) (ho:PE X o to)(oI:autoParam (vS o name X.env (b3 o X.env)=b3 o X.env) bv) (hline:autoParam ((apos.endLine == eP.line)=true) bv):PE X (.Call (.Attribute o name apos) [] [] eP) (hO' X.K T r to):=by
 intro pins s σ H Q I h;refine wpAny_Call_method0_late oI hline (cv (ho pins s σ H _ I h) λv s1 dA=>?_);obtain⟨x,H1,I1,r1,ty,q1⟩:=dA;obtain⟨h1,h2⟩:=bI' I1 r1 ty;exact⟨T,id,pa,slot,GA,h1,h2,Calls.callWith_builtin rfl (PySem.evalArgs_none (hm pins s1 σ H1 x [] v [] Q I1 r1 .nil q1))⟩
def Lc (pa:PlainAttrs T) (slot:Slot T name id) (GA:typeOf (.builtin id)=pure (.type "method_descriptor")) (hm:Um X id r) (ho:PE X o to) (ha:PA X (e :: es) t)(oI:autoParam (vS o name X.env (b3 o X.env)=b3 o X.env) bv) (wq:autoParam (((gV eP (aT (e :: es) X.env)).all (λx=>!x.1) && (A4 eP (A3 [] X.env)).all (λx=>x.1.isSome)
   && decide ((e :: es).length+([]:List uk).length+(if ([]:List uk).isEmpty then 0 else 1)<30))=true) bv)
  (hline:autoParam ((apos.endLine == eP.line)=true) bv) (hs:autoParam (aT (e :: es) X.env=(false,b3 e X.env) :: aT es X.env) bv) (w8:autoParam ((gV eP (aT es X.env)).any (·.1)=false) bv) :
  PE X (.Call (.Attribute o name apos) (e :: es) [] eP) (tBM X.K T r to t):=by
 intro pins s σ H Q I h;refine wpAny_Call_method_late oI wq hline rfl (cv (ho pins s σ H _ I h) λv s1 dA=>?_);obtain⟨x,H1,I1,r1,ty,q1⟩:=dA;obtain⟨h1,h2⟩:=bI' I1 r1 ty;refine⟨T,id,pa,slot,GA,h1,h2,?_⟩;have hA:=ha eP pins s1 σ H1 _ I1 q1;rw[hs] at hA ⊢;refine Calls.callWith_builtin (by show(false || (gV eP (aT es X.env)).any (·.1))=false;rw[w8]<;>rfl) (Calls.evalArgs_plain ?_);exact cv hA λus s2 ck=>L2.eM ck λvs H2 I2 r2 q2=>hm pins s2 σ H2 x vs v us Q I2 r1 r2 q2
end
def WY(X:Cx)(id:String)(r:V->List V->Hp->VK->Prop):Prop :=
 ∀ (pins:List (ae × Obj)) (s:aE) (σ:St) (H:Hp) (x:V) (xs:List V) (v:ah) (us:List ah) (Q:VK),Inv X pins σ H s->RelV x v->Vals xs us->r x xs H Q ->
  b6 (bq X.prog X.w) X.A (call (.builtin id) (v :: us)) (EP X pins σ Q) X.xe s
def Vals.one{x:V}{us:List ah}(h:Vals [x] us):∃ u,us=[u]/\RelV x u:=by cases h;rename_i r h;cases h;exact⟨_,rfl,‹_›⟩
def Vals.two{x y:V}{us:List ah}(h:Vals [x,y] us):∃ u v,us=[u,v]/\RelV x u/\RelV y v:=by cases h;rename_i r h;cases h;rename_i q h;cases h;exact⟨_,_,rfl,‹_›,‹_›⟩
theorem Vals.zero:∀ {us:List ah},Vals [] us->us=[]
 |_,.nil=>rfl
def Vals.dropLast(h:Vals xs us):Vals xs.dropLast us.dropLast:=by
 induction h with
 |nil=>exact .nil
 |cons r t ih =>
  cases t with
  |nil=>exact .nil
  |cons q t'=>exact .cons r ih
def hQ'{α:Type}(l:List α):l.eraseIdx (l.length-1)=l.dropLast:=by
 induction l with
 |nil=>rfl
 |cons a r ih =>
  cases r with
  |nil=>rfl
  |cons b r =>
   have e:(a :: b :: r).length-1=((b :: r).length-1)+1:=by have h1:(a :: b :: r).length=r.length+2:=rfl;have h2:(b :: r).length=r.length+1:=rfl;lia
   rw[e,List.eraseIdx_cons_succ,ih];all_goals rfl
section
variable {X:Cx}{pins:List (ae × Obj)}{σ:St}{H:Hp}{s:aE}{l:ae}{xs ys:List V}
def Inv.Ur{its Kb:List ah}{n:Nat}{f:Array ah->Array ah}{t':Nat}(I:Inv X pins σ H s)(hH:H l=some (.lst xs))(e:s.heap.get? l=some { cls:=.type "list",data:=.seq its.toArray n }) (hf:f its.toArray=Kb.toArray) (hv:Vals ys Kb) (hz:ys.length<=bE) :
  Inv X pins σ (upd H l (.lst ys)) { s with heap:=s.heap.update l (Obj.mapSeq f),toks:=t' }:=by
 have q:=PySem.IsL.update e f;rw[hf] at q;refine I.write (by rw[hH];exact trivial) (.inl rfl) (λb' u hb hu=>(Heap.get?_update_other s.heap (Obj.mapSeq f) (Ne.symm hb)).trans hu) ⟨_,q⟩ ?_;exact⟨hz,Kb,_,hv,q⟩
def Inv.RQ(I:Inv X pins σ H s)(hv:Vals ys its)(hz:ys.length<=bE) :
  Inv X pins σ (upd H s.heap.objs.size (.lst ys)) { s with heap:=s.heap.push { cls:=.type "list",data:=.seq its.toArray },toks:=t' } :=
 I.laid (λ_ _ q=>ki _ q) (c9 _) ⟨hz,its,0,hv,oi _ rfl⟩
def Inv.fresh(I:Inv X pins σ H s):H s.heap.objs.size=none:=I.bG.fresh (c9 _)
def Inv.RT (I:Inv X pins σ H s) (hH:H l=some (.lst xs)):xs.length<=bE/\∃ (its:List ah) (n:Nat),Vals xs its/\xs.length=its.length/\s.heap.get? l=some { cls:=.type "list",data:=.seq its.toArray n }:=by obtain⟨z,its,n,r,e⟩:=I.bG l _ hH;exact⟨z,its,n,r,r.length,e⟩
def hR'(h:n<=bE):Builtin.List.listTooLong n=false:=by exact decide_eq_false (by lia)
end
section
variable {X:Cx}
def bL':V->List V->Hp->VK->Prop:=λx vs H Q=>∃ l xs y,x=.ref l/\vs=[y]/\H l=some (.lst xs)/\xs.length<bE/\Q .non (upd H l (.lst (xs++[y])))
def RV:WY X "list.append" bL':=by intro pins s σ H x vs v us Q I rx rv h;obtain⟨l,xs,y,rfl,rfl,hH,hz,q⟩:=h;cases rx;obtain⟨u,rfl,ru⟩:=rv.one;obtain⟨z,its,n,r,hl,e⟩:=I.RT hH;refine FD F.slot_list_append ⟨_,e,rfl⟩ F.entry_list_append (F.args_list_append_2 _ _) (PySem.list_append l its.toArray n u (by rw[kB];lia)) ⟨e,?_⟩;refine⟨.non,_,I.Ur hH e (by simp) (r.append (.cons ru .nil)) ?_,rfl,q⟩;rw[iq,VM];lia
def hS':V->List V->Hp->VK->Prop:=λx vs H Q=>∃ l b xs zs,x=.ref l/\vs=[.ref b]/\H l=some (.lst xs)/\H b=some (.lst zs)/\xs.length+zs.length<=bE/\Q .non (upd H l (.lst (xs++zs)))
def hT':WY X "list.extend" hS':=by
 intro pins s σ H x vs v us Q I rx rv h;obtain⟨l,b,xs,zs,rfl,rfl,hH,hB,hz,q⟩:=h;cases rx;obtain⟨u,rfl,ru⟩:=rv.one;cases ru;obtain⟨z,its,n,r,hl,e⟩:=I.RT hH;obtain⟨z2,FY,n2,r2,Dp,e2⟩:=I.RT hB;have jS:its.toArray.size+FY.toArray.size<=bE:=by rw[kB,kB];lia
 have hU':¬ (!its.toArray.isEmpty && Builtin.List.listTooLong (its.toArray.size+FY.toArray.size))=true:=by rw[hR' jS,Bool.and_false];exact pS
 refine FD F.slot_list_extend ⟨_,e,rfl⟩ F.entry_list_extend (F.args_list_extend_2 _ _) (AutoSeq1.list_extend_list_list_0 l its.toArray n b FY.toArray n2 hU' (by rw[kB];lia) (by lia)) ⟨e,e2,?_⟩
 refine⟨.non,_,I.Ur hH e (by simp) (r.append r2) ?_,rfl,q⟩;rw[iq];lia
def hV':V->List V->Hp->VK->Prop:=λx vs H Q=>∃ l xs y,x=.ref l/\vs=[]/\H l=some (.lst xs)/\xs[xs.length-1]? = some y/\Q y (upd H l (.lst xs.dropLast))
def bM':WY X "list.pop" hV':=by
 intro pins s σ H x vs v us Q I rx rv h;obtain⟨l,xs,y,rfl,rfl,hH,hy,q⟩:=h;cases rx;have hus:=rv.zero;subst hus;obtain⟨z,its,n,r,hl,e⟩:=I.RT hH;obtain⟨u,hu,ru⟩:=r.get hy;have hy':its.toArray[its.toArray.size-1]? = some u:=by show its.toArray[its.length-1]? = some u;rw[<- CC,<- hl];exact hu
 refine FD F.slot_list_pop ⟨_,e,rfl⟩ F.entry_list_pop (F.args_list_pop_1 _) (MeetsSeq.list_pop_last l its.toArray n u hy' (by rw[kB];lia)) ⟨e,?_⟩;refine⟨y,_,I.Ur hH e ?_ r.dropLast ?_,ru,q⟩
 ·show its.toArray.eraseIdxIfInBounds (its.toArray.size-1)=its.dropLast.toArray;rw[kB,List.eraseIdxIfInBounds_toArray,hQ']
 ·rw[To];lia
def len_rep{α:Type}(xs:List α)(k:Nat):(List.replicate k xs).flatten.length=k*xs.length:=by
 induction k with
 |zero=>simp
 |succ k ih=>rw[B9,An,iq,ih,Nat.succ_mul,Rk]
end
section
set_option maxRecDepth 100000 in
end
section
variable {κ:Type}[DecidableEq κ]
def mr(ag:List (κ × V))(k:κ):Option V:=(ag.find? λkv=>decide (kv.1=k)).map (·.2)
def putK(ag:List (κ × V))(k:κ)(v:V):List (κ × V) :=
 if (ag.any λkv=>decide (kv.1=k))=true then ag.map (λkv=>if kv.1=k then (kv.1,v) else kv) else ag++[(k,v)]
def qd'(ag:List (κ × V))(k:κ):List (κ × V):=ag.filter λkv=>decide (kv.1≠k)
def Us{p:κ × V}{r:List (κ × V)}{k:κ}(e:p.1=k):mr (p :: r) k=some p.2:=by simp[mr,Ct,e]
def Ut{p:κ × V}{r:List (κ × V)}{k:κ}(e:¬ p.1=k):mr (p :: r) k=mr r k:=by simp[mr,Ct,e]
theorem bN'(k:κ):∀ ag:List (κ × V),(ag.any λkv=>decide (kv.1=k))=(mr ag k).isSome
 |[]=>rfl
 |p :: r=>by
  rw[D5];by_cases e:p.1=k
  ·simp only[Us e,decide_eq_true e,Bool.true_or,Option.isSome_some]
  ·rw[Ut e,decide_eq_false e,Bool.false_or];exact bN' k r
def WZ(ag:List (κ × V))(k:κ)(v:V):(putK ag k v).length<=ag.length+1:=by
 unfold putK;split
 ·rw[dz];exact Nat.le_add_right _ _
 ·rw[iq,jv,Tx];exact c9 _
def sd.RW(r:sd o u):o.isSome=u.isSome:=by
 cases o with
 |none=>cases u with
  |none=>rfl
  |some _=>exact(r).elim
 |some _=>cases u with
  |none=>exact(r).elim
  |some _=>rfl
def KV.val{ag:List (κ × V)}{vs:List (κ × ah)}(r:KV ag vs)(k:κ):sd (mr ag k) (valueAt vs k):=by
 induction r with
 |nil=>exact True.intro
 |@cons p q ps qs h t ih =>
  obtain⟨h1,h2⟩:=h;by_cases e:p.1=k
  ·have e':q.1=k:=h1.symm.trans e;have b:valueAt (q :: qs) k=some q.2:=by simp[valueAt,Ct,e']
   rw[Us e,b];exact h2
  ·have e':¬ q.1=k:=λz=>e (h1.trans z);have b:valueAt (q :: qs) k=valueAt qs k:=by simp[valueAt,Ct,e']
   rw[Ut e,b];exact ih
def KV.any(r:KV ag vs)(k:κ):(ag.any λkv=>decide (kv.1=k))=vs.any λkv=>decide (kv.1=k):=by
 induction r with
 |nil=>rfl
 |cons h t ih=>rw[D5,D5,ih,h.1]
def KV.repl(r:KV ag vs)(k:κ)(ry:RelV y u) :
  KV (ag.map λkv=>if kv.1=k then (kv.1,y) else kv) (vs.map λkv=>if kv.1=k then (kv.1,u) else kv):=by
 induction r with
 |nil=>exact .nil
 |@cons p q ps qs h t ih =>
  rw[fR,fR];refine .cons ?_ ih;obtain⟨h1,h2⟩:=h;by_cases e:p.1=k
  ·rw[if_pos e,if_pos (h1.symm.trans e)];exact⟨h1,ry⟩
  ·rw[if_neg e,if_neg (λz=>e (h1.trans z))];exact⟨h1,h2⟩
def KV.put(r:KV ag vs)(k:κ)(ry:RelV y u):KV (putK ag k y) (stored vs k u):=by
 unfold putK stored;rw[r.any k];by_cases e:(vs.any λkv=>decide (kv.1=k))=true
 ·rw[if_pos e,if_pos e];exact r.repl k ry
 ·rw[if_neg e,if_neg e];exact Paired.snoc r ⟨rfl,ry⟩
def KV.length(r:KV ag vs):ag.length=vs.length:=Paired.length r
end
def OQ{P:cq}(r:RelV (kV k) u):(kG P w).is k u=true:=by
 cases k with
 |inl i=>obtain⟨t,e⟩:=(r);subst e;exact eO' P w i t
 |inr x=>obtain⟨t,e⟩:=(r);subst e;exact TX P w x t
theorem bO'{P:cq}:∀ {ks:List Key} {us:List ah},Vals (ks.map kV) us->ItemsAre (kG P w) ks us
 |[],_,r=>by rw[List.map_nil] at r;cases r;exact .nil
 |k :: ks,_,r=>by
  cases r with
  |cons h t=>exact .cons (OQ h) (bO' t)
abbrev KT(H:Hp):List (List Key × V)->List (List Key × ae × ah)->Prop:=Paired λp q=>p.1=q.1/\H q.2.1=some (.tup (p.1.map kV))/\RelV p.2 q.2.2
def KT.val{H:Hp}{ag:List (List Key × V)}{xs:List (List Key × ae × ah)}(r:KT H ag xs)(k:List Key):sd (mr ag k) ((atKey xs k).map (·.2)):=by
 induction r with
 |nil=>exact True.intro
 |@cons p q ps qs h t ih =>
  obtain⟨h1,_,h2⟩:=h;by_cases e:p.1=k
  ·have e':q.1=k:=h1.symm.trans e;have b:atKey (q :: qs) k=some q.2:=by simp[atKey,Ct,e']
   rw[Us e,b];exact h2
  ·have e':¬ q.1=k:=λz=>e (h1.trans z);have b:atKey (q :: qs) k=atKey qs k:=by simp[atKey,Ct,e']
   rw[Ut e,b];exact ih
def KT.repl(r:KT H ag xs)(k:List Key)(ry:RelV y u) :
  KT H (ag.map λkv=>if kv.1=k then (kv.1,y) else kv) (xs.map (putAt k u)):=by
 induction r with
 |nil=>exact .nil
 |@cons p q ps qs h t ih =>
  rw[fR,fR];refine .cons ?_ ih;obtain⟨h1,h2,h3⟩:=h;unfold putAt;by_cases e:p.1=k
  ·rw[if_pos e,if_pos (h1.symm.trans e)];exact⟨h1,h2,ry⟩
  ·rw[if_neg e,if_neg (λz=>e (h1.trans z))];exact⟨h1,h2,h3⟩
def KT.put(r:KT H ag xs)(k:List Key)(hb:H b=some (.tup (k.map kV)))(ry:RelV y u) :
  KT H (putK ag k y) (storedH xs k b u):=by
 have e:(ag.any λkv=>decide (kv.1=k))=(atKey xs k).isSome:=by rw[bN',(r.val k).RW,TL]
 unfold putK storedH;rw[e];by_cases q:(atKey xs k).isSome=true
 ·rw[if_pos q,if_pos q];exact r.repl k ry
 ·rw[if_neg q,if_neg q];exact Paired.snoc r ⟨rfl,hb,ry⟩
def KT.keeps(r:KT H ag xs)(ht:∀ b ys,H b=some (.tup ys)->H' b=some (.tup ys)):KT H' ag xs :=
 Paired.T1 r λ_ _ z=>⟨z.1,ht _ _ z.2.1,z.2.2⟩
section
variable {P:cq}{w:cS}{H:Hp}{h:dk}{a:ae}
def Lv(ok:ic P w H h)(e:Rd H a u):lS P w H h a u:=e.ok ok
def RX(ok:ic P w H h)(e:Rd H a (.dK ag)):ag.length<=bE/\(a == xv)=false/\∃ vs,KV ag vs/\h.DictOf (kG P w) a vs :=
 show lS P w H h a (.dK ag) from Lv ok e
def bP'(ok:ic P w H h)(e:H a=some (.dK ag)):ag.length<=bE/\(a == xv)=false/\∃ vs,KV ag vs/\h.DictOf (kG P w) a vs:=RX ok (.inl e)
def RZ(ok:ic P w H h)(e:H a=some (.tup (ks.map kV))):(tupleKind (kG P w)).is h ks a:=by
 obtain⟨_,its,r,o,h1,h2,n,h3⟩:=(ok a _ e)
 exact⟨o,its.toArray,n,h1,h2,h3,by simpa using bO' r⟩
def Uu(ok:ic P w H h)(e:Rd H a (.dT ag)):ag.length<=bE/\(a == xv)=false /\
  ∃ xs,KT H ag xs/\h.DictOfH (tupleKind (kG P w)) a xs:=by
 obtain⟨z,y,xs,r,o,es,ep,h1,h2,h3,h4,h5⟩:=(Lv ok e)
 refine⟨z,y,xs,r,o,es,ep,h1,h2,h3,h4,λx hx=>?_,h5⟩;have all:∀ {l:List (List Key × V)} {m:List (List Key × ae × ah)},KT H l m->∀ x∈m,(tupleKind (kG P w)).is h x.1 x.2.1:=by
  intro l m q
  induction q with
  |nil=>intro x hx;exact nomatch hx
  |@cons p q ps qs hq t ih =>
   intro x hx;rcases eW.mp hx with e|hx
   ·subst e;exact RZ ok (by rw[<- hq.1];exact hq.2.1)
   ·exact ih x hx
 exact all r x hx
def hY'(ok:ic P w H h)(e:H a=some (.dT ag)):ag.length<=bE/\(a == xv)=false /\
  ∃ xs,KT H ag xs/\h.DictOfH (tupleKind (kG P w)) a xs:=Uu ok (.inl e)
end
def sT(H:Hp)(a:ae)(y:V)(r:Option V):Prop :=
 (∃ ag k,Rd H a (.dK ag)/\y=kV k/\r=mr ag k)\/∃ ag k b,Rd H a (.dT ag)/\y=.ref b/\H b=some (.tup (k.map kV))/\r=mr ag k
def GB(H:Hp)(a:ae)(y v:V)(H':Hp):Prop :=
 (∃ ag k,H a=some (.dK ag)/\y=kV k/\ag.length<bE/\H'=upd H a (.dK (putK ag k v))) \/
 ∃ ag k b,H a=some (.dT ag)/\y=.ref b/\H b=some (.tup (k.map kV))/\ag.length<bE/\H'=upd H a (.dT (putK ag k v))
def sT.k{H:Hp}{a:ae}{ag:List (Key × V)}{k:Key}(e:H a=some (.dK ag)):sT H a (kV k) (mr ag k):=.inl ⟨ag,k,.inl e,rfl,rfl⟩
def sT.t{H:Hp}{a b:ae}{ag:List (List Key × V)}{k:List Key}(e:H a=some (.dT ag))(eb:H b=some (.tup (k.map kV))):sT H a (.ref b) (mr ag k):=.inr ⟨ag,k,b,.inl e,rfl,eb,rfl⟩
def GB.k{H:Hp}{a:ae}{ag:List (Key × V)}{k:Key}{v:V}(e:H a=some (.dK ag))(hl:ag.length<bE):GB H a (kV k) v (upd H a (.dK (putK ag k v))):=.inl ⟨ag,k,e,rfl,hl,rfl⟩
def GB.t{H:Hp}{a b:ae}{ag:List (List Key × V)}{k:List Key}{v:V}(e:H a=some (.dT ag))(eb:H b=some (.tup (k.map kV)))(hl:ag.length<bE) :
  GB H a (.ref b) v (upd H a (.dT (putK ag k v))):=.inr ⟨ag,k,b,e,rfl,eb,hl,rfl⟩
section
variable {X:Cx}{pins:List (ae × Obj)}{σ:St}{H:Hp}{s:aE}{a:ae}{y v:V}{u r:ah}{o:Option V}{A:ft}{E:ah->aE->Prop}
def Inv.big(I:Inv X pins σ H s):xv<s.heap.objs.size:=by have h:gE<s.heap.objs.size:=(I.mod.glob.keeps I.bk).lt;exact Nat.lt_trans (by decide) h
def hZ'(hu:A.units+1<iE)(I:Inv X pins σ H s)(g:sT H a y (some v))(ry:RelV y u)(h:∀ w' s',Inv X pins σ H s'->RelV v w'->Q w' s') :
  b6 (bq X.prog X.w) A (getItem (.ref a) u) Q E s:=by
 rcases g with⟨ag,k,e,ey,l⟩|⟨ag,k,b,e,ey,eb,l⟩
 ·subst ey;obtain⟨z,hd,vs,rel,dd⟩:=RX I.bG e;obtain⟨w',hw,qS⟩:=sd.some_of (by rw[l];exact rel.val k);exact wpAny_getItem_of (OQ ry) dd.mapOf hw (h w' _ (I.tok _) qS)
 ·subst ey;cases (ry);obtain⟨z,hd,xs,rel,dd⟩:=Uu I.bG e;obtain⟨w',hw,qS⟩:=sd.some_of (by rw[l];exact rel.val k);obtain⟨p,hp,hp2⟩:=kr.mp hw;refine wpAny_getItem_heap (tupleKind_room_in1 hu) (RZ I.bG eb) dd hp ?_;rw[hp2];exact h w' _ (I.tok _) qS
def id'(hu:A.units+1<iE)(I:Inv X pins σ H s)(g:sT H a y o)(ry:RelV y u)(h:∀ s',Inv X pins σ H s'->Q (.bool o.isSome) s') :
  b6 (bq X.prog X.w) A (hZ .In u (.ref a)) Q E s:=by
 rcases g with⟨ag,k,e,ey,l⟩|⟨ag,k,b,e,ey,eb,l⟩
 ·subst ey;obtain⟨z,hd,vs,rel,dd⟩:=RX I.bG e;refine wpAny_in_of (OQ ry) hd dd.mapOf ?_;rw[<- (rel.val k).RW,<- l];exact h _ (I.tok _)
 ·subst ey;cases (ry);obtain⟨z,hd,xs,rel,dd⟩:=Uu I.bG e;refine wpAny_in_heap (tupleKind_room_in1 hu) (RZ I.bG eb) hd dd ?_;have q:=(rel.val k).RW;rw[TL] at q;rw[<- q,<- l];exact h _ (I.tok _)
def Uv(I:Inv X pins σ H s)(mu:Rq (H a))(hs:Heap.SameBut a s.heap h')(he:∃ q,h'.get? a=some q)(new:lS X.prog X.w (upd H a ob) h' a ob) :
  Inv X pins σ (upd H a ob) { s with heap:=h',toks:=t' } :=
 I.write mu (.inl rfl) (λb q hb z=>(hs.2 b hb).trans z) he new
def bQ'{P:cq}(z:ag.length<=bE)(hd:(a == xv)=false)(rel:KV ag vs)(dd:h'.DictOf (kG P w) a vs) :
  lS P w H' h' a (.dK ag):=⟨z,hd,vs,rel,dd⟩
def ie'(hu:A.units+1<iE)(I:Inv X pins σ H s)(g:GB H a y v H')(ry:RelV y u)(rv:RelV v r)(h:∀ s',Inv X pins σ H' s'->Q () s') :
  b6 (bq X.prog X.w) A (setItem (.ref a) u r) Q E s:=by
 rcases g with⟨ag,k,e,ey,l,eH⟩|⟨ag,k,b,e,ey,eb,l,eH⟩
 ·subst ey eH;obtain⟨z,hd,vs,rel,dd⟩:=bP' I.bG e;have hz:vs.length<=bE:=by rw[<- rel.length];exact z
  have hl:(putK ag k v).length<=bE:=by have:=WZ ag k v;lia
  refine wpAny_setItem_pairs (OQ ry) dd λh' EG hs=>h _ ?_;have he:∃ q,h'.get? a=some q:=let ⟨q,_,_,hq,_⟩:=EG;⟨q,hq⟩
  exact Uv I (by rw[e];exact True.intro) hs he (bQ' hl hd (rel.put k rv) EG)
 ·subst ey eH;cases (ry);obtain⟨z,hd,xs,rel,dd⟩:=hY' I.bG e;have hz:xs.length<=bE:=by rw[<- Paired.length rel];exact z
  have hl:(putK ag k v).length<=bE:=by have:=WZ ag k v;lia
  refine wpAny_setItem_heap (tupleKind_room_in1 hu) (RZ I.bG eb) dd λh' EG hs=>h _ ?_;obtain⟨q,es,ep,hq,h2,h3,h4,_,h5⟩:=EG;refine Uv I (by rw[e];exact True.intro) hs ⟨q,hq⟩ ⟨hl,hd,_,(rel.put k eb rv).keeps λc ys ec=>?_,q,es,ep,hq,h2,h3,h4,h5⟩;rw[df (eP' ec e (λz=>nomatch z))];exact ec
end
section
variable {X:Cx}{pins:List (ae × Obj)}{σ:St}{H:Hp}{s:aE}{a:ae}{ag:List (Key × V)}{A:ft}{E:ah->aE->Prop}
def ig' (I:Inv X pins σ H s) (e:Rd H a (.dK ag)) (h:∀ t s',Inv X pins σ H s'->Q (.int ag.length t) s'):b6 (bq X.prog X.w) A (call (.builtin "len") [.ref a]) Q E s:=by obtain⟨z,hd,vs,rel,dd⟩:=RX I.bG e;refine call_len_dict hd dd (by rw[<- rel.length];rw[nS] at z;lia) ?_;rw[<- rel.length];exact h _ _ (I.tok _)
end
def Uw(i:Expr):Prop:=∀ ov iv,subscripted i false ov iv=operate [ov,iv] (getItem ov iv)
def bR'{T id:String}(hl:typeLookup (.type T) "__getitem__" = pure (some (.builtin id))) (hs:Uw slice)(h:b6 (bq prog w) A (b3 value env) (λo fz=>b6 (bq prog w) A (b3 slice env) (λi Bz=>Bz.TypeIs o T/\b6 (bq prog w) A (getItem o i) Q E Bz) E fz) E s) :
  b6 (bq prog w) A (b3 (.Subscript value slice pos) env) Q E s:=by
 refine Subscript_ (sD h (λo fz LB=>sD LB (λi Bz R0=>?_) λ_ _ x=>x) λ_ _ x=>x);obtain⟨hT,R0⟩:=R0;refine bT ?_;refine bT (wpAny_specialOf hT hl ?_);have fin:b6 (bq prog w) A (subscripted slice false o i) (λr gp=>b6 (bq prog w) A (letTemporaryGo value o r >>= λ_=>pure r) Q E gp) E Bz:=by rw[hs o i];exact wpAny_operating (sD R0 (λr gp Ux=>bT (wpAny_letTemporaryGo (dv Ux))) λ_ _ x=>x)
 first
  |exact dv (bT fin)
  |exact bT (dv (bT fin))
  |exact bT fin
def ih' {X:Cx} (I:Inv X pins σ H s) (g:sT H a y o):s.TypeIs (.ref a) "dict" := by
 rcases g with⟨ag,k,e,_,_⟩|⟨ag,k,b,e,_,_,_⟩
 ·obtain⟨_,_,vs,_,dd⟩:=RX I.bG e;exact dd.typeIs
 ·obtain⟨_,_,xs,_,dd⟩:=Uu I.bG e;exact dd.typeIs
def ii'(td ty tv:TE):TS:=λD σ H=>tv σ H λv H1=>td σ H1 λx H2=>ty σ H2 λy H3=>∃ a H4,x=.ref a/\GB H3 a y v H4/\D.nx σ H4
section
variable {X:Cx}{o i value:Expr}{pos pos':Pos}{td ty tv:TE}
def ij'(hu:X.A.units+1<iE)(ho:PE X o td)(hi:PE X i ty)(hv:PE X value tv)(hs:lP value (some (.Subscript o i pos')) pos.line X.env=pure false) :
  PS X (.Assign [.Subscript o i pos'] value pos) (ii' td ty tv):=by
 intro pins s σ H D I h;refine wpAny_Assign_Subscript (cv (hv pins s σ H _ I h) λr s1 ck=>L2.eM ck λv H1 I1 rv q1=>cv (ho pins s1 σ H1 _ I1 q1) λu s2 ck=>L2.eM ck λx H2 I2 rx q2=>cv (hi pins s2 σ H2 _ I2 q2) λiv s3 dA=>?_) hs;obtain⟨y,H3,I3,ry,a,H4,ex,g,q3⟩:=dA;subst ex;obtain rfl:u=Value.ref a:=rx;exact ie' hu I3 g ry rv λs4 I4=>⟨σ,H4,I4,q3⟩
end
def bS' {P:cq} (h:dk) (hb:xv<h.objs.size):lS P w H (h.push { cls:=.type "dict",data:=.dict #[] }) h.objs.size (.dK []) :=
 ⟨gd _,beq_eq_false_iff_ne.mpr (Ne.symm (kE hb)),[],.nil,Heap.DictOf.new h⟩
def ik':TE:=λ_ H Q=>∀ p,H p=none->Q (.ref p) (upd H p (.dK []))
section
variable {X:Cx}{pos:Pos}
def il':PE X (.Dict [] [] pos) ik':=λpins s σ H Q I h =>
 wpAny_Dict_empty ⟨.ref s.heap.objs.size,_,I.laid (λ_ _ q=>ki _ q) (c9 _) (bS' s.heap I.big),rfl,h _ (I.bG.fresh (c9 _))⟩
end
def W0:List (TE × TE)->St->Hp->(List (V × V)->Hp->Prop)->Prop
 |[],_,H,Q=>Q [] H
 | (tk,tv) :: r,σ,H,Q=>tk σ H λx H1=>tv σ H1 λy H2=>W0 r σ H2 λps H3=>Q ((x,y) :: ps) H3
abbrev VV:List (V × V)->List (ah × ah)->Prop:=Paired λp q=>RelV p.1 q.1/\RelV p.2 q.2
def Uy(X:Cx)(pos:Pos)(keys:List (Option Expr))(values:List Expr)(LD:List (TE × TE)):Prop :=
 ∀ (pins:List (ae × Obj)) (s:aE) (σ:St) (H:Hp) (Q:List (V × V)->Hp->Prop),Inv X pins σ H s->W0 LD σ H Q ->
  b6 (bq X.prog X.w) X.A (evalPairs (pairTrees keys values X.env pos)) (λvs s'=>∃ ps H',Inv X pins σ H' s'/\VV ps vs/\Q ps H') X.xe s
def bT'{X:Cx}:Uy X pos [] [] []:=λpins s σ H Q I h=>pairTrees_nil_walk ⟨[],H,I,.nil,h⟩
def W3{X:Cx}(hk:PE X k tk)(hv:PE X v tv)(hr:Uy X pos ks vs LD) :
  Uy X pos (some k :: ks) (v :: vs) ((tk,tv) :: LD):=λpins s σ H Q I h =>
 pairTrees_cons_walk (cv (hk pins s σ H _ I h) λu s1 ck=>L2.eM ck λx H1 I1 rx q1=>cv (hv pins s1 σ H1 _ I1 q1) λw2 s2 ck=>L2.eM ck λy H2 I2 ry q2 =>
  cv (hr pins s2 σ H2 _ I2 q2) λws s3 ck=>L2.eM ck λps H3 I3 rel q3=>⟨(x,y) :: ps,H3,I3,.cons ⟨rx,ry⟩ rel,q3⟩)
def LG(ag more:List (Key × V)):List (Key × V):=more.foldl (λacc kv=>putK acc kv.1 kv.2) ag
def KV.merge:∀ {more:List (Key × V)} {rs:List (Key × ah)} {ag:List (Key × V)} {vs:List (Key × ah)},KV more rs->KV ag vs->KV (LG ag more) (merged vs rs):=by
 intro more rs ag vs r
 induction r generalizing ag vs with
 |nil=>intro q;exact q
 |@cons p q ps qs h t ih =>
  intro r0;have e:KV (putK ag p.1 p.2) (stored vs q.1 q.2):=by have:=r0.put p.1 h.2;rw[<- h.1];exact this
  exact ih e
theorem bU':∀ (more ag:List (Key × V)),(LG ag more).length<=ag.length+more.length
 |[],ag=>by show ag.length<=ag.length+0;lia
 |p :: r,ag=>by have h1:=bU' r (putK ag p.1 p.2);have h2:=WZ ag p.1 p.2;show(LG (putK ag p.1 p.2) r).length<=_;rw[jv];lia
theorem bV'{P:cq}:∀ {ag:List (Key × V)} {ws:List (ah × ah)},VV (ag.map λkv=>(kV kv.1,kv.2)) ws->∃ rs,Carries (kG P w) ws rs/\KV ag rs
 |[],_,r=>by rw[List.map_nil] at r;cases r;exact⟨[],True.intro,.nil⟩
 |p :: ag,_,r=>by
  cases r with
  |@cons a b as bs h t =>obtain⟨rs,c,q⟩:=bV' t;obtain⟨b1,b2⟩:=b;exact⟨(p.1,b2) :: rs,⟨OQ h.1,rfl,c⟩,.cons ⟨rfl,h.2⟩ q⟩
def im'(LD:List (TE × TE)):TE:=λσ H Q=>∀ p,H p=none->W0 LD σ (upd H p (.dK [])) λps H2=>H2 p=some (.dK [])/\∃ ag:List (Key × V),ps=ag.map (λkv=>(kV kv.1,kv.2))/\ag.length<=15/\Q (.ref p) (upd H2 p (.dK (LG [] ag)))
def bW'{X:Cx}(h:Uy X pos keys values LD)(EH:keys.all (·.isSome)=true)(hl:keys.length=values.length)(h0:keys≠[])(h15:keys.length<=15):PE X (.Dict keys values pos) (im' LD):=by
 intro pins s σ H Q I q;have hn:=I.bG.fresh (c9 s.heap.objs.size);have I1:=I.laid (t':=s.toks) (λ_ _ q=>ki _ q) (c9 _) (bS' s.heap I.big);refine wpAny_Dict_walk (knd:=kG X.prog X.w) EH hl h0 h15 (cv (h pins _ σ _ _ I1 (q _ hn)) λws s2 dA=>?_);obtain⟨ps,H2,I2,rel,e,ag,ep,lk,q2⟩:=dA;subst ep;obtain⟨rs,c,rk⟩:=bV' (P:=X.prog) (w:=X.w) rel;obtain⟨z,hd,vs0,r0,dd⟩:=bP' I2.bG e;cases r0;refine⟨rs,c,dd,λh' EG hs=>⟨.ref s.heap.objs.size,_,?_,rfl,q2⟩⟩;have hz:(LG [] ag).length<=bE:=by have h1:=bU' ag [];rw[Tx] at h1;rw[nS];lia
 have he:∃ q,h'.get? s.heap.objs.size=some q:=let ⟨q,_,_,hq,_⟩:=EG;⟨q,hq⟩
 exact Uv I2 (by rw[e];exact True.intro) hs he (bQ' hz hd (rk.merge .nil) EG)
end L2
end
namespace Att
open PySem PySem.W PySem.Calls PyProof.Rows
def ip'{P:Params}:∀ (ns:List Int) (vs:List ah),WellAll P h vs (ns.map WData.int)->IntsAre vs ns:=by
 intro ns
 induction ns with
 |nil =>intro vs w;cases w;exact .nil
 |cons n ns ih =>
  intro vs w
  cases w with
  |cons a b =>cases a;exact .cons _ _ (ih _ b)
def iq'{l:OpenLaw}{n:Nat}(hn:l.most=some n){P:Params}{h:dk}{args:List WData}{vals:List ah}(GH:l.row.toRowW.claim.pre args=true) (W4:WellAll P h vals args) :
  ∃ a vs ns,vals=[Value.ref a]/\args=[WData.list (ns.map WData.int)]/\h.get? a=some { cls:=.type "list",data:=.seq vs.toArray }/\IntsAre vs ns/\ns.length<=n:=by
 have hsh:WShape.hasAll [] args [.list .int]=true:=(pre_splitW GH).1;have hc:l.pre.holds [] { args:=args }=true:=(pre_splitW GH).2;obtain⟨d,r,rfl,h1,h2⟩:=hasAllW_cons hsh;obtain rfl:=hasAllW_nil h2;obtain⟨xs,rfl,h3⟩:=hasW_list h1;obtain⟨ns,rfl⟩:=items_int h3;have hlen:ns.length<=n:=by
  have h4:(WTm.not (.lt (.lit (.int n)) (.len (.arg 0)))).holds [] { args:=[.list (ns.map .int)] }=true:=by have h4:=(holds_andW hc).1;rw[hn] at h4;exact h4
  have h5:=condW_of h4 (w_not (w_lt w_lit (w_len_list (w_arg rfl))));refine Nat.le_of_not_lt λq=>?_;first
   | (rw[decide_eq_true q'] at h5;exact absurd h5 (by decide))
   | (simp at h5;lia)
 cases W4 with
 |cons w1 w2 =>
  cases w2
  cases w1 with
  |list ho EH=>exact⟨_,_,ns,rfl,rfl,ho,ip' ns _ EH,hlen⟩
def is'(l:OpenLaw)(args:List WData):l.row.toRowW.claim.post args (.bool true) args=true :=
 postW_of (by first|rfl|decide|simp[WShape.has,WShape.arms,WShape.armsAll]) (w_eq_bool (w_res rfl) w_lit) rfl
def it'{l:OpenLaw}{n:Nat}{q:cq}{loose:List Str}{XP:(Str->Option ah)->dk->Prop}{YP:cS->dk->Prop}{d:DefRec}(hn:l.most=some n) (R3:d.params.defaults=[])(call:∀ (w:cS) (gL fz:aE) (mg mb:Str->Option ah) (fa:ae) (o:Obj) (pm cd doc:ah) (a:ae) (vs:List ah) (ns:List Int),
   Ground q loose [] XP w gL mg mb fz.heap->YP w fz.heap ->
   fz.heap.get? fa=some o->o.data=.func (docDef d.name d.params d.body d.scope pm cd doc)->fz.heap.CodeRec cd d.name->mg d.name=some (.ref fa) ->
   fz.heap.get? a=some { cls:=.type "list",data:=.seq vs.toArray }->IntsAre vs ns->ns.length<=n->fz.gens = #[] ->
   codeAny (bq l.prog w) callerA (.call (.ref fa) ⟨[.ref a],[]⟩) (λr s'=>r=.ok (.ret (.bool true))/\OldK fz.heap s'.heap/\s'.os=fz.os/\AllBare s'.gens) fz) :
  WalkO q loose XP YP l.row.toRowW d [] (λf vs=>PySem.call f vs):=by
 intro w gL fz mg mb G Y fa o pm cd doc dV kV ho hd qA hD R4 hg args vals as GH hlay hrd W4 GL;obtain rfl:dV=.none:=Dflts.none hD R3;obtain rfl:kV=.none:=Dflts.noKw hD;obtain⟨a,vs,ns,rfl,rfl,W5,hints,hlen⟩:=iq' hn GH W4;refine enter_call (codeAny_mono (call w gL fz mg mb fa o pm cd doc a vs ns G Y ho (fd_plain hd) qA R4 W5 hints hlen hg) λr s' hq=>?_);obtain⟨rfl,h2,h3,h4⟩:=hq;exact⟨.inl ⟨.bool true,.bool true,[],rfl,λ_=>rfl,.bool true,is' l _,λ_=>⟨List.Pairwise.nil,λ_ hm=>(nomatch hm)⟩⟩,h2,h3,h4⟩
end Att
section
open PySem PySem.Spec PyProof.Rows
namespace L2
theorem bY':∀ {vs:List ah} {ns:List Int},IntsAre vs ns->Vals (ns.map V.int) vs
 |_,_,.nil=>.nil
 |_,_,.cons n t h=>.cons ⟨t,rfl⟩ (bY' h)
def Only(H:Hp):Prop:=∀ b,H b=none\/∃ o xs,H b=some (.qq o (.lst xs))
def iu'{P:cq}{K:ay}(KX:K.In fz.heap) (hns:fz.heap.Ns gE mg) (hb:fz.heap.Ns builtinsNs mb) (hbb:∀ x:Str,x ≠ "__name__"->mb x=nL x) (ix':fz.heap.NoLimit) (hg:fz.gens = #[])(ha:fz.heap.get? a=some { cls:=.type "list",data:=.seq vs.toArray }) (hi:IntsAre vs ns) (hl:ns.length<=bE) (hr:gi k callerA) (F:∀ base:dk,K.In base->base.Ns gE mg->kR P w K mg base CX k fa fd [x] sp) (iy':∀ (s:aE) (u:ah),BindsTo s fd ⟨[u],[]⟩ [(x,u)]) (AR:∀ H:Hp,Only H->e7 K H a (ns.map V.int)->sp [.ref a] H (λv _=>v=.bl true) λ_ _ _=>False) (W6:∀ H e s',CX [] H fz (λ_ _ _=>False) e s'->False) :
  codeAny (bq P w) callerA (.call (.ref fa) ⟨[.ref a],[]⟩) (λr s'=>r=.ok (.ret (.bool true))/\OldK fz.heap s'.heap/\s'.os=fz.os/\AllBare s'.gens) fz:=by
 have rv:=bY' hi;have iz':=hi.length
 -- from an abstract heap in which nothing but the script may be tracked
 have core:∀ H:Hp,Only H->e7 K H a (ns.map V.int)->ic P w H fz.heap->(∀ b,H b≠none->b=a)->(H a≠none->K.lookup a=none) ->
   codeAny (bq P w) callerA (.call (.ref fa) ⟨[.ref a],[]⟩) (λr s'=>r=.ok (.ret (.bool true))/\OldK fz.heap s'.heap/\s'.os=fz.os/\AllBare s'.gens) fz:=by
  intro H hO hS bG hA hK;have ca':∀ {b:ae} {o:Obj},fz.heap.get? b=some o->H b=none->(D8 fz.heap H).get? b=some o:=λe n=>eS' e n;have RN:∀ {b:ae} {o:Obj} {es:Array DictEntry} {ep:Nat},fz.heap.get? b=some o->o.data=.dict es ep->H b=none:=λ{b o es ep} e d=>by
   cases q:H b with
   |none=>rfl
   |some u =>have e':b=a:=hA b (by rw[q];simp);subst e';rw[ha] at e;cases e;have d':Data.seq vs.toArray _=Data.dict es ep:=d;cases d'
  have Uz:∀ {b:ae} {m:Str->Option ah},fz.heap.Ns b m->(D8 fz.heap H).Ns b m:=λ{b m} ⟨o,es,ep,e,d,r⟩=>⟨o,es,ep,ca' e (RN e d),d,r⟩
  have hKb:K.In (D8 fz.heap H):=λb o e=>ca' (KX b o e) (by
   cases q:H b with
   |none=>rfl
   |some u =>
    have e':b=a:=hA b (by rw[q];simp);subst e';rw[hK (by rw[q];simp)] at e;cases e)
  have hM:Mod K mg (D8 fz.heap H):=⟨hKb,Uz hns,⟨mb,Uz hb,hbb⟩,let ⟨mc,h1,h2⟩:=ix';⟨mc,Uz h1,h2⟩⟩
  have e0:KP P w K mg (D8 fz.heap H) callerA [] fz H:=⟨rfl,hM,λb o e=>eT' e,Rj (eR' _ _),trivial,λb hb=>absurd (show b∈([]:List ae) from hb) (by simp),bG,.of_eq hg⟩
  refine codeAny_mono ((F _ hKb (Uz hns)).run callerA [] fz H ⟨[.ref a],[]⟩ [.ref a] [.ref a] _ _ hr e0 (iy' fz (.ref a)) (.cons rfl .nil) (AR H hO hS)) λr s' h=>?_
  cases r with
  |error e=>exact(W6 H e s' h).elim
  |ok fl =>
   cases fl with
   |next=>exact False.elim h
   |brk=>exact False.elim h
   |cont=>exact False.elim h
   |ret u =>
    obtain⟨v,H',os,bare,un,iA',r',q⟩:=h;have q':v=.bl true:=q;subst q';obtain rfl:u=Value.bool true:=r';refine⟨rfl,OldK.of_keep λb o e=>?_,os,bare⟩
    cases q:H b with
    |none=>exact un.keep b o e q (by intro z;exact absurd (show b∈([]:List ae) from z) (by simp)) (by simp)
    |some u =>
     rcases hO b with z|⟨ob,xs,z⟩
     ·rw[q] at z;cases z
     ·have z2:=un.xC b ob _ z;obtain⟨e1,_⟩:=bG b _ z;obtain⟨e2,_⟩:=iA' b _ z2;rw[e] at e1;cases e1;exact e2
 cases hk:K.lookup a with
 |some o =>
  -- the script is one of the module's own objects
  have e:=KX a o hk;rw[ha] at e;cases e;refine core (λ_=>none) (λ_=>.inl rfl) (.inr ⟨_,vs.toArray,_,hk,rfl,rfl,rfl,by rw[kB,iz'];exact hl,by simpa using rv⟩) (λb u z=>by have z':none=some u:=z;cases z') (λb z=>absurd rfl z) λz=>absurd rfl z
 |none =>
  refine core (λb=>if b=a then some (.qq { cls:=.type "list",data:=.seq vs.toArray } (.lst (ns.map V.int))) else none) (λb=>?_) (.inl (.inr ⟨{ cls:=.type "list",data:=.seq vs.toArray },if_pos rfl⟩)) (λb u z=>?_) (λb z=>?_) λ_=>hk
  ·by_cases hb:b=a
   ·exact .inr ⟨_,_,if_pos hb⟩
   ·exact .inl (if_neg hb)
  ·by_cases hb:b=a
   ·have z':=(if_pos hb).symm.trans z;cases z';subst hb;exact⟨ha,by rw[dz];exact hl,vs,_,rv,ha⟩
   ·have z':=(if_neg hb).symm.trans z;cases z'
  ·by_cases hb:b=a
   ·exact hb
   ·exact absurd (if_neg hb) z
def iB'{l:VH}{n k:Nat}{q:cq}{loose:List Str}{XP:(Str->Option ah)->dk->Prop}{YP:cS->dk->Prop}{d:DefRec}{K:Params->ay}{CX:cS->ED}{sp:cS->Sp}{x:Str}(hn:l.most=some n) (KL:n<=bE) (R3:d.params.defaults=[]) (hr:gi k callerA)(hY:∀ (w:cS) (h:dk),YP w h->(K w.params).In h)(F:∀ (w:cS) (mg:Str->Option ah) (fa:ae) (h:dk),(K w.params).In h->h.Ns gE mg->mg d.name=some (.ref fa) ->
   ∃ fd:og,(∀ (s:aE) (u:ah),BindsTo s fd ⟨[u],[]⟩ [(x,u)]) /\
    ∀ base:dk,(K w.params).In base->base.Ns gE mg->kR l.prog w (K w.params) mg base (CX w) k fa fd [x] (sp w))
  (AR:∀ (w:cS) (H:Hp) (a:ae) (ns:List Int),ns.length<=n->Only H->e7 (K w.params) H a (ns.map V.int)->sp w [.ref a] H (λv _=>v=.bl true) λ_ _ _=>False)
  (W6:∀ (w:cS) (H:Hp) (s:aE) (e:ah) (s':aE),CX w [] H s (λ_ _ _=>False) e s'->False) :
  PySem.W.WalkO q loose XP YP l.row.toRowW d [] (λf vs=>PySem.call f vs):=by
 refine Att.it' hn R3 λw gL fz mg mb fa o pm cd doc a vs ns G Y ho hd qA R4 W5 hints hlen hg=>?_;have KX:=hY w _ Y;obtain⟨fd,hb,hF⟩:=F w mg fa _ KX G.T.g R4;exact iu' KX G.T.g G.T.b G.T.builtins G.T.nolimit hg W5 hints (kD hlen KL) hr hF hb (λH hO hS=>AR w H a ns hlen hO hS) λH e s'=>W6 w H fz e s'
def tf(s:h8):Arguments:=match s with
 |.FunctionDef _ a _ _ _ _ _ _ _ _=>a
 |_=>{ posonlyargs:=[],args:=[],vararg:=none,kwonlyargs:=[],kw_defaults:=[],kwarg:=none,defaults:=[] }
def lT(s:h8):List h8:=match s with
 |.FunctionDef _ _ b _ _ _ _ _ _ _=>b
 |_=>[]
def dS(s:h8):Scope:=match s with
 |.FunctionDef _ _ _ _ _ _ sc _ _ _=>sc
 |_=>{ kind:=.function,names:=[],isGenerator:=false,isCoroutine:=false }
abbrev kP:ED:=λ_ _ _ _ _ _=>False
abbrev E0:XK:=λ_ _ _=>False
def UA{X:Cx}:Passes kP X E0:=λ_ _ _ _ _ _ _ h=>h.elim
structure oj(K:ay)(x qual:Str)(st:h8)(f:ae)(fd:og):Prop where
 ex:∃ (oc:ah) (od:Option ae) (kV doc pm:ah) (an:Option ae) (dc ct:ah) (AQ:Array (Option ah)),
  fd=qh x qual (tf st) (lT st) (dS st) .none kV doc pm an dc ct/\K.lookup f=some ⟨oc,od,.func fd,AQ⟩/\B7 K dc qual=true
 kp:ui K (.ref f)=true
section
variable {P:cq}{w:cS}{K:ay}{mg:Str->Option ah}{base:dk}
def oj.ok{st:h8}{N ps:List Str}(F:oj K x qual st f fd)(S:xI N ps (dS st))(len:∀ vs H Q E,sp vs H Q E->vs.length=ps.length)(wc:∀ (dc:ah) (A:ft) (outer:List Env) (s:aE) (H:Hp) (vs:List V) (Q:VK) (E:XK),gi k (A.deeper (kN qual (dS st) s.heap.objs.size f dc))->sp vs H Q E ->
   ∃ t,mE (mI kP P w K mg base N qual (dS st) f dc A outer s H E).xE (lT st) t/\t { nx:=λ_ H'=>Q .non H',rt:=Q } (start N vs) H):kR P w K mg base kP (k+1) f fd ps sp:=by
 obtain⟨oc,od,kV,doc,pm,an,dc,ct,AQ,rfl,lk,qA⟩:=F.ex;refine WH lk qA S len λA outer s H vs Q E hr AR=>?_;obtain⟨t,h,q⟩:=wc dc A outer s H vs Q E hr AR;exact⟨t,h.xE,q⟩
def oj.binds{st:h8}{ps:List Str}(F:oj K x qual st f fd)(h:∀ (kV doc pm:ah) (an:Option ae) (dc ct:ah) (us:List ah),us.length=ps.length->bindArgs (qh x qual (tf st) (lT st) (dS st) .none kV doc pm an dc ct) ⟨us,[]⟩=pure (ps.zip us)):Binds K fd ps []:=by
 obtain⟨oc,od,kV,doc,pm,an,dc,ct,AQ,rfl,lk,qA⟩:=F.ex;exact .all (h kV doc pm an dc ct)
def OS{st:h8}{kV doc pm dc ct:ah}(l:K.lookup f=some ⟨oc,od,.func (qh x qual (tf st) (lT st) (dS st) .none kV doc pm an dc ct),AQ⟩)(c:B7 K dc qual=true) (k:ui K (.ref f)=true):oj K x qual st f (qh x qual (tf st) (lT st) (dS st) .none kV doc pm an dc ct):=⟨⟨oc,od,kV,doc,pm,an,dc,ct,AQ,rfl,l,c⟩,k⟩
end
section
variable {X:Cx}
def pv (i:Nat) (hN:autoParam (X.N[i]? = some x) bv) (hv:Rr X.env.scope x:=by first|exact Or.inl rfl|exact Or.inr (Or.inl rfl)|exact Or.inr (Or.inr rfl)) (hd:(x == ("__debug__" : Str))=false:=by decide) (qA:(x == ("__classdict__" : Str))=false:=by decide):PE X (.Name x pos) (jI i):=Rz hN hv hd qA
end
def aS(H H':Hp):Prop:=∀ b o,H b=some o->H' b=some o
def aS.refl(H:Hp):aS H H:=λ_ _ h=>h
def aS.trans(a:aS H H1)(b:aS H1 H2):aS H H2:=λc o h=>b c o (a c o h)
def aS.free(e:aS H H')(h:H' l=Option.none):H l=Option.none:=by
 cases q:H l with
 |none=>rfl
 |some o =>rw[e l o q] at h;cases h
def aS.seq{K:ay}(e:aS H H')(h:e7 K H a xs):e7 K H' a xs:=by
 rcases h with(h|⟨o,h⟩)|h
 ·exact .inl (.inl (e _ _ h))
 ·exact .inl (.inr ⟨o,e _ _ h⟩)
 ·exact .inr h
end L2
namespace L2
def w_(env:Env):List (Str × A5)->List (Str × ae)->List (Str × ae)
 |[],cs=>cs
 | (n,k) :: r,cs=>w_ env r (if k == NameKind.free then (n,(env.cells.lookup n).getD 0) :: cs else cs)
def gP(env:Env):∀ (names:List (Str × A5)) (cs:List (Str × ae)),(∀ y∈names,y.2=.free->∃ c,env.cells.lookup y.1=some c) -> (forIn names cs λx r=>match x with
   | (name,kind)=>if (kind == NameKind.free)=true then do let a <- cellOf env name;pure (ForInStep.yield ((name,a) :: r)) else pure (ForInStep.yield r):Sem (List (Str × ae)))=pure (w_ env names cs)
 |[],cs,_=>rfl
 | (n,k) :: r,cs,h=>by
  rw[List.forIn_cons];have ih:=gP env r;by_cases hk:k=.free
  ·subst hk;obtain⟨c,e⟩:=h (n,.free) fA rfl;have e2:cellOf env n=pure c:=by unfold cellOf;rw[e]
   have e3:w_ env ((n,.free) :: r) cs=w_ env r ((n,c) :: cs):=by show w_ env r (if (NameKind.free == NameKind.free)=true then (n,(env.cells.lookup n).getD 0) :: cs else cs)=_;rw[e];rfl
   rw[e3,<- ih ((n,c) :: cs) λy hy=>h y (eI _ hy)];simp only[beq_self_eq_true,if_true,e2];rfl
  ·have hb:(k == NameKind.free)=false:=by simpa using hk
   have e3:w_ env ((n,k) :: r) cs=w_ env r cs:=by show w_ env r (if (k == NameKind.free)=true then _ else cs)=_;rw[hb];rfl
   rw[e3,<- ih cs λy hy=>h y (eI _ hy)];simp only[hb,yB,if_false];rfl
def oR(h:∀ y∈scope.names,y.2=.free->∃ c,env.cells.lookup y.1=some c):closureFor scope env=pure (w_ env scope.names []):=by have:=gP env scope.names [] h;rw[<- bind_pure (forIn scope.names [] _)] at this;exact this
theorem nO:∀ {names:List (Str × A5)} {cs:List (Str × ae)},(∀ y∈names,y.2=.free->∃ c,env.cells.lookup y.1=some c)->(∀ y d,cs.lookup y=some d->env.cells.lookup y=some d) -> (w_ env names cs).lookup x=some c->env.cells.lookup x=some c
 |[],cs,_,h,e=>h x c e
 | (n,k) :: r,cs,hf,h,e=>by
  refine nO (λy hy=>hf y (eI _ hy)) ?_ e;intro y d hd;by_cases hk:k=.free
  ·subst hk;obtain⟨c',e'⟩:=hf (n,.free) fA rfl;simp only[beq_self_eq_true,if_true,e',Option.getD_some,Ts] at hd
   cases hb:y == n with
   |true=>rw[hb] at hd;have:y=n:=eq_of_beq hb;subst this;rw[e'];exact hd
   |false=>rw[hb] at hd;exact h y d hd
  ·have hb:(k == NameKind.free)=false:=by simpa using hk
   simp only[hb,yB,if_false] at hd;exact h y d hd
theorem kI:∀ {names:List (Str × A5)} {cs:List (Str × ae)},((x,NameKind.free)∈names\/∃ c,cs.lookup x=some c)->∃ c,(w_ env names cs).lookup x=some c
 |[],cs,h=>by
  rcases h with h|h
  ·exact nomatch h
  ·exact h
 | (n,k) :: r,cs,h=>by
  refine kI (names:=r) ?_;rcases h with h|⟨c,h⟩
  ·rcases eW.mp h with e|h
   ·cases e;refine .inr ⟨(env.cells.lookup x).getD 0,?_⟩;simp only[beq_self_eq_true,if_true,Ts]
   ·exact .inl h
  ·refine .inr ?_;by_cases hk:(k == NameKind.free)=true
   ·simp only[hk,if_true,Ts]
    cases hb:x == n with
    |true=>exact⟨_,rfl⟩
    |false=>exact⟨c,h⟩
   ·simp only[hk,if_false];exact⟨c,h⟩
def aX(X:Cx)(scope:Scope)(C:ae)(N:List Str)(fp:List ae)(gp:aE)(iL:Hp):Cx :=
 { X with N:=N,gL:=gp,D9:=iL,env:=compEnvC scope (w_ X.env scope.names []) C X.env,outer:=X.stack,stack:=X.stack,ex:=fp,fn:=λ_=>false,pn:=[],xe:=λ_ _=>False }
def EI(X:Cx)(ifs:List Expr)(t:TT):Prop :=
 ∀ (pins:List (ae × Obj)) (s:aE) (σ:St) (H:Hp) (Q:Bool->Hp->Prop),Inv X pins σ H s->t σ H Q ->
  b6 (bq X.prog X.w) X.A (forIn ifs true λc r=>if r=true then do let ok <- isTrue c X.env (b3 c X.env);pure (ForInStep.yield ok) else pure (ForInStep.yield r)) (TP X pins σ Q) X.xe s
def iC':TT:=λ_ H Q=>Q true H
def Hf{X:Cx}:EI X [] iC':=λ_ _ _ H _ I h=>wpAny_tests_nil ⟨H,I,h⟩
def fL{R:Result->aE->Prop}(I:Nat->aE->Prop)(E:ah->aE->Prop)(turn:∀ n s,I n s->b6 (bq prog w) A (pyNext it) (λr fz=>match r with
   |none=>R (.ok .next) fz
   |some v=>b6 (bq prog w) A (letOwnedTupleGo target it v) (λ_ gL=>b6 (bq prog w) A (assign target env v) (λ_ Bz =>
     b6 (bq prog w) A (forIn ifs true λc r=>if r=true then do let ok <- isTrue c env (b3 c env);pure (ForInStep.yield ok) else pure (ForInStep.yield r)) (λok gp =>
      if ok=true then b6 (bq prog w) A (b3 elt env) (λx cc' =>
       b6 (bq prog w) A (call (.builtin "list.append") [acc,x]) (λ_ cd'=>∃ m,m<n/\I m cd') E cc') E gp
      else ∃ m,m<n/\I m gp) E Bz) E gL) E fz) E s)
  (hE:∀ e s',E e s'->notedBy (bq prog w) A env (λe s'=>R (.error e) s') e s')
  (n:Nat) (h:I n s) :
  codeAny (bq prog w) A (.compLoop (.ListComp elt [⟨target,iter,ifs,0⟩] scope pos) 0 it acc env) R s:=by
 refine codeAny_loop rfl I (λn s hI=>?_) n h;refine wpAny_noted ?_;refine sD ?_ (λ_ _ q=>q) hE;refine bT (wpAny_standAt (bT (sD (turn n s hI) (λr fz LB=>?_) λ_ _ h'=>h')))
 cases r with
 |none=>exact dv LB
 |some v =>
  refine bT (sD LB (λ_ gL h₀=>?_) λ_ _ h'=>h');refine bT (sD h₀ (λ_ Bz R0=>bT (sD R0 (λok gp Ux=>?_) λ_ _ h'=>h')) λ_ _ h'=>h')
  cases ok with
  |false=>exact dv ⟨rfl,Ux⟩
  |true =>exact bT (bT (sD Ux (λx cc' iD'=>bT (sD iD' (λ_ cd' iE'=>dv (dv ⟨rfl,iE'⟩)) λ_ _ h'=>h')) λ_ _ h'=>h'))
def lW(tn:Nat)(ix:List Nat)(σ:St):St:=List.replicate tn none++ix.map λj=>(σ[j]?).join
def vK(wi:TI)(g:TG)(tc:TT)(te:TE)(tn:Nat)(ix:List Nat):TE:=λσ H Q=>wi σ H λJ H1=>∀ D,H1 D=none ->
 ∃ W:Nat->Nat->St->Hp->Prop,(∃ m,W 0 m (lW tn ix σ) (upd H1 D (.lst [])))/\∀ i m τ H,W i m τ H -> (J.stop i H/\Q (.ref D) H)\/(J.go i H/\∃ (N1:St->V->Hp->Prop) (N2:St->Hp->Prop), (∀ oP v H4,N1 oP v H4->∃ ys m',H4 D=some (.lst ys)/\ys.length<bE/\m'<m/\W (i+1) m' oP (upd H4 D (.lst (ys++[v])))) /\ (∀ oP H3,N2 oP H3->∃ m',m'<m/\W (i+1) m' oP H3) /\
   ∀ x H',J.mG i H x H'->g x τ H' λoP H2=>tc oP H2 λb H3=>if b=true then te oP H3 (N1 oP) else N2 oP H3)
section
variable {X:Cx}{tg iter elt:Expr}{ifs:List Expr}{scope:Scope}{pos:Pos}{wi:TI}{g:TG}{tc:TT}{te:TE}{tn cn:List Str}{ix:List Nat}
structure cN(X:Cx)(scope:Scope)(tn cn:List Str)(ix:List Nat):Prop where
 kind:scope.kind=.function
 iF':∀ y∈scope.names,y.2≠.cell
 free:∀ y∈scope.names,y.2=.free->X.env.scope.names.lookup y.1=some .cell\/X.env.scope.names.lookup y.1=some .free
 names:∀ y∈scope.names,y.2=.local->scope.names.lookup y.1=some .local
 len:ix.length=cn.length
 cap:∀ (k j:Nat),ix[k]? = some j->∃ y,cn[k]? = some y/\X.N[j]? = some y/\(X.env.scope.names.lookup y=some .cell\/X.env.scope.names.lookup y=some .free)/\(y,NameKind.free)∈scope.names /\
  ((relabel scope X.env).names.lookup y=some .cell\/(relabel scope X.env).names.lookup y=some .free)
 all:∀ x,(relabel scope X.env).names.lookup x=some .cell\/(relabel scope X.env).names.lookup x=some .free->(x,NameKind.free)∈scope.names
def xQ(O:cN X scope tn cn ix)(I:Inv X pins σ H s)(hf:∀ b∈fp,y1 X pins H b)(hfs:∀ b∈fp,b<s.heap.objs.size)(hC:s.heap.objs.size<=C) : (aX X scope C (tn++cn) fp s H).Ok:=by
 have sf:∀ y∈scope.names,y.2=.free->∃ c,X.env.cells.lookup y.1=some c:=λy hy hk=>I.ok.has y.1 (O.free y hy hk);have sub:∀ x c,(w_ X.env scope.names []).lookup x=some c->X.env.cells.lookup x=some c:=λx c e=>nO sf (λy d h=>by simp at h) e;refine⟨I.ok.mod,O.kind,I.ok.glob,I.ok.blt,hC,λx y c h1 h2=>I.ok.inj x y c (sub x c h1) (sub y c h2),λx hx=>kI (.inl (O.all x hx)),(λx c h _=>nomatch h),I.ok.hd,I.ok.frames,.inl rfl,λb hb=>⟨?_,λx c e=>?_⟩,
  I.bs,kD I.ok.xD I.sz,λb o e hb=>?_,λb hb=>?_,I.stack,I.V_⟩
 ·exact kE (qo (hfs b hb) hC)
 ·exact(hf b hb).2.2.2.2.1 x c (sub x c e)
 ·rcases (hf b hb).2.2.2.1 with z|z
  ·exact I.ok.CF b o e z
  ·exact absurd (qo (gI e) (kD I.ok.xD z)) (AB _)
 ·intro hz;rcases eW.mp (I.V9 b hz) with e|e
  ·exact(hf b hb).2.1 e
  ·exact(hf b hb).2.2.1 e
def tK{P:ah->aE->Prop}(hc:X.calm=true)(hi:PI X tg iter wi)(O:cN X scope tn cn ix)(hg:∀ C fp gp iL,PG (aX X scope C (tn++cn) fp gp iL) tg g) (xS:∀ C fp gp iL,EI (aX X scope C (tn++cn) fp gp iL) ifs tc) (he:∀ C fp gp iL,PE (aX X scope C (tn++cn) fp gp iL) elt te)(hs:∀ x,DU iter X.env x=pure x) (I:Inv X pins σ H s) (h:vK wi g tc te tn.length ix σ H Q)(fin:∀ (C D:ae) (m:Str->Option ah) (H5:Hp) (s6:aE) (r:Flow),Inv X pins σ H5 s6->s6.heap.Ns C m->H5 C=none->y1 X pins H5 C->Q (.ref D) H5->compPost (bq X.prog X.w) X.A X.xe use P (.ref D) C (.ok r) s6) :
  b6 (bq X.prog X.w) X.A (comprehension (.ListComp elt [⟨tg,iter,ifs,0⟩] scope pos) scope X.env qg' (newList []) false (b3 iter X.env) use) P X.xe s:=by
 have sf:∀ y∈scope.names,y.2=.free->∃ c,X.env.cells.lookup y.1=some c:=λy hy hk=>I.ok.has y.1 (O.free y hy hk);have sub:∀ x c,(w_ X.env scope.names []).lookup x=some c->X.env.cells.lookup x=some c:=λx c e=>nO sf (λy d h=>by simp at h) e;refine wpAny_comprehension_free rfl hs (oR sf) O.kind O.names (cv (hi pins s σ H _ I h) λv s1 h1=>cv h1 λWm s2 h2=>?_);obtain⟨it,fp,UB,J,H2,e,I2,T,AJ,f2,h2⟩:=h2;subst e;obtain⟨W,⟨m0,w0⟩,turn⟩:=h2 s2.heap.objs.size (I2.bG.fresh (c9 _));refine DV ?_;have I3:Inv X pins σ (upd H2 s2.heap.objs.size (.lst [])) { s2 with heap:=s2.heap.push { cls:=.type "list",data:=.seq ([]:List ah).toArray } }:=I2.RQ .nil (gd _);generalize hD:s2.heap.objs.size=D at *
 generalize W7:({ s2 with heap:=s2.heap.push { cls:=.type "list",data:=.seq ([]:List ah).toArray } }:aE)=s3 at *
 have k23:∀ b o,s2.heap.get? b=some o->s3.heap.get? b=some o:=λb o e=>by rw[<- W7];exact ki _ e
 have f3:∀ b∈fp,y1 X pins (upd H2 D (.lst [])) b:=λb hb=>by obtain⟨f0,fr⟩:=f2 b hb;obtain⟨o,ho,_⟩:=T.obj _ _ AJ b hb;refine⟨?_,fr⟩;rw[df (kE (by rw[<- hD];exact gI ho))];exact f0
 have AK:UB 0 s3.heap:=T.keep _ _ _ AJ λb hb o e=>k23 b o e;have lt3:∀ b∈fp,b<s3.heap.objs.size:=λb hb=>by obtain⟨o,ho,_⟩:=T.obj _ _ AK b hb;exact gI ho
 refine wpAny_newFunctionEnv O.iF' (by intro y hy;simp at hy) (λLB iJ' iK'=>?_) O.kind;have LH:∀ b o,s3.heap.get? b=some o->LB.get? b=some o:=λb o e=>iK'.extBut b o (kE (gI e)) (ki _ e)
 -- the block's context
 have GN:=xQ O I3 f3 lt3 (c9 _);have I4:Inv (aX X scope s3.heap.objs.size (tn++cn) fp s3 (upd H2 D (.lst []))) [] (lW tn.length ix σ) (upd H2 D (.lst [])) { s3 with heap:=LB,toks:=s3.toks+([]:List (Str × ah)).length }:=by
  refine⟨GN,rfl,I3.bare,Un.kept LH,⟨_,iJ',λi x v e1 e2 e3=>?_⟩,λx c e=>?_,I3.bG.fresh (c9 _),λx c e=>I3.sR x c (sub x c e),λp hp=>absurd hp (by simp[aX]),I3.bG.kept LH,?_⟩
  ·have om:tn.length<=i:=by
    by_cases q:i<tn.length
    ·unfold lW at e2;rw[IQ (by simpa using q),VL] at e2;simp[q] at e2
    ·lia
   unfold lW at e2;rw[D1 (by simpa using om),Tj,mz] at e2;have e1:(tn++cn)[i]? = some x:=e1;rw[D1 om] at e1
   cases q:ix[i-tn.length]? with
   |none=>rw[q] at e2;cases e2
   |some j =>
    rw[q] at e2;obtain⟨y,c1,c2,c3,c4,c5⟩:=O.cap _ _ q;rw[c1] at e1;cases e1;have e2:σ[j]?.join=some v:=Option.some.inj e2;have ej:σ[j]? = some (some v):=by
     cases z:σ[j]? with
     |none=>rw[z] at e2;cases e2
     |some o=>rw[z] at e2;exact congrArg some e2
    obtain⟨m,hn,hl⟩:=I3.loc;obtain⟨u,r,l⟩:=hl j x v c2 ej (c3.elim (λz=>.inr (.inl z)) λz=>.inr (.inr z));refine⟨u,r,.inr ⟨c5,?_⟩⟩;rcases l with⟨hk,_⟩|⟨hk,c,T6,hce⟩
    ·have hk:X.env.scope.names.lookup x=some .local:=hk;rcases c3 with z|z
     ·rw[z] at hk;cases hk
     ·rw[z] at hk;cases hk
    ·obtain⟨c',Ry⟩:=kI (Or.inl c4);have:=sub x c' Ry;rw[T6] at this;cases this;obtain⟨o,ho,hd⟩:=hce;exact⟨c,Ry,o,LH _ _ ho,hd⟩
  ·obtain⟨v,o,ho,hd⟩:=I3.cell x c (sub x c e);exact⟨v,o,LH _ _ ho,hd⟩
  ·show(lW tn.length ix σ).length=(tn++cn).length;unfold lW;simp[O.len]
 -- from the block back to the body
 have back:∀ {τ:St} {H':Hp} {s':aE},Inv (aX X scope s3.heap.objs.size (tn++cn) fp s3 (upd H2 D (.lst []))) [] τ H' s'->Inv X pins σ H' s':=λ{τ H' s'} I' =>
  Inv.eY' I3 I'.os I'.base I'.bG I'.bare λb hb=>by obtain⟨_,f1,_,f3',f4,f5⟩:=f3 b hb;exact⟨f3',f1,f4,f5⟩
 have W8:∀ {H':Hp},(∀ b∈fp,H' b=none)->∀ b∈fp,y1 (aX X scope s3.heap.objs.size (tn++cn) fp s3 (upd H2 D (.lst []))) [] H' b:=λhn b hb =>
  ⟨hn b hb,(GN.EA b hb).1,GN.CH b hb,.inl hb,(GN.EA b hb).2,λp hp=>absurd hp (by simp[aX])⟩
 have loop:∀ s4:aE,Inv (aX X scope s3.heap.objs.size (tn++cn) fp s3 (upd H2 D (.lst []))) [] (lW tn.length ix σ) (upd H2 D (.lst [])) s4->UB 0 s4.heap ->
   codeAny (bq X.prog X.w) X.A (.compLoop (.ListComp elt [⟨tg,iter,ifs,0⟩] scope pos) 0 (.ref it) (.ref D) (compEnvC scope (w_ X.env scope.names []) s3.heap.objs.size X.env)) (compPost (bq X.prog X.w) X.A X.xe use P (.ref D) s3.heap.objs.size) s4:=by
  intro s4 I4 BF;refine fL (λn s'=>∃ i τ H',Inv (aX X scope s3.heap.objs.size (tn++cn) fp s3 (upd H2 D (.lst []))) [] τ H' s'/\UB i s'.heap/\(∀ b∈fp,H' b=none)/\W i n τ H') (λ_ _=>False) ?_ (λ_ _ z=>z.elim) m0 ⟨0,_,_,I4,BF,λb hb=>(f3 b hb).1,w0⟩
  rintro n s5 ⟨i,τ,H5,I5,Kn,Ub,w5⟩;rcases turn i n τ H5 w5 with⟨stop,qn⟩|⟨go,N1,N2,hN1,hN2,step⟩
  ·refine cv (T.done (aX X scope s3.heap.objs.size (tn++cn) fp s3 (upd H2 D (.lst []))) rfl rfl rfl hc i [] s5 τ H5 (λ_ _=>False) I5 (W8 Ub) Kn stop) λr s6 dA=>?_;obtain⟨hr,I6⟩:=dA;subst hr;have J6:=back I6;obtain⟨m,hn,_⟩:=I6.loc;exact fin _ D m H5 s6 _ J6 hn I6.free (I3.FX (c9 _) I6.free) qn
  ·refine cv (T.item (aX X scope s3.heap.objs.size (tn++cn) fp s3 (upd H2 D (.lst []))) rfl rfl rfl hc i [] s5 τ H5 (λ_ _=>False) I5 (W8 Ub) Kn go) λr s6 dA=>?_;obtain⟨u,hr,h6⟩:=dA;subst hr;refine cv h6 λ_ s7 dA=>?_;obtain⟨x,H7,I7,r7,y7,W9,fr7⟩:=dA;have I7':=I7.pinned (W8 fr7) (T.obj _ _ W9);refine cv (hg _ _ _ _ _ s7 τ H7 x u _ I7' r7 (step x H7 y7)) λ_ s8 dA=>?_;obtain⟨OU,H8,I8,q8⟩:=dA;refine cv (xS _ _ _ _ _ s8 OU H8 _ I8 q8) λok s9 dA=>?_;obtain⟨H9,I9,q9⟩:=dA;have again:∀ {s':aE} {H':Hp} {m':Nat},Inv (aX X scope s3.heap.objs.size (tn++cn) fp s3 (upd H2 D (.lst []))) ([]++RG fp s7.heap) OU H' s'->m'<n->W (i+1) m' OU H' ->
     ∃ m,m<n/\∃ i τ H',Inv (aX X scope s3.heap.objs.size (tn++cn) fp s3 (upd H2 D (.lst []))) [] τ H' s'/\UB i s'.heap/\(∀ b∈fp,H' b=none)/\W i m τ H':=λ{s' H' m'} J hm w'=>by
    refine⟨m',hm,i+1,OU,H',J.Ua,T.keep _ _ _ W9 λb hb o e=>(J.pin (b,o) (eT _ (eT _ (T_ hb e)))).1,λb hb=>?_,w'⟩;obtain⟨o,e,d⟩:=T.obj _ _ W9 b hb;exact(J.pin (b,o) (eT _ (eT _ (T_ hb e)))).2.1
   cases ok with
   |false =>obtain⟨m',hm,w'⟩:=hN2 _ _ q9;exact again I9 hm w'
   |true =>refine cv (he _ _ _ _ _ s9 OU H9 _ I9 q9) λx9 s10 ck=>L2.eM ck λv10 H10 I10 r10 q10=>?_;obtain⟨ys,m',hH,hz,hm,w'⟩:=hN1 _ _ _ q10;refine cv (RV _ s10 OU H10 (.ref D) [v10] (.ref D) [x9] (λ_ H'=>H'=upd H10 D (.lst (ys++[v10]))) I10 rfl (.cons r10 .nil) ⟨D,ys,v10,rfl,rfl,hH,hz,rfl⟩) λ_ s11 ck=>L2.eM ck λ_ H11 I11 _ q11=>?_;subst q11;exact again I11 hm w'
 exact codeAny_compStart_list (loop _ I4 (T.keep _ _ _ AK λb hb o e=>LH b o e)) (T.self _ 0 _ _ _ (T.keep _ _ _ AK λb hb o e=>LH b o e) (loop _ I4 (T.keep _ _ _ AK λb hb o e=>LH b o e)))
def Eh(hc:X.calm=true)(hi:PI X tg iter wi)(O:cN X scope tn cn ix)(hg:∀ C fp gp iL,PG (aX X scope C (tn++cn) fp gp iL) tg g) (xS:∀ C fp gp iL,EI (aX X scope C (tn++cn) fp gp iL) ifs tc) (he:∀ C fp gp iL,PE (aX X scope C (tn++cn) fp gp iL) elt te)(hs:∀ x,DU iter X.env x=pure x:=by intro _;rfl):PE X (.ListComp elt [⟨tg,iter,ifs,0⟩] scope pos) (vK wi g tc te tn.length ix):=by
 intro pins s σ H Q I h;exact tK hc hi O hg xS he hs I h λC D m H5 s6 r J6 hn hf ⟨_,g1,_,g3,g4,g5⟩ qn=>⟨m,hn,λh' W_=>⟨.ref D,H5,J6.turned (λb o hb e=>W_.extBut b o hb e) hf g1 g3 g4 g5,rfl,qn⟩⟩
def mQ(hN:X.N.Nodup)(BG:X.N[i]? = some x)(hx:Loc X.env.scope x)(hc:X.calm=true)(hi:PI X tg iter wi)(O:cN X scope tn cn ix)(hg:∀ C fp gp iL,PG (aX X scope C (tn++cn) fp gp iL) tg g) (xS:∀ C fp gp iL,EI (aX X scope C (tn++cn) fp gp iL) ifs tc) (he:∀ C fp gp iL,PE (aX X scope C (tn++cn) fp gp iL) elt te)(R5:lP (.ListComp elt [⟨tg,iter,ifs,0⟩] scope pos) (some (.Name x pos')) OV.line X.env=pure true)(hs:∀ x,DU iter X.env x=pure x:=by intro _;rfl) (hf:X.fn x=true\/X.env.scope.names.lookup x=some .local:=by first|exact .inl rfl|exact .inr rfl|assumption) :
  PS X (.Assign [.Name x pos'] (.ListComp elt [⟨tg,iter,ifs,0⟩] scope pos) OV) (Wl (vK wi g tc te tn.length ix) (Wi i)):=by
 intro pins s σ H D0 I h;rw[exec_Assign_Name_used _ _ _ _ R5];refine bT (wpAny_standAt (bT ?_));show b6 _ _ (do let _ <- comprehension (.ListComp elt [⟨tg,iter,ifs,0⟩] scope pos) scope X.env _ (newList []) false (b3 iter X.env) (some (assign (.Name x pos') X.env))) _ _ s;refine bT (sD (tK (use:=some (assign (.Name x pos') X.env)) (P:=λ_ s'=>SP X pins D0 .next s') hc hi O hg xS he hs I h λC D m H5 s6 r J6 hn hfr ⟨_,g1,_,g3,g4,g5⟩ qn=>?_) (λ_ s' hq=>dv (dv hq)) λ_ _ e=>e);refine(show b6 _ _ (assign (.Name x pos') X.env (.ref D)) _ _ s6 from wpAny_assign_Name (Wc J6 hN BG hx (v:=.ref D) rfl (λs7 I7 dA=>?_) hf));obtain⟨a,sb,ha⟩:=dA;have hCa:C≠a:=by
  rcases ha with rfl|ha
  ·exact g1
  ·exact Ne.symm (g4 _ a ha)
 refine⟨m,hn.sameBut sb hCa,λh' W_=>⟨_,H5,?_,qn⟩⟩;exact I7.turned (t':=s7.toks) (λb o hb e=>W_.extBut b o hb e) hfr g1 g3 g4 g5
end
def OW (a b:String):Bool:=a == b || (a == "bool" && b == "int")
def Za (b:String):Bool:=["str", "int", "bool", "list", "tuple", "dict"].contains b
def jq (K:ay) (a b:String) (ha:a∈["NoneType", "bool", "int", "str", "list", "tuple", "dict"]) (hb:b∈["str", "int", "bool", "list", "tuple", "dict"]):oa K (.type a) (.type b)=some (OW a b):=by simp only[eW,FI,or_false] at ha hb;rcases ha with rfl|rfl|rfl|rfl|rfl|rfl|rfl<;>rcases hb with rfl|rfl|rfl|rfl|rfl|rfl<;>kernel_rfl
section
variable {X:Cx}
def d5.imp(h:d5 X f r)(hi:∀ x y H Q,r' x y H Q->r x y H Q):d5 X f r' :=
 λpins s σ H x y v u Q I rx ry q=>h pins s σ H x y v u Q I rx ry (hi x y H Q q)
def KR(K:ay):R2:=λx y H Q=>∃ l b xs zs,x=.ref l/\y=.ref b/\e7 K H l xs/\e7 K H b zs/\xs.length+zs.length<=bE/\∀ p,H p=none->Q (.ref p) (upd H p (.lst (xs++zs)))
def Et:d5 X (oz .Add) (KR X.K):=by
 intro pins s σ H x y v u Q I rx ry h;obtain⟨l,b,xs,zs,rfl,rfl,hH,hB,hz,q⟩:=h;cases rx;cases ry;obtain⟨its,r,pl,z⟩:=I.list hH;obtain⟨FY,r2,pl2,z2⟩:=I.list hB;have hl:=r.length;have Dp:=r2.length;obtain⟨⟨cls,dd,data,sl⟩,ho,hc,n,hd⟩:=id pl.isList;obtain⟨⟨gP',Ui,data2,OL⟩,K0,WK,n2,hd2⟩:=id pl2.isList;subst hc hd WK hd2;have ea:its.toArray++FY.toArray=(its++FY).toArray:=by simp
 refine concat_meets ⟨_,ho,rfl⟩ ⟨_,K0,rfl⟩ noFill_list_add seq_list_add PySem.F.slot_list_add PySem.F.entry_list_add (PySem.F.args_list_add_2 _ _) (list_addW l b its.toArray FY.toArray n n2 dd Ui sl OL (by simp only[kB];lia)) ⟨ho,K0,?_⟩;rw[ea];exact⟨.ref _,_,I.RQ (r.append r2) (by rw[iq];lia),rfl,q _ I.fresh⟩
def BW(K:ay):R2:=λx y H Q=>match x,y with
 |.int i,.int j=>Q (.int (i+j)) H
 |.str i,.str j=>i.length+j.length<=bE/\Q (.str (i++j)) H
 |.ref a,.ref b=>∃ xs zs,e7 K H a xs/\e7 K H b zs/\xs.length+zs.length<=bE/\∀ p,H p=none->Q (.ref p) (upd H p (.lst (xs++zs)))
 |_,_=>False
def Ek:d5 X (oz .Add) (BW X.K):=by
 refine(fS'.or (gp'.or Et)).imp λx y H Q h=>?_;unfold BW at h;split at h
 ·exact .inl ⟨_,_,rfl,rfl,h⟩
 ·exact .inr (.inl ⟨_,_,rfl,rfl,h.1,h.2⟩)
 ·obtain⟨xs,zs,h1,h2,h3,h4⟩:=h;exact .inr (.inr ⟨_,_,xs,zs,rfl,rfl,h1,h2,h3,h4⟩)
 ·exact h.elim
def Fb:R2:=λx y H Q=>match x,y with
 |.int i,.int j=>Q (.int (i-j)) H
 |_,_=>False
def DP:d5 X (oz .Sub) Fb:=fT'.imp λx y H Q h=>by
 unfold Fb at h;split at h
 ·exact⟨_,_,rfl,rfl,h⟩
 ·exact h.elim
def G3:R2:=λx y H Q=>match x,y with
 |.int i,.int j=>Oy i j/\Q (.int (i*j)) H
 |_,_=>False
def Fy:d5 X (oz .Mult) G3:=fU'.imp λx y H Q h=>by
 unfold G3 at h;split at h
 ·exact⟨_,_,rfl,rfl,h.1,h.2⟩
 ·exact h.elim
def Gw:R2:=λx y H Q=>match x,y with
 |.int i,.int j=>(0<j/\j<1073741824)/\Q (.int (i / j)) H
 |_,_=>False
def Fq:d5 X (oz .FloorDiv) Gw:=fV'.imp λx y H Q h=>by
 unfold Gw at h;split at h
 ·exact⟨_,_,rfl,rfl,h.1,h.2⟩
 ·exact h.elim
def GZ:R2:=λx y H Q=>match x,y with
 |.int i,.int j=>0<j/\Q (.int (i % j)) H
 |_,_=>False
def Ed:d5 X (oz .Mod) GZ:=fW'.imp λx y H Q h=>by
 unfold GZ at h;split at h
 ·exact⟨_,_,rfl,rfl,h.1,h.2⟩
 ·exact h.elim
def xa(x y:Str):Bool:=decide (x.cps.toList<y.cps.toList)
def Zb:R2:=λx y H Q=>match x,y with
 |.int i,.int j=>Q (.bl (decide (i<j))) H
 |.str i,.str j=>Q (.bl (xa i j)) H
 |_,_=>False
def sY:d5 X (hZ .Lt) Zb:=(gd'.or gg').imp λx y H Q h=>by
 unfold Zb at h;split at h
 ·exact .inl ⟨_,_,rfl,rfl,h⟩
 ·exact .inr ⟨_,_,rfl,rfl,h⟩
 ·exact h.elim
def zp:d5 X (hZ .LtE) (λx y H Q=>∃ i j,x=.str i/\y=.str j/\Q (.bl (!xa j i)) H):=by intro pins s σ H x y v u Q I rx ry h;obtain⟨i,j,rfl,rfl,q⟩:=h;obtain⟨t,rfl⟩:=rx;obtain⟨t',rfl⟩:=ry;exact PySem.P.le_str ⟨.bl _,H,I,rfl,q⟩
def Zc:R2:=λx y H Q=>match x,y with
 |.int i,.int j=>Q (.bl (decide (i<=j))) H
 |.str i,.str j=>Q (.bl (!xa j i)) H
 |_,_=>False
def m_:d5 X (hZ .LtE) Zc:=(ge'.or zp).imp λx y H Q h=>by
 unfold Zc at h;split at h
 ·exact .inl ⟨_,_,rfl,rfl,h⟩
 ·exact .inr ⟨_,_,rfl,rfl,h⟩
 ·exact h.elim
def Zd:R2:=λx y H Q=>match x,y with
 |.int i,.int j=>Q (.bl (decide (j<i))) H
 |_,_=>False
def qp:d5 X (hZ .Gt) Zd:=gf'.imp λx y H Q h=>by
 unfold Zd at h;split at h
 ·exact⟨_,_,rfl,rfl,h⟩
 ·exact h.elim
def Inv.rd(I:Inv X pins σ H s)(e:Rd H a u):lS X.prog X.w H s.heap a u:=e.elim (I.bG a _) λ⟨o,e⟩=>(I.bG a _ e).2
def UC(K:ay):List V->Hp->VK->Prop:=λxs H Q=>match xs with
 |[.str y]=>y.length<=bE/\Q (.int y.length) H
 |[.ref p]=>(∃ ys,e7 K H p ys/\Q (.int ys.length) H)\/(∃ ys,kU K H p ys/\Q (.int ys.length) H)\/∃ ag,Rd H p (.dK ag)/\Q (.int ag.length) H
 |_=>False
def wK:mn X (.builtin "len") (UC X.K):=by
 intro pins s σ H xs us Q I r h;unfold UC at h;split at h
 ·exact Ud pins s σ H _ us Q I r ⟨_,_,rfl,⟨h.1,rfl⟩,h.2⟩
 ·rcases h with⟨ys,h1,h2⟩|⟨ys,h1,h2⟩|⟨ag,h1,h2⟩
  ·exact Ud pins s σ H _ us Q I r ⟨_,_,rfl,.inl ⟨ys,h1,rfl⟩,h2⟩
  ·exact Ud pins s σ H _ us Q I r ⟨_,_,rfl,.inr ⟨ys,h1,rfl⟩,h2⟩
  ·obtain⟨u,rfl,ru⟩:=vals1 r;cases ru;exact ig' I h1 λt s' I'=>⟨.int ag.length,H,I',⟨t,rfl⟩,h2⟩
 ·exact h.elim
def UD(K:ay):R2:=λx y H Q=>match x,y with
 |.ref p,.int i=>(∃ xs v,e7 K H p xs/\e8 xs i=some v/\Q v H)\/∃ xs v,kU K H p xs/\e8 xs i=some v/\Q v H
 |.str z,.int i=>z.length<=bE/\∃ c,e8 z.cps.toList i=some c/\Q (.str ⟨#[c]⟩) H
 |_,_=>False
def Cw:y2 X (UD X.K):=by
 intro value slice pins s σ H x y v u Q I rx ry h hs;refine hE' value slice pins s σ H x y v u Q I rx ry ?_ hs;unfold UD at h;split at h
 ·rcases h with⟨xs,w,h1,h2,h3⟩|⟨xs,w,h1,h2,h3⟩
  ·exact .inl ⟨_,xs,_,w,rfl,rfl,h1,h2,h3⟩
  ·exact .inr (.inl ⟨_,xs,_,w,rfl,rfl,h1,h2,h3⟩)
 ·obtain⟨h1,c,h2,h3⟩:=h;exact .inr (.inr ⟨_,_,c,rfl,rfl,h1,h2,h3⟩)
 ·exact h.elim
def nV(z:Str)(lo hi:Option Int):Str:=⟨((z.cps.toList.drop (HT.cE z.length 0 lo)).take (HT.cE z.length z.length hi-HT.cE z.length 0 lo)).toArray⟩
end
def y_(l:List Nat)(lo hi:Option Int)(h:((l.drop (HT.cE l.length 0 lo)).take (HT.cE l.length l.length hi-HT.cE l.length 0 lo)).length=l.length) : (l.drop (HT.cE l.length 0 lo)).take (HT.cE l.length l.length hi-HT.cE l.length 0 lo)=l:=by
 generalize HT.cE l.length 0 lo=a at *
 by_cases hl:l.length=0
 ·have:l=[]:=Tg.mp hl;subst this;simp
 ·rw[mB,Cb] at h;have h1:a=0:=by lia
  subst h1;rw[List.drop_zero];exact NF (by lia)
def yX(lo hi:Option Int)(n:Nat):Builtin.Str.strSliceIndices lo hi 1 n=(List.range (HT.cE n n hi-HT.cE n 0 lo)).map (HT.cE n 0 lo + ·):=by
 have e1:(match lo with|none=>0|some i=>max 0 (min (if i<0 then i+n else i) n))=((HT.cE n 0 lo:Nat):Int):=by
  cases lo with
  |none=>simp[HT.cE]
  |some i =>
   simp only[HT.cE];by_cases h:i<0
   ·simp only[h,if_true]<;>lia
   ·simp only[h,if_false]<;>lia
 have e2:(match hi with|none=>n|some i=>max 0 (min (if i<0 then i+n else i) n))=((HT.cE n n hi:Nat):Int):=by
  cases hi with
  |none=>simp[HT.cE]
  |some i =>
   simp only[HT.cE];by_cases h:i<0
   ·simp only[h,if_true]<;>lia
   ·simp only[h,if_false]<;>lia
 rw[<- sliceRange_one,<- e1,<- e2];cases lo<;>cases hi<;>rfl
section
variable {X:Cx}
def part_of(h:IsPart v o):∃ p:Option (Int × Tok),v=partValue p/\p.map (·.1)=o:=by
 cases h with
 |none=>exact⟨none,rfl,rfl⟩
 |int i t=>exact⟨some (i,t),rfl,rfl⟩
def Ze(K:ay):V->Option Int->Option Int->Hp->VK->Prop:=λx lo hi H Q=>match x with
 |.str z=>z.length<=bE/\Q (.str (nV z lo hi)) H
 |.ref a=>∃ xs,e7 K H a xs/\∀ p,H p=none->Q (.ref p) (upd H p (.lst (K2 xs lo hi)))
 |_=>False
def Ju:OO X (λx lo hi H Q=>∃ z,x=.str z/\z.length<=bE/\Q (.str (nV z lo hi)) H):=by
 intro pins s σ H x v vl vu lo hi sl Q I rx hs pl pu h;obtain⟨z,rfl,hz,q⟩:=h;obtain⟨t,rfl⟩:=rx;obtain⟨p1,rfl,e1⟩:=part_of pl;obtain⟨p2,rfl,e2⟩:=part_of pu;refine⟨"str",_,F.slot_str_getitem.lookup,DZ s z t,wpAny_getItem_str_slice (st:=none) hs rfl ?_⟩;have hl:z.cps.toList.length=z.length:=by simp[Str.length]
 have ep:slicePicked z p1 p2 none=(List.range (HT.cE z.length z.length hi-HT.cE z.length 0 lo)).map (HT.cE z.length 0 lo + ·):=by unfold slicePicked;rw[e1,e2];exact yX lo hi z.length
 have ef:(slicePicked z p1 p2 none).filterMap (z.cps[·]?)=(z.cps.toList.drop (HT.cE z.length 0 lo)).take (HT.cE z.length z.length hi-HT.cE z.length 0 lo):=by rw[ep];exact pick_run z.cps _ _
 unfold sliceMade;split
 ·rename_i hc;have hw:(slicePicked z p1 p2 none).length=z.length:=by simpa using hc
  have:nV z lo hi=z:=by
   unfold nV;have e3:((z.cps.toList.drop (HT.cE z.cps.toList.length 0 lo)).take (HT.cE z.cps.toList.length z.cps.toList.length hi-HT.cE z.cps.toList.length 0 lo)).length=z.cps.toList.length:=by
    rw[hl,mB,Cb,hl];rw[ep,dz,Tr] at hw;have h1:HT.cE z.length z.length hi<=z.length:=by
     cases hi with
     |none=>simp[HT.cE]
     |some i=>simp only[HT.cE];split<;>lia
    lia
   have:=y_ z.cps.toList lo hi e3;rw[hl] at this;rw[this]
  rw[this] at q;exact⟨.str z,H,I,⟨t,rfl⟩,q⟩
 ·rw[ef];exact⟨by
   show(nV z lo hi).length<=bE;unfold nV Str.length;simp only[kB,mB,Cb,hl];lia,⟨.str (nV z lo hi),H,I.tok _,⟨_,rfl⟩,q⟩⟩
def J7:OO X (Ze X.K):=by
 intro pins s σ H x v vl vu lo hi sl Q I rx hs pl pu h;unfold Ze at h;split at h
 ·exact Ju pins s σ H _ v vl vu lo hi sl Q I rx hs pl pu ⟨_,rfl,h.1,h.2⟩
 ·obtain⟨xs,h1,h2⟩:=h;exact hI' pins s σ H _ v vl vu lo hi sl Q I rx hs pl pu ⟨_,xs,rfl,h1,h2⟩
 ·exact h.elim
def R6(z:Str):It:=⟨λi _=>i<z.cps.size,λi H x H'=>H'=H/\∃ c,z.cps[i]? = some c/\x=.str ⟨#[c]⟩,λi _=>z.cps.size<=i⟩
def sX {P:cq} {K:ay} (GA:ty = "str_ascii_iterator"\/ty = "str_iterator") :
  Turn P w K tg (R6 z) [it] it (λi h=>h.IsStrIter it ty z t i/\i<=z.cps.size) where
 mem:=by simp
 obj:=λi h st b hb=>by
  have e:b=it:=by simpa using hb
  subst e;obtain⟨⟨o,e,c,d⟩,_⟩:=st;exact⟨o,e,λv z=>by rw[d] at z;cases z⟩
 keep:=λi h h' st k=>let ⟨⟨o,e,c,d⟩,l⟩:=st;⟨⟨o,k it (by simp) o e,c,d⟩,l⟩
 item:=by
  intro X hP hw hK hc i pins s σ H E I hf st hg;subst hP hw hK;obtain⟨f0,f1,f2,f3,f4,f5⟩:=hf it (by simp);obtain⟨st,_⟩:=st;have hg:i<z.cps.size:=hg;have W:Walks X.prog X.w X.A it [it] [it] z.cps.size (SignAt z) (λi h=>h.IsStrIter it ty z t i):=by
   rcases GA with rfl|rfl
   ·exact Walks.strAscii (I.ok.hd hc) it z t
   ·exact Walks.strWide (I.ok.hd hc) it z t
  refine W.item i s _ _ hg st λv h' tk hv av kk=>?_;obtain⟨c,u,ec,rfl⟩:=hv;have I1:Inv X pins σ H { s with heap:=h',toks:=tk }:=I.turned (λb o hb e=>kk b o (by simpa using hb) e) f0 f1 f3 f4 f5;obtain⟨o,e,c',d⟩:=id av;exact⟨_,rfl,N9 (s:={ s with heap:=h',toks:=tk }) e c' d (by rcases GA with rfl|rfl<;>decide) ⟨.str ⟨#[c]⟩,H,I1,⟨u,rfl⟩,⟨rfl,c,ec,rfl⟩,⟨av,hg⟩,λb hb=>(hf b hb).1⟩⟩
 done:=by
  intro X hP hw hK hc i pins s σ H E I hf st hg;subst hP hw hK;obtain⟨f0,f1,f2,f3,f4,f5⟩:=hf it (by simp);obtain⟨st,hle⟩:=st;have hg:z.cps.size<=i:=hg;have e:i=z.cps.size:=Nat.le_antisymm hle hg;subst e;have W:Walks X.prog X.w X.A it [it] [it] z.cps.size (SignAt z) (λi h=>h.IsStrIter it ty z t i):=by
   rcases GA with rfl|rfl
   ·exact Walks.strAscii (I.ok.hd hc) it z t
   ·exact Walks.strWide (I.ok.hd hc) it z t
  exact W.done s _ _ st λh' tk kk=>⟨rfl,I.turned (λb o hb e=>kk b o (by simpa using hb) e) f0 f1 f3 f4 f5⟩
 self:=λA i s Q E st h=>by
  rcases GA with rfl|rfl
  ·exact wpAny_pyIter_striter_ascii st.1 h
  ·exact wpAny_pyIter_striter_wide st.1 h
def J3(hl:PE X l tl):PI X tg l (λσ H R=>tl σ H λx H1=>∃ z,x=.str z/\R (R6 z) H1):=by
 intro pins s σ H R I h;refine cv (hl pins s σ H _ I h) λv s1 ck=>L2.eM ck λx H1 I1 r1 q1=>?_;obtain⟨z,rfl,q⟩:=q1;obtain⟨t,rfl⟩:=r1;have fp:∀ b∈[s1.heap.objs.size],y1 X pins H1 b:=λb hb=>by
  have e:b=s1.heap.objs.size:=by simpa using hb
  subst e;exact I1.FX (c9 _) (I1.bG.fresh (c9 _))
 cases ha:z.cps.all (· < 128)
 ·exact wpAny_pyIter_wide ha ⟨s1.heap.objs.size,[s1.heap.objs.size],_,_,H1,rfl,I1.kept λb o e=>ki _ e,sX (.inr rfl),⟨⟨_,oi _ rfl,rfl,rfl⟩,gd _⟩,fp,q⟩
 ·exact wpAny_pyIter_ascii ha ⟨s1.heap.objs.size,[s1.heap.objs.size],_,_,H1,rfl,I1.kept λb o e=>ki _ e,sX (.inl rfl),⟨⟨_,oi _ rfl,rfl,rfl⟩,gd _⟩,fp,q⟩
end
structure dW(J:It)(its:List V)(cond:Hp->Prop):Prop where
 go:∀ i H,cond H->i<its.length->J.go i H
 mG:∀ i H x H',cond H->i<its.length->J.mG i H x H'->H'=H/\its[i]? = some x
 stop:∀ H,cond H->J.stop its.length H
def UE(z:Str):List V:=z.cps.toList.map λc=>.str ⟨#[c]⟩
def Em(z:Str):dW (R6 z) (UE z) (λ_=>True) where
 go:=λi H _ h=>by simpa[UE,R6] using h
 mG:=λi H x H' _ _ h=>by obtain⟨rfl,c,e,rfl⟩:=h;refine⟨rfl,?_⟩;unfold UE;rw[mz,CC,e];rfl
 stop:=λH _=>by simp[UE,R6]
def BR(K:ay)(a:ae)(xs:List V):dW (T9 K a) xs (λH=>e7 K H a xs) where
 go:=λi H h hi=>⟨xs,xs[i],h,by simp[hi]⟩
 mG:=λi H x H' h _ y=>⟨y.1,y.2 xs h⟩
 stop:=λH h=>⟨xs,h,c9 _⟩
def xP(K:ay)(a:ae)(xs:List V):dW (Wn K a) xs (λH=>kU K H a xs) where
 go:=λi H h hi=>⟨xs,xs[i],h,by simp[hi]⟩
 mG:=λi H x H' h _ y=>⟨y.1,y.2 xs h⟩
 stop:=λH h=>⟨xs,h,c9 _⟩
def yo(lo:Int)(n:Nat):List V:=(List.range n).map λi=>.int (lo+(i:Nat))
def yf(lo:Int)(n:Nat):dW (Kk lo n) (yo lo n) (λ_=>True) where
 go:=λi H _ h=>by simpa[yo,Kk] using h
 mG:=λi H x H' _ hi h=>by
  have hi:i<n:=by simpa[yo] using hi
  obtain⟨rfl,rfl⟩:=h;refine⟨rfl,?_⟩;simp[yo,hi]
 stop:=λH _=>by simp[yo,Kk]
def ja'(J:It)(g:TG)(tb:TS)(D:Ends)(σ:St)(H:Hp):Prop :=
 ∃ W:Nat->Nat->St->Hp->Prop,(∃ m,W 0 m σ H)/\∀ i m σ H,W i m σ H -> (J.stop i H/\D.nx σ H)\/(J.go i H/\∃ N:St->Hp->Prop,(∀ b4 H',N b4 H'->∃ m',m'<m/\W (i+1) m' b4 H')/\∀ x H',J.mG i H x H'->g x σ H' λlh H2=>tb { D with nx:=N,ct:=N,bk:=D.nx } lh H2)
def Gd(wi:TI)(g:TG)(tb:TS)(D:Ends)(σ:St)(H:Hp):bb' wi g tb D σ H=wi σ H λJ H1=>ja' J g tb D σ H1:=rfl
def Ko(J:It)(g:TG)(tc:TT)(te:TE)(τ0:St)(H1:Hp)(D:ae)(Q:VK):Prop :=
 ∃ W:Nat->Nat->St->Hp->Prop,(∃ m,W 0 m τ0 (upd H1 D (.lst [])))/\∀ i m τ H,W i m τ H -> (J.stop i H/\Q (.ref D) H)\/(J.go i H/\∃ (N1:St->V->Hp->Prop) (N2:St->Hp->Prop), (∀ oP v H4,N1 oP v H4->∃ ys m',H4 D=some (.lst ys)/\ys.length<bE/\m'<m/\W (i+1) m' oP (upd H4 D (.lst (ys++[v])))) /\ (∀ oP H3,N2 oP H3->∃ m',m'<m/\W (i+1) m' oP H3) /\
   ∀ x H',J.mG i H x H'->g x τ H' λoP H2=>tc oP H2 λb H3=>if b=true then te oP H3 (N1 oP) else N2 oP H3)
def Al(wi:TI)(g:TG)(tc:TT)(te:TE)(tn:Nat)(ix:List Nat)(σ:St)(H:Hp)(Q:VK):vK wi g tc te tn ix σ H Q=wi σ H λJ H1=>∀ D,H1 D=none->Ko J g tc te (lW tn ix σ) H1 D Q:=rfl
mutual
inductive Rep(K:ay)(H:Hp):PyData->V->Prop
 |none:Rep K H .none .non
 |bool (b:Bool):Rep K H (.bool b) (.bl b)
 |int (i:Int):Rep K H (.int i) (.int i)
 |str (x:Str):Rep K H (.str x) (.str x)
 |list {a:ae} {vs:List V} {ds:List PyData}:e7 K H a vs->bS K H ds vs->Rep K H (.list ds) (.ref a)
 |tuple {a:ae} {vs:List V} {ds:List PyData}:kU K H a vs->bS K H ds vs->Rep K H (.tuple ds) (.ref a)
inductive bS(K:ay)(H:Hp):List PyData->List V->Prop
 |nil:bS K H [] []
 |cons {d:PyData} {v:V} {ds:List PyData} {vs:List V}:Rep K H d v->bS K H ds vs->bS K H (d :: ds) (v :: vs)
end
section
variable {X:Cx}{pins:List (ae × Obj)}{σ:St}{H:Hp}{s:aE}
mutual
theorem Rep.reads(I:Inv X pins σ H s):∀ {d:PyData} {v:V} {u:ah},Rep X.K H d v->RelV v u->∃ as,Reads s.heap u d as
 |_,_,_,.none,r=>by cases (r);exact⟨_,.none⟩
 |_,_,_,.bool b,r=>by cases (r);exact⟨_,.bool b⟩
 |_,_,_,.int i,r=>by obtain⟨t,e⟩:=r;subst e;exact⟨_,.int i t⟩
 |_,_,_,.str x,r=>by obtain⟨t,e⟩:=r;subst e;exact⟨_,.str x t⟩
 |_,_,_,.list h hs,r=>by cases r;obtain⟨its,rv,pl,_⟩:=I.list h;obtain⟨o,e,c,n,d⟩:=pl.isList;obtain⟨as,q⟩:=bS.reads I hs rv;exact⟨_,.list e c d q⟩
 |_,_,_,.tuple h hs,r=>by cases r;obtain⟨its,rv,⟨o,e,c,n,d⟩,_⟩:=I.tuple h;obtain⟨as,q⟩:=bS.reads I hs rv;exact⟨_,.tuple e c d q⟩
theorem bS.reads(I:Inv X pins σ H s):∀ {ds:List PyData} {vs:List V} {us:List ah},bS X.K H ds vs->Vals vs us->∃ as,ReadsAll s.heap us ds as
 |_,_,_,.nil,.nil=>⟨_,.nil⟩
 |_,_,_,.cons h hs,.cons r rs=>by obtain⟨as,q⟩:=Rep.reads I h r;obtain⟨bs,q'⟩:=bS.reads I hs rs;exact⟨_,.cons q q'⟩
end
def Zf(K:ay):R2:=λx y H Q=>∃ d e,Rep K H d x/\Rep K H e y/\d.canLay0=true/\e.canLay0=true/\d.depth<=60/\Q (.bl (PyData.eqv d e)) H
def Zg(K:ay):R2:=λx y H Q=>∃ d e,Rep K H d x/\Rep K H e y/\d.canLay0=true/\e.canLay0=true/\d.depth<=60/\Q (.bl (!PyData.eqv d e)) H
def Ii(hu:X.A.units+64<iE):d5 X (hZ .Eq) (Zf X.K):=by intro pins s σ H x y v u Q I rx ry h;obtain⟨d,e,h1,h2,h3,h4,h5,q⟩:=h;obtain⟨as,r1⟩:=h1.reads I rx;obtain⟨bs,r2⟩:=h2.reads I ry;exact PySem.SeqAt.rcAt_reads r1 r2 h3 h4 (by lia) X.prog X.w X.xe _ ⟨.bl _,H,I,rfl,q⟩
def JV(hu:X.A.units+64<iE):d5 X (hZ .NotEq) (Zg X.K):=by intro pins s σ H x y v u Q I rx ry h;obtain⟨d,e,h1,h2,h3,h4,h5,q⟩:=h;obtain⟨as,r1⟩:=h1.reads I rx;obtain⟨bs,r2⟩:=h2.reads I ry;exact PySem.SeqAt.rcNeAt_reads r1 r2 h3 h4 (by lia) X.prog X.w X.xe _ ⟨.bl _,H,I,rfl,q⟩
def UG(K:ay):R2:=λx y H Q=>match x,y with
 |.int i,.int j=>Q (.bl (decide (i=j))) H
 |.str i,.str j=>Q (.bl (decide (i=j))) H
 |.bl i,.bl j=>Q (.bl (decide (i=j))) H
 |_,_=>Zf K x y H Q
def Ik(hu:X.A.units+64<iE):d5 X (hZ .Eq) (UG X.K):=(gb'.or (Ii hu)).imp λx y H Q h=>by
 unfold UG at h;split at h
 ·refine .inl ⟨rfl,?_⟩;simpa using h
 ·refine .inl ⟨rfl,?_⟩;simpa using h
 ·refine .inl ⟨rfl,?_⟩;simpa using h
 ·exact .inr h
def UH(K:ay):R2:=λx y H Q=>match x,y with
 |.int i,.int j=>Q (.bl (!decide (i=j))) H
 |.str i,.str j=>Q (.bl (!decide (i=j))) H
 |.bl i,.bl j=>Q (.bl (!decide (i=j))) H
 |_,_=>Zg K x y H Q
def J4(hu:X.A.units+64<iE):d5 X (hZ .NotEq) (UH X.K):=(gc'.or (JV hu)).imp λx y H Q h=>by
 unfold UH at h;split at h
 ·refine .inl ⟨rfl,?_⟩;simpa using h
 ·refine .inl ⟨rfl,?_⟩;simpa using h
 ·refine .inl ⟨rfl,?_⟩;simpa using h
 ·exact .inr h
def UI(K:ay):List V->Hp->VK->Prop:=λxs H Q=>match xs with
 |[.ref a]=>∃ bs:List Bool,e7 K H a (bs.map V.bl)/\Q (.bl (bs.all id)) H
 |_=>False
def yx (hc:X.calm=true):mn X (.builtin "all") (UI X.K):=by
 intro pins s σ H xs us Q I r h;unfold UI at h;split at h
 ·rename_i a;obtain⟨bs,e,q⟩:=h;obtain⟨u,rfl,ru⟩:=Vals.one r;cases ru;obtain⟨its,rv,pl,hz⟩:=I.list e;have hl:s.heap.IsList a its.toArray:=pl.isList;obtain⟨o,ho,T5,n,LJ⟩:=id hl;have hlen:=rv.length;rw[dz] at hlen;refine call_all_walk (wpAny_pyIter_list hl ?_);have lI:a≠s.heap.objs.size:=kE (gI ho);have hhd:X.A.in1.handled=none:=I.ok.hd hc;refine⟨s.heap.objs.size,_,_,_,_,_,λi=>bs.getD i true,rfl,Walks.list hhd s.heap.objs.size a lI its.toArray,⟨⟨_,oi _ rfl,rfl,rfl⟩,⟨_,ki _ ho,T5,n,LJ⟩⟩,?_,λh' tk hk=>?_⟩
  ·intro i v s' Q' E' hv hq;have Ue:its[i]? = some v:=by simpa using hv
   have hi:i<bs.length:=by have:=(ng.mp Ue).1;lia
   obtain⟨w',e1,r1⟩:=rv.get (i:=i) (x:=V.bl bs[i]) (by simp[hi]);rw[Ue] at e1;cases e1;cases (r1);have e2:bs.getD i true=bs[i]:=by simp[List.getD,hi]
   have hq:Q' (bs.getD i true) s':=hq;rw[e2] at hq;exact B8 hq
  ·have e3:((List.range its.toArray.size).all λi=>bs.getD i true)=bs.all id:=by
    rw[kB,<- hlen];apply D7.mpr;simp only[Au,IX,id];constructor
    ·intro h b hb;obtain⟨i,hi,rfl⟩:=List.mem_iff_getElem.mp hb;have:=h i hi;simpa[List.getD,hi] using this
    ·intro h i hi;have:=h bs[i] (Tt hi);simpa[List.getD,hi] using this
   rw[e3];exact⟨.bl (bs.all id),H,I.kept λb o e=>hk b o (by simp;exact kE (gI e)) (ki _ e),rfl,q⟩
 ·exact h.elim
end
end L2
namespace L2
section
variable {X:Cx}{pins:List (ae × Obj)}{σ:St}{H:Hp}{s:aE}{h':dk}
def Inv.Mv{t':Nat}{fp:List ae}(I:Inv X pins σ H s)(hf:∀ b∈fp,y1 X pins H b)(k:∀ b o,b∉fp->s.heap.get? b=some o->h'.get? b=some o):Inv X pins σ H { s with heap:=h',toks:=t' }:=by
 have FR:∀ b u,H b=some u->b∉fp:=λb u e z=>by rw[(hf b z).1] at e;cases e
 refine I.step (λb hb=>?_) (λb o _ _ hc e _=>k b o hc e) (λb o _ _ hc e _=>⟨o.slots,k b o hc e⟩) (λ_ _ _ _ n=>n) (λb o hc e=>⟨o,k b o hc e⟩) (λ_ _ e=>e) (λ_ _ _ e=>e) (λb ps e=>⟨#[],by rw[e];simp⟩) (λm hm=>?_) (λb u e=>?_) I.bare
 ·obtain⟨f0,f1,f2,f3,f4,f5⟩:=hf b hb;exact⟨f3,f1,f4,f5⟩
 ·obtain⟨o,es,ep,ho,r⟩:=hm;exact⟨o,es,ep,k _ o (λz=>(hf _ z).2.1 rfl) ho,r⟩
 ·refine(I.bG b u e).fS (λc v hc q=>k c v ?_ q) (λ_ q=>q) λ_ _ q=>q;rcases hc with z|z
  ·rw[z];exact FR b u e
  ·exact FR c _ z
def Inv.jd'{t':Nat}{fp:List ae}{p:ae}{xs:List V}(I:Inv X pins σ H s)(hf:∀ b∈fp,y1 X pins H b)(k:∀ b o,b∉fp->s.heap.get? b=some o->h'.get? b=some o)(hp:s.heap.objs.size<=p)(new:lS X.prog X.w (upd H p (.tup xs)) h' p (.tup xs)):Inv X pins σ (upd H p (.tup xs)) { s with heap:=h',toks:=t' }:=by
 have hn:=I.bG.fresh hp;have FR:∀ b u,H b=some u->b∉fp:=λb u e z=>by rw[(hf b z).1] at e;cases e
 have lt:∀ b o,s.heap.get? b=some o->b≠p:=λb o e=>kE (qo (gI e) hp);refine I.step (λb hb=>?_) (λb o _ _ hc e _=>k b o hc e) (λb o _ _ hc e _=>⟨o.slots,k b o hc e⟩) (λb o _ e n=>by rw[df (lt b o e)];exact n) (λb o hc e=>⟨o,k b o hc e⟩) (λ_ _ e=>by rw[df (sP e hn)];exact e) (λ_ _ _ e=>by rw[df (sP e hn)];exact e) (λb ps e=>⟨#[],by rw[df (sP e hn),e];simp⟩) (λm hm=>?_) (λb u e=>?_) I.bare
 ·obtain⟨f0,f1,f2,f3,f4,f5⟩:=hf b hb;exact⟨f3,f1,f4,f5⟩
 ·obtain⟨o,es,ep,ho,r⟩:=hm;exact⟨o,es,ep,k _ o (λz=>(hf _ z).2.1 rfl) ho,r⟩
 ·by_cases hb:b=p
  ·subst hb;rw[eJ] at e;cases e;exact new
  ·rw[df hb] at e;refine(I.bG b u e).fS (λc v hc q=>k c v ?_ q) (λc q=>by rw[df (sP q hn)];exact q) λc xs q=>by rw[df (sP q hn)];exact q
   rcases hc with z|z
   ·rw[z];exact FR b u e
   ·exact FR c _ z
end
def Zh(K:ay)(a:ae):It :=
 ⟨λi H=>∃ xs x,e7 K H a xs/\xs[i]? = some x,λi H x H'=>∃ p v,x=.ref p/\H p=none/\H'=upd H p (.tup [.int i,v])/\∀ xs,e7 K H a xs->xs[i]? = some v,λi H=>∃ xs,e7 K H a xs/\xs.length<=i⟩
def Dc:(2:Nat)<=bE:=by rw[nS];decide
def yt{P:cq}{w:cS}{K:ay}{elts:List Expr}{k:Nat}{pos:Pos}(a e it:ae)(Zi:e≠it):Turn P w K (.Tuple elts k pos) (Zh K a) [e,it] e (λi h=>(∃ old,IsEnum h e it i old)/\h.IsListIter it a i) where
 mem:=by simp
 obj:=λi h ⟨⟨old,he⟩,st⟩ b hb=>by
  rcases eW.mp hb with rfl|hb
  ·exact⟨_,he,λv z=>nomatch z⟩
  ·have e:b=it:=by simpa using hb
   subst e;obtain⟨o,e,c,d⟩:=st;exact⟨o,e,λv z=>by rw[d] at z;cases z⟩
 keep:=λi h h' ⟨⟨old,he⟩,st⟩ k=>⟨⟨old,k e (by simp) _ he⟩,st.at λo e=>k it (by simp) o e⟩
 item:=by
  intro X hP hw hK hc i pins s σ H E I hf st hg;subst hP hw hK;obtain⟨xs,x,hq,hx⟩:=hg;obtain⟨its,rv,p,hz⟩:=I.list hq;obtain⟨u,hu,ru⟩:=rv.get hx;obtain⟨⟨old,he⟩,hit⟩:=st;refine wpAny_pyNext_enum_item he hit p.isList (x:=u) (by simpa using hu) Zi λh1 ho je' hT jS hk=>⟨_,rfl,?_⟩
  refine wpAny_letOwnedTupleGo_enum (s:={ s with heap:=h1,toks:=s.toks+1 }) ho λh2 LM ny=>?_;have ke:∀ b o,b∉[e,it]->s.heap.get? b=some o->h2.get? b=some o:=λb o hb q=>(ny.2 b λz=>hb (by simp[z])).trans (hk b o (λz=>hb (by simp[z])) (λz=>hb (by simp[z])) q);have i5:e<s.heap.objs.size:=gI he;have hT2:h2.get? s.heap.objs.size=some { cls:=.type "tuple",data:=.seq #[.int i s.toks,u] }:=(ny.2 _ (TB i5)).trans hT;have I1:Inv X pins σ (upd H s.heap.objs.size (.tup [.int i,x])) { s with heap:=h2,toks:=s.toks+1 } :=
   I.jd' hf ke (c9 _) ⟨Dc,[.int i s.toks,u],.cons ⟨s.toks,rfl⟩ (.cons ru .nil),_,hT2,rfl,_,rfl⟩
  refine⟨.ref s.heap.objs.size,_,I1,rfl,⟨_,x,rfl,I.fresh,rfl,λys hy=>by rw[I.Wg hy hq];exact hx⟩,⟨⟨u,by simpa using LM⟩,je'.at λo q=>(ny.2 it Zi.symm).trans q⟩,λb hb=>?_⟩;rw[df]
  ·exact(hf b hb).1
  ·rcases eW.mp hb with rfl|hb
   ·exact kE i5
   ·have e:b=it:=by simpa using hb
    subst e;obtain⟨o,q,_⟩:=hit;exact kE (gI q)
 done:=by intro X hP hw hK hc i pins s σ H E I hf st hg;subst hP hw hK;obtain⟨xs,hq,hx⟩:=hg;obtain⟨its,rv,p,hz⟩:=I.list hq;obtain⟨⟨old,he⟩,hit⟩:=st;have hl:=rv.length;exact wpAny_pyNext_enum_end (I.ok.hd hc) he hit p.isList (by simp;lia) λh' eb=>⟨rfl,I.Mv (t':=s.toks) hf λb o hb q=>eb b o (λz=>hb (by simp[z])) q⟩
 self:=λ_ _ _ _ _ ⟨⟨old,he⟩,_⟩ h=>wpAny_pyIter_enum he h
def HQ(h:b∈[n+1,n]):n<=b:=by simp at h;lia
section
variable {X:Cx}
def Mi(K:ay)(ta:TA):TI:=λσ H R=>ta σ H λvs H1=>∃ a,vs=[.ref a]/\(∃ xs,e7 K H1 a xs)/\R (Zh K a) H1
def G8 (hg:Gl X "enumerate") (hm:X.mg "enumerate" = none) (ha:PA X [a] ta) (hs:autoParam (aT [a] X.env=[(false,b3 a X.env)]) bv) :
  PI X (.Tuple elts k tp) (.Call (.Name "enumerate" p) [a] [] pos) (Mi X.K ta):=by
 intro pins s σ H R I h;refine Call_ (FU I hg hm boot_enumerate (PyProof.Rows.callWith_type1 (cv (ha pos pins s σ H _ I h) λus s1 ck=>L2.eM ck λvs H1 I1 r1 q1=>?_) hs rfl));obtain⟨l,e,⟨xs,hq⟩,q⟩:=q1;subst e
 cases r1 with
 |cons r rr =>cases rr;cases r;obtain⟨its,rv,pl,hz⟩:=I1.list hq;refine call_enumerate_list pl.isList λh2 he hit jS hk=>?_;refine wpAny_pyIter_enum he ?_;refine⟨s1.heap.objs.size+1,[s1.heap.objs.size+1,s1.heap.objs.size],_,_,H1,rfl,I1.kept hk,yt l _ _ (Nat.succ_ne_self _),⟨⟨_,he⟩,hit⟩,λb hb=>?_,q⟩;have e:s1.heap.objs.size<=b:=HQ hb;exact I1.FX e (I1.bG.fresh e)
end
def UJ(sc:Scope)(names:List (Str × A5)):List (Str × A5):=names.map λy=>if (y.2 == NameKind.free && sc.kind == .function && sc.names.lookup y.1 == some .cell)=true then (y.1,NameKind.cell) else (y.1,y.2)
def R7(o:Option A5):Bool:=o == some .cell || o == some .free
def Fw(sc scope:Scope)(N cn:List Str)(ix:List Nat):Bool :=
 scope.kind == .function && scope.names.all (λy=>y.2 != .cell) && scope.names.all (λy=>y.2 != .free || R7 (sc.names.lookup y.1)) && scope.names.all (λy=>y.2 != .local || scope.names.lookup y.1 == some .local) &&
 ix.length == cn.length && (List.range ix.length).all (λk=>match ix[k]?,cn[k]? with
  |some j,some y=>N[j]? == some y && R7 (sc.names.lookup y) && scope.names.contains (y,NameKind.free) && R7 ((UJ sc scope.names).lookup y)
  |_,_=>false) &&
 (UJ sc scope.names).all (λy=>!(y.2 == .cell || y.2 == .free) || scope.names.contains (y.1,NameKind.free))
def rR(h:R7 o=true):o=some .cell\/o=some .free:=by unfold R7 at h;simpa using h
def cN.of{X:Cx}(si:X.env.scope=sc)(hN:X.N=N)(h:Fw sc scope N cn ix=true):cN X scope tn cn ix:=by
 unfold Fw at h;simp only[nv] at h;obtain⟨⟨⟨⟨⟨⟨h1,h2⟩,h3⟩,h4⟩,h5⟩,h6⟩,h7⟩:=h;rw[Au] at h2 h3 h4 h6 h7;have erl:(relabel scope X.env).names=UJ sc scope.names:=by rw[<- si];rfl
 refine⟨by simpa using h1,λy hy=>by simpa using h2 y hy,λy hy hk=>?_,λy hy hk=>?_,by simpa using h5,λk j hk=>?_,λx hx=>?_⟩
 ·have:=h3 y hy;rw[hk] at this;rw[si];exact rR (by simpa using this)
 ·have:=h4 y hy;rw[hk] at this;simpa using this
 ·have x5:k<ix.length:=(ng.mp hk).1;have:=h6 k (IX.mpr x5);rw[hk] at this
  cases e:cn[k]? with
  |none=>rw[e] at this;cases this
  |some y =>rw[e] at this;simp only[nv] at this;obtain⟨⟨⟨a1,a2⟩,a3⟩,a4⟩:=this;refine⟨y,rfl,by rw[hN];simpa using a1,by rw[si];exact rR a2,by simpa using a3,by rw[erl];exact rR a4⟩
 ·rw[erl] at hx;have mem:∃ k,(x,k)∈UJ sc scope.names/\(k=.cell\/k=.free):=by
   rcases hx with hx|hx
   ·exact⟨_,PySem.mem_of_lookup hx,.inl rfl⟩
   ·exact⟨_,PySem.mem_of_lookup hx,.inr rfl⟩
  obtain⟨k,hm,hk⟩:=mem;have:=h7 _ hm;rcases hk with rfl|rfl<;>simpa using this
def cN.by{X:Cx}(c:X.env.scope=sc/\X.N=N)(h:Fw sc scope N cn ix=true):cN X scope tn cn ix:=.of c.1 c.2 h
structure UK(P:cq)(w:cS)(K:ay)(mg:Str->Option ah)(base:dk)(k:Nat)(x:Str)(ps:List Str)(sp:Sp):Prop where
 ex:∃ (g:ae) (fd:og),mg x=some (.ref g)/\ui K (.ref g)=true/\Binds K fd ps []/\kR P w K mg base kP k g fd ps sp
section
variable {X:Cx}{k:Nat}{x:Str}{ps:List Str}{sp:Sp}{p pos:Pos}{e:Expr}{es:List Expr}{t:TA}
def J8 (C:UK X.prog X.w X.K X.mg X.base k x ps sp) (hr:gi k X.A) (ha:PA X (e :: es) t) (hg:autoParam (Gl X x) bv) (ip:(x == ("__debug__" : Str))=false:=by decide) (he:autoParam (aT (e :: es) X.env=(false,b3 e X.env) :: aT es X.env) bv) (hU:autoParam ((gV pos (aT es X.env)).any (·.1)=false) bv):PE X (.Call (.Name x p) (e :: es) [] pos) (KS sp [] E0 t):=by
 obtain⟨g,fd,hm,hk,hb,F⟩:=C.ex;exact WC F hr hg hm hk hb .nil UA ha ip he hU
end
def oj.cal{P:cq}{K:ay}{st:h8}{ps:List Str}(F:oj K x qual st f fd)(hm:mg x=some (.ref f))(G:kR P w K mg base kP k f fd ps sp)(h:∀ (kV doc pm:ah) (an:Option ae) (dc ct:ah) (us:List ah),us.length=ps.length->bindArgs (qh x qual (tf st) (lT st) (dS st) .none kV doc pm an dc ct) ⟨us,[]⟩=pure (ps.zip us)):UK P w K mg base k x ps sp :=
 ⟨f,fd,hm,F.kp,F.binds h,G⟩
def UL(mg:Str->Option ah)(x:Str)(z:Str):Prop:=∃ t,mg x=some (.str z t)
def OX(mg:Str->Option ah)(x:Str)(i:Int):Prop:=∃ t,mg x=some (.int i t)
def Ms {X:Cx} (h:UL X.mg x z) (hg:autoParam (Gl X x) bv) (hd:(x == ("__debug__" : Str))=false:=by decide):PE X (.Name x pos) (tC (.str z)):=by obtain⟨t,e⟩:=h;exact NX hg e ⟨t,rfl⟩ hd
def Lh {X:Cx} (h:OX X.mg x i) (hg:autoParam (Gl X x) bv) (hd:(x == ("__debug__" : Str))=false:=by decide):PE X (.Name x pos) (tC (.int i)):=by obtain⟨t,e⟩:=h;exact NX hg e ⟨t,rfl⟩ hd
def qu:nL "str" = some (.type "str"):=by decide +kernel
def yC:nL "int" = some (.type "int"):=by decide +kernel
def Fp:nL "bool" = some (.type "bool"):=by decide +kernel
def qP:nL "list" = some (.type "list"):=by decide +kernel
def fH:nL "tuple" = some (.type "tuple"):=by decide +kernel
def dD:nL "isinstance" = some (.builtin "isinstance"):=by decide +kernel
def zG:nL "all" = some (.builtin "all"):=by decide +kernel
def aQ:nL "len" = some (.builtin "len"):=by decide +kernel
def jC {X:Cx} {T:String} (hm:X.mg x=none) (hv:nL x=some (.type T)) (hg:autoParam (Gl X x) bv) (hn:x ≠ "__name__" := by decide) (hd:(x == ("__debug__" : Str))=false:=by decide):PE X (.Name x pos) (tC (.ty T)) :=
 fd' hg hm hv rfl hn hd
def Dx(i j:Str):Bool:=!(Builtin.Str.occurrences j i 0 j.length 1).isEmpty
def Fe(c:Nat)(j:Str):Dx ⟨#[c]⟩ j=decide (c∈j.cps.toList):=PySem.StrLaws.found_one j c
def UM(K:ay)(neg:Bool):R2:=λx y H Q=>match x,y with
 |.str i,.str j=>Q (.bl (if neg then !Dx i j else Dx i j)) H
 |_,.ref p=>(∃ o,sT H p x o/\Q (.bl (if neg then !o.isSome else o.isSome)) H)\/Uq K neg x y H Q
 |_,_=>False
def Io{X:Cx}(hu:X.A.units+64<iE):d5 X (hZ .In) (UM X.K false):=by
 intro pins s σ H x y v u Q I rx ry h;unfold UM at h;split at h
 ·exact gh' pins s σ H _ _ v u Q I rx ry ⟨_,_,rfl,rfl,h⟩
 ·rcases h with⟨o,g,q⟩|h
  ·cases ry;exact id' (by lia) I g rx λs3 I3=>⟨.bl o.isSome,H,I3,rfl,q⟩
  ·exact hK' pins s σ H _ _ v u Q I rx ry h
 ·exact h.elim
def aS.upd(h:aS H H')(hp:H' p=none):aS H (upd H' p o):=λb u e=>by have e':=h b u e;rw[df (sP e' hp)];exact e'
def aS.lst{K:ay}(e:aS H H')(h:e7 K H a xs):e7 K H' a xs:=e.seq h
def aS.tup{K:ay}(e:aS H H')(h:kU K H a xs):kU K H' a xs:=by
 rcases h with(h|⟨o,h⟩)|h
 ·exact .inl (.inl (e _ _ h))
 ·exact .inl (.inr ⟨o,e _ _ h⟩)
 ·exact .inr h
section
variable {X:Cx}{K:ay}
def kIx(hK:autoParam (X.K=K) bv):y2 X (UD K):=by subst hK;exact Cw
def gu(hK:autoParam (X.K=K) bv)(hu:X.A.units+64<iE:=by assumption):d5 X (hZ .Eq) (UG K):=by subst hK;exact Ik hu
def R8(hK:autoParam (X.K=K) bv)(hu:X.A.units+64<iE:=by assumption):d5 X (hZ .NotEq) (UH K):=by subst hK;exact J4 hu
def iA(hK:autoParam (X.K=K) bv)(hu:X.A.units+64<iE:=by assumption):d5 X (hZ .In) (UM K false):=by subst hK;exact Io hu
def Zj (hc:autoParam (X.calm=true) bv) (hK:autoParam (X.K=K) bv):mn X (.builtin "all") (UI K):=by subst hK;exact yx hc
end
def Qu{α:Type}{a:α}{p:α->Prop}:(∃ v,a=v/\p v)↔p a:=⟨λ⟨_,e,h⟩=>e ▸ h,λh=>⟨a,rfl,h⟩⟩
abbrev Zk:=Array DictEntry
def x6(h:dk)(d:ae)(es:Zk)(ep:Nat):Prop:=∃ o,h.get? d=some o/\o.ExactDict/\o.data=.dict es ep
def x6.typ {s:aE} {d:ae} {es:Zk} {ep:Nat} (x:x6 s.heap d es ep):s.TypeIs (.ref d) "dict" := let ⟨o,e,c,_⟩:=x;⟨o,e,c.1⟩
section
variable {prog:cq}{w:cS}{A:ft}{E:ah->aE->Prop}{s:aE}{d it:ae}{es:Zk}{ep i:Nat}
def z_{Q:ah->aE->Prop}(lo:(d == xv)=false)(x:x6 s.heap d es ep)(q:Q (.ref s.heap.objs.size) { s with heap:=s.heap.push { cls:=.type "dict_keyiterator",data:=.fields #[.ref d,.int 0 0,.int es.size 0,.int ep 0] } }):b6 (bq prog w) A (pyIter (.ref d)) Q E s:=by
 obtain⟨o,ho,hc,UN⟩:=id x;refine wpAny_pyIter_slot x.typ F.slot_dict_iter (Q7 F.slot_dict_iter x.typ F.entry_dict_iter ?_ (F.args_dict_iter_1 _));refine bT ?_;refine bT (wpAny_notOrdered_dict x.typ ?_);refine(dv ?_);refine(show b6 _ _ (Builtin.Dict.showsAll d >>= _) _ _ s from ?_);unfold Builtin.Dict.showsAll;rw[if_neg (by rw[lo];decide)];refine bT (dv (bT (wpAny_dictEntries ho UN (bT (wpAny_dictEpoch ho UN (bT (DV (dv ⟨_,rfl, "dict_keyiterator",_,⟨_,oi _ rfl,rfl⟩,F.slot_dict_keyiterator_next.lookup,?_⟩))))))));simpa[rawInt] using q
def Bk(hit:s.heap.IsKeyIter it d i es.size ep)(x:x6 s.heap d es ep)(hx:i<es.size)(q:∀ h',h'.IsKeyIter it d (i+1) es.size ep->Heap.SameBut it s.heap h'->Q (some es[i].key) { s with heap:=h' }):b6 (bq prog w) A (pyNext (.ref it)) Q E s:=by
 obtain⟨o,ho,hc,hd⟩:=id hit;obtain⟨od,LJ,qA,R9⟩:=id x;have ty:=hit.typeIs;refine bT (wpAny_attempt (Te ty F.slot_dict_keyiterator_next (Q7 F.slot_dict_keyiterator_next ty F.entry_dict_keyiterator_next ?_ (F.args_dict_keyiterator_next_1 _))));refine bT (dv (bT (bT ?_)));first|refine bT (Tc ty (dv ?_))|refine bT (Td ty (dv ?_))
 refine bT (wpAny_fieldsOf ho hd ?_);refine(show b6 _ _ (if (Value.ref d == Value.none)=true then _ else _) _ _ s from ?_);refine bT (dv (bT (wpAny_dictEntries LJ R9 ?_)));rw[if_neg (by intro h;simp at h)];refine bT (dv (bT (wpAny_dictEpoch LJ R9 ?_)));rw[if_neg (by intro h;simp at h)];refine dv ?_;simp only[show ¬ (i<0) by lia,if_false,CB,Array.getElem?_eq_getElem hx];refine bT ?_;first|refine bT (Tc ty (dv ?_))|refine bT (Td ty (dv ?_))
 refine bT (wpAny_isOneOf_keyiter ty ?_);refine(show b6 _ _ (setField (.ref it) 1 (rawInt (i+1)) >>= _) _ _ s from bT (wpAny_setField ho hd (by simp) ?_));have cg':(s.heap.update it (Obj.mapFields (·.setIfInBounds 1 (rawInt (i+1))))).IsKeyIter it d (i+1) es.size ep :=
  ⟨_,Heap.get?_update_self _ ho (Obj.isFreed_of_fields (Obj.data_mapFields hd _)),(Obj.cls_mapFields ..).trans hc,by rw[Obj.data_mapFields hd];simp[rawInt]⟩
 refine bT (wpAny_holding (bT (wpAny_isOneOf_keyiter cg'.typeIs ?_)));refine(dv (dv ⟨_,rfl,dv (q _ cg' (Heap.SameBut.update ..))⟩))
def Ai(hh:A.handled=none)(hit:s.heap.IsKeyIter it d es.size es.size ep)(x:x6 s.heap d es ep)(q:∀ h',Heap.ExtBut it s.heap h'->Q none { s with heap:=h' }) :
  b6 (bq prog w) A (pyNext (.ref it)) Q E s:=by
 obtain⟨o,ho,hc,hd⟩:=id hit;obtain⟨od,LJ,qA,R9⟩:=id x;have ty:=hit.typeIs;refine bT (wpAny_attempt (Te ty F.slot_dict_keyiterator_next (Q7 F.slot_dict_keyiterator_next ty F.entry_dict_keyiterator_next ?_ (F.args_dict_keyiterator_next_1 _))));refine bT (dv (bT (bT ?_)));first|refine bT (Tc ty (dv ?_))|refine bT (Td ty (dv ?_))
 refine bT (wpAny_fieldsOf ho hd ?_);refine(show b6 _ _ (if (Value.ref d == Value.none)=true then _ else _) _ _ s from ?_);refine bT (dv (bT (wpAny_dictEntries LJ R9 ?_)));rw[if_neg (by intro h;simp at h)];refine bT (dv (bT (wpAny_dictEpoch LJ R9 ?_)));rw[if_neg (by intro h;simp at h)];refine dv ?_;simp only[show ¬ (es.size<0) by lia,if_false,CB,TQ (c9 es.size)];refine bT ?_;first|refine bT (Tc ty (dv ?_))|refine bT (Td ty (dv ?_))
 refine(show b6 _ _ (setField (.ref it) 0 .none >>= _) _ _ s from bT (wpAny_setField ho hd (by simp) ?_));refine(bT ?_);refine bT (DV ?_ (by size_fits));refine bT (wpAny_of_eq (by first|rfl|(simp only[firstArgMember];rfl)) (DV ?_ (by size_fits)));refine bT (wpAny_handled ?_);rw[show A.in1.handled=none from hh];refine bT (dv (wpAny_throw ?_));refine bT (wpAny_isInstance ⟨_,oi _ rfl,rfl⟩ isSubtype_stop ?_);exact dv (q _ (((Heap.SameBut.update ..).extBut.push _).push _))
def x6.at(x:x6 h d es ep)(e:∀ o,h.get? d=some o->h'.get? d=some o):x6 h' d es ep:=let ⟨o,ho,r⟩:=x;⟨o,e o ho,r⟩
def x6.lt(x:x6 h d es ep):d<h.objs.size:=let ⟨_,e,_⟩:=x;gI e
def yJ(hh:A.handled=none)(I:ae)(lI:d≠I):Walks prog w A I [I,d] [I] es.size (λi v=>∃ e,es[i]? = some e/\v=e.key) (λi h=>h.IsKeyIter I d i es.size ep/\x6 h d es ep) where
 sub:=λb hb=>by simp at hb;simp[hb]
 frame:=λ_ _ _ st hk=>⟨st.1.at λo e=>hk I (by simp) o e,st.2.at λo e=>hk d (by simp) o e⟩
 item:=λi s Q E hi st hQ=>Bk st.1 st.2 hi λh' a b=>hQ _ h' s.toks ⟨es[i],by simp[hi],rfl⟩ ⟨a,st.2.at λo e=>b.extBut d o lI e⟩ λc o hb e=>b.extBut c o (λh=>hb (by simp[h])) e
 done:=λs Q E st hQ=>Ai hh st.1 st.2 λh' he'=>hQ h' s.toks λb o hb e=>he' b o (λh=>hb (by simp[h])) e
 self:=λ_ _ _ _ st hQ=>wpAny_pyIter_keyiter st.1 hQ
def GQ (lo:(d == xv)=false):PySem.W.KdlSrc prog w "dict" d d es.size (λi v=>∃ e,es[i]? = some e/\v=e.key) (λh=>x6 h d es ep) where
 type:=λ_ x=>x.typ
 there:=λ_ x=>⟨x.lt,x.lt⟩
 keep:=λ_ _ x hk=>x.at λo e=>hk d (.inl rfl) o e
 notList:=by decide
 notTuple:=by decide
 hint:=λ_ _ _ _ x hq=>PySem.W.kdl_hint_dict x.typ hq
 iter:=λ_ _ hh x=>⟨_,_,(λ_ _ hq=>z_ lo x hq),yJ hh _ (kE x.lt),⟨⟨_,oi _ rfl,rfl,rfl⟩,x.at λo e=>ki _ e⟩⟩
end
def Paired.n0{α β:Type}{R:α->β->Prop}{bs:List β}(h:Paired R [] bs):bs=[]:=by cases h;rfl
def Paired.c{α β:Type}{R:α->β->Prop}{a:α}{as:List α}{bs:List β}(h:Paired R (a :: as) bs):∃ b cs,bs=b :: cs/\R a b/\Paired R as cs:=by
 cases h with
 |cons r t=>exact⟨_,_,rfl,r,t⟩
def zr(H:Hp)(ys:List V)(ks:List (List Key)):Prop:=Paired (λ(v:V) (k:List Key)=>∃ b,v=.ref b/\H b=some (.tup (k.map kV))) ys ks
section
variable {X:Cx}
def sZ:List V->Hp->VK->Prop:=λxs H Q=>match xs with
 |[.ref p]=>∃ ag,Rd H p (.dT ag)/\∀ ys l,zr H ys (ag.map (·.1))->H l=none->Q (.ref l) (upd H l (.lst ys))
 |_=>False
def G7 (h:Paired (λ(p:List Key × V) (q:List Key × ae × ah)=>p.1=q.1/\H q.2.1=some (.tup (p.1.map kV))/\RelV p.2 q.2.2) ag xs) :
  zr H (xs.map λq=>.ref q.2.1) (ag.map (·.1))/\Vals (xs.map λq=>.ref q.2.1) ((xs.map (entryOfKey (tupleKind (kG prog w)))).map (·.key)):=by
 induction h with
 |nil=>exact⟨.nil,.nil⟩
 |cons r t ih=>exact⟨.cons ⟨_,rfl,r.2.1⟩ ih.1,.cons rfl ih.2⟩
def vD (hc:X.calm=true):mn X (.type "list") sZ:=by
 intro pins s σ H xs us Q I r h;unfold sZ at h;split at h
 ·rename_i p;obtain⟨ag,e,q⟩:=h;obtain⟨u,rfl,ru⟩:=Vals.one r;cases ru;obtain⟨z,y,ps,rel,o,es,ep,h1,h2,h3,h4,h5⟩:=(I.rd e)
  obtain⟨ta,va⟩:=G7 rel;have hlen:es.size=ag.length:=by have:=congrArg List.length h4;rw[Bi,dz] at this;rw[this];exact rel.length.symm
  refine PySem.W.kdl_call (GQ y) (I.ok.hd hc) ⟨o,h1,h2,h3⟩ (by lia) λh' tk acc c kp eo OY=>?_;have hv:acc.toList=(ps.map (entryOfKey (tupleKind (kG X.prog X.w)))).map (·.key):=by
   apply VW;intro i;by_cases hi:i<es.size
   ·have sj:i<acc.size:=by rw[OY.1];exact hi
    obtain⟨en,e1,e2⟩:=OY.2 i acc[i] (by simp[sj]);rw[<- h4,mz,CC,CC,e1];simp[sj,e2]
   ·rw[<- h4,mz,CC,CC,TQ (by rw[OY.1];lia),TQ (by lia)];rfl
  refine⟨.ref s.heap.objs.size,_,I.laid kp (c9 _) (show lS X.prog X.w _ h' _ (.lst (ps.map λq=>.ref q.2.1)) from⟨?_,acc.toList,c,?_,?_⟩),rfl,q _ _ ta (I.bG.fresh (c9 _))⟩
  ·rw[dz,<- rel.length];exact z
  ·rw[hv];exact va
  ·rw[Array.toArray_toList];exact eo
 ·exact h.elim
end
end L2
end
namespace GO
open PySem PyProof.Rows
def R(r:ah->Int)(xs:Array bX)(i:Nat):Int:=match xs[i]? with
 |some p=>r p.1
 |none=>0
def cH(h:xs[i]? = ys[j]?):R r xs i=R r ys j:=by unfold R;rw[h]
def sq(prog:cq)(w:cS)(A:ft)(s:aE)(κ:vT)(r:ah->Int)(P:ah->Prop):Prop :=
 ∀ x y,P x->P y->∀ (Q:Bool->aE->Prop) (E:ah->aE->Prop),Q (decide (r x<r y)) s->b6 (bq prog w) A (keyLt' κ x y) Q E s
def AllP(P:ah->Prop)(xs:Array bX):Prop:=∀ p∈xs.toList,P p.1
def AllP.perm{P:ah->Prop}(h:AllP P xs)(hp:ys.Perm xs):AllP P ys:=λp hm=>h p ((V4.mp hp).mem_iff.mp hm)
def AllP.at{P:ah->Prop}{xs:Array bX}(h:AllP P xs){i:Nat}{p:bX}(e:xs[i]? = some p):P p.1:=h p (by
 obtain⟨hi,rfl⟩:=V5.mp e;simp)
structure oo(lo hi:Nat)(st av:dP):Prop where
 kind:fw av=fw st
 failed:sM av=sM st
 pend:nr av=nr st
 perm:(bI av).Perm (bI st)
 out:∀ k,k<lo\/hi<=k->(bI av)[k]? = (bI st)[k]?
def oo.refl(lo hi:Nat)(st:dP):oo lo hi st st:=⟨rfl,rfl,rfl,Array.Perm.refl _,λ_ _=>rfl⟩
def oo.trans{lo hi:Nat}{a b c:dP}(h:oo lo hi a b)(g:oo lo hi b c):oo lo hi a c :=
 ⟨g.kind.trans h.kind,g.failed.trans h.failed,g.pend.trans h.pend,g.perm.trans h.perm,λk hk=>(g.out k hk).trans (h.out k hk)⟩
def oo.mono{lo hi LN om:Nat}{a b:dP}(h:oo lo hi a b)(h1:LN<=lo)(h2:hi<=om):oo LN om a b :=
 ⟨h.kind,h.failed,h.pend,h.perm,λk hk=>h.out k (by lia)⟩
def oo.size{lo hi:Nat}{a b:dP}(h:oo lo hi a b):(bI b).size=(bI a).size:=h.perm.size_eq
def Up(r:ah->Int)(xs:Array bX)(lo hi:Nat):Prop:=∀ i j,lo<=i->i<=j->j<hi->R r xs i<=R r xs j
def Down(r:ah->Int)(xs:Array bX)(lo hi:Nat):Prop:=∀ i j,lo<=i->i<=j->j<hi->R r xs j<=R r xs i
def uC(hs:src<xs.size)(hd:d<=src)(k:Nat) :
  R r (bubble xs src d) k=if k=src-d then R r xs src else if src-d<k/\k<=src then R r xs (k-1) else R r xs k:=by
 have e:=getElem?_bubble hs d hd k;by_cases h1:k=src-d
 ·rw[if_pos h1] at e ⊢;exact cH e
 ·rw[if_neg h1] at e ⊢;by_cases h2:src-d<k/\k<=src
  ·rw[if_pos h2] at e ⊢;exact cH e
  ·rw[if_neg h2] at e ⊢;exact cH e
def pB(hj:j<=xs.size)(k:Nat) :
  R r (mirror xs i j ((j-i) / 2)) k=if i<=k/\k<j then R r xs (i+j-1-k) else R r xs k:=by
 have e:=getElem?_mirror_all (i:=i) hj k;by_cases h1:i<=k/\k<j
 ·rw[if_pos h1] at e ⊢;exact cH e
 ·rw[if_neg h1] at e ⊢;exact cH e
def bC(hj:j<=xs.size)(heq:∀ k,i<=k->k<j->R r xs k=R r xs (j-1))(k:Nat) :
  R r (mirror xs i j ((j-i) / 2)) k=R r xs k:=by
 rw[pB hj];split
 ·rw[heq _ (by lia) (by lia),heq k (by lia) (by lia)]
 ·rfl
section
variable {prog:cq}{w:cS}{A:ft}{E:ah->aE->Prop}{s:aE}{κ:vT}{r:ah->Int}{P:ah->Prop}
def pX{st:dP}{x y:bX}{Q:Option Bool->dP->Prop}(C:sq prog w A s κ r P)(hk:fw st=κ)(hx:P x.1)(hy:P y.1)(h:Q (some (decide (r x.1<r y.1))) st) :
  wpS (bq prog w) A E s (lt' x y) Q st:=by
 rw[lt'_eq];refine cx (wpS_get ?_);rw[hk];exact cx (wpS_lift (wpAny_attempt (C x.1 y.1 hx hy _ _ ⟨rfl,dr h⟩)))
def aL{xs:Array bX}{i:Nat}{Q:bX->dP->Prop}{st:dP}(hi:i<xs.size)(h:∀ p,xs[i]? = some p->Q p st):wpS (bq prog w) A E s (elem' xs i) Q st:=by rw[elem'_eq,getElem?_pos xs i hi];exact dr (h _ (getElem?_pos xs i hi))
def jM{st:dP}{i j:Nat}{Q:Option Bool->dP->Prop}(C:sq prog w A s κ r P)(hk:fw st=κ)(hP:AllP P (bI st))(hi:i<(bI st).size)(hj:j<(bI st).size)(h:Q (some (decide (R r (bI st) i<R r (bI st) j))) st):wpS (bq prog w) A E s (ltAt' i j) Q st:=by
 refine cx (wpS_get ?_);refine cx (aL hi λp ep=>cx (aL hj λq eq=>pX C hk (hP.at ep) (hP.at eq) ?_));have e1:R r (bI st) i=r p.1:=by unfold R;rw[ep]
 have e2:R r (bI st) j=r q.1:=by unfold R;rw[eq]
 rw[<- e1,<- e2];exact h
def cQ{st:dP}{i j:Nat}{Q:Unit->dP->Prop}(h:Q () (setArr st (mirror (bI st) i j ((j-i) / 2)))) :
  wpS (bq prog w) A E s (reverseSlice' i j) Q st:=by
 rw[reverseSlice'_eq];exact D6 h
def fu{st:dP}{i j:Nat}(hj:j<=(bI st).size):oo i j st (setArr st (mirror (bI st) i j ((j-i) / 2))) :=
 ⟨rfl,rfl,rfl,mirror_perm _ _ _ _,λk hk=>by
  have e:=getElem?_mirror_all (i:=i) hj k;rw[if_neg (by lia)] at e;exact e⟩
def vh{st:dP}{lo src d:Nat}(hs:src<(bI st).size)(hd:lo+d<=src):oo lo (src+1) st (setArr st (bubble (bI st) src d)) :=
 ⟨rfl,rfl,rfl,bubble_perm _ _ _,λk hk=>by
  have e:=getElem?_bubble hs d (by lia) k;rw[if_neg (by lia),if_neg (by lia)] at e;exact e⟩
def wpS_binarySort{st:dP}{lo n ok:Nat}{Q:Bool->dP->Prop}(C:sq prog w A s κ r P)(hk:fw st=κ)(hP:AllP P (bI st))(hn:lo+n<=(bI st).size)(bG:ok<=n)(hs:Up r (bI st) lo (lo+ok))(h:∀ av,oo lo (lo+n) st av->Up r (bI av) lo (lo+n)->Q true av):wpS (bq prog w) A E s (binarySort' lo n ok) Q st:=by
 refine cx (v3 (sL (I:=λk c av=>c=(none,())/\oo lo (lo+n) st av/\Up r (bI av) lo (lo+min k n)) (Q:=λc av=>c=(none,())/\oo lo (lo+n) st av/\Up r (bI av) lo (lo+n)) ?step ?fin ?init) ?post)
 case post =>
  rintro c av ⟨rfl,kX,iN⟩;exact dr (h av kX iN)
 case init =>
  refine⟨rfl,.refl _ _ _,λi j hl nE hj=>?_⟩;by_cases h1:ok=0
  ·have:i=j:=by lia
   subst this;exact AG _
  ·exact hs i j hl nE (by lia)
 case fin =>
  rintro c av ⟨hc,kX,iN⟩;refine⟨hc,kX,?_⟩;rwa[show min (max (max ok 1) n) n=n by lia] at iN
 case step =>
  rintro k c av hak hkn ⟨rfl,kX,iN⟩;rw[show min k n=k by lia] at iN;have jS:=kX.size;have x5:fw av=κ:=kX.kind.trans hk;have ve:=hP.perm kX.perm;refine cx (v3 (sL (I:=λx c EJ=>EJ=av/\∃ l r',c=(none,l,r')/\l<=r'/\r'<=k/\r'-l<=k-x /\ (∀ i,lo<=i->i<lo+l->R r (bI av) i<=R r (bI av) (lo+k))/\(∀ i,lo+r'<=i->i<lo+k->R r (bI av) (lo+k)<R r (bI av) i)) (Q:=λc EJ=>EJ=av/\∃ l r',c=(none,l,r')/\l<=k /\ (∀ i,lo<=i->i<lo+l->R r (bI av) i<=R r (bI av) (lo+k))/\(∀ i,lo+l<=i->i<lo+k->R r (bI av) (lo+k)<R r (bI av) i)) ?jj' ?jk' ?jl') ?jm')
  case jl'=>exact⟨rfl,0,k,rfl,by lia,by lia,by lia,λi _ hi=>by lia,λi h1 h2=>by lia⟩
  case jk' =>
   rintro c EJ ⟨rfl,l,r',rfl,hlr,Zm,hm,GL,DB⟩;have:l=r':=by lia
   subst this;exact⟨rfl,l,l,rfl,Zm,GL,DB⟩
  case jj' =>
   rintro x c EJ _ hxk ⟨rfl,l,r',rfl,hlr,Zm,hm,GL,DB⟩;dsimp only;by_cases vi:l >= r'
   ·rw[if_pos vi];have:l=r':=by lia
    subst this;exact dr ⟨rfl,l,l,rfl,Zm,GL,DB⟩
   ·rw[if_neg vi];refine cx (jM C x5 ve (by lia) (by lia) ?_);by_cases y4:R r (bI EJ) (lo+k)<R r (bI EJ) (lo+(l+r') / 2)
    ·simp only[y4,decide_true,if_true];exact dr ⟨rfl,l,(l+r') / 2,rfl,by lia,by lia,by lia,GL,λi h1 h2=>Int.lt_of_lt_of_le y4 (iN _ _ (by lia) h1 h2)⟩
    ·simp only[y4,decide_false,yB,if_false];exact dr ⟨rfl,(l+r') / 2+1,r',rfl,by lia,by lia,by lia,λi h0 h1=>AF (iN i (lo+(l+r') / 2) h0 (by lia) (by lia)) (Int.not_lt.mp y4),DB⟩
  case jm' =>
   rintro c EJ ⟨rfl,l,r',rfl,hlk,GL,DB⟩;show wpS _ _ _ _ (do moveDown' (lo+k) (lo+l);pure (ForInStep.yield (none,()))) _ _;rw[moveDown'_eq];have Zn:lo+k<(bI EJ).size:=by lia
   refine cx (D6 (dr ⟨rfl,kX.trans ((vh Zn (by lia)).mono (c9 _) (by lia)),?_⟩));intro i j hl nE hj;rw[uC Zn (by lia),uC Zn (by lia),show lo+k-(lo+k-(lo+l))=lo+l by lia]
   repeat' split
   all_goals first
    | (exfalso;lia)
    |exact AG _
    |exact GL _ (by lia) (by lia)
    |exact IZ (DB _ (by lia) (by lia))
    |exact iN _ _ (by lia) (by lia) (by lia)
end
def ascL(lo a nrem:Nat):StateT dP Sem AscSt :=
 forIn [a:nrem] ((none,a):AscSt) λ_ __s=>do
  let __x ← ltAt' (lo + __s.snd) (lo + __s.snd - 1)
  match __x with
  |some smaller=>if smaller=true then pure (ForInStep.done (none,__s.snd)) else pure (ForInStep.yield (none,__s.snd+1))
  |_=>pure (ForInStep.done (some none,__s.snd))
def vR(lo n nrem:Nat):StateT dP Sem (Option Nat):=do
 reverseSlice' lo (lo+n)
 let __s ← ascL lo n nrem
 match __s.fst with
 |some r=>pure r
 |none=>pure (some __s.snd)
def HF(lo n nrem:Nat):StateT dP Sem DescSt :=
 forIn [n:nrem] ((none,n,0):DescSt) λ_ __s=>do
  let __x ← ltAt' (lo + __s.snd.fst) (lo + __s.snd.fst - 1)
  match __x with
  |some smaller =>
   if smaller=true then
    if __s.snd.snd>0 then do
     reverseSlice' (lo+__s.snd.fst-(__s.snd.snd+1)) (lo+__s.snd.fst)
     pure (ForInStep.yield (none,__s.snd.fst+1,0))
    else pure (ForInStep.yield (none,__s.snd.fst+1,0))
   else do
    let __x ← ltAt' (lo+__s.snd.fst - 1) (lo+__s.snd.fst)
    match __x with
    |some larger =>
     if larger=true then pure (ForInStep.done (none,__s.snd.fst,__s.snd.snd))
     else pure (ForInStep.yield (none,__s.snd.fst+1,__s.snd.snd+1))
    |_=>pure (ForInStep.done (some none,__s.snd.fst,__s.snd.snd))
  |_=>pure (ForInStep.done (some none,__s.snd.fst,__s.snd.snd))
def j_(lo n nrem:Nat):StateT dP Sem (Option Nat):=do
 liftM (rule "list.sort.descending-run")
 let __s ← HF lo (n+1) nrem
 match __s.fst with
 |some r=>pure r
 |none =>
  if __s.snd.snd>0 then do
   reverseSlice' (lo+__s.snd.fst-(__s.snd.snd+1)) (lo+__s.snd.fst)
   vR lo __s.snd.fst nrem
  else vR lo __s.snd.fst nrem
def pN(lo nrem:Nat):countRun' lo nrem=(do
  let __s ← ascL lo 1 nrem
  match __s.fst with
  |some r=>pure r
  |none =>
   if (__s.snd == nrem)=true then pure (some __s.snd)
   else if __s.snd>1 then do
    let __x ← ltAt' lo (lo+__s.snd - 1)
    match __x with
    |some ch'=>if ch'=true then pure (some __s.snd) else do
      reverseSlice' lo (lo+__s.snd)
      j_ lo __s.snd nrem
    |_=>pure none
   else j_ lo __s.snd nrem):=by
 rw[countRun'_eq];dsimp only;congr 1;funext __s;obtain⟨r,n⟩:=__s
 cases r with
 |some r=>rfl
 |none =>
  dsimp only;split
  ·rfl
  ·split
   ·congr 1;funext x
    cases x with
    |none=>rfl
    |some ch' =>
     dsimp only;split
     ·rfl
     ·congr 1;funext _r
      (congr 1;funext _u;congr 1;congr 1;funext s2;obtain⟨r2,n2,q2⟩:=s2;cases r2 with
       |some r2=>rfl
       |none=>(dsimp only;split;(congr 1;funext _v;(congr 1;funext _w;congr 1;(funext s3;obtain⟨r3,n3⟩:=s3;cases r3<;>rfl)));(congr 1;funext _w;congr 1;(funext s3;obtain⟨r3,n3⟩:=s3;cases r3<;>rfl))))
   ·(congr 1;funext _u;congr 1;congr 1;funext s2;obtain⟨r2,n2,q2⟩:=s2;cases r2 with
     |some r2=>rfl
     |none=>(dsimp only;split;(congr 1;funext _v;(congr 1;funext _w;congr 1;(funext s3;obtain⟨r3,n3⟩:=s3;cases r3<;>rfl)));(congr 1;funext _w;congr 1;(funext s3;obtain⟨r3,n3⟩:=s3;cases r3<;>rfl))))
section
variable {prog:cq}{w:cS}{A:ft}{E:ah->aE->Prop}{s:aE}{κ:vT}{r:ah->Int}{P:ah->Prop}
def uU{st:dP}{lo a nrem:Nat}{Q:AscSt->dP->Prop}(C:sq prog w A s κ r P)(hk:fw st=κ)(hP:AllP P (bI st))(hn:lo+nrem<=(bI st).size)(ha:1<=a)(han:a<=nrem)(hs:Up r (bI st) lo (lo+a))(h:∀ n,a<=n->n<=nrem->Up r (bI st) lo (lo+n)->(n=nrem\/R r (bI st) (lo+n)<R r (bI st) (lo+n-1))->Q (none,n) st) :
  wpS (bq prog w) A E s (ascL lo a nrem) Q st:=by
 refine sL (I:=λx c av=>av=st/\c=(none,x)/\Up r (bI st) lo (lo+x)) ?step ?fin ⟨rfl,rfl,hs⟩;case fin =>
  rintro c av ⟨rfl,rfl,iN⟩;rw[show max a nrem=nrem by lia] at iN ⊢;exact h nrem han (c9 _) iN (.inl rfl)
 case step =>
  rintro x c av Zo hxn ⟨rfl,rfl,iN⟩;refine cx (jM C hk hP (by lia) (by lia) ?_);by_cases y4:R r (bI av) (lo+x)<R r (bI av) (lo+x-1)
  ·simp only[y4,decide_true,if_true];exact dr (h x Zo (by lia) iN (.inr y4))
  ·simp only[y4,decide_false,yB,if_false];refine dr ⟨rfl,rfl,λi j hl nE hj=>?_⟩;by_cases R_:j<lo+x
   ·exact iN i j hl nE R_
   ·have AU:j=lo+x:=by lia
    subst AU;by_cases om:i=lo+x
    ·subst om;exact AG _
    ·exact AF (iN i (lo+x-1) hl (by lia) (by lia)) (Int.not_lt.mp y4)
def mJ{st:dP}{lo n nrem:Nat}{Q:Option Nat->dP->Prop}(C:sq prog w A s κ r P)(hk:fw st=κ)(hP:AllP P (bI st))(hn:lo+nrem<=(bI st).size)(h1:1<=n)(EK:n<=nrem)(hs:Down r (bI st) lo (lo+n)) (h:∀ m av,oo lo (lo+nrem) st av->1<=m->m<=nrem->Up r (bI av) lo (lo+m)->Q (some m) av) :
  wpS (bq prog w) A E s (vR lo n nrem) Q st:=by
 have jS:lo+n<=(bI st).size:=by lia
 refine cx (cQ ?_);have kX:=fu (i:=lo) jS;refine cx (uU C (kX.kind.trans hk) (hP.perm kX.perm) (by rw[kX.size];exact hn) h1 EK ?_ λm y6 GP hsm _=>dr (h m _ (kX.mono (c9 _) (by lia)) (by lia) GP hsm));intro i j hl nE hj;rw[pB jS,pB jS,if_pos (by lia),if_pos (by lia)];exact hs _ _ (by lia) (by lia) (by lia)
def yz{st:dP}{lo n nrem:Nat}{Q:DescSt->dP->Prop}(C:sq prog w A s κ r P)(hk:fw st=κ)(hP:AllP P (bI st))(hn:lo+nrem<=(bI st).size)(h1:1<=n)(EK:n<=nrem)(hs:Down r (bI st) lo (lo+n))(h:∀ m vj av,oo lo (lo+nrem) st av->n<=m->m<=nrem->Down r (bI av) lo (lo+m)->vj+1<=m->(∀ i,lo+m-(vj+1)<=i->i<lo+m->R r (bI av) i=R r (bI av) (lo+m-1))->Q (none,m,vj) av) :
  wpS (bq prog w) A E s (HF lo n nrem) Q st:=by
 refine sL (I:=λx c av=>∃ vj,c=(none,x,vj)/\oo lo (lo+nrem) st av/\Down r (bI av) lo (lo+x)/\vj+1<=x /\ (∀ i,lo+x-(vj+1)<=i->i<lo+x->R r (bI av) i=R r (bI av) (lo+x-1))) ?step ?fin ⟨0,rfl,.refl _ _ _,hs,by lia,λi h1 h2=>by congr 1;lia⟩
 case fin =>
  rintro c av ⟨vj,rfl,kX,iN,hq,he⟩;rw[show max n nrem=nrem by lia] at iN hq he ⊢;exact h nrem vj av kX EK (c9 _) iN hq he
 case step =>
  rintro x c av Zo hxn ⟨vj,rfl,kX,iN,hq,he⟩;dsimp only;have hz:=kX.size;have jS:lo+x<=(bI av).size:=by lia
  have x5:=kX.kind.trans hk;have ve:=hP.perm kX.perm;refine cx (jM C x5 ve (by lia) (by lia) ?_);by_cases y4:R r (bI av) (lo+x)<R r (bI av) (lo+x-1)
  ·simp only[y4,decide_true,if_true];have ci':∀ xs:Array bX,(∀ k,R r xs k=R r (bI av) k)->Down r xs lo (lo+(x+1)):=by
    intro xs hkk i j hl nE hj;rw[hkk,hkk];by_cases R_:j<lo+x
    ·exact iN i j hl nE R_
    ·have AU:j=lo+x:=by lia
     subst AU;by_cases om:i=lo+x
     ·subst om;exact AG _
     ·exact AF (IZ y4) (iN i (lo+x-1) hl (by lia) (by lia))
   by_cases Sb:vj>0
   ·rw[if_pos Sb];refine cx (cQ (dr ⟨0,rfl,kX.trans ((fu jS).mono (by lia) (by lia)),ci' _ (bC jS he),by lia,λi h1 h2=>by congr 1;lia⟩))
   ·rw[if_neg Sb];exact dr ⟨0,rfl,kX,ci' _ (λ_=>rfl),by lia,λi h1 h2=>by congr 1;lia⟩
  ·simp only[y4,decide_false,yB,if_false];refine cx (jM C x5 ve (by lia) (by lia) ?_);by_cases ck':R r (bI av) (lo+x-1)<R r (bI av) (lo+x)
   ·simp only[ck',decide_true,if_true];exact dr (h x vj av kX Zo (by lia) iN hq he)
   ·simp only[ck',decide_false,yB,if_false];have cl':R r (bI av) (lo+x)=R r (bI av) (lo+x-1):=by lia
    refine dr ⟨vj+1,rfl,kX,λi j hl nE hj=>?_,by lia,λi h1 h2=>?_⟩
    ·by_cases R_:j<lo+x
     ·exact iN i j hl nE R_
     ·have AU:j=lo+x:=by lia
      subst AU;by_cases om:i=lo+x
      ·subst om;exact AG _
      ·rw[cl'];exact iN i (lo+x-1) hl (by lia) (by lia)
    ·rw[show lo+(x+1)-1=lo+x by lia];by_cases hix:i=lo+x
     ·subst hix;rfl
     ·rw[cl'];exact he i (by lia) (by lia)
def gU{st:dP}{lo n nrem:Nat}{Q:Option Nat->dP->Prop}(C:sq prog w A s κ r P)(hk:fw st=κ)(hP:AllP P (bI st))(hn:lo+nrem<=(bI st).size)(EK:n+1<=nrem)(hs:Down r (bI st) lo (lo+(n+1))) (h:∀ m av,oo lo (lo+nrem) st av->1<=m->m<=nrem->Up r (bI av) lo (lo+m)->Q (some m) av) :
  wpS (bq prog w) A E s (j_ lo n nrem) Q st:=by
 refine cx (wpS_lift (wpAny_rule ⟨rfl,?_⟩));refine cx (yz C hk hP hn (by lia) EK hs λm vj av kX y6 GP iN hq he=>?_);dsimp only;have hz:=kX.size;have jS:lo+m<=(bI av).size:=by lia
 have x5:=kX.kind.trans hk;have ve:=hP.perm kX.perm;by_cases Sb:vj>0
 ·rw[if_pos Sb];have hW:=fu (i:=lo+m-(vj+1)) jS;refine cx (cQ (mJ C (hW.kind.trans x5) (ve.perm hW.perm) (by rw[hW.size,hz];exact hn) (by lia) GP ?_ λm2 AJ Sd=>h m2 AJ ((kX.trans (hW.mono (by lia) (by lia))).trans Sd)));intro i j hl nE hj;rw[bC jS he,bC jS he];exact iN i j hl nE hj
 ·rw[if_neg Sb];exact mJ C x5 ve (by rw[hz];exact hn) (by lia) GP iN λm2 AJ Sd=>h m2 AJ (kX.trans Sd)
def wpS_countRun{st:dP}{lo nrem:Nat}{Q:Option Nat->dP->Prop}(C:sq prog w A s κ r P)(hk:fw st=κ)(hP:AllP P (bI st))(hn:lo+nrem<=(bI st).size)(h1:1<=nrem)(h:∀ m av,oo lo (lo+nrem) st av->1<=m->m<=nrem->Up r (bI av) lo (lo+m)->Q (some m) av) :
  wpS (bq prog w) A E s (countRun' lo nrem) Q st:=by
 rw[pN];refine cx (uU C hk hP hn (c9 1) h1 (λi j hl nE hj=>by
  have:i=j:=by lia
  subst this;exact AG _) λn hn1 KL oq hor=>?_)
 by_cases EK:n=nrem
 ·rw[if_pos (by simpa using EK)];exact dr (h n st (.refl _ _ _) hn1 KL oq)
 ·rw[if_neg (by simpa using EK)];have i5:R r (bI st) (lo+n)<R r (bI st) (lo+n-1):=hor.resolve_left EK;by_cases hgt:n>1
  ·rw[if_pos hgt];refine cx (jM C hk hP (by lia) (by lia) ?_);by_cases co':R r (bI st) lo<R r (bI st) (lo+n-1)
   ·simp only[co',decide_true,if_true];exact dr (h n st (.refl _ _ _) hn1 KL oq)
   ·simp only[co',decide_false,yB,if_false];have jS:lo+n<=(bI st).size:=by lia
    have EH:∀ k,lo<=k->k<lo+n->R r (bI st) k=R r (bI st) (lo+n-1):=by intro k hl hk;have a1:=oq lo k (by lia) hl hk;have a2:=oq k (lo+n-1) hl (by lia) (by lia);lia
    have hW:=fu (i:=lo) jS;refine cx (cQ (gU C (hW.kind.trans hk) (hP.perm hW.perm) (by rw[hW.size];exact hn) (by lia) ?_ λm2 AJ Sd=>h m2 AJ ((hW.mono (c9 _) (by lia)).trans Sd)));intro i j hl nE hj;rw[bC jS EH,bC jS EH];by_cases hjn:j<lo+n
    ·rw[EH i hl (by lia),EH j (by lia) hjn];exact AG _
    ·have AU:j=lo+n:=by lia
     subst AU;by_cases om:i=lo+n
     ·subst om;exact AG _
     ·rw[EH i hl (by lia)];exact IZ i5
  ·rw[if_neg hgt];have ju':n=1:=by lia
   subst ju';refine gU C hk hP hn (by lia) ?_ h;intro i j hl nE hj;by_cases om:i=j
   ·subst om;exact AG _
   ·have BG:i=lo:=by lia
    have hj1:j=lo+1:=by lia
    subst BG;subst hj1;exact IZ i5
end
def Gf(left:Bool)(key:bX)(arr:Array bX)(base i:Nat):StateT dP Sem (Option Bool):=do
 let x ← elem' arr (base+i)
 if left then lt' x key else return (<- lt' key x).map (!·)
def jV:Bool->bX->Array bX->Nat->Nat->Nat->StateT dP Sem (Option Nat):=sortPriv% PySem.Builtin.gallop
section
variable {prog:cq}{w:cS}{A:ft}{E:ah->aE->Prop}{s:aE}{κ:vT}{r:ah->Int}{P:ah->Prop}
def gS(r:ah->Int)(left:Bool)(key:bX)(arr:Array bX)(base i:Nat):Bool :=
 if left then decide (R r arr (base+i)<r key.1) else !decide (r key.1<R r arr (base+i))
def c7{st:dP}{left:Bool}{key:bX}{arr:Array bX}{base i:Nat}{Q:Option Bool->dP->Prop}(C:sq prog w A s κ r P)(hk:fw st=κ)(hP:AllP P arr)(hy:P key.1)(hi:base+i<arr.size)(h:Q (some (gS r left key arr base i)) st):wpS (bq prog w) A E s (Gf left key arr base i) Q st:=by
 refine cx (aL hi λp ep=>?_);have e1:R r arr (base+i)=r p.1:=by unfold R;rw[ep]
 unfold gS at h;rw[e1] at h
 cases left with
 |true =>exact pX C hk (hP.at ep) hy h
 |false =>exact cx (pX C hk hy (hP.at ep) (dr h))
def zO(hu:Up r arr base (base+n))(nE:i<=j)(hj:j<n)(h:gS r left key arr base j=true):gS r left key arr base i=true:=by
 have q:=hu (base+i) (base+j) (by lia) (by lia) (by lia);unfold gS at h ⊢
 cases left with
 |true=>simp only[if_true,decide_eq_true_eq] at h ⊢;lia
 |false=>simp only[yB,if_false,V3,decide_eq_false_iff_not] at h ⊢;lia
def cC{st:dP}{left:Bool}{key:bX}{arr:Array bX}{base n hint:Nat}{Q:Option Nat->dP->Prop}(C:sq prog w A s κ r P)(hk:fw st=κ)(hP:AllP P arr)(hy:P key.1)(hn:base+n<=arr.size)(hh:hint<n)(hu:Up r arr base (base+n))(h:∀ k,k<=n->(∀ i,i<k->gS r left key arr base i=true)->(∀ i,k<=i->i<n->gS r left key arr base i=false)->Q (some k) st):wpS (bq prog w) A E s (jV left key arr base n hint) Q st:=by
 have mono:∀ {i j},i<=j->j<n->gS r left key arr base j=true->gS r left key arr base i=true:=λa b c=>zO hu a b c;have UO:∀ {i j},i<=j->j<n->gS r left key arr base i=false->gS r left key arr base j=false:=λ{i j} a b c=>by
  cases q:gS r left key arr base j with
  |false=>rfl
  |true=>rw[mono a b q] at c;cases c
 refine cx (c7 C hk hP hy (by lia) ?_);dsimp only
 cases q0:gS r left key arr base hint with
 |true =>
  refine cx (v3 (sL (I:=λx c av=>av=st/\∃ lst gX,c=(none,lst,gX)/\lst<gX/\lst<n-hint/\x+1<=gX/\gS r left key arr base (hint+lst)=true) (Q:=λc av=>av=st/\∃ lst gX,c=(none,lst,gX)/\lst<gX/\lst<n-hint/\gS r left key arr base (hint+lst)=true/\(n-hint<=gX\/gS r left key arr base (hint+gX)=false)) ?step ?fin ?init) ?post)
  case init=>exact⟨rfl,0,1,rfl,by lia,by lia,by lia,q0⟩
  case fin =>
   rintro c av ⟨rfl,lst,gX,rfl,h1,h2,h3,h4⟩;exact⟨rfl,lst,gX,rfl,h1,h2,h4,.inl (by lia)⟩
  case step =>
   rintro x c av _ hx ⟨rfl,lst,gX,rfl,h1,h2,h3,h4⟩;dsimp only;by_cases vi:gX >= n-hint
   ·rw[if_pos vi];exact dr ⟨rfl,lst,gX,rfl,h1,h2,h4,.inl vi⟩
   ·rw[if_neg vi];refine cx (c7 C hk hP hy (by lia) ?_)
    cases q:gS r left key arr base (hint+gX) with
    |true =>exact dr ⟨rfl,_,_,rfl,by lia,by lia,by lia,q⟩
    |false =>exact dr ⟨rfl,lst,gX,rfl,h1,h2,h4,.inr q⟩
  case post =>
   rintro c av ⟨rfl,lst,gX,rfl,h1,h2,h4,h5⟩;generalize av=st at *
   have hl:∀ i,i<hint+lst+1->gS r left key arr base i=true:=λi hi=>mono (by lia) (by lia) h4;have DB:∀ i,hint+min gX (n-hint)<=i->i<n->gS r left key arr base i=false:=λi hi LP=>by
    rcases h5 with h5|h5
    ·lia
    ·by_cases z:n-hint<=gX
     ·lia
     ·exact UO (by lia) LP h5
   have Zq:hint+lst+1<=hint+min gX (n-hint):=by lia
   have Zr:hint+min gX (n-hint)<=n:=by lia
   generalize hint+lst+1=lo at *
   generalize hint+min gX (n-hint)=hi at *
   refine cx (v3 (sL (I:=λx c av=>av=st/\∃ l u,c=(none,l,u)/\l<=u/\u<=n/\u-l<=n-x/\(∀ i,i<l->gS r left key arr base i=true)/\(∀ i,u<=i->i<n->gS r left key arr base i=false)) (Q:=λc av=>av=st/\∃ l,c=(none,l,l)/\l<=n/\(∀ i,i<l->gS r left key arr base i=true)/\(∀ i,l<=i->i<n->gS r left key arr base i=false)) ?jw' ?jx' ?jy') ?postA)
   case jy'=>exact⟨rfl,lo,hi,rfl,Zq,Zr,by lia,hl,DB⟩
   case jx' =>
    rintro c av ⟨rfl,l,u,rfl,h1,h2,h3,h4,h5⟩;have:l=u:=by lia
    subst this;exact⟨rfl,l,rfl,h2,h4,h5⟩
   case jw' =>
    rintro x c av _ hx ⟨rfl,l,u,rfl,h1,h2,h3,h4,h5⟩;dsimp only;by_cases vi:l >= u
    ·rw[if_pos vi];have:l=u:=by lia
     subst this;exact dr ⟨rfl,l,rfl,h2,h4,h5⟩
    ·rw[if_neg vi];refine cx (c7 C hk hP hy (by lia) ?_)
     cases q:gS r left key arr base (l+(u-l) / 2) with
     |true =>exact dr ⟨rfl,_,_,rfl,by lia,by lia,by lia,λi hi=>mono (by lia) (by lia) q,h5⟩
     |false =>exact dr ⟨rfl,_,_,rfl,by lia,by lia,by lia,h4,λi hi LP=>UO (by lia) LP q⟩
   case postA =>
    rintro c av ⟨rfl,l,rfl,h2,h4,h5⟩;exact dr (h l h2 h4 h5)
 |false =>
  refine cx (v3 (sL (I:=λx c av=>av=st/\∃ lst gX,c=(none,lst,gX)/\lst<gX/\lst<hint+1/\x+1<=gX/\gS r left key arr base (hint-lst)=false) (Q:=λc av=>av=st/\∃ lst gX,c=(none,lst,gX)/\lst<gX/\lst<hint+1/\gS r left key arr base (hint-lst)=false/\(hint+1<=gX\/gS r left key arr base (hint-gX)=true)) ?jz' ?fin2 ?jA') ?jB')
  case jA'=>exact⟨rfl,0,1,rfl,by lia,by lia,by lia,q0⟩
  case fin2 =>
   rintro c av ⟨rfl,lst,gX,rfl,h1,h2,h3,h4⟩;exact⟨rfl,lst,gX,rfl,h1,h2,h4,.inl (by lia)⟩
  case jz' =>
   rintro x c av _ hx ⟨rfl,lst,gX,rfl,h1,h2,h3,h4⟩;dsimp only;by_cases vi:gX >= hint+1
   ·rw[if_pos vi];exact dr ⟨rfl,lst,gX,rfl,h1,h2,h4,.inl vi⟩
   ·rw[if_neg vi];refine cx (c7 C hk hP hy (by lia) ?_)
    cases q:gS r left key arr base (hint-gX) with
    |true =>exact dr ⟨rfl,lst,gX,rfl,h1,h2,h4,.inr q⟩
    |false =>exact dr ⟨rfl,_,_,rfl,by lia,by lia,by lia,q⟩
  case jB' =>
   rintro c av ⟨rfl,lst,gX,rfl,h1,h2,h4,h5⟩;generalize av=st at *
   have hl:∀ i,i<hint+1-min gX (hint+1)->gS r left key arr base i=true:=λi hi=>by
    rcases h5 with h5|h5
    ·lia
    ·by_cases z:hint+1<=gX
     ·lia
     ·exact mono (by lia) (by lia) h5
   have DB:∀ i,hint-lst<=i->i<n->gS r left key arr base i=false:=λi hi LP=>UO (by lia) LP h4;have Zq:hint+1-min gX (hint+1)<=hint-lst:=by lia
   have Zr:hint-lst<=n:=by lia
   generalize hint+1-min gX (hint+1)=lo at *
   generalize hint-lst=hi at *
   refine cx (v3 (sL (I:=λx c av=>av=st/\∃ l u,c=(none,l,u)/\l<=u/\u<=n/\u-l<=n-x/\(∀ i,i<l->gS r left key arr base i=true)/\(∀ i,u<=i->i<n->gS r left key arr base i=false)) (Q:=λc av=>av=st/\∃ l,c=(none,l,l)/\l<=n/\(∀ i,i<l->gS r left key arr base i=true)/\(∀ i,l<=i->i<n->gS r left key arr base i=false)) ?jC' ?jD' ?jE') ?jF')
   case jE'=>exact⟨rfl,lo,hi,rfl,Zq,Zr,by lia,hl,DB⟩
   case jD' =>
    rintro c av ⟨rfl,l,u,rfl,h1,h2,h3,h4,h5⟩;have:l=u:=by lia
    subst this;exact⟨rfl,l,rfl,h2,h4,h5⟩
   case jC' =>
    rintro x c av _ hx ⟨rfl,l,u,rfl,h1,h2,h3,h4,h5⟩;dsimp only;by_cases vi:l >= u
    ·rw[if_pos vi];have:l=u:=by lia
     subst this;exact dr ⟨rfl,l,rfl,h2,h4,h5⟩
    ·rw[if_neg vi];refine cx (c7 C hk hP hy (by lia) ?_)
     cases q:gS r left key arr base (l+(u-l) / 2) with
     |true =>exact dr ⟨rfl,_,_,rfl,by lia,by lia,by lia,λi hi=>mono (by lia) (by lia) q,h5⟩
     |false =>exact dr ⟨rfl,_,_,rfl,by lia,by lia,by lia,h4,λi hi LP=>UO (by lia) LP q⟩
   case jF' =>
    rintro c av ⟨rfl,l,rfl,h2,h4,h5⟩;exact dr (h l h2 h4 h5)
end
abbrev Le(r:ah->Int)(x y:bX):Prop:=r x.1<=r y.1
def qV(e:xs[i]? = some p):R r xs i=r p.1:=by unfold R;rw[e]
def JB(h:i<xs.size):R r xs i=r xs[i].1:=qV (getElem?_pos xs i h)
structure MI(r:ah->Int)(a b out:Array bX)(ia ib:Nat):Prop where
 ha:ia<=a.size
 hb:ib<=b.size
 perm:out.toList.Perm (a.toList.take ia++b.toList.take ib)
 up:out.toList.Pairwise (Le r)
 la:∀ x∈out.toList,∀ i,ia<=i->i<a.size->r x.1<=R r a i
 lb:∀ x∈out.toList,∀ j,ib<=j->j<b.size->r x.1<=R r b j
section
variable {r:ah->Int}{a b out:Array bX}{ia ib:Nat}
def ni{α:Type}{l:List α}{i:Nat}{x:α}(h:l[i]? = some x):l.take (i+1)=l.take i++[x]:=by rw[Ap,h];rfl
def MI.p_(M:MI r a b out ia ib)(hA:Up r a 0 a.size)(hB:Up r b 0 b.size)(e:b[ib]? = some y)(hl:ia<a.size->R r b ib<=R r a ia):MI r a b (out.push y) ia (ib+1):=by
 have hib:ib<b.size:=(V5.mp e).1;have ey:=qV (r:=r) e;refine⟨M.ha,hib,?_,?_,?_,?_⟩
 ·rw[sN,ni (by simpa using e),<- pE];exact M.perm.append_right _
 ·rw[sN,Tp];refine⟨M.up,by simp,λx hx z hz=>?_⟩;have:z=y:=by simpa using hz
  subst this;show r x.1<=r z.1;rw[<- ey];exact M.lb x hx ib (c9 _) hib
 ·intro x hx i hi OZ;rw[sN] at hx;rcases eR.mp hx with hx|hx
  ·exact M.la x hx i hi OZ
  ·have:x=y:=by simpa using hx
   subst this;rw[<- ey];exact AF (hl (by lia)) (hA ia i (gd _) hi OZ)
 ·intro x hx j hj Se;rw[sN] at hx;rcases eR.mp hx with hx|hx
  ·exact M.lb x hx j (by lia) Se
  ·have:x=y:=by simpa using hx
   subst this;rw[<- ey];exact hB ib j (gd _) (by lia) Se
def MI.qm(M:MI r a b out ia ib)(hA:Up r a 0 a.size)(hB:Up r b 0 b.size)(e:a[ia]? = some y)(hl:ib<b.size->R r a ia<=R r b ib):MI r a b (out.push y) (ia+1) ib:=by
 have OZ:ia<a.size:=(V5.mp e).1;have ey:=qV (r:=r) e;refine⟨OZ,M.hb,?_,?_,?_,?_⟩
 ·rw[sN,ni (by simpa using e),pE];refine(M.perm.append_right [y]).trans ?_;rw[pE];exact List.Perm.append_left _ VN
 ·rw[sN,Tp];refine⟨M.up,by simp,λx hx z hz=>?_⟩;have:z=y:=by simpa using hz
  subst this;show r x.1<=r z.1;rw[<- ey];exact M.la x hx ia (c9 _) OZ
 ·intro x hx i hi sj;rw[sN] at hx;rcases eR.mp hx with hx|hx
  ·exact M.la x hx i (by lia) sj
  ·have:x=y:=by simpa using hx
   subst this;rw[<- ey];exact hA ia i (gd _) (by lia) sj
 ·intro x hx j hj Se;rw[sN] at hx;rcases eR.mp hx with hx|hx
  ·exact M.lb x hx j hj Se
  ·have:x=y:=by simpa using hx
   subst this;rw[<- ey];exact AF (hl (by lia)) (hB ib j (gd _) hj Se)
def dZ{xs:Array bX}{i k:Nat}(h:i+k<xs.size):xs.extract i (i+(k+1))=(xs.extract i (i+k)).push xs[i+k]:=by apply TV.mp;rw[sN];simp only[V6,VJ];rw[show i+(k+1)-i=k+1 by lia,show i+k-i=k by lia,Ap];congr 1;simp[h]
theorem MI.EL(hA:Up r a 0 a.size)(hB:Up r b 0 b.size):∀ (k:Nat) {out:Array bX} {ia:Nat},MI r a b out ia ib->ia+k<=a.size->(ib<b.size->∀ i,i<k->R r a (ia+i)<=R r b ib)->MI r a b (out++a.extract ia (ia+k)) (ia+k) ib
 |0,out,ia,M,h1,h2=>by have:a.extract ia (ia+0) = #[]:=Rm (by simp only[Jn];lia);rw[this];simpa using M
 |k+1,out,ia,M,h1,h2=>by have q:=MI.EL hA hB k M (by exact IY ‹_›) λhb i hi=>h2 hb i (by exact NR ‹_›);have e:a[ia+k]? = some a[ia+k]:=getElem?_pos a (ia+k) (by assumption);have z:=q.qm hA hB e λhb=>h2 hb k (by exact c9 _);rw[dZ (by assumption),Array.append_push];exact z
theorem MI.ER(hA:Up r a 0 a.size)(hB:Up r b 0 b.size):∀ (k:Nat) {out:Array bX} {ib:Nat},MI r a b out ia ib->ib+k<=b.size->(ia<a.size->∀ i,i<k->R r b (ib+i)<=R r a ia)->MI r a b (out++b.extract ib (ib+k)) ia (ib+k)
 |0,out,ib,M,h1,h2=>by have:b.extract ib (ib+0) = #[]:=Rm (by simp only[Jn];lia);rw[this];simpa using M
 |k+1,out,ib,M,h1,h2=>by have q:=MI.ER hA hB k M (by exact IY ‹_›) λha i hi=>h2 ha i (by exact NR ‹_›);have e:b[ib+k]? = some b[ib+k]:=getElem?_pos b (ib+k) (by assumption);have z:=q.p_ hA hB e λha=>h2 ha k (by exact c9 _);rw[dZ (by assumption),Array.append_push];exact z
def bU(r:ah->Int)(a b out:Array bX):Prop:=out.toList.Perm (a.toList++b.toList)/\out.toList.Pairwise (Le r)
def MI.whole(M:MI r a b out a.size b.size):bU r a b out:=by refine⟨?_,M.up⟩;have h:=M.perm;rw[NF (by simp),NF (by simp)] at h;exact h
def MI.Km(M:MI r a b out ia b.size)(hA:Up r a 0 a.size)(hB:Up r b 0 b.size):bU r a b (out++a.extract ia a.size++b.extract b.size b.size):=by
 have e:b.extract b.size b.size = #[]:=by simp
 rw[e,V7];have ha:=M.ha;have q:=MI.EL hA hB (a.size-ia) M (by lia) λhb=>absurd hb (AB _);rw[show ia+(a.size-ia)=a.size by exact Rh ‹_›] at q;exact q.whole
def MI.Lw(M:MI r a b out a.size ib)(hA:Up r a 0 a.size)(hB:Up r b 0 b.size):bU r a b (out++a.extract a.size a.size++b.extract ib b.size):=by
 have e:a.extract a.size a.size = #[]:=by simp
 rw[e,V7];have hb:=M.hb;have q:=MI.ER hA hB (b.size-ib) M (by lia) λha=>absurd ha (AB _);rw[show ib+(b.size-ib)=b.size by exact Rh ‹_›] at q;exact q.whole
def MI.O0(M:MI r a b out ia ib)(hA:Up r a 0 a.size)(hB:Up r b 0 b.size)(e:ib=b.size):bU r a b (out++a.extract ia a.size++b.extract ib b.size):=by subst e;exact M.Km hA hB
def MI.Pl(M:MI r a b out ia ib)(hA:Up r a 0 a.size)(hB:Up r b 0 b.size)(e:ia=a.size):bU r a b (out++a.extract ia a.size++b.extract ib b.size):=by subst e;exact M.Lw hA hB
def MI.Lx(M:MI r a b out ia ib)(hA:Up r a 0 a.size)(hB:Up r b 0 b.size)(OZ:ia+1=a.size)(hg:∀ j,j<b.size->R r b j<=R r a ia):bU r a b (out++b.extract ib b.size++a.extract ia a.size):=by have hb:=M.hb;have q:=MI.ER hA hB (b.size-ib) M (by lia) λha i hi=>hg _ (by lia);rw[show ib+(b.size-ib)=b.size by exact Rh ‹_›] at q;have z:=MI.EL hA hB (a.size-ia) q (by lia) λhb=>absurd hb (AB _);rw[show ia+(a.size-ia)=a.size by lia] at z;exact z.whole
def MI.start(hA:Up r a 0 a.size)(hB:Up r b 0 b.size):MI r a b #[] 0 0:=⟨gd _,gd _,by simp,by simp,λx hx=>by simp at hx,λx hx=>by simp at hx⟩
end
def bz:Nat->StateT dP Sem Unit:=sortPriv% PySem.Builtin.setMinGallop
def uT:Array bX->Array bX->StateT dP Sem (Array bX):=sortPriv% PySem.Builtin.mergeLo
def uE:Array bX->Array bX->StateT dP Sem (Array bX):=sortPriv% PySem.Builtin.mergeHi
def jx(g:Nat):bz g=modify λs=>SortSt.mk' (fw s) (bI s) (nr s) g (sM s):=rfl
def Mg(st av:dP):Prop:=∃ g,av=SortSt.mk' (fw st) (bI st) (nr st) g (sM st)
def Mg.refl(st:dP):Mg st st:=⟨gallopOf st,rfl⟩
def Mg.kind{st av:dP}(h:Mg st av):fw av=fw st:=by obtain⟨g,rfl⟩:=h;rfl
def Mg.set{st av:dP}(h:Mg st av)(g:Nat):Mg st (SortSt.mk' (fw av) (bI av) (nr av) g (sM av)):=by obtain⟨g',rfl⟩:=h;exact⟨g,rfl⟩
section
variable {prog:cq}{w:cS}{A:ft}{E:ah->aE->Prop}{s:aE}{r:ah->Int}
def gJ{st:dP}{g:Nat}{Q:Unit->dP->Prop}(h:Q () (SortSt.mk' (fw st) (bI st) (nr st) g (sM st))):wpS (bq prog w) A E s (bz g) Q st:=by rw[jx];exact D6 h
def Bq(h:gS r false key arr base i=true):R r arr (base+i)<=r key.1:=by unfold gS at h;simp only[yB,if_false,V3,decide_eq_false_iff_not] at h;lia
def xF(h:gS r false key arr base i=false):r key.1<R r arr (base+i):=by unfold gS at h;simp only[yB,if_false,Bool.not_eq_false',decide_eq_true_eq] at h;exact h
def GR(h:gS r true key arr base i=true):R r arr (base+i)<r key.1:=by unfold gS at h;simp only[if_true,decide_eq_true_eq] at h;exact h
def uB(h:gS r true key arr base i=false):r key.1<=R r arr (base+i):=by unfold gS at h;simp only[if_true,decide_eq_false_iff_not] at h;lia
end
def Mg.trans{a b c:dP}(h:Mg a b)(g:Mg b c):Mg a c:=by obtain⟨x,rfl⟩:=h;obtain⟨y,rfl⟩:=g;exact⟨y,rfl⟩
def Ea{K G:Prop}(pk:K)(h:K->G):G:=h pk
abbrev SM:=StateT dP Sem
abbrev L1:=Option (Array bX) × Array bX × Nat × Nat × Nat
abbrev LS:=Option (Array bX) × Array bX × Nat × Nat × Nat × Nat
abbrev L3:=Option (Array bX) × Array bX × Nat × Nat × Nat × Nat × Nat
def GU(a b out:Array bX)(ia ib:Nat):Array bX:=out++a.extract ia a.size++b.extract ib b.size
def Sf(a b out:Array bX)(ia ib:Nat):Array bX:=out++b.extract ib b.size++a.extract ia a.size
def Zt(a b:Array bX)(mg ac bc ia ib:Nat)(out:Array bX):SM (ForInStep L3):=elem' a ia >>= λp =>
 if (ia+1+1 == a.size)=true then pure (.done (some (Sf a b (out.push p) (ia+1) ib),out.push p,ia+1,ib,mg,ac,bc))
 else if (decide (ac<7) && decide (bc<7))=true then pure (.done (none,out.push p,ia+1,ib,mg,ac,bc)) else pure (.yield (none,out.push p,ia+1,ib,mg,ac,bc))
def LV(a b:Array bX)(mg ac bc ia ib:Nat)(out:Array bX):SM (ForInStep L3):=elem' a ia >>= λp=>jV true p b ib (b.size-ib) 0 >>= λx=>match x with
 |some k=>if k>0 then
   if (ib+k == b.size)=true then pure (.done (some (GU a b (out++b.extract ib (ib+k)) ia (ib+k)),out++b.extract ib (ib+k),ia,ib+k,mg,ac,k))
   else Zt a b mg ac k ia (ib+k) (out++b.extract ib (ib+k))
  else Zt a b mg ac k ia ib out
 |_=>pure (.done (some (GU a b out ia ib),out,ia,ib,mg,ac,bc))
def lo1(a b:Array bX)(mg ac bc ia ib:Nat)(out:Array bX):SM (ForInStep L3):=elem' b ib >>= λp =>
 if (ib+1 == b.size)=true then pure (.done (some (GU a b (out.push p) ia (ib+1)),out.push p,ia,ib+1,mg,ac,bc)) else LV a b mg ac bc ia (ib+1) (out.push p)
def Zu(a b:Array bX)(mg ac bc ia ib:Nat)(out:Array bX):SM (ForInStep L3):=bz mg >>= λ_=>elem' b ib >>= λp=>jV false p a ia (a.size-ia) 0 >>= λx=>match x with
 |some k=>if k>0 then
   if (ia+k+1 == a.size)=true then pure (.done (some (Sf a b (out++a.extract ia (ia+k)) (ia+k) ib),out++a.extract ia (ia+k),ia+k,ib,mg,k,bc))
   else if (ia+k == a.size)=true then pure (.done (some (GU a b (out++a.extract ia (ia+k)) (ia+k) ib),out++a.extract ia (ia+k),ia+k,ib,mg,k,bc))
   else lo1 a b mg k bc (ia+k) ib (out++a.extract ia (ia+k))
  else lo1 a b mg k bc ia ib out
 |_=>pure (.done (some (GU a b out ia ib),out,ia,ib,mg,ac,bc))
def loG(a b:Array bX)(_:Nat)(s:L3):SM (ForInStep L3) :=
 if s.2.2.2.2.1>1 then Zu a b (s.2.2.2.2.1-1) s.2.2.2.2.2.1 s.2.2.2.2.2.2 s.2.2.1 s.2.2.2.1 s.2.1 else Zu a b s.2.2.2.2.1 s.2.2.2.2.2.1 s.2.2.2.2.2.2 s.2.2.1 s.2.2.2.1 s.2.1
def loA(a b:Array bX)(mg bc ia ib:Nat)(out:Array bX):SM (ForInStep LS):=elem' b ib >>= λp =>
 if (ib+1 == b.size)=true then pure (.done (some (GU a b (out.push p) ia (ib+1)),out.push p,ia,ib+1,0,bc+1))
 else if bc+1 >= mg then pure (.done (none,out.push p,ia,ib+1,0,bc+1)) else pure (.yield (none,out.push p,ia,ib+1,0,bc+1))
def loB(a b:Array bX)(mg ac ia ib:Nat)(out:Array bX):SM (ForInStep LS):=elem' a ia >>= λp =>
 if (ia+1+1 == a.size)=true then pure (.done (some (Sf a b (out.push p) (ia+1) ib),out.push p,ia+1,ib,ac+1,0))
 else if ac+1 >= mg then pure (.done (none,out.push p,ia+1,ib,ac+1,0)) else pure (.yield (none,out.push p,ia+1,ib,ac+1,0))
def loI(a b:Array bX)(mg:Nat)(_:Nat)(s:LS):SM (ForInStep LS):=elem' b s.2.2.2.1 >>= λpb=>elem' a s.2.2.1 >>= λpa=>lt' pb pa >>= λx=>match x with
 |some w=>if w=true then loA a b mg s.2.2.2.2.2 s.2.2.1 s.2.2.2.1 s.2.1 else loB a b mg s.2.2.2.2.1 s.2.2.1 s.2.2.2.1 s.2.1
 |_=>pure (.done (some (GU a b s.2.1 s.2.2.1 s.2.2.2.1),s.2.1,s.2.2.1,s.2.2.2.1,s.2.2.2.2.1,s.2.2.2.2.2))
def loP (a b:Array bX) (mg:Nat) (t:LS):SM (ForInStep L1):=(liftM (rule "list.sort.gallop"):SM Unit) >>= λ_ =>
 forIn [:a.size+b.size] ((none,t.2.1,t.2.2.1,t.2.2.2.1,mg+1,t.2.2.2.2.1,t.2.2.2.2.2):L3) (loG a b) >>= λu=>match u.1 with
 |some r=>pure (.done (some r,u.2.1,u.2.2.1,u.2.2.2.1,u.2.2.2.2.1))
 |none=>bz (u.2.2.2.2.1+1) >>= λ_=>pure (.yield (none,u.2.1,u.2.2.1,u.2.2.2.1,u.2.2.2.2.1+1))
def loO(a b:Array bX)(_:Nat)(s:L1):SM (ForInStep L1):=forIn [:a.size+b.size] ((none,s.2.1,s.2.2.1,s.2.2.2.1,0,0):LS) (loI a b s.2.2.2.2) >>= λt=>match t.1 with
 |some r=>pure (.done (some r,t.2.1,t.2.2.1,t.2.2.2.1,s.2.2.2.2))
 |none=>loP a b s.2.2.2.2 t
def loM (a b:Array bX):SM (Array bX):=(liftM (rule "list.sort.merge-lo"):SM Unit) >>= λ_=>elem' b 0 >>= λy =>
 if (1 == b.size)=true then pure (GU a b #[y] 0 1)
 else if (0+1 == a.size)=true then pure (Sf a b #[y] 0 1)
 else get >>= λst=>forIn [:a.size+b.size] ((none,#[y],0,1,gallopOf st):L1) (loO a b) >>= λt=>match t.1 with
 |some r=>pure r
 |none=>(liftM (unsupported (α:=Array bX) "internal:list.sort.merge-bound"):SM (Array bX))
set_option smartUnfolding false in
def u5:uT=loM:=rfl
section
variable {prog:cq}{w:cS}{A:ft}{E:ah->aE->Prop}{s:aE}{κ:vT}{r:ah->Int}{P:ah->Prop}{a b out:Array bX}{mg ac bc ia ib N:Nat}{st:dP}
structure MC(prog:cq)(w:cS)(A:ft)(s:aE)(κ:vT)(r:ah->Int)(P:ah->Prop)(a b:Array bX):Prop where
 C:sq prog w A s κ r P
 pa:AllP P a
 pb:AllP P b
 hA:Up r a 0 a.size
 hB:Up r b 0 b.size
 hl:∀ i,i<a.size->R r b 0<=R r a i
 hg:∀ j,j<b.size->R r b j<=R r a (a.size-1)
def HS{β:Type}(r:ah->Int)(a b:Array bX)(c:Option (Array bX) × β):Prop:=∃ out rest,c=(some out,rest)/\bU r a b out
def LY(r:ah->Int)(a b:Array bX)(N:Nat)(c:L3):Prop:=∃ out ia ib mg ac bc,c=(none,out,ia,ib,mg,ac,bc)/\MI r a b out ia ib/\ia+1<a.size/\ib<b.size/\N<=ia+ib
def LI(r:ah->Int)(a b:Array bX)(N:Nat)(c:LS):Prop:=∃ out ia ib ac bc,c=(none,out,ia,ib,ac,bc)/\MI r a b out ia ib/\ia+1<a.size/\ib<b.size/\N<=ia+ib
def MC.last(c:MC prog w A s κ r P a b)(M:MI r a b out ia ib)(z:ia+1=a.size):bU r a b (Sf a b out ia ib):=M.Lx c.hA c.hB z λj hj=>by have:=c.hg j hj;rwa[show a.size-1=ia by lia] at this
def Cm(c:MC prog w A s κ r P a b)(M:MI r a b out ia ib)(h1:ia+1<a.size)(lt:R r a ia<=R r b ib)(h2:ib<b.size)(hN:N<=ia+ib)(D:∀ c,HS r a b c->Q (.done c) st)(Y:∀ c,LY r a b N c->Q (.done c) st/\Q (.yield c) st):wpS (bq prog w) A E s (Zt a b mg ac bc ia ib out) Q st:=by
 refine cx (aL (by lia) λp e=>?_);have M2:=M.qm c.hA c.hB e λ_=>lt;by_cases z:ia+1+1=a.size
 ·rw[if_pos (by simpa using z)];exact dr (D _ ⟨_,_,rfl,c.last M2 z⟩)
 ·rw[if_neg (by simpa using z)];have y:=Y _ ⟨_,_,_,mg,ac,bc,rfl,M2,by lia,h2,by lia⟩;split
  ·exact dr y.1
  ·exact dr y.2
def JT(c:MC prog w A s κ r P a b)(hk:fw st=κ)(M:MI r a b out ia ib)(h1:ia+1<a.size)(h2:ib<b.size)(hN:N<=ia+ib)(D:∀ c,HS r a b c->Q (.done c) st)(Y:∀ c,LY r a b N c->Q (.done c) st/\Q (.yield c) st):wpS (bq prog w) A E s (LV a b mg ac bc ia ib out) Q st:=by
 refine cx (aL (by lia) λp e=>cx (cC c.C hk c.pb (c.pa.at e) (by lia) (by lia) (λi j u v w=>c.hB i j (by lia) v (by lia)) λl Zv Dp Pm=>?_));have ra:=qV (r:=r) e;dsimp only;have lt:ib+l<b.size->R r a ia<=R r b (ib+l):=λz=>by have:=uB (Pm l (c9 _) (by lia));lia
 by_cases l0:l>0
 ·have M5:=MI.ER c.hA c.hB l M (by lia) λ_ i hi=>by have:=GR (Dp i hi);lia
  rw[if_pos l0];by_cases z:ib+l=b.size
  ·rw[if_pos (by simpa using z)];exact dr (D _ ⟨_,_,rfl,M5.O0 c.hA c.hB z⟩)
  ·rw[if_neg (by simpa using z)];exact Cm c M5 h1 (lt (by lia)) (by lia) (by lia) D Y
 ·rw[if_neg l0];obtain rfl:l=0:=by lia
  exact Cm c M h1 (lt h2) h2 hN D Y
def Dd(c:MC prog w A s κ r P a b)(hk:fw st=κ)(M:MI r a b out ia ib)(h1:ia+1<a.size)(lt:R r b ib<=R r a ia)(h2:ib<b.size)(hN:N<=ia+ib)(D:∀ c,HS r a b c->Q (.done c) st)(Y:∀ c,LY r a b N c->Q (.done c) st/\Q (.yield c) st):wpS (bq prog w) A E s (lo1 a b mg ac bc ia ib out) Q st:=by
 refine cx (aL h2 λp e=>?_);have M4:=M.p_ c.hA c.hB e λ_=>lt;by_cases z:ib+1=b.size
 ·rw[if_pos (by simpa using z)];exact dr (D _ ⟨_,_,rfl,M4.O0 c.hA c.hB z⟩)
 ·rw[if_neg (by simpa using z)];exact JT c hk M4 h1 (by lia) (by lia) D Y
def Jx(c:MC prog w A s κ r P a b)(hk:fw st=κ)(M:MI r a b out ia ib)(h1:ia+1<a.size)(h2:ib<b.size)(hN:N<=ia+ib)(D:∀ av,Mg st av->∀ c,HS r a b c->Q (.done c) av)(Y:∀ av,Mg st av->∀ c,LY r a b N c->Q (.done c) av/\Q (.yield c) av):wpS (bq prog w) A E s (Zu a b mg ac bc ia ib out) Q st:=by
 have g:=(Mg.refl st).set mg;refine cx (gJ ?_);refine cx (aL h2 λp e=>cx (cC c.C (g.kind.trans hk) c.pa (c.pb.at e) (by lia) (by lia) (λi j u v w=>c.hA i j (by lia) v (by lia)) λk hk1 Pp Sg=>?_));have rb:=qV (r:=r) e;dsimp only;have lt:ia+k<a.size->R r b ib<=R r a (ia+k):=λz=>by have:=xF (Sg k (c9 _) (by lia));lia
 by_cases k0:k>0
 ·have M3:=MI.EL c.hA c.hB k M (by lia) λ_ i hi=>by have:=Bq (Pp i hi);lia
  rw[if_pos k0];by_cases z:ia+k+1=a.size
  ·rw[if_pos (by simpa using z)];exact dr (D _ g _ ⟨_,_,rfl,c.last M3 z⟩)
  ·rw[if_neg (by simpa using z)];by_cases z2:ia+k=a.size
   ·rw[if_pos (by simpa using z2)];exact dr (D _ g _ ⟨_,_,rfl,M3.Pl c.hA c.hB z2⟩)
   ·rw[if_neg (by simpa using z2)];exact Dd c (g.kind.trans hk) M3 (by lia) (lt (by lia)) h2 (by lia) (D _ g) (Y _ g)
 ·rw[if_neg k0];obtain rfl:k=0:=by lia
  exact Dd c (g.kind.trans hk) M h1 (lt (by lia)) h2 hN (D _ g) (Y _ g)
def Jo(c:MC prog w A s κ r P a b)(M:MI r a b out ia ib)(h1:ia+1<a.size)(lt:R r b ib<=R r a ia)(h2:ib<b.size)(hN:N<=ia+ib+1)(D:∀ c,HS r a b c->Q (.done c) st)(Y:∀ c,LI r a b N c->Q (.done c) st/\Q (.yield c) st):wpS (bq prog w) A E s (loA a b mg bc ia ib out) Q st:=by
 refine cx (aL h2 λp e=>?_);have M2:=M.p_ c.hA c.hB e λ_=>lt;by_cases z:ib+1=b.size
 ·rw[if_pos (by simpa using z)];exact dr (D _ ⟨_,_,rfl,M2.O0 c.hA c.hB z⟩)
 ·rw[if_neg (by simpa using z)];have y:=Y _ ⟨_,_,_,0,bc+1,rfl,M2,h1,by lia,hN⟩;split
  ·exact dr y.1
  ·exact dr y.2
def Hr(c:MC prog w A s κ r P a b)(M:MI r a b out ia ib)(h1:ia+1<a.size)(lt:R r a ia<=R r b ib)(h2:ib<b.size)(hN:N<=ia+ib+1)(D:∀ c,HS r a b c->Q (.done c) st)(Y:∀ c,LI r a b N c->Q (.done c) st/\Q (.yield c) st):wpS (bq prog w) A E s (loB a b mg ac ia ib out) Q st:=by
 refine cx (aL (by lia) λp e=>?_);have M2:=M.qm c.hA c.hB e λ_=>lt;by_cases z:ia+1+1=a.size
 ·rw[if_pos (by simpa using z)];exact dr (D _ ⟨_,_,rfl,c.last M2 z⟩)
 ·rw[if_neg (by simpa using z)];have y:=Y _ ⟨_,_,_,ac+1,0,rfl,M2,by lia,h2,by lia⟩;split
  ·exact dr y.1
  ·exact dr y.2
def Hy(c:MC prog w A s κ r P a b)(hk:fw st=κ)(M:MI r a b out ia ib)(h1:ia+1<a.size)(h2:ib<b.size)(hN:N<=ia+ib+1)(D:∀ c,HS r a b c->Q (.done c) st)(Y:∀ c,LI r a b N c->Q (.done c) st/\Q (.yield c) st):wpS (bq prog w) A E s (loI a b mg x (none,out,ia,ib,ac,bc)) Q st:=by
 refine cx (aL h2 λpb eb=>cx (aL (show ia<a.size by lia) λpa ea=>cx (pX c.C hk (c.pb.at eb) (c.pa.at ea) ?_)));have rb:R r b ib=r pb.1:=qV eb;have ra:R r a ia=r pa.1:=qV ea;dsimp only;by_cases hw:r pb.1<r pa.1
 ·rw[if_pos (decide_eq_true hw)];exact Jo c M h1 (by lia) h2 hN D Y
 ·rw[if_neg (by simpa using hw)];exact Hr c M h1 (by lia) h2 hN D Y
def IW(c:MC prog w A s κ r P a b)(hk:fw st=κ)(M:MI r a b out ia ib)(h1:ia+1<a.size)(h2:ib<b.size)(hN:N<=ia+ib)(D:∀ av,Mg st av->∀ c,HS r a b c->Q (.done c) av)(Y:∀ av,Mg st av->∀ out ia ib mg,MI r a b out ia ib->ia+1<a.size->ib<b.size->N<=ia+ib->Q (.yield (none,out,ia,ib,mg)) av):wpS (bq prog w) A E s (loP a b mg (none,out,ia,ib,ac,bc)) Q st:=by
 refine cx (wpS_lift (wpAny_rule ⟨rfl,?_⟩));refine cx (v3 (sL (I:=λ_ c av=>Mg st av/\LY r a b N c) (Q:=λc av=>Mg st av/\(HS r a b c\/LY r a b N c)) ?step ?fin ⟨.refl st,_,_,_,_,_,_,rfl,M,h1,h2,hN⟩) ?post);case fin =>
  rintro c av ⟨hm,q⟩;exact⟨hm,.inr q⟩
 case step =>
  rintro y c1 EV _ _ ⟨hm,out,ia,ib,mg,ac,bc,rfl,M,h1,h2,hN⟩;unfold loG;split<;>exact Jx c (hm.kind.trans hk) M h1 h2 hN (λav g c q=>⟨hm.trans g,.inl q⟩) λav g c q=>⟨⟨hm.trans g,.inr q⟩,hm.trans g,q⟩
 case post =>
  rintro c av ⟨hm,⟨o,rest,rfl,hM⟩|⟨out,ia,ib,mg,ac,bc,rfl,M,h1,h2,hN⟩⟩
  ·exact dr (D _ hm _ ⟨_,_,rfl,hM⟩)
  ·exact cx (gJ (dr (Y _ (hm.set _) _ _ _ _ M h1 h2 hN)))
def Jj(c:MC prog w A s κ r P a b)(hk:fw st=κ)(M:MI r a b out ia ib)(h1:ia+1<a.size)(h2:ib<b.size)(hN:N<=ia+ib)(D:∀ av,Mg st av->∀ c,HS r a b c->Q (.done c) av)(Y:∀ av,Mg st av->∀ out ia ib mg,MI r a b out ia ib->ia+1<a.size->ib<b.size->N+1<=ia+ib->Q (.yield (none,out,ia,ib,mg)) av):wpS (bq prog w) A E s (loO a b x (none,out,ia,ib,mg)) Q st:=by
 refine cx (v3 (sL (I:=λy c av=>av=st/\LI r a b (N+y) c) (Q:=λc av=>av=st/\(HS r a b c\/LI r a b (N+1) c)) ?step ?fin ⟨rfl,_,_,_,_,_,rfl,M,h1,h2,hN⟩) ?post);case fin =>
  rintro c av ⟨rfl,o,ia',ib',ac,bc,rfl,M',q1,q2,q3⟩;exact⟨rfl,.inr ⟨_,_,_,_,_,rfl,M',q1,q2,by lia⟩⟩
 case step =>
  rintro y c1 EV _ hy ⟨rfl,o,ia',ib',ac,bc,rfl,M',q1,q2,q3⟩;exact Hy (N:=N+y+1) c hk M' q1 q2 (by lia) (λc q=>⟨rfl,.inl q⟩) λc q=>by obtain⟨o,ia,ib,ac,bc,rfl,M,h1,h2,h3⟩:=q;exact⟨⟨rfl,.inr ⟨_,_,_,_,_,rfl,M,h1,h2,by lia⟩⟩,rfl,_,_,_,_,_,rfl,M,h1,h2,by lia⟩
 case post =>
  rintro c1 av ⟨rfl,⟨o,rest,rfl,hM⟩|⟨o,ia,ib,ac,bc,rfl,M',q1,q2,q3⟩⟩
  ·exact dr (D _ (.refl _) _ ⟨_,_,rfl,hM⟩)
  ·exact IW c hk M' q1 q2 q3 D Y
def qZ{st:dP}{a b:Array bX}{Q:Array bX->dP->Prop}(C:sq prog w A s κ r P)(hk:fw st=κ)(Zw:AllP P a)(Zx:AllP P b)(hA:Up r a 0 a.size)(hB:Up r b 0 b.size)(na:1<=a.size)(nb:1<=b.size)(h0:R r b 0<=R r a 0) (hg:∀ j,j<b.size->R r b j<=R r a (a.size-1)) (h:∀ out av,bU r a b out->Mg st av->Q out av):wpS (bq prog w) A E s (uT a b) Q st:=by
 have c:MC prog w A s κ r P a b:=⟨C,Zw,Zx,hA,hB,λi hi=>AF h0 (hA 0 i (c9 _) (gd _) hi),hg⟩
 rw[u5];refine cx (wpS_lift (wpAny_rule ⟨rfl,?_⟩));refine cx (aL nb λy0 e0=>?_);have M1:MI r a b #[y0] 0 1:=(MI.start hA hB).p_ hA hB e0 λ_=>h0;by_cases c1:1=b.size
 ·rw[if_pos (by simpa using c1)];exact dr (h _ _ (M1.O0 hA hB c1) (.refl st))
 ·rw[if_neg (by simpa using c1)];by_cases c2:0+1=a.size
  ·rw[if_pos (by simpa using c2)];exact dr (h _ _ (c.last M1 c2) (.refl st))
  ·rw[if_neg (by simpa using c2)];refine cx (wpS_get ?_);refine cx (v3 (sL (I:=λx c av=>Mg st av/\∃ out ia ib mg,c=(none,out,ia,ib,mg)/\MI r a b out ia ib/\ia+1<a.size/\ib<b.size/\x+1<=ia+ib) (Q:=λc av=>Mg st av/\HS r a b c) ?step ?fin ⟨.refl st,_,_,_,_,rfl,M1,by lia,by lia,by lia⟩) ?post)
   case fin =>
    rintro c av ⟨_,out,ia,ib,mg,rfl,M,h1,h2,h3⟩;lia
   case post =>
    rintro c av ⟨hm,out,rest,rfl,hM⟩;exact dr (h out av hM hm)
   case step =>
    rintro x c1 EV _ hx ⟨y6,out,ia,ib,mg,rfl,M,h1,h2,h3⟩;exact Jj c (y6.kind.trans hk) M h1 h2 h3 (λav g c q=>⟨y6.trans g,q⟩) λav g out ia ib mg M h1 h2 h3=>⟨y6.trans g,_,_,_,_,rfl,M,h1,h2,h3⟩
end
abbrev Ge(r:ah->Int)(x y:bX):Prop:=r y.1<=r x.1
structure MH(r:ah->Int)(a b out:Array bX)(na nb:Nat):Prop where
 ha:na<=a.size
 hb:nb<=b.size
 perm:out.toList.Perm (a.toList.drop na++b.toList.drop nb)
 down:out.toList.Pairwise (Ge r)
 ga:∀ x∈out.toList,∀ i,i<na->R r a i<=r x.1
 gb:∀ x∈out.toList,∀ j,j<nb->R r b j<=r x.1
section
variable {r:ah->Int}{a b out:Array bX}{na nb:Nat}
def qF{α:Type}{l:List α}{i:Nat}{x:α}(h0:0<i)(h:l[i-1]? = some x):l.drop (i-1)=x :: l.drop i:=by obtain⟨hi,e⟩:=ng.mp h;rw[A6 hi,e,show i-1+1=i by exact Nat.sub_add_cancel ‹_›]
def MH.qm(M:MH r a b out na nb)(hA:Up r a 0 a.size)(hB:Up r b 0 b.size)(h0:0<na)(e:a[na-1]? = some y)(hl:0<nb->R r b (nb-1)<=R r a (na-1)):MH r a b (out.push y) (na-1) nb:=by
 have ey:=qV (r:=r) e;have ha:=M.ha;have hb:=M.hb;refine⟨by lia,M.hb,?_,?_,?_,?_⟩
 ·rw[sN,qF h0 (by simpa using e)];exact(M.perm.append_right [y]).trans VN
 ·rw[sN,Tp];refine⟨M.down,by simp,λx hx z hz=>?_⟩;have:z=y:=by simpa using hz
  subst this;show r z.1<=r x.1;rw[<- ey];exact M.ga x hx (na-1) (by lia)
 ·intro x hx i hi;rw[sN] at hx;rcases eR.mp hx with hx|hx
  ·exact M.ga x hx i (by lia)
  ·have:x=y:=by simpa using hx
   subst this;rw[<- ey];exact hA i (na-1) (gd _) (by lia) (by lia)
 ·intro x hx j hj;rw[sN] at hx;rcases eR.mp hx with hx|hx
  ·exact M.gb x hx j hj
  ·have:x=y:=by simpa using hx
   subst this;rw[<- ey];exact AF (hB j (nb-1) (gd _) (by lia) (by lia)) (hl (by lia))
def MH.p_(M:MH r a b out na nb)(hA:Up r a 0 a.size)(hB:Up r b 0 b.size)(h0:0<nb)(e:b[nb-1]? = some y)(hl:0<na->R r a (na-1)<=R r b (nb-1)):MH r a b (out.push y) na (nb-1):=by
 have ey:=qV (r:=r) e;have ha:=M.ha;have hb:=M.hb;refine⟨M.ha,by lia,?_,?_,?_,?_⟩
 ·rw[sN,qF h0 (by simpa using e)];refine(M.perm.append_right [y]).trans ?_;rw[pE];exact List.Perm.append_left _ VN
 ·rw[sN,Tp];refine⟨M.down,by simp,λx hx z hz=>?_⟩;have:z=y:=by simpa using hz
  subst this;show r z.1<=r x.1;rw[<- ey];exact M.gb x hx (nb-1) (by lia)
 ·intro x hx i hi;rw[sN] at hx;rcases eR.mp hx with hx|hx
  ·exact M.ga x hx i hi
  ·have:x=y:=by simpa using hx
   subst this;rw[<- ey];exact AF (hA i (na-1) (gd _) (by lia) (by lia)) (hl (by lia))
 ·intro x hx j hj;rw[sN] at hx;rcases eR.mp hx with hx|hx
  ·exact M.gb x hx j (by lia)
  ·have:x=y:=by simpa using hx
   subst this;rw[<- ey];exact hB j (nb-1) (gd _) (by lia) (by lia)
def jQ{xs:Array bX}{i n:Nat}(h:i<n)(hn:n<=xs.size):(xs.extract i n).reverse = #[xs[n-1]'(by lia)]++(xs.extract i (n-1)).reverse:=by
 obtain⟨k,rfl⟩:∃ k,n=i+(k+1):=⟨n-1-i,by lia⟩
 have e3:i+(k+1)-1=i+k:=by rfl
 simp only[e3];rw[dZ (by assumption),Array.reverse_push]
theorem MH.EL(hA:Up r a 0 a.size)(hB:Up r b 0 b.size):∀ (k:Nat) {out:Array bX} {na p:Nat},MH r a b out na nb->p+k=na->(0<nb->∀ i,p<=i->i<na->R r b (nb-1)<=R r a i)->MH r a b (out++(a.extract p na).reverse) p nb
 |0,out,na,p,M,h1,h2=>by
  have:a.extract p na = #[]:=Rm (by simp only[Jn];lia);have e:na=p:=by lia
  subst e;rw[this];simpa using M
 |k+1,out,na,p,M,h1,h2=>by have ha:=M.ha;have e:a[na-1]? = some (a[na-1]'(by lia)):=getElem?_pos a (na-1) (by lia);have q:=M.qm hA hB (by lia) e λhb=>h2 hb _ (by lia) (by lia);have z:=MH.EL hA hB k q (by lia) λhb i vk sj=>h2 hb i vk (by lia);rw[jQ (by lia) ha,<- Rn];simpa using z
theorem MH.ER(hA:Up r a 0 a.size)(hB:Up r b 0 b.size):∀ (k:Nat) {out:Array bX} {nb p:Nat},MH r a b out na nb->p+k=nb->(0<na->∀ i,p<=i->i<nb->R r a (na-1)<=R r b i)->MH r a b (out++(b.extract p nb).reverse) na p
 |0,out,nb,p,M,h1,h2=>by
  have:b.extract p nb = #[]:=Rm (by simp only[Jn];lia);have e:nb=p:=by lia
  subst e;rw[this];simpa using M
 |k+1,out,nb,p,M,h1,h2=>by have hb:=M.hb;have e:b[nb-1]? = some (b[nb-1]'(by lia)):=getElem?_pos b (nb-1) (by lia);have q:=M.p_ hA hB (by lia) e λha=>h2 ha _ (by lia) (by lia);have z:=MH.ER hA hB k q (by lia) λha i vk sj=>h2 ha i vk (by lia);rw[jQ (by lia) hb,<- Rn];simpa using z
def MH.whole(M:MH r a b out 0 0):bU r a b out.reverse:=by
 refine⟨?_,?_⟩
 ·have h:=M.perm;rw[Array.toList_reverse];exact(List.reverse_perm _).trans h
 ·rw[Array.toList_reverse,List.pairwise_reverse];exact M.down
def oh(x y:Array bX):(x++y.reverse).reverse=y++x.reverse:=by apply TV.mp;simp
def MH.Pl(M:MH r a b out na nb)(hA:Up r a 0 a.size)(hB:Up r b 0 b.size)(e:na=0):bU r a b (a.extract 0 na++b.extract 0 nb++out.reverse):=by
 subst e;have z:=MH.ER hA hB nb (p:=0) M (by exact Rk ..) λha=>absurd ha (AB _);have q:=z.whole;rw[oh] at q;have e2:a.extract 0 0 = #[]:=by simp
 rw[e2,Array.empty_append];exact q
def MH.O0(M:MH r a b out na nb)(hA:Up r a 0 a.size)(hB:Up r b 0 b.size)(e:nb=0):bU r a b (a.extract 0 na++b.extract 0 nb++out.reverse):=by
 subst e;have z:=MH.EL hA hB na (p:=0) M (by exact Rk ..) λhb=>absurd hb (AB _);have q:=z.whole;rw[oh] at q;have e2:b.extract 0 0 = #[]:=by simp
 rw[e2,V7];exact q
def MH.tD(M:MH r a b out na nb)(hA:Up r a 0 a.size)(hB:Up r b 0 b.size)(e:nb=1)(hl:∀ i,i<a.size->R r b 0<=R r a i):bU r a b (b.extract 0 nb++a.extract 0 na++out.reverse):=by subst e;have ha:=M.ha;have z:=MH.EL hA hB na (p:=0) M (by exact Rk ..) λ_ i _ hi=>hl i (by lia);have z2:=MH.ER hA hB 1 (p:=0) z (by exact Rk ..) λh=>absurd h (AB _);have q:=z2.whole;rw[oh,oh] at q;rw[Rn];exact q
def MH.start:MH r a b #[] a.size b.size:=⟨c9 _,c9 _,by simp,by simp,λx hx=>by simp at hx,λx hx=>by simp at hx⟩
end
abbrev S1:=Option (Array bX) × Nat × Nat × Array bX × Nat
abbrev S2:=Option (Array bX) × Nat × Nat × Array bX × Nat × Nat
abbrev S3:=Option (Array bX) × Nat × Nat × Array bX × Nat × Nat × Nat
def GV(a b out:Array bX)(na nb:Nat):Array bX:=a.extract 0 na++b.extract 0 nb++out.reverse
def UQ(a b out:Array bX)(na nb:Nat):Array bX:=b.extract 0 nb++a.extract 0 na++out.reverse
def Zy(a b:Array bX)(mg ac bc na nb:Nat)(out:Array bX):SM (ForInStep S3):=elem' a (na-1) >>= λp =>
 if (na-1 == 0)=true then pure (.done (some (GV a b (out.push p) (na-1) nb),na-1,nb,out.push p,mg,ac,bc))
 else if (decide (ac<7) && decide (bc<7))=true then pure (.done (none,na-1,nb,out.push p,mg,ac,bc)) else pure (.yield (none,na-1,nb,out.push p,mg,ac,bc))
def sj(a b:Array bX)(mg ac bc na nb:Nat)(out:Array bX):SM (ForInStep S3):=elem' a (na-1) >>= λp=>jV true p b 0 nb (nb-1) >>= λx=>match x with
 |some k=>if nb-k>0 then
   if (k == 1)=true then pure (.done (some (UQ a b (out++(b.extract k nb).reverse) na k),na,k,out++(b.extract k nb).reverse,mg,ac,nb-k))
   else if (k == 0)=true then pure (.done (some (GV a b (out++(b.extract k nb).reverse) na k),na,k,out++(b.extract k nb).reverse,mg,ac,nb-k))
   else Zy a b mg ac (nb-k) na k (out++(b.extract k nb).reverse)
  else Zy a b mg ac (nb-k) na nb out
 |_=>pure (.done (some (GV a b out na nb),na,nb,out,mg,ac,bc))
def vk(a b:Array bX)(mg ac bc na nb:Nat)(out:Array bX):SM (ForInStep S3):=elem' b (nb-1) >>= λp =>
 if (nb-1 == 1)=true then pure (.done (some (UQ a b (out.push p) na (nb-1)),na,nb-1,out.push p,mg,ac,bc)) else sj a b mg ac bc na (nb-1) (out.push p)
def BG(a b:Array bX)(mg ac bc na nb:Nat)(out:Array bX):SM (ForInStep S3):=bz mg >>= λ_=>elem' b (nb-1) >>= λp=>jV false p a 0 na (na-1) >>= λx=>match x with
 |some k=>if na-k>0 then
   if (k == 0)=true then pure (.done (some (GV a b (out++(a.extract k na).reverse) k nb),k,nb,out++(a.extract k na).reverse,mg,na-k,bc))
   else vk a b mg (na-k) bc k nb (out++(a.extract k na).reverse)
  else vk a b mg (na-k) bc na nb out
 |_=>pure (.done (some (GV a b out na nb),na,nb,out,mg,ac,bc))
def hiG(a b:Array bX)(_:Nat)(s:S3):SM (ForInStep S3) :=
 if s.2.2.2.2.1>1 then BG a b (s.2.2.2.2.1-1) s.2.2.2.2.2.1 s.2.2.2.2.2.2 s.2.1 s.2.2.1 s.2.2.2.1 else BG a b s.2.2.2.2.1 s.2.2.2.2.2.1 s.2.2.2.2.2.2 s.2.1 s.2.2.1 s.2.2.2.1
def hiA(a b:Array bX)(mg ac na nb:Nat)(out:Array bX):SM (ForInStep S2):=elem' a (na-1) >>= λp =>
 if (na-1 == 0)=true then pure (.done (some (GV a b (out.push p) (na-1) nb),na-1,nb,out.push p,ac+1,0))
 else if ac+1 >= mg then pure (.done (none,na-1,nb,out.push p,ac+1,0)) else pure (.yield (none,na-1,nb,out.push p,ac+1,0))
def hiB(a b:Array bX)(mg bc na nb:Nat)(out:Array bX):SM (ForInStep S2):=elem' b (nb-1) >>= λp =>
 if (nb-1 == 1)=true then pure (.done (some (UQ a b (out.push p) na (nb-1)),na,nb-1,out.push p,0,bc+1))
 else if bc+1 >= mg then pure (.done (none,na,nb-1,out.push p,0,bc+1)) else pure (.yield (none,na,nb-1,out.push p,0,bc+1))
def hiI(a b:Array bX)(mg:Nat)(_:Nat)(s:S2):SM (ForInStep S2):=elem' b (s.2.2.1-1) >>= λpb=>elem' a (s.2.1-1) >>= λpa=>lt' pb pa >>= λx=>match x with
 |some w=>if w=true then hiA a b mg s.2.2.2.2.1 s.2.1 s.2.2.1 s.2.2.2.1 else hiB a b mg s.2.2.2.2.2 s.2.1 s.2.2.1 s.2.2.2.1
 |_=>pure (.done (some (GV a b s.2.2.2.1 s.2.1 s.2.2.1),s.2.1,s.2.2.1,s.2.2.2.1,s.2.2.2.2.1,s.2.2.2.2.2))
def hiP (a b:Array bX) (mg:Nat) (t:S2):SM (ForInStep S1):=(liftM (rule "list.sort.gallop"):SM Unit) >>= λ_ =>
 forIn [:a.size+b.size] ((none,t.2.1,t.2.2.1,t.2.2.2.1,mg+1,t.2.2.2.2.1,t.2.2.2.2.2):S3) (hiG a b) >>= λu=>match u.1 with
 |some r=>pure (.done (some r,u.2.1,u.2.2.1,u.2.2.2.1,u.2.2.2.2.1))
 |none=>bz (u.2.2.2.2.1+1) >>= λ_=>pure (.yield (none,u.2.1,u.2.2.1,u.2.2.2.1,u.2.2.2.2.1+1))
def hiO(a b:Array bX)(_:Nat)(s:S1):SM (ForInStep S1):=forIn [:a.size+b.size] ((none,s.2.1,s.2.2.1,s.2.2.2.1,0,0):S2) (hiI a b s.2.2.2.2) >>= λt=>match t.1 with
 |some r=>pure (.done (some r,t.2.1,t.2.2.1,t.2.2.2.1,s.2.2.2.2))
 |none=>hiP a b s.2.2.2.2 t
def hiM (a b:Array bX):SM (Array bX):=(liftM (rule "list.sort.merge-hi"):SM Unit) >>= λ_=>elem' a (a.size-1) >>= λy =>
 if (a.size-1 == 0)=true then pure (GV a b #[y] (a.size-1) b.size)
 else if (b.size == 1)=true then pure (UQ a b #[y] (a.size-1) b.size)
 else get >>= λst=>forIn [:a.size+b.size] ((none,a.size-1,b.size,#[y],gallopOf st):S1) (hiO a b) >>= λt=>match t.1 with
 |some r=>pure r
 |none=>(liftM (unsupported (α:=Array bX) "internal:list.sort.merge-bound"):SM (Array bX))
set_option smartUnfolding false in
def vL:uE=hiM:=rfl
section
variable {prog:cq}{w:cS}{A:ft}{E:ah->aE->Prop}{s:aE}{κ:vT}{r:ah->Int}{P:ah->Prop}{a b out:Array bX}{mg ac bc na nb N:Nat}{st:dP}{Q:ForInStep S3->dP->Prop}
def HD(r:ah->Int)(a b:Array bX)(Q:ForInStep S3->dP->Prop)(st:dP):Prop:=∀ o rest,bU r a b o->Q (.done (some o,rest)) st
def HY(r:ah->Int)(a b:Array bX)(N:Nat)(Q:ForInStep S3->dP->Prop)(st:dP):Prop :=
 ∀ o na nb mg ac bc,MH r a b o na nb->1<=na->2<=nb->na+nb<=N->Q (.done (none,na,nb,o,mg,ac,bc)) st/\Q (.yield (none,na,nb,o,mg,ac,bc)) st
def CV(c:MC prog w A s κ r P a b)(M:MH r a b out na nb)(h1:0<na)(lt:R r b (nb-1)<=R r a (na-1))(h2:2<=nb)(hN:na+nb<=N)(D:HD r a b Q st)(Y:HY r a b N Q st):wpS (bq prog w) A E s (Zy a b mg ac bc na nb out) Q st:=by
 have ha:=M.ha;refine cx (aL (by lia) λp e=>?_);have M2:=M.qm c.hA c.hB h1 e λ_=>lt;by_cases z:na-1=0
 ·rw[if_pos (by simpa using z)];exact dr (D _ _ (M2.Pl c.hA c.hB z))
 ·rw[if_neg (by simpa using z)];have y:=Y _ _ _ mg ac bc M2 (by lia) h2 (by lia);split
  ·exact dr y.1
  ·exact dr y.2
def JK(c:MC prog w A s κ r P a b)(hk:fw st=κ)(M:MH r a b out na nb)(h1:0<na)(h2:2<=nb)(hN:na+nb<=N)(D:HD r a b Q st)(Y:HY r a b N Q st):wpS (bq prog w) A E s (sj a b mg ac bc na nb out) Q st:=by
 have ha:=M.ha;have hb:=M.hb;refine cx (aL (by lia) λp e=>cx (cC c.C hk c.pb (c.pa.at e) (by lia) (by lia) (λi j u v w=>c.hB i j u v (by lia)) λl Zv Dp Pm=>?_));have ra:=qV (r:=r) e;dsimp only;have lt:0<l->R r b (l-1)<=R r a (na-1):=λz=>by have:=GR (Dp (l-1) (by exact Nat.sub_lt ‹_› Nat.one_pos));rw[TC] at this;lia
 by_cases l0:nb-l>0
 ·have M5:=MH.ER c.hA c.hB (nb-l) (p:=l) M (by exact Rh ‹_›) λ_ i vk sj=>by have:=uB (Pm i vk sj);rw[TC] at this;lia
  rw[if_pos l0];by_cases z4:l=1
  ·rw[if_pos (by simpa using z4)];exact dr (D _ _ (M5.tD c.hA c.hB z4 c.hl))
  ·rw[if_neg (by simpa using z4)];by_cases z6:l=0
   ·rw[if_pos (by simpa using z6)];exact dr (D _ _ (M5.O0 c.hA c.hB z6))
   ·rw[if_neg (by simpa using z6)];exact CV c M5 h1 (lt (by lia)) (by lia) (by lia) D Y
 ·rw[if_neg l0];obtain rfl:l=nb:=by lia
  exact CV c M h1 (lt (by exact VZ ‹_›)) h2 hN D Y
def Ci(c:MC prog w A s κ r P a b)(hk:fw st=κ)(M:MH r a b out na nb)(h1:0<na)(h2:2<=nb)(lt:R r a (na-1)<=R r b (nb-1))(hN:na+nb<=N)(D:HD r a b Q st)(Y:HY r a b N Q st):wpS (bq prog w) A E s (vk a b mg ac bc na nb out) Q st:=by
 have hb:=M.hb;refine cx (aL (by lia) λp e=>?_);have M4:=M.p_ c.hA c.hB (by exact VZ ‹_›) e λ_=>lt;by_cases z:nb-1=1
 ·rw[if_pos (by simpa using z)];exact dr (D _ _ (M4.tD c.hA c.hB z c.hl))
 ·rw[if_neg (by simpa using z)];exact JK c hk M4 h1 (by lia) (by lia) D Y
def HW(c:MC prog w A s κ r P a b)(hk:fw st=κ)(M:MH r a b out na nb)(h1:0<na)(h2:2<=nb)(hN:na+nb<=N)(D:∀ av,Mg st av->HD r a b Q av)(Y:∀ av,Mg st av->HY r a b N Q av):wpS (bq prog w) A E s (BG a b mg ac bc na nb out) Q st:=by
 have ha:=M.ha;have hb:=M.hb;have g:=(Mg.refl st).set mg;refine cx (gJ ?_);refine cx (aL (by lia) λp e=>cx (cC c.C (g.kind.trans hk) c.pa (c.pb.at e) (by lia) (by exact Nat.sub_lt ‹_› Nat.one_pos) (λi j u v w=>c.hA i j u v (by lia)) λk hk1 Pp Sg=>?_));have rb:=qV (r:=r) e;dsimp only;have lt:0<k->R r a (k-1)<=R r b (nb-1):=λz=>by have:=Bq (Pp (k-1) (by exact Nat.sub_lt ‹_› Nat.one_pos));rw[TC] at this;lia
 by_cases k0:na-k>0
 ·have M3:=MH.EL c.hA c.hB (na-k) (p:=k) M (by exact Rh ‹_›) λ_ i vk sj=>by have:=xF (Sg i vk sj);rw[TC] at this;lia
  rw[if_pos k0];by_cases z:k=0
  ·rw[if_pos (by simpa using z)];exact dr (D _ g _ _ (M3.Pl c.hA c.hB z))
  ·rw[if_neg (by simpa using z)];exact Ci c (g.kind.trans hk) M3 (by lia) h2 (lt (by lia)) (by lia) (D _ g) (Y _ g)
 ·rw[if_neg k0];obtain rfl:k=na:=by lia
  exact Ci c (g.kind.trans hk) M h1 h2 (lt h1) hN (D _ g) (Y _ g)
def HI(r:ah->Int)(a b:Array bX)(N:Nat)(c:S2):Prop:=∃ na nb out ac bc,c=(none,na,nb,out,ac,bc)/\MH r a b out na nb/\1<=na/\2<=nb/\na+nb<=N
def JZ{Q:ForInStep S2->dP->Prop}(c:MC prog w A s κ r P a b)(M:MH r a b out na nb)(h1:0<na)(lt:R r b (nb-1)<=R r a (na-1))(h2:2<=nb)(hN:na+nb<=N+1)(D:∀ c,HS r a b c->Q (.done c) st)(Y:∀ c,HI r a b N c->Q (.done c) st/\Q (.yield c) st):wpS (bq prog w) A E s (hiA a b mg ac na nb out) Q st:=by
 have ha:=M.ha;refine cx (aL (by lia) λp e=>?_);have M2:=M.qm c.hA c.hB h1 e λ_=>lt;by_cases z:na-1=0
 ·rw[if_pos (by simpa using z)];exact dr (D _ ⟨_,_,rfl,M2.Pl c.hA c.hB z⟩)
 ·rw[if_neg (by simpa using z)];have y:=Y _ ⟨_,_,_,ac+1,0,rfl,M2,by lia,h2,by lia⟩;split
  ·exact dr y.1
  ·exact dr y.2
def HB{Q:ForInStep S2->dP->Prop}(c:MC prog w A s κ r P a b)(M:MH r a b out na nb)(h1:0<na)(lt:R r a (na-1)<=R r b (nb-1))(h2:2<=nb)(hN:na+nb<=N+1)(D:∀ c,HS r a b c->Q (.done c) st)(Y:∀ c,HI r a b N c->Q (.done c) st/\Q (.yield c) st):wpS (bq prog w) A E s (hiB a b mg bc na nb out) Q st:=by
 have hb:=M.hb;refine cx (aL (by lia) λp e=>?_);have M2:=M.p_ c.hA c.hB (by exact VZ ‹_›) e λ_=>lt;by_cases z:nb-1=1
 ·rw[if_pos (by simpa using z)];exact dr (D _ ⟨_,_,rfl,M2.tD c.hA c.hB z c.hl⟩)
 ·rw[if_neg (by simpa using z)];have y:=Y _ ⟨_,_,_,0,bc+1,rfl,M2,h1,by lia,by lia⟩;split
  ·exact dr y.1
  ·exact dr y.2
def Ia{Q:ForInStep S2->dP->Prop}{x:Nat}(c:MC prog w A s κ r P a b)(hk:fw st=κ)(M:MH r a b out na nb)(h1:0<na)(h2:2<=nb)(hN:na+nb<=N+1)(D:∀ c,HS r a b c->Q (.done c) st)(Y:∀ c,HI r a b N c->Q (.done c) st/\Q (.yield c) st):wpS (bq prog w) A E s (hiI a b mg x (none,na,nb,out,ac,bc)) Q st:=by
 have ha:=M.ha;have hb:=M.hb;refine cx (aL (show nb-1<b.size by lia) λpb eb=>cx (aL (show na-1<a.size by lia) λpa ea=>cx (pX c.C hk (c.pb.at eb) (c.pa.at ea) ?_)));have rb:R r b (nb-1)=r pb.1:=qV eb;have ra:R r a (na-1)=r pa.1:=qV ea;dsimp only;by_cases hw:r pb.1<r pa.1
 ·rw[if_pos (decide_eq_true hw)];exact JZ c M h1 (by lia) h2 hN D Y
 ·rw[if_neg (by simpa using hw)];exact HB c M h1 (by lia) h2 hN D Y
def Hw{Q:ForInStep S1->dP->Prop}(c:MC prog w A s κ r P a b)(hk:fw st=κ)(M:MH r a b out na nb)(h1:0<na)(h2:2<=nb)(hN:na+nb<=N)(D:∀ av,Mg st av->∀ c,HS r a b c->Q (.done c) av)(Y:∀ av,Mg st av->∀ out na nb mg,MH r a b out na nb->1<=na->2<=nb->na+nb<=N->Q (.yield (none,na,nb,out,mg)) av):wpS (bq prog w) A E s (hiP a b mg (none,na,nb,out,ac,bc)) Q st:=by
 refine cx (wpS_lift (wpAny_rule ⟨rfl,?_⟩));refine cx (v3 (sL (I:=λ_ c av=>Mg st av/\∃ na nb out mg ac bc,c=(none,na,nb,out,mg,ac,bc)/\MH r a b out na nb/\1<=na/\2<=nb/\na+nb<=N) (Q:=λc av=>Mg st av/\(HS r a b c\/∃ na nb out mg ac bc,c=(none,na,nb,out,mg,ac,bc)/\MH r a b out na nb/\1<=na/\2<=nb/\na+nb<=N)) ?step ?fin ⟨.refl st,_,_,_,_,_,_,rfl,M,h1,h2,hN⟩) ?post)
 case fin =>
  rintro c av ⟨hm,q⟩;exact⟨hm,.inr q⟩
 case step =>
  rintro y c1 EV _ _ ⟨hm,na,nb,out,mg,ac,bc,rfl,M,h1,h2,hN⟩;unfold hiG;split<;>exact HW c (hm.kind.trans hk) M h1 h2 hN (λav g o rest hM=>⟨hm.trans g,.inl ⟨o,rest,rfl,hM⟩⟩) λav g o na nb mg ac bc M h1 h2 hN=>⟨⟨hm.trans g,.inr ⟨_,_,_,_,_,_,rfl,M,h1,h2,hN⟩⟩,hm.trans g,_,_,_,_,_,_,rfl,M,h1,h2,hN⟩
 case post =>
  rintro c av ⟨hm,⟨o,rest,rfl,hM⟩|⟨na,nb,out,mg,ac,bc,rfl,M,h1,h2,hN⟩⟩
  ·exact dr (D _ hm _ ⟨_,_,rfl,hM⟩)
  ·exact cx (gJ (dr (Y _ (hm.set _) _ _ _ _ M h1 h2 hN)))
def Ih{Q:ForInStep S1->dP->Prop}{x:Nat}(c:MC prog w A s κ r P a b)(hk:fw st=κ)(M:MH r a b out na nb)(h1:0<na)(h2:2<=nb)(hN:na+nb<=N+1)(D:∀ av,Mg st av->∀ c,HS r a b c->Q (.done c) av)(Y:∀ av,Mg st av->∀ out na nb mg,MH r a b out na nb->1<=na->2<=nb->na+nb<=N->Q (.yield (none,na,nb,out,mg)) av):wpS (bq prog w) A E s (hiO a b x (none,na,nb,out,mg)) Q st:=by
 have hb:=M.hb;refine cx (v3 (sL (I:=λy c av=>av=st/\HI r a b (N+1-y) c) (Q:=λc av=>av=st/\(HS r a b c\/HI r a b N c)) ?step ?fin ⟨rfl,_,_,_,_,_,rfl,M,h1,h2,hN⟩) ?post);case fin =>
  rintro c av ⟨rfl,na',rg,o,ac,bc,rfl,M',q1,q2,q3⟩;exact⟨rfl,.inr ⟨_,_,_,_,_,rfl,M',q1,q2,by lia⟩⟩
 case step =>
  rintro y c1 EV _ hy ⟨rfl,na',rg,o,ac,bc,rfl,M',q1,q2,q3⟩;exact Ia (N:=N-y) c hk M' q1 q2 (by lia) (λc q=>⟨rfl,.inl q⟩) λc q=>by obtain⟨na,nb,o,ac,bc,rfl,M,h1,h2,h3⟩:=q;exact⟨⟨rfl,.inr ⟨_,_,_,_,_,rfl,M,h1,h2,by lia⟩⟩,rfl,_,_,_,_,_,rfl,M,h1,h2,by lia⟩
 case post =>
  rintro c1 av ⟨rfl,⟨o,rest,rfl,hM⟩|⟨na,nb,o,ac,bc,rfl,M',q1,q2,q3⟩⟩
  ·exact dr (D _ (.refl _) _ ⟨_,_,rfl,hM⟩)
  ·exact Hw c hk M' q1 q2 q3 D Y
def qR{st:dP}{a b:Array bX}{Q:Array bX->dP->Prop}(C:sq prog w A s κ r P)(hk:fw st=κ)(Zw:AllP P a)(Zx:AllP P b)(hA:Up r a 0 a.size)(hB:Up r b 0 b.size)(na:1<=a.size)(nb:1<=b.size)(h0:R r b 0<=R r a 0) (hg:∀ j,j<b.size->R r b j<=R r a (a.size-1)) (h:∀ out av,bU r a b out->Mg st av->Q out av):wpS (bq prog w) A E s (uE a b) Q st:=by
 have c:MC prog w A s κ r P a b:=⟨C,Zw,Zx,hA,hB,λi hi=>AF h0 (hA 0 i (c9 _) (gd _) hi),hg⟩
 rw[vL];refine cx (wpS_lift (wpAny_rule ⟨rfl,?_⟩));refine cx (aL (by lia) λy0 e0=>?_);have M1:MH r a b #[y0] (a.size-1) b.size:=MH.start.qm hA hB na e0 λ_=>hg _ (by lia);by_cases c1:a.size-1=0
 ·rw[if_pos (by simpa using c1)];exact dr (h _ _ (M1.Pl hA hB c1) (.refl st))
 ·rw[if_neg (by simpa using c1)];by_cases c2:b.size=1
  ·rw[if_pos (by simpa using c2)];exact dr (h _ _ (M1.tD hA hB c2 c.hl) (.refl st))
  ·rw[if_neg (by simpa using c2)];refine cx (wpS_get ?_);refine cx (v3 (sL (I:=λx c av=>Mg st av/\∃ na nb out mg,c=(none,na,nb,out,mg)/\MH r a b out na nb/\1<=na/\2<=nb/\na+nb<=a.size+b.size-x) (Q:=λc av=>Mg st av/\HS r a b c) ?step ?fin ⟨.refl st,_,_,_,_,rfl,M1,by lia,by lia,by lia⟩) ?post)
   case fin =>
    rintro c av ⟨_,na,nb,out,mg,rfl,M,h1,h2,h3⟩;lia
   case post =>
    rintro c av ⟨hm,out,rest,rfl,hM⟩;exact dr (h out av hM hm)
   case step =>
    rintro x c1 EV _ hx ⟨y6,na,nb,out,mg,rfl,M,h1,h2,h3⟩;exact Ih c (y6.kind.trans hk) M h1 h2 (by lia) (λav g c q=>⟨y6.trans g,q⟩) λav g out na nb mg M h1 h2 h3=>⟨y6.trans g,_,_,_,_,rfl,M,h1,h2,h3⟩
end
def wr(p:Nat)(m:List bX)(n:Nat)(xs:Array bX):Array bX:=(m.zipIdx n).foldl (λa (q:bX × Nat)=>a.setIfInBounds (p+q.2) q.1) xs
theorem wY(p:Nat):∀ (m:List bX) (n:Nat) (xs:Array bX),p+n+m.length<=xs.size->∀ k:Nat,(wr p m n xs)[k]? = if p+n<=k/\k<p+n+m.length then m[k-(p+n)]? else xs[k]?
 |[],n,xs,h,k=>by rw[if_neg (by simp only[Tx];lia)];rfl
 |q :: m,n,xs,h,k=>by
  have ih:=wY p m (n+1) (xs.setIfInBounds (p+n) q) (by rw[Array.size_setIfInBounds];simp only[jv] at h;lia) k;have e:wr p (q :: m) n xs=wr p m (n+1) (xs.setIfInBounds (p+n) q):=by unfold wr;rw[List.zipIdx_cons,NJ]
  simp only[jv] at h ⊢;rw[e,ih];by_cases h1:p+(n+1)<=k/\k<p+(n+1)+m.length
  ·rw[if_pos h1,if_pos (by lia),show k-(p+n)=(k-(p+(n+1)))+1 by lia,List.getElem?_cons_succ]
  ·rw[if_neg h1];by_cases h2:k=p+n
   ·subst h2;rw[if_pos (by lia),Nat.sub_self,List.getElem?_cons_zero,Array.getElem?_setIfInBounds_self_of_lt (by lia)]
   ·rw[if_neg (by lia),Array.getElem?_setIfInBounds_ne (by lia)]
def Hj(h:p+m.length<=xs.size):(wr p m 0 xs).toList=xs.toList.take p++m++xs.toList.drop (p+m.length):=by
 have hl:xs.toList.length=xs.size:=by simp
 apply VW;intro k;have e:=wY p m 0 xs h k;rw[TF] at e;rw[CC,e];by_cases h1:k<p
 ·rw[if_neg (by lia),pE,IQ (by rw[mB];lia),List.getElem?_take_of_lt h1,CC]
 ·by_cases h2:k<p+m.length
  ·rw[if_pos (by lia),pE,D1 (by rw[mB];lia),mB,show min p xs.toList.length=p by lia,IQ (by lia)]
  ·rw[if_neg (by lia),pE,D1 (by rw[mB];lia),mB,show min p xs.toList.length=p by lia,D1 (by lia),List.getElem?_drop,
    show p+m.length+(k-p-m.length)=k by lia,CC]
def JC{p q:Nat}{xs:Array bX}(h:p<=q)(h2:q<=xs.size):xs.toList=xs.toList.take p++(xs.extract p q).toList++xs.toList.drop q:=by
 rw[V6,VJ];have e1:xs.toList.take p++(xs.toList.drop p).take (q-p)=xs.toList.take q:=by rw[<- Q9 p (xs.toList.take q),List.take_take,List.drop_take,Nat.min_eq_left h]
 rw[e1,Q9]
def Ei{p q:Nat}{m:List bX}{xs:Array bX}(h:p<=q)(h2:q<=xs.size)(hm:m.Perm (xs.extract p q).toList):(wr p m 0 xs).Perm xs:=by
 have hl:m.length=q-p:=by rw[hm.length_eq];simp;lia
 rw[V4,Hj (by lia),show p+m.length=q by lia];have e:=JC h h2;exact(List.Perm.append_right _ (List.Perm.append_left _ hm)).trans (by rw[<- e])
def Runs(r:ah->Int)(xs:Array bX):List (Nat × Nat × Nat)->Nat->Nat->Prop
 |[],a,b=>a=b
 | (s,n,_) :: rest,a,b=>s=a/\1<=n/\Up r xs s (s+n)/\Runs r xs rest (s+n) b
section
variable {r:ah->Int}{xs ys:Array bX}
theorem Runs.le:∀ {ps:List (Nat × Nat × Nat)} {a b:Nat},Runs r xs ps a b->a+ps.length<=b
 |[],a,b,h=>by simp only[Runs] at h;simp;lia
 | (s,n,p) :: rest,a,b,h=>by obtain⟨rfl,h1,_,h3⟩:=h;have:=Runs.le h3;simp only[jv];lia
theorem Runs.append:∀ {ps qs:List (Nat × Nat × Nat)} {a b:Nat},Runs r xs (ps++qs) a b↔∃ c,Runs r xs ps a c/\Runs r xs qs c b
 |[],qs,a,b=>by simp[Runs]
 | (s,n,p) :: rest,qs,a,b=>by
  constructor
  ·rintro⟨h1,h2,h3,h4⟩;obtain⟨c,h5,h6⟩:=Runs.append.mp h4;exact⟨c,⟨h1,h2,h3,h5⟩,h6⟩
  ·rintro⟨c,⟨h1,h2,h3,h5⟩,h6⟩;exact⟨h1,h2,h3,Runs.append.mpr ⟨c,h5,h6⟩⟩
def Up.congr(h:Up r xs a b)(e:∀ k,a<=k->k<b->ys[k]? = xs[k]?):Up r ys a b:=λi j h1 h2 h3=>by rw[cH (e i h1 (by lia)),cH (e j (by lia) h3)];exact h i j h1 h2 h3
theorem Runs.congr:∀ {ps:List (Nat × Nat × Nat)} {a b:Nat},Runs r xs ps a b->(∀ k,a<=k->k<b->ys[k]? = xs[k]?)->Runs r ys ps a b
 |[],a,b,h,_=>h
 | (s,n,p) :: rest,a,b,h,e=>by obtain⟨rfl,h1,h2,h3⟩:=h;have l:=h3.le;exact⟨rfl,h1,h2.congr λk u v=>e k u (by lia),Runs.congr h3 λk u v=>e k (by lia) v⟩
def Up.glue(h1:Up r xs a b)(h2:Up r xs b c)(h:∀ i j,a<=i->i<b->b<=j->j<c->R r xs i<=R r xs j):Up r xs a c:=λi j u v w=>by
 by_cases hj:j<b
 ·exact h1 i j u v hj
 ·by_cases hi:i<b
  ·exact h i j u hi (by lia) w
  ·exact h2 i j (by lia) v w
end
section
variable {prog:cq}{w:cS}{A:ft}{E:ah->aE->Prop}{s:aE}{κ:vT}{r:ah->Int}{P:ah->Prop}
def AllP.extract(h:AllP P xs)(i j:Nat):AllP P (xs.extract i j):=λp hp=>h p (by
 rw[V6,VJ] at hp;exact Tq (Q_ hp))
def dh(h:i+k<j)(hj:j<=xs.size):R r (xs.extract i j) k=R r xs (i+k):=by apply cH;rw[TR,if_pos (by lia)]
def Up.extract(h:Up r xs i j)(nE:i<=j)(hj:j<=xs.size):Up r (xs.extract i j) 0 (xs.extract i j).size:=λa b _ h2 h3=>by
 have e:(xs.extract i j).size=j-i:=by simp only[Jn];lia
 rw[dh (by lia) hj,dh (by lia) hj];exact h _ _ (by lia) (by lia) (by lia)
def v_(hz:sa+na+nb<=xs.size)(hk:k<na)(hnb:rg<=nb)(hA:Up r xs sa (sa+na))(hB:Up r xs (sa+na) (sa+na+nb))(lo1:∀ i,i<k->R r xs (sa+i)<=R r xs (sa+na)) (LV:R r xs (sa+na)<R r xs (sa+k)) (vk:∀ i,i<rg->R r xs (sa+na+i)<R r xs (sa+na-1)) (sj:∀ i,rg<=i->i<nb->R r xs (sa+na-1)<=R r xs (sa+na+i))(hm:bU r (xs.extract (sa+k) (sa+na)) (xs.extract (sa+na) (sa+na+rg)) m) :
  Up r (wr (sa+k) m.toList 0 xs) sa (sa+na+nb)/\(wr (sa+k) m.toList 0 xs).Perm xs/\∀ j,j<sa\/sa+na+nb<=j->(wr (sa+k) m.toList 0 xs)[j]? = xs[j]? := by
 obtain⟨mp,mu⟩:=hm;have eab:(xs.extract (sa+k) (sa+na)).toList++(xs.extract (sa+na) (sa+na+rg)).toList=(xs.extract (sa+k) (sa+na+rg)).toList:=by rw[<- Array.toList_append,Array.extract_append_extract,show min (sa+k) (sa+na)=sa+k by lia,show max (sa+na) (sa+na+rg)=sa+na+rg by lia]
 rw[eab] at mp;have ml:m.toList.length=na+rg-k:=by rw[mp.length_eq];simp;lia
 have hw:sa+k+m.toList.length<=xs.size:=by lia
 have get:=wY (sa+k) m.toList 0 xs (by lia);rw[TF,ml] at get
 -- every merged item is one of the qo'
 have mem:∀ (j:Nat) p,m.toList[j]? = some p->∃ i,sa+k<=i/\i<sa+na+rg/\r p.1=R r xs i:=λj p e=>by
  have hp:p∈(xs.extract (sa+k) (sa+na+rg)).toList:=mp.mem_iff.mp (rV e);obtain⟨i,hi⟩:=List.getElem?_of_mem hp;rw[CC,TR] at hi;split at hi
  ·exact⟨sa+k+i,by lia,by lia,(qV hi).symm⟩
  ·cases hi
 have low:∀ i,sa+k<=i->i<sa+na+rg->R r xs (sa+na)<=R r xs i:=λi h1 h2=>by
  by_cases h3:i<sa+na
  ·exact AF (IZ LV) (hA (sa+k) i (by lia) h1 h3)
  ·exact hB (sa+na) i (c9 _) (by lia) (by lia)
 have high:∀ i,sa+k<=i->i<sa+na+rg->R r xs i<=R r xs (sa+na-1):=λi h1 h2=>by
  by_cases h3:i<sa+na
  ·exact hA i (sa+na-1) (by lia) (by lia) (by lia)
  ·have:=vk (i-(sa+na)) (by lia);rw[show sa+na+(i-(sa+na))=i by lia] at this;lia
 have Rin:∀ j,j<na+rg-k->∃ i,sa+k<=i/\i<sa+na+rg/\R r (wr (sa+k) m.toList 0 xs) (sa+k+j)=R r xs i:=λj hj=>by
  have e:=get (sa+k+j);rw[if_pos (by lia),show sa+k+j-(sa+k)=j by lia] at e;have AU:j<m.toList.length:=by lia
  obtain⟨i,h1,h2,h3⟩:=mem j m.toList[j] (qk AU);rw[qk AU] at e;exact⟨i,h1,h2,(qV e).trans h3⟩
 have Pt:∀ j,j<sa+k\/sa+na+rg<=j->(wr (sa+k) m.toList 0 xs)[j]? = xs[j]? := λj hj=>by have e:=get j;rw[if_neg (by lia)] at e;exact e
 refine⟨?_,Ei (by lia) (by lia) mp,λj hj=>Pt j (by lia)⟩;have U1:Up r (wr (sa+k) m.toList 0 xs) sa (sa+k):=Up.congr (λi j h1 h2 h3=>hA i j h1 h2 (by lia)) λj h1 h2=>Pt j (.inl h2);have U2:Up r (wr (sa+k) m.toList 0 xs) (sa+k) (sa+na+rg):=λi j h1 h2 h3=>by
  have ei:=get i;have ej:=get j;rw[if_pos (by lia)] at ei ej;have li:i-(sa+k)<m.toList.length:=by lia
  have lj:j-(sa+k)<m.toList.length:=by lia
  rw[qk li] at ei;rw[qk lj] at ej;rw[qV ei,qV ej];by_cases nE:i=j
  ·subst nE;exact AG _
  ·exact(NC.mp mu) _ _ li lj (by lia)
 have U3:Up r (wr (sa+k) m.toList 0 xs) (sa+na+rg) (sa+na+nb):=Up.congr (λi j h1 h2 h3=>hB i j (by lia) h2 h3) λj h1 h2=>Pt j (.inr h1);refine(U1.glue U2 λi j h1 h2 h3 h4=>?_).glue U3 λi j h1 h2 h3 h4=>?_
 ·obtain⟨q,q1,q2,q3⟩:=Rin (j-(sa+k)) (by lia);rw[show sa+k+(j-(sa+k))=j by lia] at q3;rw[q3,cH (Pt i (.inl h2))];have:=lo1 (i-sa) (by lia);rw[show sa+(i-sa)=i by lia] at this;exact AF this (low q q1 q2)
 ·have e2:=sj (j-(sa+na)) (by lia) (by lia);rw[show sa+na+(j-(sa+na))=j by lia] at e2;rw[cH (Pt j (.inr h3))];by_cases hi:i<sa+k
  ·rw[cH (Pt i (.inl hi))];have:=lo1 (i-sa) (by lia);rw[show sa+(i-sa)=i by lia] at this;have:=low (sa+na-1) (by lia) (by lia);lia
  ·obtain⟨q,q1,q2,q3⟩:=Rin (i-(sa+k)) (by lia);rw[show sa+k+(i-(sa+k))=i by lia] at q3;rw[q3];exact AF (high q q1 q2) e2
structure St(r:ah->Int)(κ:vT)(fN:Array bX)(st:dP)(ps:List (Nat × Nat × Nat))(lo:Nat):Prop where
 kind:fw st=κ
 failed:sM st=none
 perm:(bI st).Perm fN
 pend:nr st=ps.toArray
 runs:Runs r (bI st) ps 0 lo
def St.size{fN:Array bX}{st:dP}{ps:List (Nat × Nat × Nat)}{lo:Nat}(h:St r κ fN st ps lo):(bI st).size=fN.size:=h.perm.size_eq
def Bf{ps:List (Nat × Nat × Nat)}(h:i+1<ps.length):∃ pre x y post,ps=pre++x :: y :: post/\pre.length=i:=by refine⟨ps.take i,ps[i],ps[i+1],ps.drop (i+2),?_,by rw[mB];lia⟩;rw[<- A6 (by lia),<- A6 (by lia),Q9]
def jT{st:dP}{fN:Array bX}{ps:List (Nat × Nat × Nat)}{lo i:Nat}{Q:Bool->dP->Prop}(C:sq prog w A s κ r P)(hP:AllP P fN)(H:St r κ fN st ps lo)(GL:lo<=fN.size)(hi:i+1<ps.length)(h:∀ av k6,St r κ fN av k6 lo->k6.length+1=ps.length->k6≠[]->(∀ k,lo<=k->(bI av)[k]? = (bI st)[k]?)->Q true av):wpS (bq prog w) A E s (mergeAt' i) Q st:=by
 obtain⟨pre,⟨sa,na,pa⟩,⟨sb,nb,pb⟩,post,rfl,GH⟩:=Bf hi;have hz:=H.size;have ve:AllP P (bI st):=hP.perm H.perm;obtain⟨c,hr1,hr2⟩:=Runs.append.mp H.runs;obtain⟨rfl,n1,u1,rfl,n2,u2,hr3⟩:=hr2;have le3:=hr3.le;have le1:=hr1.le
 -- the new pending list
 have jN':((nr st).setIfInBounds i (sa,na+nb,pa)).eraseIdxIfInBounds (i+1)=(pre++(sa,na+nb,pa) :: post).toArray:=by rw[H.pend];apply TV.mp;simp[<- GH,List.eraseIdx_append_of_length_le]
 have new:∀ xs g,xs.Perm (bI st)->(∀ j,j<sa\/sa+na+nb<=j->xs[j]? = (bI st)[j]?)->Up r xs sa (sa+(na+nb)) ->
   St r κ fN (SortSt.mk' (fw st) xs (pre++(sa,na+nb,pa) :: post).toArray g (sM st)) (pre++(sa,na+nb,pa) :: post) lo:=λxs g hp ho hu =>
  ⟨H.kind,H.failed,hp.trans H.perm,rfl,Runs.append.mpr ⟨sa,hr1.congr λk _ hk=>ho k (.inl hk),rfl,by lia,hu,by
   rw[show sa+(na+nb)=sa+na+nb by lia];exact hr3.congr λk hk _=>ho k (.inr hk)⟩⟩
 have len:(pre++(sa,na+nb,pa) :: post).length+1=(pre++(sa,na,pa) :: (sa+na,nb,pb) :: post).length:=by simp;lia
 have e0:(nr st)[i]? = some (sa,na,pa):=by rw[H.pend,<- GH];simp
 have e1:(nr st)[i+1]? = some (sa+na,nb,pb):=by rw[H.pend,<- GH];simp
 refine cx (wpS_get ?_);rw[e0,e1];refine cx (D6 ?_);rw[jN'];refine cx (aL (xs:=bI st) (by lia) λkb ekb=>cx (cC (arr:=bI st) C H.kind ve (ve.at ekb) (by lia) (by lia) u1 λk hk1 Pp Sg=>?_));have rkb:=qV (r:=r) ekb;dsimp only;by_cases z:na-k=0
 ·rw[if_pos (by simpa using z)];refine dr (h _ _ (new (bI st) (gallopOf st) (Array.Perm.refl _) (λ_ _=>rfl) ?_) len (by simp) λ_ _=>rfl);rw[show sa+(na+nb)=sa+na+nb by lia];refine u1.glue u2 λi j h1 h2 h3 h4=>?_;have:=Bq (Pp (i-sa) (by lia));rw[show sa+(i-sa)=i by lia] at this;have:=u2 (sa+na) j (c9 _) h3 h4;lia
 ·rw[if_neg (by simpa using z)];refine cx (aL (xs:=bI st) (by lia) λka eka=>cx (cC (arr:=bI st) C H.kind ve (ve.at eka) (by lia) (by lia) u2 λl Zv Dp Pm=>?_));have rka:=qV (r:=r) eka;rw[show sa+k+(na-k)-1=sa+na-1 by lia] at rka;dsimp only;by_cases z2:l=0
  ·rw[if_pos (by simpa using z2)];refine dr (h _ _ (new (bI st) (gallopOf st) (Array.Perm.refl _) (λ_ _=>rfl) ?_) len (by simp) λ_ _=>rfl);rw[show sa+(na+nb)=sa+na+nb by lia];refine u1.glue u2 λi j h1 h2 h3 h4=>?_;have:=uB (Pm (j-(sa+na)) (by lia) (by lia));rw[show sa+na+(j-(sa+na))=j by lia] at this;have:=u1 i (sa+na-1) h1 (by lia) (by lia);lia
  ·rw[if_neg (by simpa using z2)];have lo1:∀ i,i<k->R r (bI st) (sa+i)<=R r (bI st) (sa+na):=λi hi=>by have:=Bq (Pp i hi);lia
   have LV:R r (bI st) (sa+na)<R r (bI st) (sa+k):=by have:=xF (Sg k (c9 _) (by lia));lia
   have vk:∀ i,i<l->R r (bI st) (sa+na+i)<R r (bI st) (sa+na-1):=λi hi=>by have:=GR (Dp i hi);lia
   have sj:∀ i,l<=i->i<nb->R r (bI st) (sa+na-1)<=R r (bI st) (sa+na+i):=λi h1 h2=>by have:=uB (Pm i h1 h2);lia
   have sx:((bI st).extract (sa+k) (sa+na)).size=na-k:=by simp only[Jn];lia
   have sy:((bI st).extract (sa+na) (sa+na+l)).size=l:=by simp only[Jn];lia
   have ux:Up r ((bI st).extract (sa+k) (sa+na)) 0 ((bI st).extract (sa+k) (sa+na)).size:=Up.extract (λi j h1 h2 h3=>u1 i j (by lia) h2 h3) (by lia) (by lia);have uy:Up r ((bI st).extract (sa+na) (sa+na+l)) 0 ((bI st).extract (sa+na) (sa+na+l)).size:=Up.extract (λi j h1 h2 h3=>u2 i j h1 h2 (by lia)) (by lia) (by lia);have h00:R r ((bI st).extract (sa+na) (sa+na+l)) 0<=R r ((bI st).extract (sa+k) (sa+na)) 0:=by rw[dh (by lia) (by lia),dh (by lia) (by lia)];exact IZ LV
   have hgg:∀ j,j<((bI st).extract (sa+na) (sa+na+l)).size->R r ((bI st).extract (sa+na) (sa+na+l)) j<=R r ((bI st).extract (sa+k) (sa+na)) (((bI st).extract (sa+k) (sa+na)).size-1):=λj hj=>by rw[sx,dh (by lia) (by lia),dh (by lia) (by lia),show sa+k+(na-k-1)=sa+na-1 by lia];exact IZ (vk j (by lia))
   have fin:∀ out av,bU r ((bI st).extract (sa+k) (sa+na)) ((bI st).extract (sa+na) (sa+na+l)) out->Mg (SortSt.mk' (fw st) (bI st) (pre++(sa,na+nb,pa) :: post).toArray (gallopOf st) (sM st)) av ->
     Q true (SortSt.mk' (fw av) (wr (sa+k) out.toList 0 (bI av)) (nr av) (gallopOf av) (sM av)):=λout av hm hg=>by
    obtain⟨g,rfl⟩:=hg;obtain⟨m1,m2,m3⟩:=v_ (by lia) (by lia) Zv u1 u2 lo1 LV vk sj hm;exact h _ _ (new _ g m2 m3 (by rw[show sa+(na+nb)=sa+na+nb by lia];exact m1)) len (by simp) λk hk=>m3 k (.inr (by lia))
   have fin2:∀ out av,bU r ((bI st).extract (sa+k) (sa+na)) ((bI st).extract (sa+na) (sa+na+l)) out->Mg (SortSt.mk' (fw st) (bI st) (pre++(sa,na+nb,pa) :: post).toArray (gallopOf st) (sM st)) av ->
     sM av=none:=λout av _ hg=>by
    obtain⟨g,rfl⟩:=hg;exact H.failed
   by_cases z3:na-k<=l
   ·rw[if_pos z3];refine cx (qZ (a:=(bI st).extract (sa+k) (sa+na)) (b:=(bI st).extract (sa+na) (sa+na+l)) C H.kind (ve.extract _ _) (ve.extract _ _) ux uy (by lia) (by lia) h00 hgg λout av hm hg=>?_);refine cx (D6 (cx (wpS_get ?_)));have f:=fin out av hm hg;have f2:=fin2 out av hm hg;refine dr ?_;show Q (sM av).isNone _;rw[f2];exact f
   ·rw[if_neg z3];refine cx (qR (a:=(bI st).extract (sa+k) (sa+na)) (b:=(bI st).extract (sa+na) (sa+na+l)) C H.kind (ve.extract _ _) (ve.extract _ _) ux uy (by lia) (by lia) h00 hgg λout av hm hg=>?_);refine cx (D6 (cx (wpS_get ?_)));have f:=fin out av hm hg;have f2:=fin2 out av hm hg;refine dr ?_;show Q (sM av).isNone _;rw[f2];exact f
theorem Runs.modify(hf:∀ x,(f x).1=x.1/\(f x).2.1=x.2.1):∀ {ps:List (Nat × Nat × Nat)} {i a b:Nat},Runs r xs ps a b->Runs r xs (ps.modify i f) a b
 |[],_,_,_,h=>by simpa using h
 | (s,n,p) :: rest,0,a,b,h=>by obtain⟨h1,h2⟩:=hf (s,n,p);rw[List.modify_zero_cons];have e:f (s,n,p)=(s,n,(f (s,n,p)).2.2):=Prod.ext h1 (Prod.ext h2 rfl);rw[e];exact h
 | (s,n,p) :: rest,i+1,a,b,h=>by obtain⟨h1,h2,h3,h4⟩:=h;exact⟨h1,h2,h3,Runs.modify hf h4⟩
def St.win{fN:Array bX}{st av:dP}{ps:List (Nat × Nat × Nat)}{lo hi:Nat}(H:St r κ fN st ps lo)(hw:oo lo hi st av):St r κ fN av ps lo :=
 ⟨hw.kind.trans H.kind,hw.failed.trans H.failed,hw.perm.trans H.perm,hw.pend.trans H.pend,H.runs.congr λk _ hk=>hw.out k (.inl hk)⟩
def wpS_sortRuns{st:dP}{Q:Unit->dP->Prop}(C:sq prog w A s κ r P)(hk:fw st=κ)(hP:AllP P (bI st))(hp:nr st = #[])(hf:sM st=none)(h:∀ av,(bI av).Perm (bI st)->sM av=none->Up r (bI av) 0 (bI st).size->Q () av):wpS (bq prog w) A E s sortRuns' Q st:=by
 rw[sortRuns'_eq];refine cx (wpS_get ?_);generalize ha:bI st=fN at *
 have H0:St r κ fN st [] 0:=⟨hk,hf,by rw[ha],by rw[hp],rfl⟩
 refine cx (v3 (sL (I:=λx c av=>∃ ps lo,c=(none,lo)/\St r κ fN av ps lo/\lo<=fN.size/\x<=lo) (Q:=λc av=>∃ ps,c=(none,fN.size)/\St r κ fN av ps fN.size) ?step ?fin ⟨[],0,rfl,H0,gd _,c9 _⟩) ?post)
 case fin =>
  rintro c av ⟨ps,lo,rfl,H,h1,h2⟩;have:lo=fN.size:=by lia
  subst this;exact⟨ps,rfl,H⟩
 case post =>
  rintro c av ⟨ps,rfl,H⟩;have l0:=H.runs.le;refine cx (v3 (sL (I:=λy c av=>c=(none,())/\∃ k6,St r κ fN av k6 fN.size/\k6.length+y<=fN.size) (Q:=λc av=>c=(none,())/\∃ k6,St r κ fN av k6 fN.size/\k6.length<=1) ?jP' ?UR ⟨rfl,ps,H,by lia⟩) ?jQ')
  case UR =>
   rintro c av ⟨rfl,k6,H',hl⟩;exact⟨rfl,k6,H',by lia⟩
  case jQ' =>
   rintro c av ⟨rfl,k6,H',hl⟩;refine dr (h av H'.perm H'.failed ?_);have q:=H'.runs
   match k6,hl,q with
   |[],_,q =>have q:0=fN.size:=q;intro i j _ _ hj;lia
   |[(s',n',p')],_,q =>obtain⟨rfl,_,hu,e⟩:=q;rw[<- e];exact hu
  case jP' =>
   rintro y c EV _ hy ⟨rfl,k6,H',hl⟩;refine cx (wpS_get ?_);have ep:(nr EV).size=k6.length:=by rw[H'.pend];simp
   by_cases z:(nr EV).size<=1
   ·rw[if_pos z];exact dr ⟨rfl,k6,H',by lia⟩
   ·rw[if_neg z];exact cx (jT C hP H' (c9 _) (by(repeat' split)<;>lia) λAJ ps2 H2 hlen _ _=>dr ⟨rfl,ps2,H2,by lia⟩)
 case step =>
  rintro x c EV _ hx ⟨ps,lo,rfl,H,h1,h2⟩;by_cases z:lo >= fN.size
  ·rw[if_pos z];have:lo=fN.size:=by lia
   subst this;exact dr ⟨ps,rfl,H⟩
  ·rw[if_neg z];have hz:=H.size;refine cx (wpS_countRun C H.kind (hP.perm H.perm) (by lia) (by lia) λm AJ hw y6 GP hu=>?_);have H2:=H.win hw;dsimp only;refine Ea (K:=?K) ?pk λkey=>?main;case main =>
    by_cases z2:m<minRun' fN.size fN.size 0
    ·rw[if_pos z2];refine cx (wpS_lift (wpAny_rule ⟨rfl,?_⟩));refine cx (wpS_binarySort C H2.kind (hP.perm H2.perm) (by clear key;have:=H2.size;lia) (by clear key;lia) hu λAK hw3 Zz=>?_);have H3:=H2.win hw3;have b1:1<=min (fN.size-lo) (minRun' fN.size fN.size 0):=by clear key;lia
     have b2:lo+min (fN.size-lo) (minRun' fN.size fN.size 0)<=fN.size:=by clear key;lia
     clear hw3;generalize min (fN.size-lo) (minRun' fN.size fN.size 0)=nn at *
     revert nn AK;exact key
    ·rw[if_neg z2];exact key _ H2 _ hu y6 (by lia)
   intro AK H3 nn Zz b1 b2;refine cx (wpS_get ?_);have push:∀ av k6,St r κ fN av k6 lo->Up r (bI av) lo (lo+nn)->∃ ps LN,((none:Option Unit),lo+nn)=(none,LN)/\St r κ fN (setPending av ((nr av).push (lo,nn,0))) ps LN/\LN<=fN.size/\x+1<=LN:=λav k6 G u =>
    ⟨k6++[(lo,nn,0)],lo+nn,rfl,⟨G.kind,G.failed,G.perm,by rw[G.pend];simp,Runs.append.mpr ⟨lo,G.runs,rfl,b1,u,rfl⟩⟩,b2,by lia⟩
   cases hb:(nr AK).back? with
   |none =>exact cx (D6 (dr (push AK ps H3 Zz)))
   |some t =>
    obtain⟨s1,n1,p1⟩:=t;dsimp only;generalize power' fN.size (2*s1+n1) (2*s1+n1+n1+nn) fN.size=pw;refine cx (v3 (sL (I:=λy c av=>c=(none,())/\∃ k6,St r κ fN av k6 lo/\Up r (bI av) lo (lo+nn))
     ?_ (λ_ _ q=>q) ⟨rfl,ps,H3,Zz⟩) ?_)
    ·rintro y c BF _ hy ⟨rfl,k6,H4,Si⟩;refine cx (wpS_get ?_);have ep:(nr BF).size=k6.length:=by rw[H4.pend];simp
     by_cases z3:(nr BF).size>1
     ·rw[if_pos z3];have e4:(nr BF)[(nr BF).size-2]? = some ((nr BF)[(nr BF).size-2]'(by lia)):=getElem?_pos _ _ (by lia);rw[e4];generalize (nr BF)[(nr BF).size-2]'(by lia)=tt;obtain⟨t1,t2,jR'⟩:=tt;dsimp only;by_cases z4:jR'<=pw
      ·rw[if_pos z4];exact dr ⟨rfl,k6,H4,Si⟩
      ·rw[if_neg z4];exact cx (jT C hP H4 h1 (by lia) λKn ps5 H5 hlen _ jT'=>dr ⟨rfl,ps5,H5,Si.congr λk hk _=>jT' k hk⟩)
     ·rw[if_neg z3];exact dr ⟨rfl,k6,H4,Si⟩
    ·rintro c BF ⟨rfl,k6,H4,Si⟩;refine cx (D6 (cx (D6 (dr ?_))));refine push _ (k6.modify (k6.length-1) λx=>(x.1,x.2.1,pw)) ⟨H4.kind,H4.failed,H4.perm,?_,Runs.modify (f:=λx=>(x.1,x.2.1,pw)) (λ_=>⟨rfl,rfl⟩) H4.runs⟩ Si;rw[H4.pend];simp
def dY (h:dk) (a:ae) (vs:List ah):dk:=((h.update a (Obj.mapSeq λ_=>#[])).push (seqObj "tuple" vs.toArray 0)).push (seqObj "list" #[] 0)
def rN(hb:b≠a)(i5:b<h.objs.size):(dY h a vs).get? b=h.get? b:=by
 unfold dY;rw[TJ _ _ _ (by rw[size_push',Rl];exact kE (NR i5)),
  TJ _ _ _ (by rw[Rl];exact kE i5),Heap.get?_update_ne _ _ _ _ hb]
def rJ(hp:xs.Perm (pairsOf vs))(hs:Up r xs 0 vs.length):(xs.map (·.2)).toList.Perm vs/\(xs.map (·.2)).toList.Pairwise λx y=>r x<=r y:=by
 have hl:xs.toList.Perm (vs.zip vs):=by rw[<- pairsOf_toList];exact V4.mp hp
 have jU':∀ p,p∈xs.toList->p.1=p.2:=λp rh=>(mem_zip_self (hl.mem_iff.mp rh)).1;have e:(xs.map (·.2)).toList=xs.toList.map (·.1):=by rw[Array.toList_map];exact D3 λp rh=>(jU' p rh).symm
 have jS:xs.size=vs.length:=by rw[hp.size_eq,pairsOf_size]
 rw[e];refine⟨?_,?_⟩
 ·have h1:=hl.map (·.1);rwa[VY (c9 _)] at h1
 ·rw[NC];intro i j hi hj nE;have om:i<xs.size:=by simpa using hi
  have AU:j<xs.size:=by simpa using hj
  have h1:=hs i j (gd _) (IY nE) (by lia);rw[JB om,JB AU] at h1;simpa using h1
def qw {F:PySem.Fin->aE->Prop} (ho:s.heap.get? a=some (seqObj "list" vs.toArray n)) (jS:vs.length<=bE) (hP:∀ v∈vs,P v)(hk:2<=vs.length->∀ (Q:vT->aE->Prop),Q κ { s with heap:=dY s.heap a vs }->b6 (bq prog w) A (keyKind' vs.toArray) Q E { s with heap:=dY s.heap a vs }) (C:2<=vs.length->sq prog w A { s with heap:=dY s.heap a vs } κ r P) (h:∀ out:Array ah,out.toList.Perm vs->(out.toList.Pairwise λx y=>r x<=r y)->F (.done (.ret .none)) { s with heap:=sortedHeap s.heap a vs out }) :
  b6 (bq prog w) A (Builtin.«list.sort» ⟨[.ref a],[]⟩) F E s:=by
 rw[list_sort_plain];have ha:a<s.heap.objs.size:=gI ho;refine bT (listItems_at ho rfl ?_);refine bT (listUpdate_at ho rfl ?_ (by simpa using jS) (gd _));obtain⟨e1,ho1⟩:∃ e1,(s.heap.update a (Obj.mapSeq λ_=>#[])).get? a=some (seqObj "list" #[] e1):=⟨_,get?_update_seq ho (λ_=>#[])⟩
 refine bT (seqEpoch_at ho1 rfl ?_);refine bT (wpAny_newTuple ?_ (by simpa using jS));refine bT (wpAny_newList ?_ (gd _));refine wpAny_holding ?_;have UT:(dY s.heap a vs).get? a=some (seqObj "list" #[] e1):=by unfold dY;rw[TJ _ _ _ (by rw[size_push',Rl];exact kE (NR ha)),TJ _ _ _ (by rw[Rl];exact kE ha)];exact ho1
 have hvz:vs.toArray.size=vs.length:=by simp
 have fin:∀ av:dP,(bI av).Perm (pairsOf vs)->Up r (bI av) 0 vs.length->F (.done (.ret .none)) { s with heap:=sortedHeap s.heap a vs ((bI av).map (·.2)) }:=by intro av hp hs;obtain⟨h1,h2⟩:=rJ hp hs;exact h _ h1 h2
 by_cases h2:vs.toArray.size<2
 ·rw[if_pos h2,if_pos h2];refine bT (dv ?_);refine bT (dv ?_);refine bT (seqEpoch_at UT rfl ?_);refine bT (listUpdate_at UT rfl ?_ (gd _) (by rw[Array.size_map];show(pairsOf vs).size<=_;rw[pairsOf_size];lia));simp only[bne_self_eq_false,yB,if_false];refine dv (fin (SortSt.mk' general' (vs.toArray.zip vs.toArray) #[] 7 none) (Array.Perm.refl _) ?_);intro i j _ nE hj;have:i=j:=by lia
  subst this;exact AG _
 ·rw[if_neg h2,if_neg h2];refine bT (hk (by lia) _ ?_);refine bT (sD (wpS_sortRuns (Q:=λ_ av=>(bI av).Perm (pairsOf vs)/\sM av=none/\Up r (bI av) 0 vs.length) (C (by lia)) rfl (λp hp=>?_) rfl rfl λav a1 a2 a3=>⟨a1,a2,?_⟩) ?_ λ_ _ e=>e)
  ·have rh:p∈(pairsOf vs).toList:=hp;rw[pairsOf_toList] at rh;exact hP _ (mem_zip_self rh).2
  ·have e:(bI (SortSt.mk' κ (vs.toArray.zip vs.toArray) #[] 7 none)).size=vs.length:=pairsOf_size vs;rw[e] at a3;exact a3
  ·rintro⟨⟨⟩,av⟩ s' ⟨rfl,hp,hf,hs⟩;refine bT (seqEpoch_at UT rfl ?_);refine bT (listUpdate_at UT rfl ?_ (gd _) (by refine kD (Rj ((Array.size_map ..).trans (hp.size_eq.trans (pairsOf_size _)))) ?_;lia));rw[hf];simp only[bne_self_eq_false,yB,if_false];exact dv (fin av hp hs)
end
end GO
section
open PySem PySem.Spec PyProof.Rows
namespace L2
def ti:Key->Key->Bool
 |.inl i,.inl j=>decide (i<j)
 |.inr x,.inr y=>xa x y
 |_,_=>false
def nI:List Key->List Key->Bool
 |a :: as,b :: bs=>if a=b then nI as bs else ti a b
 |_,_=>false
def AV:Key->Bool
 |.inl _=>true
 |.inr _=>false
def DC(k:List Key):List Bool:=k.map AV
def G6(x:Str):xa x x=false:=by unfold xa;simp[List.lt_irrefl]
def JD(h:xa x y=true)(g:xa y z=true):xa x z=true:=by
 unfold xa at *
 simp only[decide_eq_true_eq] at *
 exact List.lt_trans h g
def lQ{x y:Str}(h:x.cps.toList=y.cps.toList):x=y:=by cases x;cases y;simp only at h;rw[TV.mp h]
def FN{x y:Str}(h:xa x y=false)(g:xa y x=false):x=y:=by
 unfold xa at *
 simp only[decide_eq_false_iff_not] at *
 apply lQ;exact List.le_antisymm (List.not_lt.mp g) (List.not_lt.mp h)
def xX(a:Key):ti a a=false:=by cases a with|inl i=>simp[ti]|inr x=>exact G6 x
def Ir(h:ti a b=true)(g:ti b c=true):ti a c=true:=by cases a<;>cases b<;>cases c<;>simp only[ti,decide_eq_true_eq] at *<;>first|lia|contradiction|exact JD h g
def Eu(e:AV a=AV b)(h:ti a b=false)(g:ti b a=false):a=b:=by
 cases a<;>cases b<;>simp only[ti,AV,decide_eq_false_iff_not] at *
 ·congr 1;lia
 ·cases e
 ·cases e
 ·congr 1;exact FN h g
theorem zu:∀ a:List Key,nI a a=false
 |[]=>rfl
 |a :: as=>by unfold nI;rw[if_pos rfl];exact zu as
theorem zq:∀ {a b c:List Key},nI a b=true->nI b c=true->nI a c=true
 |[],_,_,h,_=>by simp[nI] at h
 |_ :: _,[],_,h,_=>by simp[nI] at h
 |_ :: _,_ :: _,[],_,g=>by simp[nI] at g
 |a :: as,b :: bs,c :: cs,h,g=>by
  unfold nI at h g ⊢;by_cases e1:a=b
  ·subst e1;rw[if_pos rfl] at h;by_cases e2:a=c
   ·subst e2;rw[if_pos rfl] at g ⊢;exact zq h g
   ·rw[if_neg e2] at g ⊢;exact g
  ·rw[if_neg e1] at h;by_cases e2:b=c
   ·subst e2;rw[if_neg e1];exact h
   ·rw[if_neg e2] at g;have t:=Ir h g;have ne:a≠c:=λe=>by subst e;rw[xX] at t;cases t
    rw[if_neg ne];exact t
theorem xg:∀ {a b:List Key},DC a=DC b->nI a b=false->nI b a=false->a=b
 |[],[],_,_,_=>rfl
 |[],_ :: _,e,_,_=>by simp[DC] at e
 |_ :: _,[],e,_,_=>by simp[DC] at e
 |a :: as,b :: bs,e,h,g=>by
  simp only[DC,fR,List.cons.injEq] at e;unfold nI at h g;by_cases e1:a=b
  ·subst e1;rw[if_pos rfl] at h g;rw[xg (e.2) h g]
  ·rw[if_neg e1] at h;rw[if_neg (Ne.symm e1)] at g;exact absurd (Eu e.1 h g) e1
theorem count_le{α:Type}(p q:α->Bool):∀ (l:List α),(∀ x∈l,p x=true->q x=true)->l.countP p<=l.countP q
 |[],_=>c9 _
 |x :: l,h=>by have ih:=count_le p q l λy hy=>h y (eI _ hy);cases hp:p x<;>cases hq:q x<;>simp_all<;>lia
theorem tM{α:Type}(p q:α->Bool)(a:α)(ha:p a=false)(hb:q a=true):∀ (l:List α),a∈l->(∀ x∈l,p x=true->q x=true)->l.countP p<l.countP q
 |[],m,_=>by cases m
 |x :: l,m,h=>by
  rw[List.countP_cons,List.countP_cons];rcases eW.mp m with rfl|m
  ·have:=count_le p q l λy hy=>h y (eI _ hy);rw[ha,hb];simp;lia
  ·have ih:=tM p q a ha hb l m λy hy=>h y (eI _ hy);cases hp:p x<;>cases hq:q x<;>simp_all<;>lia
def Pw(L:List (List Key))(k:List Key):Int:=(L.countP λj=>nI j k:Nat)
def Cy(e:DC a=DC b)(ma:a∈L):decide (Pw L a<Pw L b)=nI a b:=by
 unfold Pw
 cases h:nI a b with
 |true =>have:=tM (λj=>nI j a) (λj=>nI j b) a (zu a) h L ma λx _ hx=>zq hx h;exact decide_eq_true (by lia)
 |false =>
  apply decide_eq_false
  cases g:nI b a with
  |false=>rw[xg e h g];lia
  |true =>have:=count_le (λj=>nI j b) (λj=>nI j a) L λx _ hx=>zq hx g;lia
section
variable {X:Cx}{pins:List (ae × Obj)}{σ:St}{H:Hp}{s:aE}
def Inv.tup(I:Inv X pins σ H s)(h:H b=some (.tup xs)):∃ its:List ah,Vals xs its/\IsTup s.heap b its.toArray:=(I.bG b _ h).2
end
end L2
end
namespace GO
open PySem PyProof.Rows
section
variable {prog:cq}{w:cS}{A:ft}{E:ah->aE->Prop}{s:aE}{κ:vT}{r:ah->Int}{P:ah->Prop}
def pM{T:String}{r d:ae}{n:Nat}{P:Nat->ah->Prop}{OK:dk->Prop}{R:Result->aE->Prop}(K:PySem.W.KdlSrc prog w T r d n P OK)(hh:A.handled=none)(bG:OK s.heap)(hn:n<=bE)(hR:∀ h' tk acc c,(∀ b o,s.heap.get? b=some o->h'.get? b=some o)->h'.get? s.heap.objs.size=some { cls:=.type "list",data:=.seq acc c }->ItemsOf P acc n->R (.ok (.ret (.ref s.heap.objs.size))) { s with heap:=h',toks:=tk }) :
  codeAny (bq prog w) A (.builtin "proto.collect" ⟨[.ref r],[]⟩) R s:=by
 have hth:=K.there _ bG;have hS:(s.heap.push { cls:=.type "list",data:=.seq ([]:List ah).toArray }).get? s.heap.objs.size=some { cls:=.type "list",data:=.seq ([]:List ah).toArray }:=oi _ rfl;refine codeAny_builtin F.entry_proto_collect ?_;refine bT (DV ?_);refine dv ⟨plainId_quiet F.plain_list_iadd _,codeAny_builtin F.entry_list_iadd ?_⟩;exact PySem.W.kdl_extend K hh (K.keep _ _ bG λb _ o e=>ki _ e) s.heap.objs.size (TB hth.1) (TB hth.2) _ 0 hS (λh' tk jV' c' kp eo ia=>hR h' tk jV' c' (λb o e=>kp b o (kE (gI e)) (ki _ e)) eo ia) hn
def su{T:String}{r d:ae}{n:Nat}{P:Nat->ah->Prop}{OK:dk->Prop}{Q:List ah->aE->Prop}(K:PySem.W.KdlSrc prog w T r d n P OK)(hh:A.handled=none)(bG:OK s.heap)(hn:n<=bE)(hQ:∀ h' tk acc,(∀ b o,s.heap.get? b=some o->h'.get? b=some o)->s.heap.objs.size<=h'.objs.size->ItemsOf P acc n->Q acc.toList { s with heap:=h',toks:=tk }):b6 (bq prog w) A (collect (.ref r)) Q E s:=by
 exact bT (wpAny_runValue (pM K hh bG hn λh' tk acc c kp eo ia=>bT (wpAny_load eo (dv (hQ h' tk acc kp (IY (gI eo)) ia)))))
def uY{R:List ah->Prop}(jW':∀ (A':ft) (E':ah->aE->Prop) (Q':List ah->aE->Prop),A'.handled=A.handled->(∀ vs h1 tk,R vs->(∀ b o,s.heap.get? b=some o->h1.get? b=some o)->s.heap.objs.size<=h1.objs.size->Q' vs { s with heap:=h1,toks:=tk })->b6 (bq prog w) A' (collect v) Q' E' s) (jS:∀ vs,R vs->vs.length<=bE) (hP:∀ vs,R vs->∀ v∈vs,P v) (hk:∀ vs,R vs->2<=vs.length->∀ (A':ft) (E':ah->aE->Prop) (s':aE),(∀ b o,s.heap.get? b=some o->s'.heap.get? b=some o)->∀ (Q:vT->aE->Prop),Q κ s'->b6 (bq prog w) A' (keyKind' vs.toArray) Q E' s') (C:∀ (s':aE),(∀ b o,s.heap.get? b=some o->s'.heap.get? b=some o)->sq prog w A.in1.in1 s' κ r P) (h:∀ (vs:List ah) (h':dk) (a:ae) (out:List ah) (n tk:Nat),R vs->out.Perm vs->(out.Pairwise λx y=>r x<=r y)->(∀ b o,s.heap.get? b=some o->h'.get? b=some o)->s.heap.objs.size<=a->h'.get? a=some (seqObj "list" out.toArray n)->Q (.ref a) { s with heap:=h',toks:=tk }) :
  b6 (bq prog w) A (call (.builtin "sorted") [v]) Q E s:=by
 refine Calls.call_function_entry kind_sorted plain_sorted entry_sorted (args_sorted1 _) ?_;refine bT (dv ?_);refine bT (jW' _ _ _ rfl λvs h1 tk hR kp hz=>?_);have cN':=jS vs hR;refine bT (wpAny_newList ?_ (by simpa using cN'));have Rv:(h1.push (seqObj "list" vs.toArray 0)).get? h1.objs.size=some (seqObj "list" vs.toArray 0):=oi _ rfl;have old:∀ b o,s.heap.get? b=some o->(dY (h1.push (seqObj "list" vs.toArray 0)) h1.objs.size vs).get? b=some o:=λb o e=>by have i5:b<h1.objs.size:=gI (kp b o e);rw[rN (kE i5) (by rw[size_push'];exact NR i5)];exact ki _ (kp b o e)
 refine bT (wpAny_holding (Q7 slot_list_sort ⟨_,Rv,rfl⟩ entry_list_sort (qw Rv cN' (hP vs hR) (λh2=>hk vs hR h2 _ _ _ old) (λh2=>C _ old) λout a1 a2=>⟨_,rfl,?_⟩) (args_list_sort _)))
 obtain⟨n,e⟩:=sortedHeap_at Rv;refine dv ⟨_,rfl,h vs _ h1.objs.size out.toList n tk hR a1 a2 (λb o e=>?_) hz (by rw[Array.toArray_toList];exact e)⟩;have i5:b<h1.objs.size:=gI (kp b o e);rw[sortedHeap_old (kE i5) (by rw[size_push'];exact NR i5)];exact ki _ (kp b o e)
end
end GO
section
open PySem PySem.Spec PyProof.Rows
namespace L2
def tV:ah->List Key
 |.int i _=>[.inl i]
 |.str x _=>[.inr x]
 |_=>[]
def rW(h:RelV (kV k) v):tV v=[k]:=by
 cases k with
 |inl i=>obtain⟨t,rfl⟩:=h;rfl
 |inr x=>obtain⟨t,rfl⟩:=h;rfl
def yp:nI [a] [b]=ti a b:=by
 unfold nI;by_cases e:a=b
 ·subst e;rw[if_pos rfl,xX];rfl
 ·rw[if_neg e]
def Af{prog:cq}{w:cS}{A:ft}{s:aE}{b:Bool}{L:List Key} :
  GO.sq prog w A s oneType' (λv=>Pw (L.map λk=>[k]) (tV v)) (λv=>∃ k,RelV (kV k) v/\AV k=b/\k∈L):=by
 rintro x y ⟨k,rk,ik,mk⟩ ⟨m,rm,im,mm⟩ Q E q;simp only[rW rk,rW rm] at q;rw[Cy (by simp[DC,ik,im]) (iX.mpr ⟨k,mk,rfl⟩),yp] at q
 cases k with
 |inl i =>
  cases m with
  |inr y=>rw[<- im] at ik;cases ik
  |inl j =>obtain⟨t,rfl⟩:=rk;obtain⟨u,rfl⟩:=rm;exact oneLt_int q
 |inr x =>
  cases m with
  |inl y=>rw[<- im] at ik;cases ik
  |inr j =>obtain⟨t,rfl⟩:=rk;obtain⟨u,rfl⟩:=rm;exact oneLt_str q
def ints_of{ks:List Key}{vs:List ah}(r:Vals (ks.map kV) vs)(h:∀ k∈ks,AV k=true):∃ ns,IntsAre vs ns:=by
 induction ks generalizing vs with
 |nil=>rw[Paired.n0 r];exact⟨[],.nil⟩
 |cons k ks ih =>
  obtain⟨v,vs,rfl,r,rs⟩:=Paired.c r;obtain⟨ns,q⟩:=ih rs λj hj=>h j (eI _ hj);have:=h k fA
  cases k with
  |inr x=>cases this
  |inl i=>obtain⟨t,rfl⟩:=r;exact⟨_,.cons i t q⟩
def Ef{ks:List Key}{vs:List ah}(r:Vals (ks.map kV) vs)(h:∀ k∈ks,AV k=false):∃ ns,StrsAre vs ns:=by
 induction ks generalizing vs with
 |nil=>rw[Paired.n0 r];exact⟨[],.nil⟩
 |cons k ks ih =>
  obtain⟨v,vs,rfl,r,rs⟩:=Paired.c r;obtain⟨ns,q⟩:=ih rs λj hj=>h j (eI _ hj);have:=h k fA
  cases k with
  |inl x=>cases this
  |inr i=>obtain⟨t,rfl⟩:=r;exact⟨_,.cons i t q⟩
def wG{prog:cq}{w:cS}{A:ft}{E:ah->aE->Prop}{s:aE}{b:Bool}{ks:List Key}{vs:List ah}(r:Vals (ks.map kV) vs)(h:∀ k∈ks,AV k=b)(h2:2<=vs.length){Q:vT->aE->Prop}(q:Q oneType' s) :
  b6 (bq prog w) A (keyKind' vs.toArray) Q E s:=by
 match vs,h2 with
 |v1 :: v2 :: vs,_ =>
  cases b with
  |true=>obtain⟨ns,hI⟩:=ints_of r h;rw[keyKind_ints hI];exact dv q
  |false=>obtain⟨ns,hI⟩:=Ef r h;rw[keyKind_strs hI];exact dv q
def mem_keys{ks:List Key}{vs:List ah}(r:Vals (ks.map kV) vs)(v:ah)(h:v∈vs):∃ k,RelV (kV k) v/\k∈ks:=by
 induction ks generalizing vs with
 |nil=>rw[Paired.n0 r] at h;cases h
 |cons k ks ih =>
  obtain⟨u,vs,rfl,r,rs⟩:=Paired.c r;rcases eW.mp h with rfl|h
  ·exact⟨k,r,fA⟩
  ·obtain⟨j,a,b⟩:=ih rs h;exact⟨j,a,eI _ b⟩
def keys_map{ks:List Key}{vs:List ah}(r:Vals (ks.map kV) vs):vs.map tV=ks.map λk=>[k]:=by
 induction ks generalizing vs with
 |nil=>rw[Paired.n0 r];rfl
 |cons k ks ih =>obtain⟨u,vs,rfl,r,rs⟩:=Paired.c r;rw[fR,fR,rW r,ih rs]
def wR{ks:List Key}(vs:List ah)(h:∀ v∈vs,∃ k,RelV (kV k) v/\k∈ks):∃ ms:List Key,Vals (ms.map kV) vs:=by
 induction vs with
 |nil=>exact⟨[],.nil⟩
 |cons v vs ih =>obtain⟨ms,r⟩:=ih λu hu=>h u (eI _ hu);obtain⟨k,rk,_⟩:=h v fA;exact⟨k :: ms,.cons rk r⟩
def v5:∀ {ms ks:List Key},(ms.map λk=>[k]).Perm (ks.map λk=>[k])->ms.Perm ks:=λ{ms ks} h=>by have:=h.map (λl:List Key=>l.head?);simp only[mh] at this;have e:∀ l:List Key,l.map ((λl:List Key=>l.head?) ∘ λk=>[k])=l.map some:=λl=>D3 λ_ _=>rfl;rw[e,e] at this;have:=this.filterMap id;simpa using this
section
variable {X:Cx}
def uQ(K:ay):List V->Hp->VK->Prop:=λxs H Q=>match xs with
 |[.ref p]=>∃ ks b,(e7 K H p (ks.map kV)\/∃ ag,Rd H p (.dK ag)/\ks=ag.map (·.1))/\(∀ k∈ks,AV k=b) /\
   ∀ (ms:List Key) (l:ae),ms.Perm ks->(ms.Pairwise λa b=>ti b a=false)->H l=none->Q (.ref l) (upd H l (.lst (ms.map kV)))
 |_=>False
def vP (hc:X.calm=true):mn X (.builtin "sorted") (uQ X.K):=by
 intro pins s σ H xs us Q I r h;unfold uQ at h;split at h
 ·rename_i p;obtain⟨ks,b,hl,hb,q⟩:=h;obtain⟨u,rfl,ru⟩:=Vals.one r;cases ru;have jS:ks.length<=bE:=by
   rcases hl with hl|⟨ag,e,rfl⟩
   ·obtain⟨vs,rv,pl,hz⟩:=I.list hl;simpa using hz
   ·obtain⟨z,_⟩:=(I.rd e)
    simpa using z
  refine GO.uY (κ:=oneType') (P:=λv=>∃ k,RelV (kV k) v/\AV k=b/\k∈ks) (λA' E' Q' hA hQ=>?_) (λvs rv=>?_) (λvs rv v hv=>?_) (λvs rv h2 A' E' s' kp Q' q'=>wG rv hb h2 q') (λs' kp=>Af) λvs h' a out n tk rv pm pw kp ha eo=>?_
  ·rcases hl with hl|⟨ag,e,rfl⟩
   ·obtain⟨vs,rv,pl,hz⟩:=I.list hl;refine collect_list pl.isList (hQ vs _ s.toks rv (λb o e=>?_) ?_) (by have:=rv.length;lia)
    ·rw[Heap.get?_update_ne _ _ _ _ (kE (gI e))];exact ki _ e
    ·rw[Rl,size_push'];exact Nat.le_succ _
   ·obtain⟨z,y,vs,rel,dd⟩:=(I.rd e)
    obtain⟨ep,da⟩:=dd.dictAt;have hlen:vs.length=ag.length:=rel.length.symm;refine GO.su (PySem.W.kdl_dict y) (hA.trans (I.ok.hd hc)) da (by lia) λh' tk acc kp hz OY=>hQ _ h' tk ?_ kp hz;have go:∀ {l1:List (Key × V)} {l2:List (Key × ah)} ac,KV l1 l2->ac.length=l2.length->(∀ (i:Nat) v,ac[i]? = some v->∃ k x,l2[i]? = some (k,x)/\JA k v=true)->Vals ((l1.map (·.1)).map kV) ac:=by
     intro l1 l2 ac rl
     induction rl generalizing ac with
     |nil=>intro hl _;cases ac with
      |nil=>exact .nil
      |cons _ _=>cases hl
     |@cons p1 q1 l1 l2 r1 rs ih =>
      intro hl hi
      cases ac with
      |nil=>cases hl
      |cons v ac =>obtain⟨k,x,e1,e2⟩:=hi 0 v rfl;simp only[List.getElem?_cons_zero,Option.some.injEq] at e1;subst e1;refine .cons ?_ (ih ac (by simpa using hl) λi v h=>hi (i+1) v (by simpa using h));have r11:p1.1=k:=r1.1;show RelV (kV p1.1) v;rw[r11];rcases Bn e2 with⟨i,t,rfl,rfl⟩|⟨x,t,rfl,rfl⟩<;>exact⟨t,rfl⟩
    exact go acc.toList rel (by rw[Bi];exact OY.1) λi v h=>OY.2 i v (by simpa using h)
  ·have:=rv.length;rw[dz] at this;lia
  ·obtain⟨k,rk,mk⟩:=mem_keys rv v hv;exact⟨k,rk,hb k mk,mk⟩
  ·obtain⟨ms,rm⟩:=wR out λv hv=>mem_keys rv v (pm.mem_iff.mp hv);have pk:ms.Perm ks:=v5 (by rw[<- keys_map rm,<- keys_map rv];exact pm.map _);refine⟨.ref a,_,I.laid kp ha (show lS X.prog X.w _ h' _ (.lst (ms.map kV)) from⟨by rw[dz,pk.length_eq];exact jS,out,n,rm,eo⟩),rfl,q ms _ pk ?_ (I.bG.fresh ha)⟩;have pw2:(out.map tV).Pairwise λx y=>Pw (ks.map λk=>[k]) x<=Pw (ks.map λk=>[k]) y:=Rb.mpr pw;rw[keys_map rm,Rb] at pw2;refine pw2.imp_of_mem λ{x y} mx my hle=>?_;have mx:=pk.mem_iff.mp mx;have my:=pk.mem_iff.mp my;rw[<- yp,<- Cy (L:=ks.map λk=>[k]) (by simp[DC,hb x mx,hb y my]) (iX.mpr ⟨y,my,rfl⟩)];exact decide_eq_false (by lia)
 ·exact h.elim
end
end L2
namespace L2.Q
set_option genInjectivity true
inductive D where
 |non|bl (b:Bool)|int (i:Int)|str (x:Str)
 |list (xs:List D)|tup (xs:List D)|dK (ag:List (Key × D))|dT (ag:List (List Key × D))
mutual
def D.flat:D->Bool
 |.list _=>false
 |.dK _=>false
 |.dT _=>false
 |.tup xs=>dn xs
 |_=>true
def dn:List D->Bool
 |[]=>true
 |x :: xs=>x.flat && dn xs
end
theorem gW:∀ {xs:List D},dn xs=true↔∀ x∈xs,x.flat=true
 |[]=>by simp[dn]
 |x :: xs=>by simp[dn,gW]
def eG:dn (xs++ys)=(dn xs && dn ys):=by
 induction xs with
 |nil=>simp[dn]
 |cons x xs ih=>simp[dn,ih,Bool.and_assoc]
def tj:Key->Bool
 |.inl _=>true
 |.inr x=>decide (x.length<=bE)
def UU(ag:List (Key × D)):Prop:=ag.length<=bE/\∀ p∈ag,tj p.1=true
def UW(ag:List (List Key × D)):Prop:=ag.length<=bE/\∀ p∈ag,p.1.length<=bE/\∀ k∈p.1,tj k=true
mutual
inductive Rep(K:ay)(H:Hp):D->V->Prop
 |non:Rep K H .non .non
 |bl (b:Bool):Rep K H (.bl b) (.bl b)
 |int (i:Int):Rep K H (.int i) (.int i)
 |str {x:Str}:x.length<=bE->Rep K H (.str x) (.str x)
 |list {a:ae} {vs:List V} {ds:List D}:vs.length<=bE->e7 K H a vs->bS K H ds vs->Rep K H (.list ds) (.ref a)
 |tup {a:ae} {vs:List V} {ds:List D}:vs.length<=bE->H a=some (.tup vs)->bS K H ds vs->Rep K H (.tup ds) (.ref a)
 |dK {a:ae} {vs:List V} {ag:List (Key × D)}:UU ag->Rd H a (.dK ((ag.map (·.1)).zip vs))->bS K H (ag.map (·.2)) vs->Rep K H (.dK ag) (.ref a)
 |dT {a:ae} {vs:List V} {ag:List (List Key × D)}:UW ag->Rd H a (.dT ((ag.map (·.1)).zip vs))->bS K H (ag.map (·.2)) vs->Rep K H (.dT ag) (.ref a)
inductive bS(K:ay)(H:Hp):List D->List V->Prop
 |nil:bS K H [] []
 |cons {d:D} {v:V} {ds:List D} {vs:List V}:Rep K H d v->bS K H ds vs->bS K H (d :: ds) (v :: vs)
end
def Rep.ind{K:ay}{H:Hp}{m1:D->V->Prop}{m2:List D->List V->Prop}(h0:m1 .non .non)(hb:∀ b,m1 (.bl b) (.bl b))(hi:∀ i,m1 (.int i) (.int i))(hs:∀ x,x.length<=bE->m1 (.str x) (.str x))(hl:∀ a vs ds,vs.length<=bE->e7 K H a vs->bS K H ds vs->m2 ds vs->m1 (.list ds) (.ref a)) (ht:∀ a vs ds,vs.length<=bE->H a=some (.tup vs)->bS K H ds vs->m2 ds vs->m1 (.tup ds) (.ref a))(hk:∀ a vs ag,UU ag->Rd H a (.dK ((ag.map (·.1)).zip vs))->bS K H (ag.map (·.2)) vs->m2 (ag.map (·.2)) vs->m1 (.dK ag) (.ref a)) (hT:∀ a vs ag,UW ag->Rd H a (.dT ((ag.map (·.1)).zip vs))->bS K H (ag.map (·.2)) vs->m2 (ag.map (·.2)) vs->m1 (.dT ag) (.ref a))(hn:m2 [] []) (hc:∀ d v ds vs,Rep K H d v->bS K H ds vs->m1 d v->m2 ds vs->m2 (d :: ds) (v :: vs)):(∀ {d v},Rep K H d v->m1 d v)/\∀ {ds vs},bS K H ds vs->m2 ds vs :=
 ⟨λr=>Rep.rec h0 hb hi (λh=>hs _ h) (λz s r ih=>hl _ _ _ z s r ih) (λz s r ih=>ht _ _ _ z s r ih) (λz s r ih=>hk _ _ _ z s r ih) (λz s r ih=>hT _ _ _ z s r ih) hn (λr s a b=>hc _ _ _ _ r s a b) r,
  λr=>bS.rec h0 hb hi (λh=>hs _ h) (λz s r ih=>hl _ _ _ z s r ih) (λz s r ih=>ht _ _ _ z s r ih) (λz s r ih=>hk _ _ _ z s r ih) (λz s r ih=>hT _ _ _ z s r ih) hn (λr s a b=>hc _ _ _ _ r s a b) r⟩
def sT.k'(e:Rd H a (.dK ag)):sT H a (kV k) (mr ag k):=.inl ⟨ag,k,e,rfl,rfl⟩
def sT.t'(e:Rd H a (.dT ag))(eb:H b=some (.tup (k.map kV))):sT H a (.ref b) (mr ag k):=.inr ⟨ag,k,b,e,rfl,eb,rfl⟩
def aS.rd(s:aS H H')(h:Rd H a u):Rd H' a u:=h.imp (s _ _) λ⟨o,e⟩=>⟨o,s _ _ e⟩
def Rep.Je{K:ay}(s:aS H H'):(∀ {d:D} {v:V},Rep K H d v->Rep K H' d v)/\∀ {ds:List D} {vs:List V},bS K H ds vs->bS K H' ds vs :=
 Rep.ind .non .bl .int (λ_ h=>.str h) (λ_ _ _ z h _ ih=>.list z (s.lst h) ih) (λ_ _ _ z h _ ih=>.tup z (s _ _ h) ih) (λ_ _ _ kk h _ ih=>.dK kk (aS.rd s h) ih) (λ_ _ _ kk h _ ih=>.dT kk (aS.rd s h) ih) .nil λ_ _ _ _ _ _ a b=>.cons a b
def Rep.same{K:ay}(s:aS H H')(r:Rep K H d v):Rep K H' d v:=(Rep.Je s).1 r
def bS.same{K:ay}(s:aS H H')(r:bS K H ds vs):bS K H' ds vs:=(Rep.Je s).2 r
def bS.ind{K:ay}{H:Hp}{m:List D->List V->Prop}(hn:m [] [])(hc:∀ d v ds vs,Rep K H d v->bS K H ds vs->m ds vs->m (d :: ds) (v :: vs)):∀ {ds vs},bS K H ds vs->m ds vs :=
 λr=>(Rep.ind (m1:=λ_ _=>True) trivial (λ_=>trivial) (λ_=>trivial) (λ_ _=>trivial) (λ_ _ _ _ _ _ _=>trivial) (λ_ _ _ _ _ _ _=>trivial) (λ_ _ _ _ _ _ _=>trivial) (λ_ _ _ _ _ _ _=>trivial) hn λd v ds vs r s _ b=>hc d v ds vs r s b).2 r
def bS.length{K:ay}(r:bS K H ds vs):ds.length=vs.length :=
 bS.ind (m:=λds vs=>ds.length=vs.length) rfl (λ_ _ _ _ _ _ ih=>by rw[jv,jv,ih]) r
def bS.append{K:ay}(r:bS K H ds vs)(t:bS K H es ws):bS K H (ds++es) (vs++ws) :=
 bS.ind (m:=λds vs=>bS K H (ds++es) (vs++ws)) t (λ_ _ _ _ h _ ih=>.cons h ih) r
def bS.get{K:ay}{H:Hp}{ds:List D}{vs:List V}{i:Nat}{d:D}(r:bS K H ds vs)(e:ds[i]? = some d):∃ v,vs[i]? = some v/\Rep K H d v :=
 bS.ind (m:=λds vs=>∀ i d,ds[i]? = some d->∃ v,vs[i]? = some v/\Rep K H d v) (λi d e=>by simp at e) (λ_ _ _ _ h _ ih i d e=>by
  cases i with
  |zero=>simp at e;subst e;exact⟨_,rfl,h⟩
  |succ i =>
   obtain⟨v,e1,r⟩:=ih i d (by simpa using e);exact⟨v,by simpa using e1,r⟩) r i d e
def bS.ZC{K:ay}{H:Hp}{ds:List D}{vs:List V}{i:Nat}{v:V}(r:bS K H ds vs)(e:vs[i]? = some v):∃ d,ds[i]? = some d/\Rep K H d v :=
 bS.ind (m:=λds vs=>∀ i v,vs[i]? = some v->∃ d,ds[i]? = some d/\Rep K H d v) (λi d e=>by simp at e) (λ_ _ _ _ h _ ih i d e=>by
  cases i with
  |zero=>simp at e;subst e;exact⟨_,rfl,h⟩
  |succ i =>
   obtain⟨v,e1,r⟩:=ih i d (by simpa using e);exact⟨v,by simpa using e1,r⟩) r i v e
def bS.drop{K:ay}(n:Nat)(r:bS K H ds vs):bS K H (ds.drop n) (vs.drop n) :=
 bS.ind (m:=λds vs=>∀ n,bS K H (ds.drop n) (vs.drop n)) (λn=>by rw[List.drop_nil,List.drop_nil];exact .nil) (λ_ _ _ _ h hs ih n=>by
  cases n with
  |zero=>exact .cons h hs
  |succ n=>exact ih n) r n
def bS.n0{K:ay}(h:bS K H [] vs):vs=[]:=by cases h;rfl
def bS.c{K:ay}(h:bS K H (d :: ds) vs):∃ u us,vs=u :: us/\Rep K H d u/\bS K H ds us:=by
 cases h with
 |cons r rs=>exact⟨_,_,rfl,r,rs⟩
def bS.take{K:ay}(n:Nat)(r:bS K H ds vs):bS K H (ds.take n) (vs.take n) :=
 bS.ind (m:=λds vs=>∀ n,bS K H (ds.take n) (vs.take n)) (λn=>by rw[List.take_nil,List.take_nil];exact .nil) (λ_ _ _ _ h hs ih n=>by
  cases n with
  |zero=>exact .nil
  |succ n=>exact .cons h (ih n)) r n
mutual
inductive cK(K:ay)(Hs H:Hp)(fl:Bool):D->V->List ae->Prop
 |sh {d:D} {v:V}:(fl=true->d.flat=true)->Rep K Hs d v->cK K Hs H fl d v []
 |list {a:ae} {vs:List V} {ds:List D} {As:List ae}:vs.length<=bE->H a=some (.lst vs)->aB K Hs H fl ds vs As->cK K Hs H fl (.list ds) (.ref a) (a :: As)
 |tup {a:ae} {vs:List V} {ds:List D} {As:List ae}:vs.length<=bE->Hs a=some (.tup vs)->dn ds=false->aB K Hs H fl ds vs As->cK K Hs H fl (.tup ds) (.ref a) As
 |dK {a:ae} {vs:List V} {ag:List (Key × D)} {As:List ae}:UU ag->H a=some (.dK ((ag.map (·.1)).zip vs))->aB K Hs H fl (ag.map (·.2)) vs As->cK K Hs H fl (.dK ag) (.ref a) (a :: As)
 |dT {a:ae} {vs:List V} {ag:List (List Key × D)} {As:List ae}:UW ag->H a=some (.dT ((ag.map (·.1)).zip vs))->aB K Hs H fl (ag.map (·.2)) vs As->cK K Hs H fl (.dT ag) (.ref a) (a :: As)
inductive aB(K:ay)(Hs H:Hp)(fl:Bool):List D->List V->List ae->Prop
 |nil:aB K Hs H fl [] [] []
 |cons {d:D} {v:V} {ds:List D} {vs:List V} {As Bs:List ae}:cK K Hs H fl d v As->aB K Hs H fl ds vs Bs->aB K Hs H fl (d :: ds) (v :: vs) (As++Bs)
end
def Own(H:Hp)(a:ae):Prop:=∃ o,H a=some o/\∀ vs,o≠.tup vs
section
variable {K:ay}{Hs aw H H':Hp}{fl:Bool}
def Own.ne(h:Own H a):H a≠none:=by obtain⟨_,e,_⟩:=h;rw[e];exact λz=>nomatch z
def Own.tZ(h:Own H a):H a≠some (.tup vs):=by obtain⟨_,e,n⟩:=h;rw[e];exact λz=>n vs (Option.some.inj z)
def cK.ind{m1:D->V->List ae->Prop}{m2:List D->List V->List ae->Prop}(hs:∀ d v,(fl=true->d.flat=true)->Rep K Hs d v->m1 d v [])(hl:∀ a vs ds As,vs.length<=bE->H a=some (.lst vs)->aB K Hs H fl ds vs As->m2 ds vs As->m1 (.list ds) (.ref a) (a :: As)) (ht:∀ a vs ds As,vs.length<=bE->Hs a=some (.tup vs)->dn ds=false->aB K Hs H fl ds vs As->m2 ds vs As->m1 (.tup ds) (.ref a) As)(hk:∀ a vs ag As,UU ag->H a=some (.dK ((ag.map (·.1)).zip vs))->aB K Hs H fl (ag.map (·.2)) vs As->m2 (ag.map (·.2)) vs As->m1 (.dK ag) (.ref a) (a :: As)) (hT:∀ a vs ag As,UW ag->H a=some (.dT ((ag.map (·.1)).zip vs))->aB K Hs H fl (ag.map (·.2)) vs As->m2 (ag.map (·.2)) vs As->m1 (.dT ag) (.ref a) (a :: As))(hn:m2 [] [] []) (hc:∀ d v ds vs As Bs,cK K Hs H fl d v As->aB K Hs H fl ds vs Bs->m1 d v As->m2 ds vs Bs->m2 (d :: ds) (v :: vs) (As++Bs)):(∀ {d v As},cK K Hs H fl d v As->m1 d v As)/\∀ {ds vs As},aB K Hs H fl ds vs As->m2 ds vs As :=
 ⟨λr=>cK.rec (λf r=>hs _ _ f r) (λz s r ih=>hl _ _ _ _ z s r ih) (λz s n r ih=>ht _ _ _ _ z s n r ih) (λz s r ih=>hk _ _ _ _ z s r ih) (λz s r ih=>hT _ _ _ _ z s r ih) hn (λr s a b=>hc _ _ _ _ _ _ r s a b) r,
  λr=>aB.rec (λf r=>hs _ _ f r) (λz s r ih=>hl _ _ _ _ z s r ih) (λz s n r ih=>ht _ _ _ _ z s n r ih) (λz s r ih=>hk _ _ _ _ z s r ih) (λz s r ih=>hT _ _ _ _ z s r ih) hn (λr s a b=>hc _ _ _ _ _ _ r s a b) r⟩
def xh{a:ae}{p:Prop}(h:a∈([]:List ae)):p:=absurd h FI
def cK.cP':(∀ {d:D} {v:V} {As:List ae},cK K Hs H fl d v As->∀ a∈As,Own H a)/\∀ {ds:List D} {vs:List V} {As:List ae},aB K Hs H fl ds vs As->∀ a∈As,Own H a :=
 cK.ind (λ_ _ _ _ a h=>xh h) (λ_ _ _ _ _ e _ ih a h=>(eW.mp h).elim (λz=>z ▸ ⟨_,e,λ_ z=>nomatch z⟩) (ih a)) (λ_ _ _ _ _ _ _ _ ih=>ih) (λ_ _ _ _ _ e _ ih a h=>(eW.mp h).elim (λz=>z ▸ ⟨_,e,λ_ z=>nomatch z⟩) (ih a)) (λ_ _ _ _ _ e _ ih a h=>(eW.mp h).elim (λz=>z ▸ ⟨_,e,λ_ z=>nomatch z⟩) (ih a)) (λa h=>xh h) λ_ _ _ _ _ _ _ _ i1 i2 a h=>(eR.mp h).elim (i1 a) (i2 a)
def cK.own(r:cK K Hs H fl d v As):∀ a∈As,Own H a:=cK.cP'.1 r
def aB.own(r:aB K Hs H fl ds vs As):∀ a∈As,Own H a:=cK.cP'.2 r
def cK.Jh(s:aS Hs aw):(∀ {d:D} {v:V} {As:List ae},cK K Hs H fl d v As->(∀ a∈As,H' a=H a)->cK K aw H' fl d v As)/\∀ {ds:List D} {vs:List V} {As:List ae},aB K Hs H fl ds vs As->(∀ a∈As,H' a=H a)->aB K aw H' fl ds vs As :=
 cK.ind (λ_ _ f r _=>.sh f (r.same s)) (λ_ _ _ _ z e _ ih k=>.list z ((k _ fA).trans e) (ih λa h=>k a (eI _ h))) (λ_ _ _ _ z e n _ ih k=>.tup z (s _ _ e) n (ih k)) (λ_ _ _ _ z e _ ih k=>.dK z ((k _ fA).trans e) (ih λa h=>k a (eI _ h))) (λ_ _ _ _ z e _ ih k=>.dT z ((k _ fA).trans e) (ih λa h=>k a (eI _ h))) (λ_=>.nil) λ_ _ _ _ _ _ _ _ i1 i2 k=>.cons (i1 λa h=>k a (kg _ h)) (i2 λa h=>k a (eT _ h))
def cK.fS(s:aS Hs aw)(r:cK K Hs H fl d v As)(k:∀ a∈As,H' a=H a):cK K aw H' fl d v As:=(cK.Jh s).1 r k
def aB.fS(s:aS Hs aw)(r:aB K Hs H fl ds vs As)(k:∀ a∈As,H' a=H a):aB K aw H' fl ds vs As:=(cK.Jh s).2 r k
def cK.grow(s:aS Hs aw)(t:aS H H')(r:cK K Hs H fl d v As):cK K aw H' fl d v As :=
 r.fS s λa h=>by
  cases e:H a with
  |none=>exact absurd e (r.own a h).ne
  |some o=>exact t a o e
def aB.grow(s:aS Hs aw)(t:aS H H')(r:aB K Hs H fl ds vs As):aB K aw H' fl ds vs As :=
 r.fS s λa h=>by
  cases e:H a with
  |none=>exact absurd e (r.own a h).ne
  |some o=>exact t a o e
def cK.rep2{G:Hp}(s:aS Hs G):(∀ {d:D} {v:V} {As:List ae},cK K Hs H fl d v As->(∀ a∈As,G a=H a)->Rep K G d v)/\∀ {ds:List D} {vs:List V} {As:List ae},aB K Hs H fl ds vs As->(∀ a∈As,G a=H a)->bS K G ds vs :=
 cK.ind (λ_ _ _ r _=>r.same s) (λ_ _ _ _ z e _ ih k=>.list z (.inl (.inl ((k _ fA).trans e))) (ih λa h=>k a (eI _ h))) (λ_ _ _ _ z e n _ ih k=>.tup z (s _ _ e) (ih k)) (λ_ _ _ _ z e _ ih k=>.dK z (.inl ((k _ fA).trans e)) (ih λa h=>k a (eI _ h))) (λ_ _ _ _ z e _ ih k=>.dT z (.inl ((k _ fA).trans e)) (ih λa h=>k a (eI _ h))) (λ_=>.nil) λ_ _ _ _ _ _ _ _ i1 i2 k=>.cons (i1 λa h=>k a (kg _ h)) (i2 λa h=>k a (eT _ h))
def cK.rep(s:aS Hs G)(r:cK K Hs H fl d v As)(k:∀ a∈As,G a=H a):Rep K G d v:=(cK.rep2 s).1 r k
def aB.reps(s:aS Hs G)(r:aB K Hs H fl ds vs As)(k:∀ a∈As,G a=H a):bS K G ds vs:=(cK.rep2 s).2 r k
def Rep.xu(t:∀ a vs,H a=some (.tup vs)->G a=some (.tup vs)):(∀ {d:D} {v:V},Rep K H d v->d.flat=true->Rep K G d v)/\∀ {ds:List D} {vs:List V},bS K H ds vs->dn ds=true->bS K G ds vs :=
 Rep.ind (λ_=>.non) (λb _=>.bl b) (λi _=>.int i) (λ_ h _=>.str h) (λ_ _ _ _ _ _ _ f=>by simp[D.flat] at f) (λ_ _ _ z e _ ih f=>.tup z (t _ _ e) (ih (by simpa[D.flat] using f))) (λ_ _ _ _ _ _ _ f=>by simp[D.flat] at f) (λ_ _ _ _ _ _ _ f=>by simp[D.flat] at f) (λ_=>.nil) λ_ _ _ _ _ _ i1 i2 f=>by simp only[dn,nv] at f;exact .cons (i1 f.1) (i2 f.2)
def Rep.dN(t:∀ a vs,H a=some (.tup vs)->G a=some (.tup vs))(r:Rep K H d v)(f:d.flat=true):Rep K G d v:=(Rep.xu t).1 r f
def bS.dN(t:∀ a vs,H a=some (.tup vs)->G a=some (.tup vs))(r:bS K H ds vs)(f:dn ds=true):bS K G ds vs:=(Rep.xu t).2 r f
def bS.owned(r:bS K Hs ds vs)(f:dn ds=true):aB K Hs H fl ds vs [] :=
 bS.ind (m:=λds vs=>dn ds=true->aB K Hs H fl ds vs []) (λ_=>.nil) (λ_ _ _ _ h _ ih f=>by
  simp only[dn,nv] at f;exact .cons (.sh (λ_=>f.1) h) (ih f.2)) r f
def bS.Jy(r:bS K Hs ds vs):aB K Hs H false ds vs [] :=
 bS.ind (m:=λds vs=>aB K Hs H false ds vs []) .nil (λ_ _ _ _ h _ ih=>.cons (.sh (λz=>Bool.noConfusion z) h) ih) r
def cK.cQ':(∀ {d:D} {v:V} {As:List ae},cK K Hs H fl d v As->cK K Hs H false d v As)/\∀ {ds:List D} {vs:List V} {As:List ae},aB K Hs H fl ds vs As->aB K Hs H false ds vs As :=
 cK.ind (λ_ _ _ r=>.sh (λz=>Bool.noConfusion z) r) (λ_ _ _ _ z e _ ih=>.list z e ih) (λ_ _ _ _ z e n _ ih=>.tup z e n ih) (λ_ _ _ _ z e _ ih=>.dK z e ih) (λ_ _ _ _ z e _ ih=>.dT z e ih) .nil λ_ _ _ _ _ _ _ _ a b=>.cons a b
def cK.UX(r:cK K Hs H fl d v As):cK K Hs H false d v As:=cK.cQ'.1 r
def aB.UX(r:aB K Hs H fl ds vs As):aB K Hs H false ds vs As:=cK.cQ'.2 r
def cK.Fd(t:∀ a vs,Hs a=some (.tup vs)->G a=some (.tup vs)):(∀ {d:D} {v:V} {As:List ae},cK K Hs H true d v As->cK K G H true d v As)/\∀ {ds:List D} {vs:List V} {As:List ae},aB K Hs H true ds vs As->aB K G H true ds vs As :=
 cK.ind (λ_ _ f r=>.sh f (r.dN t (f rfl))) (λ_ _ _ _ z e _ ih=>.list z e ih) (λ_ _ _ _ z e n _ ih=>.tup z (t _ _ e) n ih) (λ_ _ _ _ z e _ ih=>.dK z e ih) (λ_ _ _ _ z e _ ih=>.dT z e ih) .nil λ_ _ _ _ _ _ _ _ a b=>.cons a b
def cK.leaves(t:∀ a vs,Hs a=some (.tup vs)->G a=some (.tup vs))(r:cK K Hs H true d v As):cK K G H true d v As:=(cK.Fd t).1 r
def aB.ind{m:List D->List V->List ae->Prop}(hn:m [] [] [])(hc:∀ d v ds vs As Bs,cK K Hs H fl d v As->aB K Hs H fl ds vs Bs->m ds vs Bs->m (d :: ds) (v :: vs) (As++Bs)):∀ {ds vs As},aB K Hs H fl ds vs As->m ds vs As :=
 λr=>(cK.ind (m1:=λ_ _ _=>True) (λ_ _ _ _=>trivial) (λ_ _ _ _ _ _ _ _=>trivial) (λ_ _ _ _ _ _ _ _ _=>trivial) (λ_ _ _ _ _ _ _ _=>trivial) (λ_ _ _ _ _ _ _ _=>trivial) hn λd v ds vs As Bs r s _ b=>hc d v ds vs As Bs r s b).2 r
def aB.append(r:aB K Hs H fl ds vs As)(t:aB K Hs H fl es ws Bs):aB K Hs H fl (ds++es) (vs++ws) (As++Bs) :=
 aB.ind (m:=λds vs As=>aB K Hs H fl (ds++es) (vs++ws) (As++Bs)) t (λ_ _ _ _ _ _ h _ ih=>by
  rw[pE];exact .cons h ih) r
def aB.n0(h:aB K Hs H fl [] vs As):vs=[]/\As=[]:=by cases h;exact⟨rfl,rfl⟩
def aB.c(h:aB K Hs H fl (d :: ds) vs As):∃ u us A B,vs=u :: us/\As=A++B/\cK K Hs H fl d u A/\aB K Hs H fl ds us B:=by
 cases h with
 |cons r rs=>exact⟨_,_,_,_,rfl,rfl,r,rs⟩
def aB.length(r:aB K Hs H fl ds vs As):ds.length=vs.length :=
 aB.ind (m:=λds vs _=>ds.length=vs.length) rfl (λ_ _ _ _ _ _ _ _ ih=>by rw[jv,jv,ih]) r
end
def cR':HO->Prop
 |.dK _=>False
 |.dT _=>False
 |.qq _ _=>False
 |_=>True
def PD(H H':Hp):Prop:=∀ a o,cR' o->H a=some o->H' a=some o
structure PF where
 is:Hp->Hp->ae->List ae->Prop
 fS:∀ {Hs aw H H':Hp} {a:ae} {As:List ae},PD Hs aw->(∀ b∈As,H' b=H b)->is Hs H a As->is aw H' a As
 own:∀ {Hs H:Hp} {a:ae} {As:List ae},is Hs H a As->∀ b∈As,Own H b
def iZ(s:aS H H'):PD H H':=λa o _ e=>s a o e
inductive Sl where
 |sh (d:D)|ow (fl:Bool) (d:D)|lk (a:ae) (fl:Bool) (d:D)
 |xc (a:ae)
 |ob (a:ae) (p:PF)
abbrev Env:=List (Option Sl)
inductive SR(K:ay)(Hs H:Hp):Env->St->List ae->Prop
 |nil:SR K Hs H [] [] []
 |non {ρ:Env} {σ:St} {tot:List ae} {o:Option V}:SR K Hs H ρ σ tot->SR K Hs H (none :: ρ) (o :: σ) tot
 |sh {ρ:Env} {σ:St} {tot:List ae} {d:D} {v:V}:Rep K Hs d v->SR K Hs H ρ σ tot->SR K Hs H (some (.sh d) :: ρ) (some v :: σ) tot
 |xc {ρ:Env} {σ:St} {tot:List ae} {a:ae}:SR K Hs H ρ σ tot->SR K Hs H (some (.xc a) :: ρ) (some (.ref a) :: σ) tot
 |ow {ρ:Env} {σ:St} {tot As:List ae} {fl:Bool} {d:D} {v:V}:As≠[]->cK K Hs H fl d v As->SR K Hs H ρ σ tot->SR K Hs H (some (.ow fl d) :: ρ) (some v :: σ) (As++tot)
 |lk {ρ:Env} {σ:St} {tot As:List ae} {a:ae} {fl:Bool} {d:D}:As≠[]->cK K Hs H fl d (.ref a) As->SR K Hs H ρ σ tot->SR K Hs H (some (.lk a fl d) :: ρ) (some (.ref a) :: σ) (As++tot)
 |ob {ρ:Env} {σ:St} {tot As:List ae} {a:ae} {p:PF}:p.is Hs H a As->SR K Hs H ρ σ tot->SR K Hs H (some (.ob a p) :: ρ) (some (.ref a) :: σ) (As++tot)
structure Wf(Hs H:Hp):Prop where
 sub:aS Hs H
 iF:∀ a vs,H a=some (.tup vs)->Hs a=some (.tup vs)
structure dE(K:ay)(Hs:Hp)(ρ:Env)(σ:St)(H:Hp)(tot:List ae):Prop where
 sr:SR K Hs H ρ σ tot
 wf:Wf Hs H
 nX:tot.Nodup
 own:∀ a∈tot,Hs a=none
structure fe(Hs H aw H':Hp):Prop where
 all:aS H H'
 sh:aS Hs aw
 wf:Wf aw H'
 new:∀ a,aw a≠none->Hs a≠none\/H a=none
section
variable {K:ay}{Hs H aw H' cS' H'':Hp}
def fe.refl(w:Wf Hs H):fe Hs H Hs H:=⟨aS.refl _,aS.refl _,w,λ_ h=>.inl h⟩
def fe.trans(a:fe Hs H aw H')(b:fe aw H' cS' H''):fe Hs H cS' H'' :=
 ⟨a.all.trans b.all,a.sh.trans b.sh,b.wf,λc h=>by
  rcases b.new c h with h|h
  ·exact a.new c h
  ·exact .inr (a.all.free h)⟩
def fe.oq(g:fe Hs H aw H')(h:Hs a=none)(h':H a≠none):aw a=none:=by
 cases e:aw a with
 |none=>rfl
 |some o =>
  rcases g.new a (by rw[e];exact λz=>nomatch z) with z|z
  ·exact absurd h z
  ·exact absurd z h'
def SR.own{ρ:Env}{σ:St}{tot:List ae}(s:SR K Hs H ρ σ tot):∀ a∈tot,Own H a:=by
 induction s with
 |nil=>exact λa h=>xh h
 |non _ ih=>exact ih
 |sh _ _ ih=>exact ih
 |xc _ ih=>exact ih
 |ow _ r _ ih=>exact λa h=>(eR.mp h).elim (r.own a) (ih a)
 |lk _ r _ ih=>exact λa h=>(eR.mp h).elim (r.own a) (ih a)
 |@ob _ _ _ _ _ p r _ ih=>exact λa h=>(eR.mp h).elim (p.own r a) (ih a)
def SR.fS(s:aS Hs aw)(r:SR K Hs H ρ σ tot):(∀ a∈tot,H' a=H a)->SR K aw H' ρ σ tot:=by
 induction r with
 |nil=>exact λ_=>.nil
 |non _ ih=>exact λk=>.non (ih k)
 |sh h _ ih=>exact λk=>.sh (h.same s) (ih k)
 |xc _ ih=>exact λk=>.xc (ih k)
 |ow ne h _ ih=>exact λk=>.ow ne (h.fS s λa m=>k a (kg _ m)) (ih λa m=>k a (eT _ m))
 |lk ne h _ ih=>exact λk=>.lk ne (h.fS s λa m=>k a (kg _ m)) (ih λa m=>k a (eT _ m))
 |@ob _ _ _ _ _ p h _ ih=>exact λk=>.ob (p.fS (iZ s) (λa m=>k a (kg _ m)) h) (ih λa m=>k a (eT _ m))
def dE.grow(r:dE K Hs ρ σ H tot)(g:fe Hs H aw H'):dE K aw ρ σ H' tot :=
 ⟨r.sr.fS g.sh λa h=>by
  cases e:H a with
  |none=>exact absurd e (r.sr.own a h).ne
  |some o=>exact g.all a o e,g.wf,r.nX,λa h=>g.oq (r.own a h) (r.sr.own a h).ne⟩
def Bt(K:ay)(Hs H:Hp)(tot:List ae)(sl:Sl)(v:V):Prop:=match sl with
 |.sh d=>Rep K Hs d v
 |.ow fl d=>∃ As,As≠[]/\cK K Hs H fl d v As/\∀ a∈As,a∈tot
 |.lk a fl d=>∃ As,As≠[]/\cK K Hs H fl d v As/\v=.ref a/\∀ a∈As,a∈tot
 |.xc a=>v=.ref a
 |.ob a p=>v=.ref a/\∃ As,p.is Hs H a As/\∀ a∈As,a∈tot
def Bt.mono(h:Bt K Hs H tot sl v)(m:∀ a∈tot,a∈cf):Bt K Hs H cf sl v:=by
 cases sl with
 |sh d=>exact h
 |xc a=>exact h
 |ow fl d =>obtain⟨As,ne,r,q⟩:=h;exact⟨As,ne,r,λa ha=>m a (q a ha)⟩
 |lk a fl d =>obtain⟨As,ne,r,e,q⟩:=h;exact⟨As,ne,r,e,λa ha=>m a (q a ha)⟩
 |ob a p =>obtain⟨e,As,r,q⟩:=h;exact⟨e,As,r,λa ha=>m a (q a ha)⟩
def SR.get{ρ:Env}{σ:St}{tot:List ae}{i:Nat}{sl:Sl}(s:SR K Hs H ρ σ tot)(e:ρ[i]? = some (some sl)):∃ v,σ[i]? = some (some v)/\Bt K Hs H tot sl v:=by
 induction s generalizing i with
 |nil=>simp at e
 |non s ih =>
  cases i with
  |zero=>simp at e
  |succ i=>exact ih e
 |sh r s ih =>
  cases i with
  |zero=>simp at e;subst e;exact⟨_,rfl,r⟩
  |succ i=>exact ih e
 |xc s ih =>
  cases i with
  |zero=>simp at e;subst e;exact⟨_,rfl,rfl⟩
  |succ i=>exact ih e
 |ow ne r s ih =>
  cases i with
  |zero=>simp at e;subst e;exact⟨_,rfl,_,ne,r,λa m=>kg _ m⟩
  |succ i =>obtain⟨v,e1,h⟩:=ih e;exact⟨v,e1,h.mono λa m=>eT _ m⟩
 |lk ne r s ih =>
  cases i with
  |zero=>simp at e;subst e;exact⟨_,rfl,_,ne,r,rfl,λa m=>kg _ m⟩
  |succ i =>obtain⟨v,e1,h⟩:=ih e;exact⟨v,e1,h.mono λa m=>eT _ m⟩
 |ob r s ih =>
  cases i with
  |zero=>simp at e;subst e;exact⟨_,rfl,rfl,_,r,λa m=>kg _ m⟩
  |succ i =>obtain⟨v,e1,h⟩:=ih e;exact⟨v,e1,h.mono λa m=>eT _ m⟩
end
inductive Md where
 |sh|ow (fl:Bool)|bo|fr|wl (a:ae) (l:List V)
def LW(Hs H:Hp)(As:List ae):Hp:=λa=>if a∈As then H a else match Hs a with
 |some (.tup vs)=>some (.tup vs)
 |_=>none
def t6(t:∀ a vs,Hs a=some (.tup vs)->G a=some (.tup vs))(g:∀ a∈As,∀ o,H a=some o->G a=some o):aS (LW Hs H As) G:=λa o e=>by
 unfold LW at e;by_cases m:a∈As
 ·rw[if_pos m] at e;exact g a m o e
 ·rw[if_neg m] at e;split at e
  ·rename_i vs h;cases e;exact t a vs h
  ·cases e
def x_(o:∀ a∈As,Own H a)(w:aS Hs H)(h:Hs a=some (.tup vs)):LW Hs H As a=some (.tup vs):=by unfold LW;rw[if_neg λm=>(o a m).tZ (w _ _ h),h]
def RM(K:ay)(Hs H:Hp):Md->D->V->List ae->Prop
 |.sh,d,v,As=>As=[]/\Rep K Hs d v
 |.ow fl,d,v,As=>cK K Hs H fl d v As/\As≠[]
 |.bo,d,v,As=>As=[]/\Rep K H d v
 |.fr,d,v,As=>(∀ a∈As,Own H a)/\Rep K (LW Hs H As) d v
 |.wl a l,d,v,As=>As=[]/\Rep K H d v/\H a=some (.lst l)
inductive x8(K:ay)(Hs H:Hp):List (Md × D)->List V->List ae->Prop
 |nil:x8 K Hs H [] [] []
 |cons {m:Md} {d:D} {v:V} {ps:List (Md × D)} {vs:List V} {As Bs:List ae}:RM K Hs H m d v As->x8 K Hs H ps vs Bs->x8 K Hs H ((m,d) :: ps) (v :: vs) (As++Bs)
section
variable {K:ay}{Hs H aw H':Hp}
def RM.own{m:Md}{d:D}{v:V}{As:List ae}(r:RM K Hs H m d v As):∀ a∈As,Own H a:=by
 cases m with
 |sh=>obtain⟨rfl,_⟩:=r;exact λa h=>xh h
 |ow fl=>exact cK.own r.1
 |bo=>obtain⟨rfl,_⟩:=r;exact λa h=>xh h
 |fr=>exact r.1
 |wl=>obtain⟨rfl,_⟩:=r;exact λa h=>xh h
def RM.grow(r:RM K Hs H m d v As)(g:fe Hs H aw H'):RM K aw H' m d v As:=by
 have ow:(∀ a∈As,Own H a)->∀ a∈As,Own H' a:=λz a h=>let ⟨o,e,n⟩:=z a h;⟨o,g.all _ _ e,n⟩
 cases m with
 |sh=>exact⟨r.1,r.2.same g.sh⟩
 |ow fl=>exact⟨cK.grow g.sh g.all r.1,r.2⟩
 |bo=>exact⟨r.1,r.2.same g.all⟩
 |fr=>exact⟨ow r.1,r.2.same (t6 (λa vs e=>x_ (ow r.1) g.wf.sub (g.sh _ _ e)) λa m o e=>by unfold LW;rw[if_pos m];exact g.all _ _ e)⟩
 |wl=>exact⟨r.1,r.2.1.same g.all,g.all _ _ r.2.2⟩
def RM.rep(w:Wf Hs H)(r:RM K Hs H m d v As):Rep K H d v:=by
 cases m with
 |sh=>exact r.2.same w.sub
 |ow fl=>exact cK.rep w.sub r.1 λ_ _=>rfl
 |bo=>exact r.2
 |fr=>exact r.2.same (t6 (λ_ _ e=>w.sub _ _ e) λ_ _ _ e=>e)
 |wl=>exact r.2.1
def RM.flat(w:Wf Hs H)(r:RM K Hs H m d v As)(f:d.flat=true):Rep K Hs d v:=(r.rep w).dN w.iF f
def x8.own{ps:List (Md × D)}{vs:List V}{As:List ae}(r:x8 K Hs H ps vs As):∀ a∈As,Own H a:=by
 induction r with
 |nil=>exact λa h=>xh h
 |cons r _ ih=>exact λa h=>(eR.mp h).elim (r.own a) (ih a)
def x8.reps(w:Wf Hs H){ps:List (Md × D)}(r:x8 K Hs H ps vs As):bS K H (ps.map (·.2)) vs:=by
 induction r with
 |nil=>exact .nil
 |cons r _ ih=>exact .cons (r.rep w) ih
end
abbrev WE:=Env->(Md->D->Prop)->Prop
abbrev WT:=Env->(Bool->Prop)->Prop
abbrev WA:=Env->(List (Md × D)->Prop)->Prop
structure dH where
 nx:Env->Prop
 rt:Md->D->Prop
 bk:Env->Prop:=fun _=>False
 ct:Env->Prop:=fun _=>False
abbrev WS:=dH->Env->Prop
def bM(aw H:Hp)(As:List ae):Prop:=As.Nodup/\∀ a∈As,aw a=none/\H a=none
def vn(K:ay)(t:WE):TE:=λσ H Qv=>∃ Hs ρ tot Q,dE K Hs ρ σ H tot/\t ρ Q /\
 ∀ v H' aw m d As,fe Hs H aw H'->RM K aw H' m d v As->bM aw H As->Q m d->Qv v H'
def EW(K:ay)(t:WT):TT:=λσ H Qv=>∃ Hs ρ tot Q,dE K Hs ρ σ H tot/\t ρ Q/\∀ b H' aw,fe Hs H aw H'->Q b->Qv b H'
def UY(K:ay)(t:WA):TA:=λσ H Qv=>∃ Hs ρ tot Q,dE K Hs ρ σ H tot/\t ρ Q /\
 ∀ vs H' aw ps As,fe Hs H aw H'->x8 K aw H' ps vs As->bM aw H As->Q ps->Qv vs H'
def y8(K:ay)(L:Str->Hp->Prop)(t:WS):TS:=λD σ H=>∃ Hs ρ tot E,dE K Hs ρ σ H tot/\t E ρ /\ (∀ b4 H' aw bt cf,aS Hs aw->dE K aw bt b4 H' cf->E.nx bt->D.nx b4 H') /\ (∀ b4 H' aw bt cf,aS Hs aw->dE K aw bt b4 H' cf->E.bk bt->D.bk b4 H') /\ (∀ b4 H' aw bt cf,aS Hs aw->dE K aw bt b4 H' cf->E.ct bt->D.ct b4 H') /\ (∀ v H' aw m d As,aS Hs aw->Wf aw H'->RM K aw H' m d v As->As.Nodup->(∀ a∈As,aw a=none)->E.rt m d->D.rt v H') /\
 ∀ n H',aS Hs H'->E.rt (.ow false) (.str n)->L n H'
def cG{K:ay}{L:Str->Hp->Prop}{t:WS}{D:Ends}{σ:St}{H:Hp}{G:Prop}(x:y8 K L t D σ H)(k:∀ Hs ρ tot E,dE K Hs ρ σ H tot->t E ρ -> (∀ b4 H' aw bt cf,aS Hs aw->dE K aw bt b4 H' cf->E.nx bt->D.nx b4 H') -> (∀ b4 H' aw bt cf,aS Hs aw->dE K aw bt b4 H' cf->E.bk bt->D.bk b4 H') -> (∀ b4 H' aw bt cf,aS Hs aw->dE K aw bt b4 H' cf->E.ct bt->D.ct b4 H') -> (∀ v H' aw m d As,aS Hs aw->Wf aw H'->RM K aw H' m d v As->As.Nodup->(∀ a∈As,aw a=none)->E.rt m d->D.rt v H') -> (∀ n H',aS Hs H'->E.rt (.ow false) (.str n)->L n H')->G):G :=
 by
 obtain⟨Hs,ρ,tot,E,sr,h,k1,k2,k3,k4,kx⟩:=x;exact k Hs ρ tot E sr h k1 k2 k3 k4 kx
def bR{K:ay}{L:Str->Hp->Prop}{t:WS}{D:Ends}{σ:St}{H:Hp}{G:Prop}(x:y8 K L t D σ H)(k:∀ Hs ρ tot E,dE K Hs ρ σ H tot->t E ρ -> (∀ b4 H' aw bt cf,aS Hs aw->dE K aw bt b4 H' cf->E.nx bt->D.nx b4 H') -> (∀ b4 H' aw bt cf,aS Hs aw->dE K aw bt b4 H' cf->E.bk bt->D.bk b4 H') -> (∀ b4 H' aw bt cf,aS Hs aw->dE K aw bt b4 H' cf->E.ct bt->D.ct b4 H') -> (∀ v H' aw m d As,aS Hs aw->Wf aw H'->RM K aw H' m d v As->As.Nodup->(∀ a∈As,aw a=none)->E.rt m d->D.rt v H')->G):G :=
 cG x λHs ρ tot E sr h k1 k2 k3 k4 _=>k Hs ρ tot E sr h k1 k2 k3 k4
def hV{α β γ δ:Type _}{A B C:α->β->γ->δ->Prop}{G:Prop}(x:∃ a b c d,A a b c d/\B a b c d/\C a b c d)(k:∀ a b c d,A a b c d->B a b c d->C a b c d->G):G :=
 by
 obtain⟨a,b,c,d,p,q,r⟩:=x;exact k a b c d p q r
abbrev QE(X:Cx)(K:ay)(e:Expr)(t:WE):Prop:=PE X e (vn K t)
abbrev QT(X:Cx)(K:ay)(e:Expr)(t:WT):Prop:=PT X e (EW K t)
abbrev QW(X:Cx)(K:ay)(e:Expr)(t:WT):Prop:=PW X e (EW K t)
abbrev QA(X:Cx)(K:ay)(es:List Expr)(t:WA):Prop:=PA X es (UY K t)
abbrev QS(X:Cx)(K:ay)(L:Str->Hp->Prop)(st:h8)(t:WS):Prop:=PS X st (y8 K L t)
abbrev tm(X:Cx)(K:ay)(L:Str->Hp->Prop)(st:List h8)(t:WS):Prop:=mE X st (y8 K L t)
abbrev L0:Str->Hp->Prop:=λ_ _=>True
end L2.Q
namespace L2.Q
structure Kt{α:Type}(f:α->Prop):Type where
def b9{α:Type}(a:α){f:α->Prop}(_:Kt f):Prop:=f a
mutual
def D.py:D->PyData
 |.non=>.none
 |.bl b=>.bool b
 |.int i=>.int i
 |.str x=>.str x
 |.list xs=>.list (sv xs)
 |.tup xs=>.tuple (sv xs)
 |.dK _=>.none
 |.dT _=>.none
def sv:List D->List PyData
 |[]=>[]
 |x :: xs=>x.py :: sv xs
end
def eK:Nat->D->Bool
 |_,.non=>true
 |_,.bl _=>true
 |_,.int _=>true
 |_,.str x=>PyData.strOk x
 |n+1,.list xs=>xs.all (eK n)
 |n+1,.tup xs=>xs.all (eK n)
 |_,_=>false
def nK(x y:D):Bool:=PyData.eqv x.py y.py
def D.ty:D->String
 |.non => "NoneType"
 |.bl _ => "bool"
 |.int _ => "int"
 |.str _ => "str"
 |.list _ => "list"
 |.tup _ => "tuple"
 |.dK _ => "dict"
 |.dT _ => "dict"
def D.key1:D->Option Key
 |.int i=>some (.inl i)
 |.str x=>some (.inr x)
 |_=>none
def gF:List D->Option (List Key)
 |[]=>some []
 |x :: xs=>match x.key1,gF xs with
  |some k,some ks=>some (k :: ks)
  |_,_=>none
section
variable {κ:Type}[DecidableEq κ]{β:Type}
def mM(ag:List (κ × β))(k:κ):Option β:=(ag.find? λkv=>decide (kv.1=k)).map (·.2)
def sA(ag:List (κ × β))(k:κ)(v:β):List (κ × β) :=
 if (ag.any λkv=>decide (kv.1=k))=true then ag.map (λkv=>if kv.1=k then (kv.1,v) else kv) else ag++[(k,v)]
end
def Rep.l22{K:ay}:(∀ {d:D} {v:V},Rep K H d v->∀ n,eK n d=true->L2.Rep K H d.py v)/\∀ {ds:List D} {vs:List V},bS K H ds vs->∀ n,(∀ d∈ds,eK n d=true)->L2.bS K H (sv ds) vs :=
 Rep.ind (λ_ _=>.none) (λb _ _=>.bool b) (λi _ _=>.int i) (λ_ _ _ _=>.str _) (λ_ _ _ _ h _ ih n o=>by
   cases n with
   |zero=>simp[eK] at o
   |succ n=>exact .list h (ih n (by simpa[eK] using o)))
  (λ_ _ _ _ h _ ih n o=>by
   cases n with
   |zero=>simp[eK] at o
   |succ n=>exact .tuple (.inl (.inl h)) (ih n (by simpa[eK] using o)))
  (λ_ _ _ _ _ _ _ n o=>by cases n<;>simp[eK] at o) (λ_ _ _ _ _ _ _ n o=>by cases n<;>simp[eK] at o) (λ_ _=>.nil)
  λ_ _ _ _ _ _ i1 i2 n o=>.cons (i1 n (o _ fA)) (i2 n λd m=>o d (eI _ m))
def Rep.l2{K:ay}(r:Rep K H d v)(o:eK n d=true):L2.Rep K H d.py v:=Rep.l22.1 r n o
def yr(ih:∀ d,eK n d=true->d.py.canLay0=true/\d.py.depth<=n)(xs:List D)(h:∀ x∈xs,eK n x=true):PyData.canLayAll0 (sv xs)=true/\PyData.depthAll (sv xs)<=n:=by
 induction xs with
 |nil=>exact⟨rfl,gd _⟩
 |cons x xs ih2 =>have h1:=ih x (h x fA);have h2:=ih2 λy hy=>h y (eI _ hy);simp only[sv,PyData.canLayAll0,PyData.depthAll,h1.1,h2.1,Bool.and_self,true_and];lia
def jg(n:Nat):∀ (d:D),eK n d=true->d.py.canLay0=true/\d.py.depth<=n:=by
 have st:∀ n x,eK n (.str x)=true->(D.str x).py.canLay0=true/\(D.str x).py.depth<=n:=λn x h=>by
  have h:PyData.strOk x=true:=by cases n<;>simpa[eK] using h
  exact⟨by simpa[D.py,PyData.canLay0] using h,gd _⟩
 induction n with
 |zero =>
  intro d h
  cases d with
  |str x=>exact st _ x h
  |non=>exact⟨rfl,gd _⟩
  |bl _=>exact⟨rfl,gd _⟩
  |int _=>exact⟨rfl,gd _⟩
  |_=>simp[eK] at h
 |succ n ih =>
  intro d h
  cases d with
  |str x=>exact st _ x h
  |non=>exact⟨rfl,gd _⟩
  |bl _=>exact⟨rfl,gd _⟩
  |int _=>exact⟨rfl,gd _⟩
  |list xs =>
   have h:∀ x∈xs,eK n x=true:=by simpa[eK] using h
   have:=yr ih xs h;simp only[D.py,PyData.canLay0,PyData.depth];exact⟨this.1,by lia⟩
  |tup xs =>
   have h:∀ x∈xs,eK n x=true:=by simpa[eK] using h
   have:=yr ih xs h;simp only[D.py,PyData.canLay0,PyData.depth];exact⟨this.1,by lia⟩
  |dK _=>simp[eK] at h
  |dT _=>simp[eK] at h
mutual
def D.nb:D->Bool
 |.bl _=>false
 |.list xs=>oQ xs
 |.tup xs=>oQ xs
 |.dK _=>false
 |.dT _=>false
 |_=>true
def oQ:List D->Bool
 |[]=>true
 |x :: xs=>x.nb && oQ xs
end
mutual
theorem d_:∀ (x y:D),x.nb=true->y.nb=true->(nK x y=true↔x=y)
 |.non,y,_,hy=>by cases y<;>simp_all [nK,D.py,PyData.eqv,D.nb]
 |.bl _,y,hx,_=>by simp[D.nb] at hx
 |.int i,y,_,hy=>by cases y<;>simp_all [nK,D.py,PyData.eqv,D.nb]
 |.str i,y,_,hy=>by cases y<;>simp_all [nK,D.py,PyData.eqv,D.nb]
 |.dK _,y,hx,_=>by simp[D.nb] at hx
 |.dT _,y,hx,_=>by simp[D.nb] at hx
 |.list xs,y,hx,hy=>by
  cases y with
  |list ys =>have:=oU xs ys (by simpa[D.nb] using hx) (by simpa[D.nb] using hy);simp only[nK,D.py,PyData.eqv,D.list.injEq];exact this
  |_=>simp_all [nK,D.py,PyData.eqv,D.nb]
 |.tup xs,y,hx,hy=>by
  cases y with
  |tup ys =>have:=oU xs ys (by simpa[D.nb] using hx) (by simpa[D.nb] using hy);simp only[nK,D.py,PyData.eqv,D.tup.injEq];exact this
  |_=>simp_all [nK,D.py,PyData.eqv,D.nb]
theorem oU:∀ (xs ys:List D),oQ xs=true->oQ ys=true->(PyData.eqvAll (sv xs) (sv ys)=true↔xs=ys)
 |[],[],_,_=>by simp[sv,PyData.eqvAll]
 |[],_ :: _,_,_=>by simp[sv,PyData.eqvAll]
 |_ :: _,[],_,_=>by simp[sv,PyData.eqvAll]
 |x :: xs,y :: ys,hx,hy=>by simp only[oQ,nv] at hx hy;have h1:=d_ x y hx.1 hy.1;have h2:=oU xs ys hx.2 hy.2;simp only[sv,PyData.eqvAll,nv,List.cons.injEq];exact and_congr h1 h2
end
section
variable {K:ay}{H:Hp}
def Rep.key(r:Rep K H d v)(h:d.key1=some k):v=kV k:=by cases r<;>simp[D.key1] at h<;>subst h<;>rfl
def bS.keys(r:bS K H ds vs)(h:gF ds=some ks):vs=ks.map kV:=by
 induction ds generalizing vs ks with
 |nil=>simp[gF] at h;subst h;exact r.n0
 |cons d ds ih =>
  obtain⟨u,us,rfl,r,rs⟩:=r.c;unfold gF at h
  cases e1:d.key1 with
  |none=>rw[e1] at h;simp at h
  |some k =>
   cases e2:gF ds with
   |none=>rw[e1,e2] at h;simp at h
   |some ks' =>rw[e1,e2] at h;simp at h;subst h;rw[fR,r.key e1,ih rs e2]
def Rep.PH(r:Rep K H (.tup ds) v)(h:gF ds=some ks):∃ b,v=.ref b/\H b=some (.tup (ks.map kV)):=by
 cases r with
 |tup _ e rs=>exact⟨_,rfl,by rw[e,rs.keys h]⟩
end
section
variable {κ:Type}[DecidableEq κ]{K:ay}{H:Hp}
def zip_get{k:κ}{ag:List (κ × D)}{vs:List V}(h:bS K H (ag.map (·.2)) vs):match mM ag k with
  |some d=>∃ v,mr ((ag.map (·.1)).zip vs) k=some v/\Rep K H d v
  |none=>mr ((ag.map (·.1)).zip vs) k=none:=by
 induction ag generalizing vs with
 |nil=>rfl
 |cons p ag ih =>
  obtain⟨u,us,rfl,r,rs⟩:=bS.c h;by_cases e:p.1=k
  ·have e1:mM (p :: ag) k=some p.2:=by simp[mM,e]
   rw[e1];exact⟨_,by simp only[fR,Ra];exact Us e,r⟩
  ·have e1:mM (p :: ag) k=mM ag k:=by simp[mM,e]
   rw[e1];have:=ih rs;simp only[fR,Ra,Ut (p:=(p.1,_)) e];exact this
def Hm{k:κ}{ag:List (κ × D)}{vs:List V}(h:ag.length=vs.length):((ag.map (·.1)).zip vs).any (λkv=>decide (kv.1=k))=ag.any λkv=>decide (kv.1=k):=by
 induction ag generalizing vs with
 |nil=>rfl
 |cons p ag ih =>
  cases vs with
  |nil=>simp at h
  |cons v vs =>simp only[fR,Ra,D5];rw[ih (by simpa using h)]
end
section
variable {K:ay}{Hs H:Hp}
def PK(w:Wf Hs H)(hp:H p=none)(ho:∀ vs,o≠.tup vs):fe Hs H Hs (upd H p o) :=
 ⟨(aS.refl H).upd hp,aS.refl _,⟨w.sub.upd hp,λa vs e=>by
  by_cases h:a=p
  ·subst h;rw[eJ] at e;exact absurd (Option.some.inj e) (ho vs)
  ·rw[df h] at e;exact w.iF a vs e⟩,λ_ h=>.inl h⟩
def LZ(w:Wf Hs H)(hp:H p=none):fe Hs H (upd Hs p (.tup vs)) (upd H p (.tup vs)) :=
 ⟨(aS.refl H).upd hp,(aS.refl Hs).upd (w.sub.free hp),⟨λa o e=>by
  by_cases h:a=p
  ·subst h;rw[eJ] at e ⊢;exact e
  ·rw[df h] at e ⊢;exact w.sub a o e,λa vs e=>by
  by_cases h:a=p
  ·subst h;rw[eJ] at e ⊢;exact e
  ·rw[df h] at e ⊢;exact w.iF a vs e⟩,λa h=>by
  by_cases e:a=p
  ·subst e;exact .inr hp
  ·rw[df e] at h;exact .inl h⟩
def bM.nil:bM Hs H []:=⟨kT,λa h=>nomatch h⟩
def bM.of(s:aS H H')(f:bM Hs H' As):bM Hs H As:=⟨f.1,λa h=>⟨(f.2 a h).1,s.free (f.2 a h).2⟩⟩
abbrev Fin(K:ay)(Hs H:Hp)(Qd:Md->D->Prop)(Qv:VK):Prop:=∀ v H' aw m d As,fe Hs H aw H'->RM K aw H' m d v As->bM aw H As->Qd m d->Qv v H'
def Fin.after(f:Fin K Hs H Qd Qv)(g:fe Hs H aw H'):Fin K aw H' Qd Qv:=λv H2 aC m d As g2 r fr q=>f v H2 aC m d As (g.trans g2) r (fr.of g.all) q
def Fin.sh(f:Fin K Hs H Qd Qv)(w:Wf Hs H)(r:Rep K Hs d v)(q:Qd .sh d):Qv v H:=f v H Hs .sh d [] (fe.refl w) ⟨rfl,r⟩ bM.nil q
def Fin.flat(f:Fin K Hs H Qd Qv)(w:Wf Hs H)(r:Rep K H d v)(hf:d.flat=true)(q:Qd .sh d):Qv v H:=f.sh w (r.dN w.iF hf) q
def Fin.bo(f:Fin K Hs H Qd Qv)(w:Wf Hs H)(r:Rep K H d v)(q:Qd .bo d):Qv v H:=f v H Hs .bo d [] (fe.refl w) ⟨rfl,r⟩ bM.nil q
def ya(m:Md)(d:D):Md:=match m with
 |.sh=>.sh
 |_=>bif d.flat then .sh else .bo
def Fin.ya(f:Fin K Hs H Qd Qv)(w:Wf Hs H)(r:Rep K H d v)(rs:m=.sh->Rep K Hs d v)(q:Qd (ya m d) d):Qv v H:=by
 have o:Qd (bif d.flat then .sh else .bo) d->Qv v H:=λq=>by
  cases hf:d.flat with
  |true=>exact f.flat w r hf (by simpa[hf] using q)
  |false=>exact f.bo w r (by simpa[hf] using q)
 cases m with
 |sh=>exact f.sh w (rs rfl) q
 |_=>exact o q
def Fin.lst(f:Fin K Hs H Qd Qv)(w:Wf Hs H)(hz:ds.length<=bE)(r:bS K H ds vs)(hf:dn ds=true)(q:Qd (.ow true) (.list ds)):∀ p,H p=none->Qv (.ref p) (upd H p (.lst vs)):=λp hp =>
 f _ _ Hs (.ow true) (.list ds) [p] (PK w hp λ_ z=>nomatch z) ⟨.list (by rw[<- r.length];exact hz) eJ ((r.dN w.iF hf).owned hf),by simp⟩ ⟨by simp,λa h=>by
  obtain rfl:a=p:=by simpa using h
  exact⟨w.sub.free hp,hp⟩⟩ q
def Fin.UZ(f:Fin K Hs H Qd Qv)(w:Wf Hs H)(hz:ds.length<=bE)(r:bS K Hs ds vs)(q:Qd (.ow false) (.list ds)):∀ p,H p=none->Qv (.ref p) (upd H p (.lst vs)):=λp hp =>
 f _ _ Hs (.ow false) (.list ds) [p] (PK w hp λ_ z=>nomatch z) ⟨.list (by rw[<- r.length];exact hz) eJ r.Jy,by simp⟩ ⟨by simp,λa h=>by
  obtain rfl:a=p:=by simpa using h
  exact⟨w.sub.free hp,hp⟩⟩ q
def Fin.tup(f:Fin K Hs H Qd Qv)(w:Wf Hs H)(hz:ds.length<=bE)(r:bS K H ds vs)(hf:dn ds=true)(q:Qd .sh (.tup ds)):∀ p,H p=none->Qv (.ref p) (upd H p (.tup vs)):=λp hp =>
 f _ _ (upd Hs p (.tup vs)) .sh (.tup ds) [] (LZ w hp) ⟨rfl,.tup (by rw[<- r.length];exact hz) eJ ((r.dN w.iF hf).same ((aS.refl Hs).upd (w.sub.free hp)))⟩ bM.nil q
end
section
variable {X:Cx}{K:ay}
def PE.imp(h:PE X e te)(i:∀ σ H Q,y9 σ H Q->te σ H Q):PE X e y9:=λpins s σ H Q I q=>h pins s σ H Q I (i σ H Q q)
def PT.imp(h:PT X e te)(i:∀ σ H Q,y9 σ H Q->te σ H Q):PT X e y9:=λpins s σ H Q I q=>h pins s σ H Q I (i σ H Q q)
def PW.imp(h:PW X e te)(i:∀ σ H Q,y9 σ H Q->te σ H Q):PW X e y9:=λwh pins s σ H Q I q=>h wh pins s σ H Q I (i σ H Q q)
def PA.imp(h:PA X e te)(i:∀ σ H Q,y9 σ H Q->te σ H Q):PA X e y9:=λp pins s σ H Q I q=>h p pins s σ H Q I (i σ H Q q)
def U0:Option (Option Sl)->(Md->D->Prop)->Prop
 |some (some (.sh d)),Q=>Q .sh d
 |some (some (.ow _ d)),Q=>Q .bo d
 |some (some (.lk _ _ d)),Q=>Q .bo d
 |_,_=>False
def ai(i:Nat):WE:=λρ Q=>U0 ρ[i]? Q
def MN(h:PE X e (jI i)):QE X K e (ai i):=by
 refine PE.imp h λσ H Qv hx=>hV hx λHs ρ tot Q sr h f=>?_;unfold ai at h
 cases e:ρ[i]? with
 |none=>rw[e] at h;exact h.elim
 |some o =>
  cases o with
  |none=>rw[e] at h;exact h.elim
  |some sl =>
   obtain⟨v,e1,r⟩:=sr.sr.get e;rw[e] at h
   cases sl with
   |sh d=>exact⟨v,e1,Fin.sh f sr.wf r h⟩
   |xc a=>exact h.elim
   |ob a p=>exact h.elim
   |ow fl d =>obtain⟨As,_,r,_⟩:=r;exact⟨v,e1,Fin.bo f sr.wf (r.rep sr.wf.sub λ_ _=>rfl) h⟩
   |lk a fl d =>obtain⟨As,_,r,_⟩:=r;exact⟨v,e1,Fin.bo f sr.wf (r.rep sr.wf.sub λ_ _=>rfl) h⟩
def qv (i:Nat) (hN:autoParam (X.N[i]? = some x) bv) (hv:Rr X.env.scope x:=by first|exact Or.inl rfl|exact Or.inr (Or.inl rfl)|exact Or.inr (Or.inr rfl)) (hd:(x == ("__debug__" : Str))=false:=by decide) (qA:(x == ("__classdict__" : Str))=false:=by decide):QE X K (.Name x pos) (ai i):=MN (Rz hN hv hd qA)
def wC(d:D):WE:=λ_ Q=>Q .sh d
def vG(h:PE X e (tC v))(r:∀ H,Rep K H d v):QE X K e (wC d) :=
 PE.imp h λσ H Qv hx=>hV hx λHs ρ tot Q sr h f=>Fin.sh f sr.wf (r _) h
def au{i j pos}:QE X K (.Constant (.int i) j pos) (wC (.int i)):=vG eZ' λ_=>.int i
def aG{i j pos}(h:i.length<=bE:=by decide):QE X K (.Constant (.str i) j pos) (wC (.str i)):=vG RA λ_=>.str h
def pV{i j pos}:QE X K (.Constant (.bool i) j pos) (wC (.bl i)):=vG fa' λ_=>.bl i
def oF{j pos}:QE X K (.Constant .none j pos) (wC .non):=vG fc' λ_=>.non
def cU' (h:UL X.mg x z) (hg:autoParam (Gl X x) bv) (hd:(x == ("__debug__" : Str))=false:=by decide) (hz:z.length<=bE:=by decide):QE X K (.Name x pos) (wC (.str z)):=vG (Ms h hg hd) λ_=>.str hz
def Sj (h:OX X.mg x i) (hg:autoParam (Gl X x) bv) (hd:(x == ("__debug__" : Str))=false:=by decide):QE X K (.Name x pos) (wC (.int i)):=vG (Lh h hg hd) λ_=>.int i
abbrev W2:=Md->D->Md->D->(Md->D->Prop)->Prop
abbrev W1:=Md->D->(Md->D->Prop)->Prop
def k7(K:ay)(r:R2)(f:W2):Prop:=∀ Hs H m x v As n y u Bs Qd Qv,Wf Hs H->RM K Hs H m x v As->RM K Hs H n y u Bs->f m x n y Qd->Fin K Hs H Qd Qv->r v u H Qv
def Br1(K:ay)(r:V->Hp->VK->Prop)(f:W1):Prop:=∀ Hs H m x v As Qd Qv,Wf Hs H->RM K Hs H m x v As->f m x Qd->Fin K Hs H Qd Qv->r v H Qv
def ax(f:W2)(ta tb:WE):WE:=λρ Q=>ta ρ λm x=>tb ρ λn y=>f m x n y Q
def dQ(f:W1)(ta:WE):WE:=λρ Q=>ta ρ λm x=>f m x Q
variable {a b:Expr}{ta tb tc:WE}{pos:Pos}
def jL(br:k7 K r f)(σ:St)(H:Hp)(Qv:VK)(h:vn K (ax f ta tb) σ H Qv):RH r (vn K ta) (vn K tb) σ H Qv:=by obtain⟨Hs,ρ,tot,Q,sr,h,fin⟩:=h;exact⟨Hs,ρ,tot,_,sr,h,λv H1 aI m x As g1 r1 f1 q1=>⟨aI,ρ,tot,_,sr.grow g1,q1,λu H2 aC n y Bs g2 r2 f2 q2=>br aC H2 m x v As n y u Bs Q Qv g2.wf (r1.grow g2) r2 q2 (Fin.after fin (g1.trans g2))⟩⟩
def L4(ho:d5 X (oz op) r)(br:k7 K r f)(ha:QE X K a ta)(hb:QE X K b tb):QE X K (.BinOp a op b pos) (ax f ta tb):=PE.imp (fP' ho ha hb) (jL br)
def kb'(ho:Uc X (unaryOp op) r)(br:Br1 K r f)(ha:QE X K a ta):QE X K (.UnaryOp op a pos) (dQ f ta):=by exact PE.imp (fQ' ho ha) λσ H Qv hx=>hV hx λHs ρ tot Q sr h fin=>⟨Hs,ρ,tot,_,sr,h,λv H1 aI m x As g1 r1 f1 q1=>br aI H1 m x v As Q Qv g1.wf r1 q1 (Fin.after fin g1)⟩
def ou(ho:d5 X (hZ op) r)(br:k7 K r f)(ha:QE X K a ta)(hb:QE X K b tb)(hm:FC op b=false:=by first|exact bk' _|rfl):QE X K (.Compare a [op] [b] pos) (ax f ta tb):=PE.imp (gk' ho ha hb hm) (jL br)
def wB(t:WE):WT:=λρ Q=>t ρ λ_ x=>match x with
 |.bl b=>Q b
 |_=>False
def zM(σ:St)(H:Hp)(Qv:Bool->Hp->Prop)(h:EW K (wB t) σ H Qv):Ws (vn K t) σ H Qv:=by
 obtain⟨Hs,ρ,tot,Q,sr,h,fin⟩:=h;refine⟨Hs,ρ,tot,_,sr,h,λv H1 aI m x As g1 r1 f1 q1=>?_⟩;have r:=r1.rep g1.wf
 cases r with
 |bl b=>exact⟨b,rfl,fin b H1 aI g1 q1⟩
 |_=>exact q1.elim
def aD(ho:d5 X (hZ op) r)(br:k7 K r f)(ha:QE X K a ta)(hb:QE X K b tb)(hm:FC op b=false:=by first|exact bk' _|rfl):QT X K (.Compare a [op] [b] pos) (wB (ax f ta tb)):=by
 refine PT.imp (gl' ho ha hb hm) λσ H Qv h=>?_;obtain⟨Hs,ρ,tot,Q,sr,h,fin⟩:=h;refine jL br σ H _ ⟨Hs,ρ,tot,_,sr,h,λv H1 aI m x As g1 r1 f1 q1=>?_⟩;have r:=r1.rep g1.wf
 cases r with
 |bl b=>exact⟨b,rfl,fin b H1 aI g1 q1⟩
 |_=>exact q1.elim
def d8(h:QE X K a t)(he:∀ whole,isTrue a X.env whole=(do let v <- whole;standAt a.pos;holding [v] (truthy v)):=by intro _;rfl):QT X K a (wB t):=PT.imp (fg' h he) zM
def jU(f g:W2)(ta tb tc:WE):WE:=λρ Q=>ta ρ λm x=>tb ρ λn y=>f m x n y λ_ z=>match z with
 |.bl k=>if k=true then tc ρ λl w=>g n y l w Q else Q .sh (.bl false)
 |_=>False
end
section
variable {X:Cx}{K:ay}{a b c:Expr}{ta tb tc:WE}{pos:Pos}
def mW(br:k7 K r f)(Sn:k7 K r' g)(σ:St)(H:Hp)(Qv:VK)(h:vn K (jU f g ta tb tc) σ H Qv):Wt r r' (vn K ta) (vn K tb) (vn K tc) σ H Qv:=by
 obtain⟨Hs,ρ,tot,Q,sr,h,fin⟩:=h;refine⟨Hs,ρ,tot,_,sr,h,λv H1 aI m x As g1 r1 f1 q1=>⟨aI,ρ,tot,_,sr.grow g1,q1,λu H2 aC n y Bs g2 r2 f2 q2=>?_⟩⟩;refine br aC H2 m x v As n y u Bs _ _ g2.wf (r1.grow g2) r2 q2 λz H3 gv m3 d3 As3 g3 r3 f3 q3=>?_;have rr:=r3.rep g3.wf
 cases rr with
 |bl k =>
  refine⟨k,rfl,?_⟩;have UR:Fin K gv H3 Q Qv:=Fin.after fin ((g1.trans g2).trans g3)
  cases k with
  |false=>exact UR.sh g3.wf (.bl false) q3
  |true =>exact⟨gv,ρ,tot,_,((sr.grow g1).grow g2).grow g3,q3,λw H4 zh l z As4 g4 r4 f4 q4=>Sn zh H4 n y u Bs l z w As4 Q Qv g4.wf ((r2.grow g3).grow g4) r4 q4 (Fin.after UR g4)⟩
 |_=>exact q3.elim
def Dr(ho:d5 X (hZ op) r)(wa:d5 X (hZ op') r')(br:k7 K r f)(Sn:k7 K r' g)(ha:QE X K a ta)(hb:QE X K b tb)(hc:QE X K c tc)(hm:lastMarks [op,op'] [b,c]=false:=by with_unfolding_all rfl):QE X K (.Compare a [op,op'] [b,c] pos) (jU f g ta tb tc):=PE.imp (gm' ho wa ha hb hc hm) (mW br Sn)
def uA(ho:d5 X (hZ op) r)(wa:d5 X (hZ op') r')(br:k7 K r f)(Sn:k7 K r' g)(ha:QE X K a ta)(hb:QE X K b tb)(hc:QE X K c tc)(hm:lastMarks [op,op'] [b,c]=false:=by with_unfolding_all rfl):QT X K (.Compare a [op,op'] [b,c] pos) (wB (jU f g ta tb tc)):=by
 refine PT.imp (gn' ho wa ha hb hc hm) λσ H Qv h=>?_;obtain⟨Hs,ρ,tot,Q,sr,h,fin⟩:=h;refine mW br Sn σ H _ ⟨Hs,ρ,tot,_,sr,h,λv H1 aI m x As g1 r1 f1 q1=>?_⟩;have r:=r1.rep g1.wf
 cases r with
 |bl b=>exact⟨b,rfl,fin b H1 aI g1 q1⟩
 |_=>exact q1.elim
def vt(t u:WT):WT:=λρ Q=>t ρ λc=>if c=true then Q true else u ρ Q
def yb(t:WT):WT:=λρ Q=>t ρ λc=>Q (!c)
variable {tA tB:WT}{rest:List Expr}
def uR{t u:WT}{f:Bool->TT}{σ:St}{H:Hp}{Qv:Bool->Hp->Prop}{G:Bool->(Bool->Prop)->Env->Prop}(h:EW K (λρ Q=>t ρ λc=>G c Q ρ) σ H Qv)(i:∀ c H1 aI ρ tot Q,dE K aI ρ σ H1 tot->G c Q ρ->(∀ b H' aw,fe aI H1 aw H'->Q b->Qv b H')->f c σ H1 Qv):EW K t σ H λc H1=>f c σ H1 Qv:=by
 obtain⟨Hs,ρ,tot,Q,sr,h,fin⟩:=h;exact⟨Hs,ρ,tot,_,sr,h,λc H1 aI g1 q1=>i c H1 aI ρ tot Q (sr.grow g1) q1 λb H' aw g2=>fin b H' aw (g1.trans g2)⟩
def cZ(ha:QT X K a tA):QW X K (.BoolOp .Or [a] pos) tA:=pw_or1 ha
def h_(ha:QT X K a tA)(hb:QW X K (.BoolOp .Or (b :: rest) pos) tB):QW X K (.BoolOp .Or (a :: b :: rest) pos) (vt tA tB):=by
 refine PW.imp (pw_or ha hb) λσ H Qv h=>?_;refine uR (u:=tB) (f:=λc σ H1 Q=>if c=true then Q true H1 else EW K tB σ H1 Q) h λc H1 aI ρ tot Q sr q fin=>?_
 cases c with
 |true=>exact fin true H1 aI (fe.refl sr.wf) q
 |false=>exact⟨aI,ρ,tot,Q,sr,q,fin⟩
def zi(h:QW X K a tA):QT X K a tA:=h _
def dO(ha:QT X K a tA):QT X K (.UnaryOp .Not a pos) (yb tA):=by exact PT.imp (fj' ha) λσ H Qv h=>uR (u:=tA) (f:=λc σ H1 Q=>Q (!c) H1) h λc H1 aI ρ tot Q sr q fin=>fin _ H1 aI (fe.refl sr.wf) q
def kO(ta tb:WE):WE:=λρ Q=>ta ρ λ_ x=>match x with
 |.bl c=>if c=true then tb ρ Q else Q .sh (.bl false)
 |_=>False
def U4(ta tb:WE):WE:=λρ Q=>ta ρ λ_ x=>match x with
 |.bl c=>if c=true then Q .sh (.bl true) else tb ρ Q
 |_=>False
def zV(ta:WE):WE:=λρ Q=>ta ρ λ_ x=>match x with
 |.bl c=>Q .sh (.bl (!c))
 |_=>False
def pZ{op}(h:QE X K a ta):QE X K (.BoolOp op [a] pos) ta:=fo' h
def pI(ha:QE X K a ta)(hb:QE X K (.BoolOp .And (b :: rest) pos) tb):QE X K (.BoolOp .And (a :: b :: rest) pos) (kO ta tb):=by
 refine PE.imp (fp' ha hb) λσ H Qv hx=>hV hx λHs ρ tot Q sr h fin=>?_;refine⟨Hs,ρ,tot,_,sr,h,λv H1 aI m x As g1 r1 f1 q1=>?_⟩;have r:=r1.rep g1.wf
 cases r with
 |bl c =>
  refine⟨c,rfl,?_⟩
  cases c with
  |true=>exact⟨aI,ρ,tot,Q,sr.grow g1,q1,Fin.after fin g1⟩
  |false=>exact Fin.sh (Fin.after fin g1) g1.wf (.bl false) q1
 |_=>exact q1.elim
def kd'(ha:QE X K a ta)(hb:QE X K (.BoolOp .Or (b :: rest) pos) tb):QE X K (.BoolOp .Or (a :: b :: rest) pos) (U4 ta tb):=by
 refine PE.imp (fq' ha hb) λσ H Qv hx=>hV hx λHs ρ tot Q sr h fin=>?_;refine⟨Hs,ρ,tot,_,sr,h,λv H1 aI m x As g1 r1 f1 q1=>?_⟩;have r:=r1.rep g1.wf
 cases r with
 |bl c =>
  refine⟨c,rfl,?_⟩
  cases c with
  |true=>exact Fin.sh (Fin.after fin g1) g1.wf (.bl true) q1
  |false=>exact⟨aI,ρ,tot,Q,sr.grow g1,q1,Fin.after fin g1⟩
 |_=>exact q1.elim
def K7(ha:QE X K a ta):QE X K (.UnaryOp .Not a pos) (zV ta):=by
 refine PE.imp (fr' ha) λσ H Qv hx=>hV hx λHs ρ tot Q sr h fin=>?_;refine⟨Hs,ρ,tot,_,sr,h,λv H1 aI m x As g1 r1 f1 q1=>?_⟩;have r:=r1.rep g1.wf
 cases r with
 |bl c=>exact⟨c,rfl,Fin.sh (Fin.after fin g1) g1.wf (.bl _) q1⟩
 |_=>exact q1.elim
def ke':D->Option Bool
 |.non=>some false
 |.bl b=>some b
 |.int i=>some (i != 0)
 |.str x=>some ((x.length:Int) != 0)
 |.list xs=>some !xs.isEmpty
 |.tup xs=>some !xs.isEmpty
 |.dK ag=>none
 |.dT ag=>none
end
def iO:W2:=λm x n y Q=>match x,y with
 |.int i,.int j=>Q .sh (.int (i+j))
 |.str i,.str j=>i.length+j.length<=bE/\Q .sh (.str (i++j))
 |.list xs,.list ys=>xs.length+ys.length<=bE/\((dn xs=true/\dn ys=true/\Q (.ow true) (.list (xs++ys)))\/(m=.sh/\n=.sh/\Q (.ow false) (.list (xs++ys))))
 |.tup xs,.tup ys=>xs≠[]/\xs.length+ys.length<=bE/\dn xs=true/\dn ys=true/\Q .sh (.tup (xs++ys))
 |_,_=>False
def PR(P:Int->Int->(Md->D->Prop)->Prop):W2:=λ_ x _ y Q=>match x,y with
 |.int i,.int j=>P i j Q
 |_,_=>False
def ZD(P:Int->Int->(Md->D->Prop)->Prop)(S:Str->Str->(Md->D->Prop)->Prop):W2:=λ_ x _ y Q=>match x,y with
 |.int i,.int j=>P i j Q
 |.str i,.str j=>S i j Q
 |_,_=>False
def GW:W2:=PR λi j Q=>Q .sh (.int (i-j))
def DE:W2:=PR λi j Q=>Oy i j/\Q .sh (.int (i*j))
def rj:W2:=PR λi j Q=>(0<j/\j<1073741824)/\Q .sh (.int (i / j))
def kH:W2:=PR λi j Q=>0<j/\Q .sh (.int (i % j))
def PY:W2:=ZD (λi j Q=>Q .sh (.bl (decide (i<j)))) λi j Q=>Q .sh (.bl (xa i j))
def GY:W2:=ZD (λi j Q=>Q .sh (.bl (decide (i<=j)))) λi j Q=>Q .sh (.bl (!xa j i))
def L5:W2:=PR λi j Q=>Q .sh (.bl (decide (j<i)))
def fE:W2:=λ_ x _ y Q=>match x,y with
 |.int i,.int j=>Q .sh (.bl (decide (i=j)))
 |.str i,.str j=>Q .sh (.bl (decide (i=j)))
 |.bl i,.bl j=>Q .sh (.bl (decide (i=j)))
 |_,_=>eK 12 x=true/\eK 12 y=true/\Q .sh (.bl (nK x y))
def EX:W2:=λ_ x _ y Q=>match x,y with
 |.int i,.int j=>Q .sh (.bl (!decide (i=j)))
 |.str i,.str j=>Q .sh (.bl (!decide (i=j)))
 |.bl i,.bl j=>Q .sh (.bl (!decide (i=j)))
 |_,_=>eK 12 x=true/\eK 12 y=true/\Q .sh (.bl (!nK x y))
def D.PZ:D->Bool
 |.non=>true
 |_=>false
def ZE:W2:=λ_ x _ y Q=>match y with
 |.non=>Q .sh (.bl x.PZ)
 |_=>False
def Gr:W2:=λ_ x _ y Q=>match y with
 |.non=>Q .sh (.bl (!x.PZ))
 |_=>False
def gZ:D->Bool
 |.non=>true
 |.bl _=>true
 |.int _=>true
 |.str _=>true
 |_=>false
def inD(x:D)(ys:List D):Bool:=ys.any λy=>nK y x
def G0(neg:Bool):W2:=λ_ x _ y Q=>match y with
 |.str j=>match x with
  |.str i=>Q .sh (.bl (if neg then !Dx i j else Dx i j))
  |_=>False
 |.list ys=>gZ x=true/\ys.all gZ=true/\Q .sh (.bl (if neg then !inD x ys else inD x ys))
 |.tup ys=>gZ x=true/\ys.all gZ=true/\Q .sh (.bl (if neg then !inD x ys else inD x ys))
 |.dK ag=>∃ k,x.key1=some k/\Q .sh (.bl (if neg then !(mM ag k).isSome else (mM ag k).isSome))
 |.dT ag=>match x with
  |.tup xs=>∃ ks,gF xs=some ks/\Q .sh (.bl (if neg then !(mM ag ks).isSome else (mM ag ks).isSome))
  |_=>False
 |_=>False
section
variable {K:ay}
def yg(f:Fin K Hs H Qd Qv)(w:Wf Hs H)(h:x.length<=bE)(q:Qd .sh (.str x)):Qv (.str x) H:=f.sh w (.str h) q
def aV(i j:Str):(i++j).length=i.length+j.length:=by show(i.cps++j.cps).size=_;simp[Str.length]
def Iz:k7 K (λx y H Q=>BW K x y H Q\/WL K x y H Q) iO:=by
 intro Hs H m x v As n y u Bs Qd Qv w rx ry h f;have r1:=rx.rep w;have r2:=ry.rep w
 cases r1 with
 |int i=>cases r2 with
  |int j=>exact .inl (f.sh w (.int _) h)
  |_=>exact h.elim
 |str hi=>cases r2 with
  |str hj=>exact .inl ⟨h.1,yg f w (by rw[aV];exact h.1) h.2⟩
  |_=>exact h.elim
 |list z1 s1 q1=>cases r2 with
  |list z2 s2 q2 =>
   have l1:=q1.length;have l2:=q2.length;have hz:=h.1;rcases h.2 with⟨f1,f2,q⟩|⟨rfl,rfl,q⟩
   ·exact .inl ⟨_,_,s1,s2,by lia,f.lst w (by rw[iq];exact hz) (q1.append q2) (by rw[eG,f1,f2];rfl) q⟩
   ·obtain⟨_,rx⟩:=rx;obtain⟨_,ry⟩:=ry
    cases rx with
    |list z1' s1' P1=>cases ry with
     |list z2' s2' q2' =>have l1:=P1.length;have l2:=q2'.length;exact .inl ⟨_,_,aS.seq w.sub s1',aS.seq w.sub s2',by lia,f.UZ w (by rw[iq];exact hz) (P1.append q2') q⟩
  |_=>exact h.elim
 |tup t1 s1 q1=>cases r2 with
  |tup t2 s2 q2 =>
   have l1:=q1.length;have l2:=q2.length;obtain⟨lI,hz,f1,f2,q⟩:=h;refine .inr ⟨_,_,_,_,rfl,rfl,.inl (.inl s1),.inl (.inl s2),?_,by lia,?_⟩
   ·intro e;subst e;exact lI (Tg.mp l1)
   ·refine⟨λe=>?_,λ_=>f.tup w (by rw[iq];exact hz) (q1.append q2) (by rw[eG,f1,f2];rfl) q⟩;subst e;cases q2;rw[kM] at q;exact f.flat w (.tup t1 s1 q1) (by simpa[D.flat] using f1) q
  |_=>exact h.elim
 |_=>exact h.elim
def CG{H:Hp}{x y:D}{v u:V}{m n:Md}{P:Int->Int->(Md->D->Prop)->Prop}{S:Str->Str->(Md->D->Prop)->Prop}{Q:Md->D->Prop}{G:Prop}(r1:Rep K H x v)(r2:Rep K H y u)(h:ZD P S m x n y Q)(k:∀ i j,v=.int i->u=.int j->P i j Q->G)(ks:∀ i j,v=.str i->u=.str j->S i j Q->G):G:=by
 cases r1 with
 |int i=>cases r2 with
  |int j=>exact k i j rfl rfl h
  |_=>exact h.elim
 |str hi=>cases r2 with
  |str hj=>exact ks _ _ rfl rfl h
  |_=>exact h.elim
 |_=>exact h.elim
def lK{H:Hp}{x y:D}{v u:V}{m n:Md}{P:Int->Int->(Md->D->Prop)->Prop}{Q:Md->D->Prop}{G:Prop}(r1:Rep K H x v)(r2:Rep K H y u)(h:PR P m x n y Q)(k:∀ i j,v=.int i->u=.int j->P i j Q->G):G:=by
 cases r1 with
 |int i=>cases r2 with
  |int j=>exact k i j rfl rfl h
  |_=>exact h.elim
 |_=>exact h.elim
def Jw:k7 K Fb GW:=by
 intro Hs H m x v As n y u Bs Qd Qv w rx ry h f;exact lK (rx.rep w) (ry.rep w) h λi j e1 e2 q=>by subst e1 e2;exact f.sh w (.int _) q
def JL:k7 K G3 DE:=by
 intro Hs H m x v As n y u Bs Qd Qv w rx ry h f;exact lK (rx.rep w) (ry.rep w) h λi j e1 e2 q=>by subst e1 e2;exact⟨q.1,f.sh w (.int _) q.2⟩
def Jb:k7 K Gw rj:=by
 intro Hs H m x v As n y u Bs Qd Qv w rx ry h f;exact lK (rx.rep w) (ry.rep w) h λi j e1 e2 q=>by subst e1 e2;exact⟨q.1,f.sh w (.int _) q.2⟩
def HJ:k7 K GZ kH:=by
 intro Hs H m x v As n y u Bs Qd Qv w rx ry h f;exact lK (rx.rep w) (ry.rep w) h λi j e1 e2 q=>by subst e1 e2;exact⟨q.1,f.sh w (.int _) q.2⟩
def yI:k7 K Zd L5:=by
 intro Hs H m x v As n y u Bs Qd Qv w rx ry h f;exact lK (rx.rep w) (ry.rep w) h λi j e1 e2 q=>by subst e1 e2;exact f.sh w (.bl _) q
def Bh:k7 K Zb PY:=by
 intro Hs H m x v As n y u Bs Qd Qv w rx ry h f;exact CG (rx.rep w) (ry.rep w) h (λi j e1 e2 q=>by
  subst e1 e2;exact f.sh w (.bl _) q) λi j e1 e2 q=>by
  subst e1 e2;exact f.sh w (.bl _) q
def uZ:k7 K Zc GY:=by
 intro Hs H m x v As n y u Bs Qd Qv w rx ry h f;exact CG (rx.rep w) (ry.rep w) h (λi j e1 e2 q=>by
  subst e1 e2;exact f.sh w (.bl _) q) λi j e1 e2 q=>by
  subst e1 e2;exact f.sh w (.bl _) q
def eq_data(w:Wf Hs H)(rx:Rep K H x v)(ry:Rep K H y u)(f:Fin K Hs H Qd Qv)(h:eK 12 x=true/\eK 12 y=true/\Qd .sh (.bl (nK x y))):Zf K v u H Qv:=by obtain⟨h1,h2,q⟩:=h;have l1:=jg 12 x h1;have l2:=jg 12 y h2;exact⟨x.py,y.py,rx.l2 h1,ry.l2 h2,l1.1,l2.1,by lia,f.sh w (.bl _) q⟩
def ne_data(w:Wf Hs H)(rx:Rep K H x v)(ry:Rep K H y u)(f:Fin K Hs H Qd Qv)(h:eK 12 x=true/\eK 12 y=true/\Qd .sh (.bl (!nK x y))):Zg K v u H Qv:=by obtain⟨h1,h2,q⟩:=h;have l1:=jg 12 x h1;have l2:=jg 12 y h2;exact⟨x.py,y.py,rx.l2 h1,ry.l2 h2,l1.1,l2.1,by lia,f.sh w (.bl _) q⟩
def aZ:k7 K (UG K) fE:=by
 intro Hs H m x v As n y u Bs Qd Qv w rx ry h f;have r1:=rx.rep w;have r2:=ry.rep w;have d:=λh=>eq_data w r1 r2 f h
 cases r1 with
 |int i=>cases r2 with
  |int j=>exact f.sh w (.bl _) h
  |_=>exact d h
 |str i=>cases r2 with
  |str j=>exact f.sh w (.bl _) h
  |_=>exact d h
 |bl i=>cases r2 with
  |bl j=>exact f.sh w (.bl _) h
  |_=>exact d h
 |_=>exact d h
def v8:k7 K (UH K) EX:=by
 intro Hs H m x v As n y u Bs Qd Qv w rx ry h f;have r1:=rx.rep w;have r2:=ry.rep w;have d:=λh=>ne_data w r1 r2 f h
 cases r1 with
 |int i=>cases r2 with
  |int j=>exact f.sh w (.bl _) h
  |_=>exact d h
 |str i=>cases r2 with
  |str j=>exact f.sh w (.bl _) h
  |_=>exact d h
 |bl i=>cases r2 with
  |bl j=>exact f.sh w (.bl _) h
  |_=>exact d h
 |_=>exact d h
def wA(r:Rep K H x v):decide (v=V.non)=x.PZ:=by cases r<;>first|rfl|exact decide_eq_false (λz=>nomatch z)
def H_:k7 K (λx y H Q=>y=.non/\Q (.bl (decide (x=.non))) H) ZE:=by
 intro Hs H m x v As n y u Bs Qd Qv w rx ry h f;have r1:=rx.rep w;have r2:=ry.rep w;have e:=wA r1
 cases r2 with
 |non=>exact⟨rfl,by rw[e];exact f.sh w (.bl _) h⟩
 |_=>exact h.elim
def Fg:k7 K (λx y H Q=>y=.non/\Q (.bl (!decide (x=.non))) H) Gr:=by
 intro Hs H m x v As n y u Bs Qd Qv w rx ry h f;have r1:=rx.rep w;have r2:=ry.rep w;have e:=wA r1
 cases r2 with
 |non=>exact⟨rfl,by rw[e];exact f.sh w (.bl _) h⟩
 |_=>exact h.elim
def lF(r:Rep K H x v)(h:gZ x=true):CY v=true:=by cases r<;>first|rfl|(simp[gZ] at h)
def FW(r:Rep K H x v)(s:Rep K H y u)(h:gZ x=true)(g:gZ y=true):EE v u=nK x y:=by cases r<;>simp[gZ] at h<;>cases s<;>simp[gZ] at g<;>rfl
def HH(r:Rep K H x v)(h:gZ x=true)(rs:bS K H ys us)(g:ys.all gZ=true):us.all CY=true/\Uo v us=inD x ys:=by
 induction ys generalizing us with
 |nil=>rw[rs.n0];exact⟨rfl,rfl⟩
 |cons y ys ih =>
  obtain⟨u,us,rfl,s,ss⟩:=rs.c;simp only[D4,nv] at g;obtain⟨e1,e2⟩:=ih ss g.2;refine⟨by simp only[D4,lF s g.1,e1,Bool.and_self],?_⟩;unfold Uo inD at *
  rw[D5,D5,e2,FW s r g.1 h]
def pK{κ:Type}[DecidableEq κ]{H:Hp}{k:κ}{ag:List (κ × D)}{vs:List V}(r:bS K H (ag.map (·.2)) vs):(mr ((ag.map (·.1)).zip vs) k).isSome=(mM ag k).isSome:=by
 have:=zip_get (k:=k) r;split at this
 ·rename_i e;obtain⟨v,e1,_⟩:=this;rw[e1,e];rfl
 ·rename_i e;rw[this,e];rfl
def zP:k7 K (UM K neg) (G0 neg):=by
 intro Hs H m x v As n y u Bs Qd Qv w rx ry h f;have r1:=rx.rep w;have r2:=ry.rep w
 cases r2 with
 |str j=>cases r1 with
  |str i=>exact f.sh w (.bl _) h
  |_=>exact h.elim
 |list z s q =>
  obtain⟨h1,h2,h3⟩:=h;obtain⟨e1,e2⟩:=HH r1 h1 q h2;have h4:=lF r1 h1;have g:Uq K neg v (.ref _) H Qv:=⟨_,_,rfl,.inl s,h4,e1,by rw[e2];exact f.sh w (.bl _) h3⟩
  cases r1<;>exact .inr g
 |tup _ s q =>
  obtain⟨h1,h2,h3⟩:=h;obtain⟨e1,e2⟩:=HH r1 h1 q h2;have h4:=lF r1 h1;have g:Uq K neg v (.ref _) H Qv:=⟨_,_,rfl,.inr (.inl (.inl s)),h4,e1,by rw[e2];exact f.sh w (.bl _) h3⟩
  cases r1<;>exact .inr g
 |dK kk e q =>obtain⟨k,hk,h3⟩:=h;have ev:=r1.key hk;subst ev;have eg:=pK (k:=k) q;cases k<;>exact .inl ⟨_,sT.k' e,by rw[eg];exact f.sh w (.bl _) h3⟩
 |dT kk e q =>
  cases r1 with
  |tup t1 e1 q1 =>obtain⟨ks,hk,h3⟩:=h;obtain⟨b,eb,e2⟩:=Rep.PH (.tup t1 e1 q1) hk;cases eb;have eg:=pK (k:=ks) q;exact .inl ⟨_,sT.t' e e2,by rw[eg];exact f.sh w (.bl _) h3⟩
  |_=>exact h.elim
 |_=>exact h.elim
end
section
variable {X:Cx}{K:ay}{a b:Expr}{ta tb:WE}{pos:Pos}
def KQ(hK:autoParam (X.K=K) bv):d5 X (oz .Add) (λx y H Q=>BW K x y H Q\/WL K x y H Q):=by subst hK;exact Ek.or ht'
def bF(ha:QE X K a ta)(hb:QE X K b tb)(hK:autoParam (X.K=K) bv):QE X K (.BinOp a .Add b pos) (ax iO ta tb):=L4 (KQ hK) Iz ha hb
def xT(ha:QE X K a ta)(hb:QE X K b tb):QE X K (.BinOp a .Sub b pos) (ax GW ta tb):=L4 DP Jw ha hb
def qX(ha:QE X K a ta)(hb:QE X K b tb):QE X K (.BinOp a .Mult b pos) (ax DE ta tb):=L4 Fy JL ha hb
def fM(ha:QE X K a ta)(hb:QE X K b tb):QE X K (.BinOp a .FloorDiv b pos) (ax rj ta tb):=L4 Fq Jb ha hb
def bL(ha:QE X K a ta)(hb:QE X K b tb):QE X K (.BinOp a .Mod b pos) (ax kH ta tb):=L4 Ed HJ ha hb
def zk:W1:=λ_ x Q=>match x with
 |.int i=>Q .sh (.int (-i))
 |_=>False
def J0:Br1 K (rU λi=>.int (-i)) zk:=by
 intro Hs H m x v As Qd Qv w rx h f;have r1:=rx.rep w
 cases r1 with
 |int i=>exact⟨i,rfl,f.sh w (.int _) h⟩
 |_=>exact h.elim
def lZ(ha:QE X K a ta):QE X K (.UnaryOp .USub a pos) (dQ zk ta):=kb' fY' J0 ha
end
def bP:WA:=λ_ Q=>Q []
def ak(te:WE)(t:WA):WA:=λρ Q=>te ρ λm x=>t ρ λps=>Q ((m,x) :: ps)
def zl:Md × D->Bool
 | (.sh,_)=>true
 | (_,d)=>d.flat
def L6:Md × D->Bool
 | (.bo,d)=>d.flat
 | (.fr,d)=>d.flat
 | (.wl ..,d)=>d.flat
 |_=>true
def Sq:Md × D->Bool
 | (.ow true,_)=>true
 | (_,d)=>d.flat
def uX(ps:List (Md × D)):Md:=bif ps.all zl then .sh else bif ps.all L6 then .ow (ps.all Sq) else .bo
def Du(ps:List (Md × D)):Md:=bif ps.all L6 then .ow (ps.all Sq) else .bo
def fq(t:WA):WE:=λρ Q=>t ρ λps=>ps.length<=bE/\Q (uX ps) (.tup (ps.map (·.2)))
def fT(t:WA):WE:=λρ Q=>t ρ λps=>ps.length<=bE/\Q (Du ps) (.list (ps.map (·.2)))
section
variable {X:Cx}{K:ay}{e:Expr}{es:List Expr}{te:WE}{t:WA}{pos:Pos}{Hs H:Hp}
def aq:QA X K [] bP:=PA.imp ly λσ H Qv hx=>hV hx λHs ρ tot Q sr h f=>f [] H Hs [] [] (fe.refl sr.wf) .nil bM.nil h
def bM.app(f1:bM aI H As)(o:∀ a∈As,H1 a≠none)(f2:bM aC H1 Bs)(s:aS H H1)(k:∀ a,aI a=none->H1 a≠none->aC a=none):bM aC H (As++Bs) :=
 ⟨g7.mpr ⟨f1.1,f2.1,λa ha b hb e=>by subst e;exact o a ha (f2.2 a hb).2⟩,λa h=>by
  rcases eR.mp h with h|h
  ·exact⟨k a (f1.2 a h).1 (o a h),(f1.2 a h).2⟩
  ·exact⟨(f2.2 a h).1,s.free (f2.2 a h).2⟩⟩
def aa(ha:QE X K e te)(hr:QA X K es t)(hs:autoParam (aT (e :: es) X.env=(false,b3 e X.env) :: aT es X.env) bv):QA X K (e :: es) (ak te t):=by exact PA.imp (i3 ha hr hs) λσ H Qv hx=>hV hx λHs ρ tot Q sr h f=>⟨Hs,ρ,tot,_,sr,h,λv H1 aI m x As g1 r1 f1 q1=>⟨aI,ρ,tot,_,sr.grow g1,q1,λvs H2 aC ps Bs g2 r2 f2 q2=>f (v :: vs) H2 aC _ _ (g1.trans g2) (.cons (r1.grow g2) r2) (f1.app (λa h=>(r1.own a h).ne) f2 g1.all λa h1 h2=>g2.oq h1 h2) q2⟩⟩
def x8.sh(w:Wf Hs H){ps:List (Md × D)}(r:x8 K Hs H ps vs As):ps.all zl=true->bS K Hs (ps.map (·.2)) vs:=by
 induction r with
 |nil=>exact λ_=>.nil
 |@cons m d v ps vs As Bs r rs ih =>
  intro h;simp only[D4,nv] at h;refine .cons ?_ (ih h.2)
  cases m with
  |sh=>exact r.2
  |_=>exact r.flat w h.1
def x8.ow(w:Wf Hs H){ps:List (Md × D)}(r:x8 K Hs H ps vs As):ps.all L6=true->(fl=true->ps.all Sq=true)->∃ Bs,Bs.Sublist As/\(ps.all zl=false->Bs≠[])/\aB K Hs H fl (ps.map (·.2)) vs Bs:=by
 induction r with
 |nil=>exact λ_ _=>⟨[],AA _,(λz=>Bool.noConfusion z),.nil⟩
 |@cons m d v ps vs A1 Cs r rs ih =>
  intro h hf;simp only[D4,nv] at h hf;obtain⟨Bs,sb,ne,q⟩:=ih h.2 λz=>(hf z).2;have sk:([]++Bs).Sublist (A1++Cs):=by simpa using sb.trans (k9 _ _)
  have AH:d.flat=true->zl (m,d)=true->∃ Bs,Bs.Sublist (A1++Cs)/\(((m,d) :: ps).all zl=false->Bs≠[])/\aB K Hs H fl (((m,d) :: ps).map (·.2)) (v :: vs) Bs:=λhd ho =>
   ⟨[]++Bs,sk,λz=>ne (by rw[D4,ho] at z;simpa using z),.cons (.sh (λ_=>hd) (r.flat w hd)) q⟩
  cases m with
  |sh=>exact⟨[]++Bs,sk,λz=>ne (by simpa[zl] using z),.cons (.sh (λz=>(hf z).1) r.2) q⟩
  |bo=>exact AH h.1 h.1
  |fr=>exact AH h.1 h.1
  |wl=>exact AH h.1 h.1
  |ow b =>
   cases hd:d.flat with
   |true=>exact AH hd hd
   |false =>
    refine⟨A1++Bs,sb.append_left _,λ_ z=>r.2 (Q8.mp z).1,.cons ?_ q⟩
    cases fl with
    |false=>exact cK.UX r.1
    |true =>
     have:=(hf rfl).1
     cases b with
     |true=>exact r.1
     |false=>simp[Sq,hd] at this
theorem nG:∀ {ps:List (Md × D)},dn (ps.map (·.2))=true->ps.all zl=true
 |[],_=>rfl
 | (m,d) :: ps,h=>by simp only[fR,dn,nv] at h;simp only[D4,nv];exact⟨by cases m<;>simp[zl,h.1],nG h.2⟩
def aU{x1}(h:QA X K es t):QE X K (.Tuple es x1 pos) (fq t):=by
 refine PE.imp (RL h) λσ H Qv hx=>hV hx λHs ρ tot Q sr h f=>?_;refine⟨Hs,ρ,tot,_,sr,h,λvs H1 aI ps As g1 r1 f1 q1=>?_⟩;obtain⟨hz,q⟩:=q1;have rl:=(r1.reps g1.wf)
 have hl:=rl.length;rw[dz] at hl;refine⟨by lia,λp hp=>?_⟩;have g2:=LZ (vs:=vs) g1.wf hp;have fin:=Fin.after f g1;unfold uX at q
 cases h1:ps.all zl with
 |true =>rw[h1] at q;exact fin _ _ _ .sh _ [] g2 ⟨rfl,.tup (by lia) eJ ((r1.sh g1.wf h1).same g2.sh)⟩ bM.nil q
 |false =>
  rw[h1] at q
  cases h2:ps.all L6 with
  |false =>rw[h2] at q;exact fin _ _ _ .bo _ [] g2 ⟨rfl,.tup (by lia) eJ (rl.same g2.all)⟩ bM.nil q
  |true =>
   rw[h2] at q;obtain⟨Bs,sb,nz,ro⟩:=r1.ow g1.wf h2 λz=>z;have lI:dn (ps.map (·.2))=false:=by
    cases hf:dn (ps.map (·.2)) with
    |false=>rfl
    |true=>rw[nG hf] at h1;cases h1
   have own:=ro.own;exact f _ _ _ (.ow _) _ Bs (g1.trans g2) ⟨.tup (by lia) eJ lI (ro.grow g2.sh g2.all),nz h1⟩ ⟨sb.nodup f1.1,λa ha=>⟨g2.oq (f1.2 a (sb.subset ha)).1 (own a ha).ne,(f1.2 a (sb.subset ha)).2⟩⟩ q
def bh(h:QA X K es t):QE X K (.List es pos) (fT t):=by
 refine PE.imp (Wx h) λσ H Qv hx=>hV hx λHs ρ tot Q sr h f=>?_;refine⟨Hs,ρ,tot,_,sr,h,λvs H1 aI ps As g1 r1 f1 q1=>?_⟩;obtain⟨hz,q⟩:=q1;have rl:=(r1.reps g1.wf)
 have hl:=rl.length;rw[dz] at hl;refine⟨by lia,λp hp=>?_⟩;have g2:=PK (o:=.lst vs) g1.wf hp λ_ z=>nomatch z;have fin:=Fin.after f g1;unfold Du at q
 cases h2:ps.all L6 with
 |false =>rw[h2] at q;exact fin _ _ _ .bo _ [] g2 ⟨rfl,.list (by lia) (.inl (.inl eJ)) (rl.same g2.all)⟩ bM.nil q
 |true =>
  rw[h2] at q;obtain⟨Bs,sb,nz,ro⟩:=r1.ow g1.wf h2 λz=>z;have own:=ro.own;refine f _ _ _ (.ow _) _ (p :: Bs) (g1.trans g2) ⟨.list (by lia) eJ (ro.grow g2.sh g2.all),by simp⟩ ⟨rX.mpr ⟨λm=>(own p m).ne hp,sb.nodup f1.1⟩,λa ha=>?_⟩ q;rcases eW.mp ha with rfl|ha
  ·exact⟨g1.wf.sub.free hp,g1.all.free hp⟩
  ·exact⟨g2.oq (f1.2 a (sb.subset ha)).1 (own a ha).ne,(f1.2 a (sb.subset ha)).2⟩
end
def bS.e8{K:ay}(r:bS K H ds vs)(h:e8 ds i=some d):∃ v,L2.e8 vs i=some v/\Rep K H d v:=by
 unfold L2.e8 at *
 rw[<- r.length]
 cases e:x3 ds.length i with
 |none=>rw[e] at h;cases h
 |some j =>rw[e] at h;exact r.get h
def cp:W2:=λm x _ y Q=>match x with
 |.list xs=>match y with
  |.int i=>∃ d,e8 xs i=some d/\b9 d (f:=λd=>Q (ya m d) d) ⟨⟩
  |_=>False
 |.tup xs=>match y with
  |.int i=>∃ d,e8 xs i=some d/\b9 d (f:=λd=>Q (ya m d) d) ⟨⟩
  |_=>False
 |.str z=>match y with
  |.int i=>∃ c,e8 z.cps.toList i=some c/\Q .sh (.str ⟨#[c]⟩)
  |_=>False
 |.dK ag=>∃ k d,y.key1=some k/\mM ag k=some d/\b9 d (f:=λd=>Q (ya m d) d) ⟨⟩
 |.dT ag=>match y with
  |.tup ys=>∃ ks d,gF ys=some ks/\mM ag ks=some d/\b9 d (f:=λd=>Q (ya m d) d) ⟨⟩
  |_=>False
 |_=>False
def ZF(K:ay):R2:=λx y H Q=>UD K x y H Q\/∃ a v,x=.ref a/\sT H a y (some v)/\Q v H
def wU(c:Nat):(⟨#[c]⟩:Str).length<=bE:=by show 1<=bE;decide
def RM.here{K:ay}(w:Wf Hs H)(r:RM K Hs H m d v As):(m=.sh/\Rep K Hs d v)\/(m≠.sh/\Rep K H d v):=by
 cases m with
 |sh=>exact .inl ⟨rfl,r.2⟩
 |_=>exact .inr ⟨(λz=>nomatch z),r.rep w⟩
section
variable {X:Cx}{K:ay}
def Ma:k7 K (ZF K) cp:=by
 intro Hs H m x v As n y u Bs Qd Qv w rx ry h f;have r2:=ry.rep w;have core:∀ G:Hp,aS G H->(∀ d v,Rep K G d v->Rep K H d v/\(m=.sh->Rep K Hs d v))->Rep K G x v->ZF K v u H Qv:=by
  intro G sg up r1
  cases r1 with
  |list z s q =>
   cases r2 with
   |int i =>obtain⟨d,e,h⟩:=h;obtain⟨v',e',r'⟩:=q.e8 e;obtain⟨u1,u2⟩:=up _ _ r';exact .inl (.inl ⟨_,v',aS.seq sg s,e',f.ya w u1 u2 h⟩)
   |_=>exact h.elim
  |tup _ s q =>
   cases r2 with
   |int i =>obtain⟨d,e,h⟩:=h;obtain⟨v',e',r'⟩:=q.e8 e;obtain⟨u1,u2⟩:=up _ _ r';exact .inl (.inr ⟨_,v',.inl (.inl (sg _ _ s)),e',f.ya w u1 u2 h⟩)
   |_=>exact h.elim
  |str hz =>
   cases r2 with
   |int i =>obtain⟨c,e,h⟩:=h;exact .inl ⟨hz,c,e,f.sh w (.str (wU c)) h⟩
   |_=>exact h.elim
  |dK kk s q =>obtain⟨k,d,hk,hg,h⟩:=h;have ev:=r2.key hk;subst ev;have z:=zip_get (k:=k) q;rw[hg] at z;obtain⟨v',e',r'⟩:=z;obtain⟨u1,u2⟩:=up _ _ r';exact .inr ⟨_,v',rfl,by rw[<- e'];exact sT.k' (aS.rd sg s),f.ya w u1 u2 h⟩
  |dT kk s q =>
   cases r2 with
   |tup t2 e2 q2 =>obtain⟨ks,d,hk,hg,h⟩:=h;obtain⟨b,eb,e3⟩:=Rep.PH (.tup t2 e2 q2) hk;cases eb;have z:=zip_get (k:=ks) q;rw[hg] at z;obtain⟨v',e',r'⟩:=z;obtain⟨u1,u2⟩:=up _ _ r';exact .inr ⟨_,v',rfl,by rw[<- e'];exact sT.t' (aS.rd sg s) e3,f.ya w u1 u2 h⟩
   |_=>exact h.elim
  |_=>exact h.elim
 rcases rx.here w with⟨hm,r⟩|⟨hm,r⟩
 ·exact core Hs w.sub (λd v q=>And.intro (q.same w.sub) λ_=>q) r
 ·exact core H (aS.refl H) (λd v q=>And.intro q λz=>absurd z hm) r
def cY'(hu:X.A.units+64<iE)(hK:autoParam (X.K=K) bv):y2 X (ZF K):=by subst hK;refine y2.or Cw ?_;intro value slice pins s σ H x y v u Q I rx ry h hs;obtain⟨a,w,rfl,g,q⟩:=h;cases rx;exact tail_any (ih' I g) F.slot_dict_getitem.lookup (hZ' (by lia) I g ry λw' s3 I3 qS=>⟨w,H,I3,qS,q⟩) hs
variable {a b:Expr}{ta tb:WE}{pos:Pos}
def cy(ha:QE X K a ta)(hb:QE X K b tb)(hs:Ul b:=by exact λ_ _=>rfl)(hK:autoParam (X.K=K) bv)(hu:X.A.units+64<iE:=by assumption):QE X K (.Subscript a b pos) (ax cp ta tb):=PE.imp (WR (cY' hu hK) ha hb hs) (jL Ma)
end
def ox{α:Type}(xs:List α)(lo hi:Option Int):List α:=(xs.drop (HT.cE xs.length 0 lo)).take (HT.cE xs.length xs.length hi-HT.cE xs.length 0 lo)
abbrev WO:=Env->(Option Int->Prop)->Prop
def dM:WO:=λ_ Q=>Q none
def iT(t:WE):WO:=λρ Q=>t ρ λ_ x=>match x with
 |.int i=>Q (some i)
 |_=>False
def Sr(m:Md)(x:D)(lo hi:Option Int)(Q:Md->D->Prop):Prop:=match x with
 |.str z=>Q .sh (.str (nV z lo hi))
 |.list xs=>(dn xs=true/\Q (.ow true) (.list (ox xs lo hi)))\/(m=.sh/\Q (.ow false) (.list (ox xs lo hi)))
 |.tup xs=>dn xs=true/\¬ (HT.cE xs.length 0 lo=0/\HT.cE xs.length xs.length hi=xs.length)/\Q .sh (.tup (ox xs lo hi))
 |_=>False
def EZ(te:WE)(tl th:WO):WE:=λρ Q=>te ρ λm x=>tl ρ λlo=>th ρ λhi=>Sr m x lo hi Q
def tpO(K:ay)(t:WO):TO:=λσ H Qv=>∃ Hs ρ tot Q,dE K Hs ρ σ H tot/\t ρ Q/\∀ o H' aw,fe Hs H aw H'->Q o->Qv o H'
abbrev QO(X:Cx)(K:ay)(e:Option Expr)(t:WO):Prop:=PO X e (tpO K t)
def z7(z:Str)(lo hi:Option Int):(nV z lo hi).length<=z.length:=by unfold nV Str.length;simp only[kB,mB,Cb,Bi];lia
def oM{α:Type}(xs:List α)(lo hi:Option Int):(ox xs lo hi).length<=xs.length:=by unfold ox;rw[mB,Cb];lia
def qe{lo hi:Option Int}(h:dn xs=true):dn (ox xs lo hi)=true:=by
 rw[gW] at *
 intro x hx;exact h x (Tq (Q_ hx))
section
variable {X:Cx}{K:ay}{e:Expr}{lo hi:Option Expr}{te:WE}{tl th:WO}{pos p2:Pos}
def gm:QO X K none dM:=λpins s σ H Q I h=>gZ' pins s σ H Q I (by
 obtain⟨Hs,ρ,tot,Qd,sr,h,f⟩:=h;exact f none H Hs (fe.refl sr.wf) h)
def cT(h:QE X K e te):QO X K (some e) (iT te):=λpins s σ H Q I hh=>ha' h pins s σ H Q I (by
 obtain⟨Hs,ρ,tot,Qd,sr,h,f⟩:=hh;refine⟨Hs,ρ,tot,_,sr,h,λv H1 aI m x As g1 r1 f1 q1=>?_⟩;have r:=r1.rep g1.wf
 cases r with
 |int i=>exact⟨i,rfl,f _ H1 aI g1 q1⟩
 |_=>exact q1.elim)
def lg{lo hi:Option Int}(r:bS K H ds vs):bS K H (ox ds lo hi) (K2 vs lo hi):=by unfold ox K2;rw[r.length];exact(r.drop _).take _
def ki'(hK:autoParam (X.K=K) bv):OO X (λx lo hi H Q=>Ze K x lo hi H Q\/bD' K x lo hi H Q):=by
 subst hK;intro pins s σ H x v vl vu lo hi sl Q I rx hs pl pu h;rcases h with h|h
 ·exact J7 pins s σ H x v vl vu lo hi sl Q I rx hs pl pu h
 ·exact hg' pins s σ H x v vl vu lo hi sl Q I rx hs pl pu h
def f9(he:QE X K e te)(hl:QO X K lo tl)(hh:QO X K hi th)(hK:autoParam (X.K=K) bv):QE X K (.Subscript e (.Slice lo hi none p2) pos) (EZ te tl th):=by
 refine PE.imp (hf' (ki' hK) he hl hh) λσ H Qv hx=>hV hx λHs ρ tot Q sr h f=>?_;refine⟨Hs,ρ,tot,_,sr,h,λv H1 aI m x As g1 r1 f1 q1=>⟨aI,ρ,tot,_,sr.grow g1,q1,λl H2 aC g2 q2=>⟨aC,ρ,tot,_,(sr.grow g1).grow g2,q2,λu H3 gv g3 q3=>?_⟩⟩⟩;have r3:=(r1.grow g2).grow g3;have fin:Fin K gv H3 Q Qv:=Fin.after f ((g1.trans g2).trans g3);have rr:=r3.rep g3.wf
 cases rr with
 |str hz=>exact .inl ⟨hz,fin.sh g3.wf (.str (kD (z7 _ _ _) hz)) q3⟩
 |list z s q =>
  have hz:=q.length;rcases q3 with⟨hf,q3⟩|⟨rfl,q3⟩
  ·exact .inl ⟨_,s,fin.lst g3.wf (kD (oM _ _ _) (by lia)) (lg q) (qe hf) q3⟩
  ·obtain⟨_,r3⟩:=r3
   cases r3 with
   |list z' s' q' =>exact .inl ⟨_,aS.seq g3.wf.sub s',fin.UZ g3.wf (kD (oM _ _ _) (by lia)) (lg q') q3⟩
 |tup z s q =>have hz:=q.length;obtain⟨hf,hn,q3⟩:=q3;exact .inr ⟨_,_,rfl,.inl (.inl s),by rw[<- hz];exact hn,fin.tup g3.wf (kD (oM _ _ _) (by lia)) (lg q) (qe hf) q3⟩
 |_=>exact q3.elim
end
def i6:W1:=λ_ x Q=>match x with
 |.str z=>Q .sh (.int z.length)
 |.list xs=>Q .sh (.int xs.length)
 |.tup xs=>Q .sh (.int xs.length)
 |.dK ag=>Q .sh (.int ag.length)
 |.dT ag=>Q .sh (.int ag.length)
 |_=>False
def zo(T:String):W1:=λ_ x Q=>Q .sh (.bl (OW x.ty T))
def He(K:ay)(r:List V->Hp->VK->Prop)(f:W1):Prop:=∀ Hs H m x v As Qd Qv,Wf Hs H->RM K Hs H m x v As->f m x Qd->Fin K Hs H Qd Qv->r [v] H Qv
section
variable {X:Cx}{K:ay}{e:Expr}{te:WE}{pos p:Pos}{x:Str}{id T:String}
def nu(br:He K r f)(σ:St)(H:Hp)(Qv:VK)(h:vn K (dQ f te) σ H Qv):Uh r (Ug (vn K te) OG) σ H Qv:=by obtain⟨Hs,ρ,tot,Q,sr,h,fin⟩:=h;exact⟨Hs,ρ,tot,_,sr,h,λv H1 aI m x As g1 r1 f1 q1=>br aI H1 m x v As Q Qv g1.wf r1 q1 (Fin.after fin g1)⟩
def aJ(hc:mn X (.builtin id) r)(br:He K r f)(hm:X.mg x=none)(hv:nL x=some (.builtin id))(he:QE X K e te)(hs:autoParam (aT [e] X.env=(false,b3 e X.env) :: aT [] X.env) bv) (hn:x ≠ "__name__" := by decide) (ip:(x == ("__debug__" : Str))=false:=by decide) (hg:autoParam (Gl X x) bv):QE X K (.Call (.Name x p) [e] [] pos) (dQ f te) :=
 PE.imp (OI hc hg hm hv (i3 he ly hs) hn ip hs) (nu br)
def fD(hc:mn X (.type T) r)(br:He K r f)(hm:X.mg x=none)(hv:nL x=some (.type T))(he:QE X K e te)(hs:autoParam (aT [e] X.env=(false,b3 e X.env) :: aT [] X.env) bv) (hn:x ≠ "__name__" := by decide) (ip:(x == ("__debug__" : Str))=false:=by decide) (hg:autoParam (Gl X x) bv):QE X K (.Call (.Name x p) [e] [] pos) (dQ f te) :=
 PE.imp (gN' hc hg hm hv (i3 he ly hs) hn ip hs) (nu br)
def En(hd:(d == xv)=false)(x:x6 s.heap d es ep)(qy':(es.size:Int)<2 ^ 63)(h:∀ t t',Q (.int es.size t) { s with toks:=t' }):b6 (bq prog w) A (call (.builtin "len") [.ref d]) Q E s:=by
 refine Calls.call_function_entry kind_len plain_len entry_len (args_len1 _) ?_;have mt:MeetsIn prog w (Builtin.«dict.__len__» ⟨[.ref d],[]⟩) (λ_ R s=>x6 s.heap d es ep/\R (.ok (.ret (.int es.size s.toks))) { s with toks:=s.toks+1 }):=.of_wp λA R s dA=>by obtain⟨hm,h⟩:=dA;obtain⟨o,ho,hc,UN⟩:=hm;show b6 _ _ (dictSize d >>= _) _ _ s;refine bT (bT (wpAny_dictEntries ho UN (dv ?_)));refine bT (wpAny_pendingCount_other hd ?_);refine wpAny_ret_mkInt ?_;rw[TF];exact h
 refine bT (dv ?_);refine bT (Te x.typ F.slot_dict_len (call_meetsIn F.slot_dict_len x.typ F.entry_dict_len (F.args_dict_len_1 _) mt ⟨x,?_⟩))
 refine bT (wpAny_holding (dv ?_));refine bT (wpAny_letGo ?_);rw[if_neg (by lia)];rw[if_neg (by lia)];exact bT (wpAny_mkInt (dv ⟨_,rfl,h _ _⟩))
def az (hK:autoParam (X.K=K) bv):mn X (.builtin "len") (λxs H Q=>UC K xs H Q\/∃ a ag,xs=[.ref a]/\Rd H a (.dT ag)/\Q (.int ag.length) H):=by
 subst hK;intro pins s σ H xs us Q I r h;rcases h with h|⟨a,ag,rfl,ha,q⟩
 ·exact wK pins s σ H xs us Q I r h
 ·obtain⟨u,rfl,ru⟩:=Vals.one r;cases ru;obtain⟨z,hd,ys,rel,o,es,ep,h1,h2,h3,h4,h5⟩:=(I.rd ha)
  have hl:es.size=ag.length:=by have:=congrArg List.length h4;rw[Bi,dz] at this;rw[this];exact rel.length.symm
  exact En hd ⟨o,h1,h2,h3⟩ (by rw[nS] at z;lia) λt t'=>⟨.int ag.length,H,I.tok _,⟨t,by rw[hl]⟩,q⟩
def aW:He K (λxs H Q=>UC K xs H Q\/∃ a ag,xs=[.ref a]/\Rd H a (.dT ag)/\Q (.int ag.length) H) i6:=by
 intro Hs H m x v As Qd Qv w rx h f;have r1:=rx.rep w
 cases r1 with
 |str hz=>exact .inl ⟨hz,f.sh w (.int _) h⟩
 |list z s q=>exact .inl (.inl ⟨_,s,by rw[<- q.length];exact f.sh w (.int _) h⟩)
 |tup _ s q=>exact .inl (.inr (.inl ⟨_,.inl (.inl s),by rw[<- q.length];exact f.sh w (.int _) h⟩))
 |dK kk s q=>exact .inl (.inr (.inr ⟨_,s,by
   have:=q.length;rw[dz] at this;rw[Tz,dz,<- this,TH];exact f.sh w (.int _) h⟩))
 |dT kk s q=>exact .inr ⟨_,_,rfl,s,by
   have:=q.length;rw[dz] at this;rw[Tz,dz,<- this,TH];exact f.sh w (.int _) h⟩
 |_=>exact h.elim
end
section
variable {X:Cx}{K:ay}{e e2:Expr}{te:WE}{pos p:Pos}{T:String}
def yR (hK:autoParam (X.K=K) bv):mn X (.builtin "isinstance") (λxs H Q=>∃ x d T,xs=[x,.ty T]/\Rep K H d x/\Za T=true/\Q (.bl (OW d.ty T)) H):=by
 subst hK;intro pins s σ H xs us Q I r h;obtain⟨x,d,T,rfl,rd,hT,q⟩:=h;obtain⟨u,v,rfl,ru,rv⟩:=Vals.two r;obtain rfl:v=Value.type T:=rv;have hb:T∈["str", "int", "bool", "list", "tuple", "dict"]:=by simpa[Za] using hT
 have fin:∀ tk,EP X pins σ Q (.bool (OW d.ty T)) { s with toks:=tk }:=λtk=>⟨.bl (OW d.ty T),H,I.tok tk,rfl,q⟩
 cases rd with
 |non=>exact RK I ru .non (jq X.K _ T (by simp) hb) fin
 |bl b=>exact RK I ru (.bl b) (jq X.K _ T (by simp) hb) fin
 |int i=>exact RK I ru (.int i) (jq X.K _ T (by simp) hb) fin
 |str y=>exact RK I ru (.str _) (jq X.K _ T (by simp) hb) fin
 |list z s' q' =>cases ru;obtain⟨its,_,pl,_⟩:=I.list s';obtain⟨o,h1,h2,_⟩:=pl.isList;exact xt VD I.iA ⟨o,h1,h2⟩ (jq X.K "list" T (by simp) hb) (λz=>nomatch z) fin
 |tup _ s' q'=>exact RK I ru (.tup s') (jq X.K _ T (by simp) hb) fin
 |dK _ s' q' =>cases ru;obtain⟨_,_,vs,_,p⟩:=I.rd s';obtain⟨o,es,ep,h1,h2,_⟩:=p;exact xt S_ I.iA ⟨o,h1,h2.1⟩ (jq X.K "dict" T (by simp) hb) (λz=>nomatch z) fin
 |dT _ s' q' =>cases ru;obtain⟨_,_,xs,_,o,es,ep,h1,h2,_⟩:=I.rd s';exact xt S_ I.iA ⟨o,h1,h2.1⟩ (jq X.K "dict" T (by simp) hb) (λz=>nomatch z) fin
def lJ (hm:X.mg "isinstance" = none) (he:QE X K e te) (ht:PE X e2 (tC (.ty T))) (hT:autoParam (Za T=true) bv) (hg:Gl X "isinstance" := by rfl) (hK:autoParam (X.K=K) bv) (hs:autoParam (aT (e :: [e2]) X.env=(false,b3 e X.env) :: aT [e2] X.env) bv) (ny:autoParam (aT (e2 :: []) X.env=(false,b3 e2 X.env) :: aT [] X.env) bv) (hU:autoParam ((gV pos (aT [e2] X.env)).any (·.1)=false) bv) :
  QE X K (.Call (.Name "isinstance" p) [e,e2] [] pos) (dQ (zo T) te):=by
 refine PE.imp (OI (yR hK) hg hm dD (i3 he (i3 ht ly ny) hs) (by decide) (by decide) hs hU) λσ H Qv hx=>hV hx λHs ρ tot Q sr h f=>?_;refine⟨Hs,ρ,tot,_,sr,h,λv H1 aI m x As g1 r1 f1 q1=>⟨v,x,T,rfl,r1.rep g1.wf,hT,Fin.sh (Fin.after f g1) g1.wf (.bl _) q1⟩⟩
end
def n5:Key->D
 |.inl i=>.int i
 |.inr x=>.str x
def xK:W1:=λm x Q=>match x with
 |.list xs=>(dn xs=true/\Q (.ow true) (.list xs))\/(m=.sh/\Q (.ow false) (.list xs))
 |.tup xs=>(dn xs=true/\Q (.ow true) (.list xs))\/(m=.sh/\Q (.ow false) (.list xs))
 |.dT ag=>Q (.ow true) (.list (ag.map λkv=>.tup (kv.1.map n5)))
 |_=>False
section
variable {X:Cx}{K:ay}
theorem ir:∀ {ks:List Key},(∀ k∈ks,tj k=true)->bS K H (ks.map n5) (ks.map kV)
 |[],_=>.nil
 |k :: ks,h=>by
  refine .cons ?_ (ir λj m=>h j (eI _ m));have:=h k fA
  cases k with
  |inl i=>exact .int i
  |inr x=>exact .str (by simpa[tj] using this)
theorem g_:∀ (ks:List Key),dn (ks.map n5)=true
 |[]=>rfl
 |k :: ks=>by simp only[fR,dn,g_ ks,Bool.and_true];cases k<;>rfl
def Be(t:zr H ys ks)(h:∀ l∈ks,l.length<=bE/\∀ k∈l,tj k=true):bS K H (ks.map λl=>.tup (l.map n5)) ys:=by
 induction ys generalizing ks with
 |nil=>rw[show ks=[] from Paired.n0 t];exact .nil
 |cons y ys ih =>obtain⟨k,ks,rfl,⟨b,rfl,e⟩,t2⟩:=Paired.c t;exact .cons (.tup (by rw[dz];exact(h _ fA).1) e (ir (h _ fA).2)) (ih t2 λl m=>h l (eI _ m))
theorem qD:∀ (ks:List (List Key)),dn (ks.map λl=>.tup (l.map n5))=true
 |[]=>rfl
 |l :: ks=>by simp only[fR,dn,qD ks,Bool.and_true,D.flat,g_]
def mV (hc:autoParam (X.calm=true) bv) (hK:autoParam (X.K=K) bv):mn X (.type "list") (λxs H Q=>(∃ p ys,xs=[.ref p]/\(e7 K H p ys\/kU K H p ys)/\∀ l,H l=none->Q (.ref l) (upd H l (.lst ys)))\/sZ xs H Q):=by subst hK;exact hL'.or (vD hc)
def yN:He K (λxs H Q=>(∃ p ys,xs=[.ref p]/\(e7 K H p ys\/kU K H p ys)/\∀ l,H l=none->Q (.ref l) (upd H l (.lst ys)))\/sZ xs H Q) xK:=by
 intro Hs H m x v As Qd Qv w rx h f;have r1:=rx.rep w
 cases r1 with
 |list z s q =>
  have hl:=q.length;rcases h with⟨hf,h⟩|⟨rfl,h⟩
  ·exact .inl ⟨_,_,rfl,.inl s,f.lst w (by lia) q hf h⟩
  ·obtain⟨_,rx⟩:=rx
   cases rx with
   |list z' s' q' =>exact .inl ⟨_,_,rfl,.inl (aS.seq w.sub s'),f.UZ w (by lia) q' h⟩
 |tup z s q =>
  have hl:=q.length;rcases h with⟨hf,h⟩|⟨rfl,h⟩
  ·exact .inl ⟨_,_,rfl,.inr (.inl (.inl s)),f.lst w (by lia) q hf h⟩
  ·obtain⟨_,rx⟩:=rx
   cases rx with
   |tup z' s' q' =>exact .inl ⟨_,_,rfl,.inr (.inl (.inl (w.sub _ _ s'))),f.UZ w (by lia) q' h⟩
 |@dT _ vs ag kk s q =>
  refine .inr ⟨_,s,λys l ht hl=>?_⟩;have hlen:=q.length;rw[dz] at hlen;have e:((ag.map (·.1)).zip vs).map (·.1)=ag.map (·.1):=VY (by rw[dz];exact Rj hlen);rw[e] at ht;have rr:=Be (K:=K) ht (λl m=>by
   obtain⟨p,hp,rfl⟩:=iX.mp m;exact kk.2 p hp)
  have ff:=qD (ag.map (·.1));rw[mh] at rr ff;exact f.lst w (by rw[dz];exact kk.1) rr ff h l hl
 |_=>exact h.elim
end
section
variable {K:ay}{Hs H:Hp}
def SR.CN(r:Rep K Hs d v)(i:Nat)(s:SR K Hs H ρ σ tot):∃ cf,cf.Sublist tot/\SR K Hs H (ρ.set i (some (.sh d))) (σ.set i (some v)) cf:=by
 induction s generalizing i with
 |nil=>exact⟨[],AA _,.nil⟩
 |non s ih =>
  cases i with
  |zero=>exact⟨_,List.Sublist.refl _,.sh r s⟩
  |succ i=>obtain⟨t,a,b⟩:=ih i;exact⟨t,a,.non b⟩
 |sh q s ih =>
  cases i with
  |zero=>exact⟨_,List.Sublist.refl _,.sh r s⟩
  |succ i=>obtain⟨t,a,b⟩:=ih i;exact⟨t,a,.sh q b⟩
 |xc s ih =>
  cases i with
  |zero=>exact⟨_,List.Sublist.refl _,.sh r s⟩
  |succ i=>obtain⟨t,a,b⟩:=ih i;exact⟨t,a,.xc b⟩
 |ow ne q s ih =>
  cases i with
  |zero=>exact⟨_,k9 _ _,.sh r s⟩
  |succ i=>obtain⟨t,a,b⟩:=ih i;exact⟨_,a.append_left _,.ow ne q b⟩
 |lk ne q s ih =>
  cases i with
  |zero=>exact⟨_,k9 _ _,.sh r s⟩
  |succ i=>obtain⟨t,a,b⟩:=ih i;exact⟨_,a.append_left _,.lk ne q b⟩
 |ob q s ih =>
  cases i with
  |zero=>exact⟨_,k9 _ _,.sh r s⟩
  |succ i=>obtain⟨t,a,b⟩:=ih i;exact⟨_,a.append_left _,.ob q b⟩
def dU{As tot:List ae}(nd:As.Nodup)(n:tot.Nodup)(dj:∀ a∈As,a∉tot):(As++tot).Nodup:=g7.mpr ⟨nd,n,λa ha b hb e=>dj a ha (e ▸ hb)⟩
def aY{As tot B t:List ae}(n:(B++tot).Nodup)(dj:∀ a∈As,a∉B++tot)(a:t.Nodup)(b:∀ x∈t,x∈tot\/x∈As):(B++t).Nodup/\∀ x∈B++t,x∈B++tot\/x∈As:=by
 obtain⟨n1,n2,n3⟩:=g7.mp n;refine⟨g7.mpr ⟨n1,a,λx hx y hy e=>?_⟩,λx hx=>?_⟩
 ·subst e;rcases b x hy with z|z
  ·exact n3 x hx x z rfl
  ·exact dj x z (kg _ hx)
 ·rcases eR.mp hx with z|z
  ·exact .inl (kg _ z)
  ·exact(b x z).imp (λz=>eT _ z) λz=>z
def SR.xG{d:D}{v:V}{fl:Bool}{As:List ae}(ne:As≠[])(r:cK K Hs H fl d v As)(nd:As.Nodup){ρ:Env}{σ:St}{tot:List ae}(i:Nat)(s:SR K Hs H ρ σ tot):tot.Nodup->(∀ a∈As,a∉tot) ->
  ∃ cf,cf.Nodup/\(∀ a∈cf,a∈tot\/a∈As)/\SR K Hs H (ρ.set i (some (.ow fl d))) (σ.set i (some v)) cf:=by
 induction s generalizing i with
 |nil=>exact λn _=>⟨[],kT,(λa h=>xh h),.nil⟩
 |non s ih =>
  intro n dj
  cases i with
  |zero=>exact⟨_,dU nd n dj,λa h=>(eR.mp h).symm,.ow ne r s⟩
  |succ i=>obtain⟨t,a,b,c⟩:=ih i n dj;exact⟨t,a,b,.non c⟩
 |sh q s ih =>
  intro n dj
  cases i with
  |zero=>exact⟨_,dU nd n dj,λa h=>(eR.mp h).symm,.ow ne r s⟩
  |succ i=>obtain⟨t,a,b,c⟩:=ih i n dj;exact⟨t,a,b,.sh q c⟩
 |xc s ih =>
  intro n dj
  cases i with
  |zero=>exact⟨_,dU nd n dj,λa h=>(eR.mp h).symm,.ow ne r s⟩
  |succ i=>obtain⟨t,a,b,c⟩:=ih i n dj;exact⟨t,a,b,.xc c⟩
 |ow ne' q s ih =>
  intro n dj;obtain⟨n1,n2,n3⟩:=g7.mp n;have tq:=λa ha m=>dj a ha (eT _ m)
  cases i with
  |zero=>exact⟨_,dU nd n2 tq,λa h=>(eR.mp h).symm.imp (λz=>eT _ z) λz=>z,.ow ne r s⟩
  |succ i=>obtain⟨t,a,b,c⟩:=ih i n2 tq;exact⟨_,(aY n dj a b).1,(aY n dj a b).2,.ow ne' q c⟩
 |lk ne' q s ih =>
  intro n dj;obtain⟨n1,n2,n3⟩:=g7.mp n;have tq:=λa ha m=>dj a ha (eT _ m)
  cases i with
  |zero=>exact⟨_,dU nd n2 tq,λa h=>(eR.mp h).symm.imp (λz=>eT _ z) λz=>z,.ow ne r s⟩
  |succ i=>obtain⟨t,a,b,c⟩:=ih i n2 tq;exact⟨_,(aY n dj a b).1,(aY n dj a b).2,.lk ne' q c⟩
 |ob q s ih =>
  intro n dj;obtain⟨n1,n2,n3⟩:=g7.mp n;have tq:=λa ha m=>dj a ha (eT _ m)
  cases i with
  |zero=>exact⟨_,dU nd n2 tq,λa h=>(eR.mp h).symm.imp (λz=>eT _ z) λz=>z,.ow ne r s⟩
  |succ i=>obtain⟨t,a,b,c⟩:=ih i n2 tq;exact⟨_,(aY n dj a b).1,(aY n dj a b).2,.ob q c⟩
def SR.Fi:∀ (i:Nat),SR K Hs H ρ σ tot->∃ cf,cf.Sublist tot/\SR K Hs H (ρ.set i none) σ cf:=by
 intro i s
 induction s generalizing i with
 |nil=>exact⟨[],AA _,.nil⟩
 |non s ih =>
  cases i with
  |zero=>exact⟨_,List.Sublist.refl _,.non s⟩
  |succ i=>obtain⟨t,a,b⟩:=ih i;exact⟨t,a,.non b⟩
 |sh q s ih =>
  cases i with
  |zero=>exact⟨_,List.Sublist.refl _,.non s⟩
  |succ i=>obtain⟨t,a,b⟩:=ih i;exact⟨t,a,.sh q b⟩
 |xc s ih =>
  cases i with
  |zero=>exact⟨_,List.Sublist.refl _,.non s⟩
  |succ i=>obtain⟨t,a,b⟩:=ih i;exact⟨t,a,.xc b⟩
 |ow ne q s ih =>
  cases i with
  |zero=>exact⟨_,k9 _ _,.non s⟩
  |succ i=>obtain⟨t,a,b⟩:=ih i;exact⟨_,a.append_left _,.ow ne q b⟩
 |lk ne q s ih =>
  cases i with
  |zero=>exact⟨_,k9 _ _,.non s⟩
  |succ i=>obtain⟨t,a,b⟩:=ih i;exact⟨_,a.append_left _,.lk ne q b⟩
 |ob q s ih =>
  cases i with
  |zero=>exact⟨_,k9 _ _,.non s⟩
  |succ i=>obtain⟨t,a,b⟩:=ih i;exact⟨_,a.append_left _,.ob q b⟩
def asg:Md->D->Option Sl
 |.sh,d=>some (.sh d)
 |.ow fl,d=>some (.ow fl d)
 |_,d=>bif d.flat then some (.sh d) else none
def dE.set(i:Nat)(s:dE K Hs ρ σ H tot)(r:RM K Hs H m d v As)(nd:As.Nodup)(dj:∀ a∈As,Hs a=none/\a∉tot)(e:asg m d=some sl) :
  ∃ cf,dE K Hs (ρ.set i (some sl)) (σ.set i (some v)) H cf:=by
 have shc:Rep K Hs d v->∃ cf,dE K Hs (ρ.set i (some (.sh d))) (σ.set i (some v)) H cf:=λr=>by obtain⟨t,a,b⟩:=s.sr.CN r i;exact⟨t,b,s.wf,a.nodup s.nX,λx hx=>s.own x (a.subset hx)⟩
 cases m with
 |sh=>cases e;exact shc r.2
 |ow fl =>cases e;obtain⟨t,a,b,c⟩:=SR.xG r.2 r.1 nd i s.sr s.nX λa ha=>(dj a ha).2;exact⟨t,c,s.wf,a,λx hx=>(b x hx).elim (s.own x) λz=>(dj x z).1⟩
 |_ =>
  cases hf:d.flat with
  |true =>simp only[asg,hf,cond_true,Option.some.injEq] at e;subst e;exact shc (r.flat s.wf hf)
  |false=>simp[asg,hf] at e
end
section
variable {X:Cx}{K:ay}{e c:Expr}{te:WE}{tc:WT}{pos:Pos}{st:h8}{a b rest:List h8}{t u:WS}
def PS.imp{te y9:TS}(h:PS X st te)(i:∀ D σ H,y9 D σ H->te D σ H):PS X st y9:=λpins s σ H D I q=>h pins s σ H D I (i D σ H q)
def mE.imp{te y9:TS}(h:mE X a te)(i:∀ D σ H,y9 D σ H->te D σ H):mE X a y9:=λpins s σ H D I q=>h pins s σ H D I (i D σ H q)
def aP:WS:=λE ρ=>E.nx ρ
def b5(t u:WS):WS:=λE ρ=>t { E with nx:=u E } ρ
def fF(te:WE):WS:=λE ρ=>te ρ E.rt
def eS(i:Nat)(te:WE):WS:=λE ρ=>te ρ λm d=>match asg m d with
 |some sl=>E.nx (ρ.set i (some sl))
 |none=>False
def fm(c:WT)(t u:WS):WS:=λE ρ=>c ρ λb=>if b=true then t E ρ else u E ρ
def aA:tm X K L [] aP:=mE.imp Wh λD σ H hx=>bR hx λHs ρ tot E sr h k1 _ _ _=>k1 σ H Hs ρ tot (aS.refl _) sr h
def zH{D:Ends}(h:y8 K L (b5 t u) D σ H):RB (y8 K L t) (y8 K L u) D σ H:=by
 obtain⟨Hs,ρ,tot,E,sr,h,k1,k2,k3,k4,kx⟩:=h;refine⟨Hs,ρ,tot,{ E with nx:=u E },sr,h,λb4 H' aw bt cf s ZG q=>?_,k2,k3,k4,kx⟩;exact⟨aw,bt,cf,E,ZG,q,λlh H2 aC fo eL s2=>k1 lh H2 aC fo eL (s.trans s2),λlh H2 aC fo eL s2=>k2 lh H2 aC fo eL (s.trans s2),λlh H2 aC fo eL s2=>k3 lh H2 aC fo eL (s.trans s2),
  λv H2 aC m d As s2=>k4 v H2 aC m d As (s.trans s2),λn H2 s2=>kx n H2 (s.trans s2)⟩
def aj(h1:QS X K L st t)(h2:tm X K L rest u):tm X K L (st :: rest) (b5 t u):=mE.imp (T7 h1 h2) λD σ H h=>zH h
def ao(h1:QS X K L st t):tm X K L [st] t:=RC h1
def aH(he:QE X K e te):QS X K L (.Return (some e) pos) (fF te):=PS.imp (Ki he) λD σ H hx=>bR hx λHs ρ tot E sr h k1 k2 k3 k4 =>
 ⟨Hs,ρ,tot,_,sr,h,λv H1 aI m d As g1 r1 f1 q1=>k4 v H1 aI m d As g1.sh g1.wf r1 f1.1 (λa ha=>(f1.2 a ha).1) q1⟩
def jt(i:Nat):WS:=λE ρ=>match ρ[i]? with
 |some (some (.sh d))=>E.rt .sh d
 |some (some (.ow fl d))=>E.rt (.ow fl) d
 |_=>False
def SR.at{ρ:Env}{σ:St}{tot:List ae}{i:Nat}{fl:Bool}{d:D}{Hs H:Hp}(s:SR K Hs H ρ σ tot)(e:ρ[i]? = some (some (.ow fl d))):∃ v As,σ[i]? = some (some v)/\As≠[]/\cK K Hs H fl d v As/\As.Sublist tot:=by
 induction s generalizing i with
 |nil=>simp at e
 |non s ih =>
  cases i with
  |zero=>simp at e
  |succ i=>exact ih e
 |sh r s ih =>
  cases i with
  |zero=>simp at e
  |succ i=>exact ih e
 |xc s ih =>
  cases i with
  |zero=>simp at e
  |succ i=>exact ih e
 |ow ne r s ih =>
  cases i with
  |zero=>simp at e;obtain⟨rfl,rfl⟩:=e;exact⟨_,_,rfl,ne,r,ND _ _⟩
  |succ i =>obtain⟨v,As,a,b,c,d⟩:=ih e;exact⟨v,As,a,b,c,d.trans (k9 _ _)⟩
 |lk ne r s ih =>
  cases i with
  |zero=>simp at e
  |succ i =>obtain⟨v,As,a,b,c,d⟩:=ih e;exact⟨v,As,a,b,c,d.trans (k9 _ _)⟩
 |ob r s ih =>
  cases i with
  |zero=>simp at e
  |succ i =>obtain⟨v,As,a,b,c,d⟩:=ih e;exact⟨v,As,a,b,c,d.trans (k9 _ _)⟩
def lC{i:Nat}(he:PE X e (jI i)):QS X K L (.Return (some e) pos) (jt i):=PS.imp (Ki he) λD σ H hx=>bR hx λHs ρ tot E sr h k1 k2 k3 k4=>by
 unfold jt at h;split at h
 ·rename_i d e1;obtain⟨v,e2,r⟩:=sr.sr.get e1;exact⟨v,e2,k4 v H Hs .sh d [] (aS.refl _) sr.wf ⟨rfl,r⟩ kT (λa ha=>nomatch ha) h⟩
 ·rename_i fl d e1;obtain⟨v,As,e2,ne,r,sb⟩:=sr.sr.at e1;exact⟨v,e2,k4 v H Hs (.ow fl) d As (aS.refl _) sr.wf ⟨r,ne⟩ (sb.nodup sr.nX) (λa ha=>sr.own a (sb.subset ha)) h⟩
 ·exact h.elim
def aF(i:Nat){x:Str}{pos':Pos}(he:QE X K e te)(hs:autoParam (lP e (some (.Name x pos')) pos.line X.env=pure false) bv) (hf:X.fn x=true\/X.env.scope.names.lookup x=some .local:=by first|exact .inl rfl|exact .inr rfl|assumption) (hN:X.N.Nodup:=by assumption) (hi:autoParam (X.N[i]? = some x) bv) (hx:Loc X.env.scope x:=by first|exact .inl rfl|exact .inr rfl):QS X K L (.Assign [.Name x pos'] e pos) (eS i te):=PS.imp (Kj hN hi hx he hs hf) λD σ H hx=>bR hx λHs ρ tot E sr h k1 k2 k3 k4=>by
 refine⟨Hs,ρ,tot,_,sr,h,λv H1 aI m d As g1 r1 f1 q1=>?_⟩
 cases e:asg m d with
 |none=>rw[e] at q1;exact q1.elim
 |some sl =>rw[e] at q1;obtain⟨cf,s'⟩:=(sr.grow g1).set i r1 f1.1 (λa ha=>⟨(f1.2 a ha).1,λm=>(sr.sr.own a m).ne (f1.2 a ha).2⟩) e;exact k1 _ H1 aI _ cf g1.sh s' q1
def aO(hc:QT X K c tc)(ha:tm X K L a t)(hb:tm X K L b u):QS X K L (.If c a b pos) (fm tc t u):=PS.imp (aU' hc ha hb) λD σ H hx=>cG hx λHs ρ tot E sr h k1 k2 k3 k4 kx=>by
 refine⟨Hs,ρ,tot,_,sr,h,λk H1 aI g1 q1=>?_⟩;have k1':∀ b4 H' aw bt cf,aS aI aw->dE K aw bt b4 H' cf->E.nx bt->D.nx b4 H':=λlh H2 aC fo eL s2=>k1 lh H2 aC fo eL (g1.sh.trans s2);have k2':∀ b4 H' aw bt cf,aS aI aw->dE K aw bt b4 H' cf->E.bk bt->D.bk b4 H':=λlh H2 aC fo eL s2=>k2 lh H2 aC fo eL (g1.sh.trans s2);have k3':∀ b4 H' aw bt cf,aS aI aw->dE K aw bt b4 H' cf->E.ct bt->D.ct b4 H':=λlh H2 aC fo eL s2=>k3 lh H2 aC fo eL (g1.sh.trans s2)
 cases k with
 |true=>exact⟨aI,ρ,tot,E,sr.grow g1,q1,k1',k2',k3',(λv H2 aC m d As s2=>k4 v H2 aC m d As (g1.sh.trans s2)),λn H2 s2=>kx n H2 (g1.sh.trans s2)⟩
 |false=>exact⟨aI,ρ,tot,E,sr.grow g1,q1,k1',k2',k3',(λv H2 aC m d As s2=>k4 v H2 aC m d As (g1.sh.trans s2)),λn H2 s2=>kx n H2 (g1.sh.trans s2)⟩
def zt(Hs H:Hp)(As:List ae):Hp:=λa=>if a∈As then H a else Hs a
def gG(n:∀ a∈As,Hs a=none):aS Hs (zt Hs H As):=λa o e=>by unfold zt;rw[if_neg λm=>by rw[n a m] at e;cases e];exact e
def Cr(w:Wf Hs H)(o:∀ a∈As,Own H a):Wf (zt Hs H As) H:=⟨λa u e=>by
  unfold zt at e;by_cases m:a∈As
  ·rw[if_pos m] at e;exact e
  ·rw[if_neg m] at e;exact w.sub a u e,λa vs e=>by
  unfold zt;rw[if_neg λm=>(o a m).tZ e];exact w.iF a vs e⟩
def Ss:Sl->Sl
 |.sh d=>.sh d
 |.ow _ d=>.sh d
 |.lk a fl d=>.lk a fl d
 |.xc a=>.xc a
 |.ob a p=>.ob a p
def ZH:Sl->Sl
 |.sh d=>.sh d
 |.ow _ d=>.sh d
 |.lk _ _ d=>.sh d
 |.xc a=>.xc a
 |.ob a _=>.xc a
def Sv(i:Nat)(ρ:Env):Env:=match ρ[i]? with
 |some (some sl)=>ρ.set i (some (Ss sl))
 |_=>ρ
def rZ{As tot B t:List ae}(n:(B++tot).Nodup)(a:As.Sublist tot)(c:∀ x∈As,x∉t):∀ x∈As,x∉B++t:=λx hx m=>by
 obtain⟨n1,n2,n3⟩:=g7.mp n;rcases eR.mp m with z|z
 ·exact n3 x z x (a.subset hx) rfl
 ·exact c x hx z
def SR.qq(i:Nat)(s:SR K Hs H ρ σ tot):ρ[i]? = some (some (.ow fl d))->tot.Nodup ->
  ∃ (As cf:List ae),As.Sublist tot/\cf.Sublist tot/\(∀ a∈As,a∉cf)/\∀ aw,aS Hs aw->(∀ a∈As,aw a=H a)->SR K aw H (ρ.set i (some (.sh d))) σ cf:=by
 induction s generalizing i with
 |nil=>intro e;simp at e
 |non q ih =>
  intro e n
  cases i with
  |zero=>simp at e
  |succ i =>obtain⟨As,t,a,b,c,d⟩:=ih i e n;exact⟨As,t,a,b,c,λaw s k=>.non (d aw s k)⟩
 |sh r q ih =>
  intro e n
  cases i with
  |zero=>simp at e
  |succ i =>obtain⟨As,t,a,b,c,d⟩:=ih i e n;exact⟨As,t,a,b,c,λaw s k=>.sh (r.same s) (d aw s k)⟩
 |xc q ih =>
  intro e n
  cases i with
  |zero=>simp at e
  |succ i =>obtain⟨As,t,a,b,c,d⟩:=ih i e n;exact⟨As,t,a,b,c,λaw s k=>.xc (d aw s k)⟩
 |ow ne r q ih =>
  intro e n;obtain⟨n1,n2,n3⟩:=g7.mp n
  cases i with
  |zero =>obtain⟨rfl,rfl⟩:=e;exact⟨_,_,ND _ _,k9 _ _,λa h m=>n3 a h a m rfl,λaw s k=>.sh (r.rep s k) (q.fS s λ_ _=>rfl)⟩
  |succ i =>obtain⟨As,t,a,b,c,d⟩:=ih i e n2;exact⟨As,_,a.trans (k9 _ _),b.append_left _,rZ n a c,λaw s k=>.ow ne (r.fS s λ_ _=>rfl) (d aw s k)⟩
 |lk ne r q ih =>
  intro e n;obtain⟨n1,n2,n3⟩:=g7.mp n
  cases i with
  |zero=>simp at e
  |succ i =>obtain⟨As,t,a,b,c,d⟩:=ih i e n2;exact⟨As,_,a.trans (k9 _ _),b.append_left _,rZ n a c,λaw s k=>.lk ne (r.fS s λ_ _=>rfl) (d aw s k)⟩
 |@ob _ _ _ _ _ p r q ih =>
  intro e n;obtain⟨n1,n2,n3⟩:=g7.mp n
  cases i with
  |zero=>simp at e
  |succ i =>obtain⟨As,t,a,b,c,d⟩:=ih i e n2;exact⟨As,_,a.trans (k9 _ _),b.append_left _,rZ n a c,λaw s k=>.ob (p.fS (iZ s) (λ_ _=>rfl) r) (d aw s k)⟩
def dE.qq(i:Nat)(s:dE K Hs ρ σ H tot):∃ aw cf,aS Hs aw/\dE K aw (Sv i ρ) σ H cf:=by
 unfold Sv;split
 ·rename_i sl e;have keep:Ss sl=sl->∃ aw cf,aS Hs aw/\dE K aw (ρ.set i (some (Ss sl))) σ H cf:=λhs=>by
   have e2:ρ.set i (some (Ss sl))=ρ:=by
    apply VW;intro j;rw[List.getElem?_set];by_cases h:i=j
    ·subst h;rw[if_pos rfl,e];have:i<ρ.length:=(ng.mp e).1;simp[this,hs]
    ·rw[if_neg h]
   rw[e2];exact⟨Hs,tot,aS.refl _,s⟩
  cases sl with
  |sh d=>exact keep rfl
  |xc a=>exact keep rfl
  |lk a fl d=>exact keep rfl
  |ob a p=>exact keep rfl
  |ow fl d =>obtain⟨As,t,a,b,c,g⟩:=SR.qq i s.sr e s.nX;have hn:∀ a∈As,Hs a=none:=λx hx=>s.own x (a.subset hx);have ho:∀ a∈As,Own H a:=λx hx=>s.sr.own x (a.subset hx);refine⟨zt Hs H As,t,gG hn,g _ (gG hn) λx hx=>by unfold zt;rw[if_pos hx],Cr s.wf ho,b.nodup s.nX,λx hx=>?_⟩;unfold zt;rw[if_neg λm=>c x m hx];exact s.own x (b.subset hx)
 ·exact⟨Hs,tot,aS.refl _,s⟩
def zv(i:Nat)(t:WS):WS:=λE ρ=>t E (Sv i ρ)
def Bg{D:Ends}(h:y8 K L (zv i t) D σ H):y8 K L t D σ H:=by
 obtain⟨Hs,ρ,tot,E,sr,h,k1,k2,k3,k4,kx⟩:=h;obtain⟨aw,cf,s,ZG⟩:=sr.qq i;exact⟨aw,_,cf,E,ZG,h,λlh H2 aC fo eL s2=>k1 lh H2 aC fo eL (s.trans s2),λlh H2 aC fo eL s2=>k2 lh H2 aC fo eL (s.trans s2),λlh H2 aC fo eL s2=>k3 lh H2 aC fo eL (s.trans s2),
  λv H2 aC m d As s2=>k4 v H2 aC m d As (s.trans s2),λn H2 s2=>kx n H2 (s.trans s2)⟩
def fQ(i:Nat)(h:QS X K L st t):QS X K L st (zv i t):=PS.imp h λD σ H h=>Bg h
def lr(aI H1 aw H':Hp):Hp:=λa=>match H' a with
 |some (.tup vs)=>some (.tup vs)
 |_=>match H1 a with
  |none=>aw a
  |some _=>aI a
def b7(w:Wf aI H1)(s:aS H1 aw)(w':Wf aw H'):fe aI H1 (lr aI H1 aw H') H':=by
 have sa:aS H1 H':=s.trans w'.sub;have tp:∀ a vs,H' a=some (.tup vs)->lr aI H1 aw H' a=some (.tup vs):=λa vs e=>by unfold lr;rw[e]
 have nt:∀ a,(∀ vs,H' a≠some (.tup vs))->lr aI H1 aw H' a=match H1 a with
  |none=>aw a
  |some _=>aI a:=λa h=>by
  unfold lr;split
  ·rename_i vs e;exact absurd e (h vs)
  ·rfl
 refine⟨sa,λa o e=>?_,⟨λa o e=>?_,tp⟩,λa h=>?_⟩
 ·have e1:=w.sub a o e;have e2:=sa a o e1;by_cases ht:∃ vs,o=.tup vs
  ·obtain⟨vs,rfl⟩:=ht;exact tp a vs e2
  ·rw[nt a λvs z=>ht ⟨vs,by rw[e2] at z;exact Option.some.inj z⟩,e1];exact e
 ·by_cases ht:∃ vs,H' a=some (.tup vs)
  ·obtain⟨vs,z⟩:=ht;rw[tp a vs z] at e;rw[z];exact e
  ·rw[nt a λvs z=>ht ⟨vs,z⟩] at e
   cases q:H1 a with
   |none=>rw[q] at e;exact w'.sub a o e
   |some u =>rw[q] at e;have:=w.sub a o e;exact sa a o this
 ·cases q:H1 a with
  |none=>exact .inr rfl
  |some u =>
   refine .inl ?_;by_cases ht:∃ vs,H' a=some (.tup vs)
   ·obtain⟨vs,z⟩:=ht;have:=sa a u q;rw[z] at this;cases this;rw[w.iF a vs q];exact λz=>nomatch z
   ·rw[nt a λvs z=>ht ⟨vs,z⟩,q] at h;exact h
def qj{aI H1 aw H':Hp}{a:ae}(s:aS H1 aw)(h:aw a=none)(o:Own H' a):lr aI H1 aw H' a=none/\H1 a=none:=by
 have h1:=s.free h;refine⟨?_,h1⟩;unfold lr;split
 ·rename_i vs e;exact absurd e o.tZ
 ·rw[h1];exact h
def vv:Md->D->Md
 |.ow true,_=>.ow true
 |.fr,_=>.fr
 |_,d=>bif d.flat then .sh else .bo
def iM(w:Wf aI H1)(s:aS H1 aw)(w':Wf aw H')(r:RM K aw H' m d v As)(nd:As.Nodup)(own:∀ a∈As,aw a=none) :
  ∃ gy,RM K (lr aI H1 aw H') H' (vv m d) d v gy/\bM (lr aI H1 aw H') H1 gy:=by
 have g:=b7 w s w';have other:∃ gy,RM K (lr aI H1 aw H') H' (bif d.flat then .sh else .bo) d v gy/\bM (lr aI H1 aw H') H1 gy:=by
  cases hf:d.flat with
  |true=>exact⟨[],⟨rfl,(r.rep w').dN g.wf.iF hf⟩,bM.nil⟩
  |false=>exact⟨[],⟨rfl,r.rep w'⟩,bM.nil⟩
 cases m with
 |sh=>exact other
 |bo=>exact other
 |fr=>exact⟨As,⟨r.1,r.2.same (t6 (λa vs e=>x_ r.1 g.wf.sub (g.wf.iF a vs (w'.sub _ _ e))) λa m o e=>by unfold LW;rw[if_pos m];exact e)⟩,nd,λa h=>qj s (own a h) (r.own a h)⟩
 |wl=>exact other
 |ow fl =>
  cases fl with
  |false=>exact other
  |true=>exact⟨As,⟨cK.leaves (λa vs e=>g.wf.iF a vs (w'.sub _ _ e)) r.1,r.2⟩,nd,λa h=>qj s (own a h) (r.own a h)⟩
abbrev fk:=List D->(Md->D->Prop)->Prop
def fW(K:ay)(sp:fk):Sp:=λvs H Qv _=>∃ ds Qd,bS K H ds vs/\sp ds Qd /\
 ∀ v H' aw m d As,aS H aw->Wf aw H'->RM K aw H' m d v As->As.Nodup->(∀ a∈As,aw a=none)->Qd m d->Qv v H'
def aM(n:Nat)(ds:List D):Env:=ds.map (λd=>some (.sh d))++List.replicate (n-ds.length) none
def SR.start(r:bS K H ds vs):SR K H H (ds.map (λd=>some (.sh d))++List.replicate n none) (vs.map some++List.replicate n none) []:=by
 induction ds generalizing vs with
 |nil =>
  rw[r.n0]
  induction n with
  |zero=>exact .nil
  |succ n ih=>exact .non ih
 |cons d ds ih =>obtain⟨u,us,rfl,r,rs⟩:=r.c;exact .sh r (ih rs)
def wZ(h:fW K sp vs H Qv E)(hp:∀ ds Q,sp ds Q->t { nx:=λ_=>Q .sh .non,rt:=Q } (aM N.length ds)) :
  y8 K L0 t { nx:=λ_ H'=>Qv .non H',rt:=Qv } (start N vs) H:=by
 obtain⟨ds,Qd,rs,hs,fin⟩:=h;have hl:=rs.length;refine⟨H,aM N.length ds,[],{ nx:=λ_=>Qd .sh .non,rt:=Qd },⟨?_,⟨aS.refl _,λ_ _ e=>e⟩,kT,λa h=>nomatch h⟩,hp ds Qd hs,?_,?_,?_,?_,λ_ _ _ _=>trivial⟩
 ·unfold aM start;rw[hl];exact SR.start rs
 ·exact λb4 H' aw bt cf s sr q=>fin .non H' aw .sh .non [] s sr.wf ⟨rfl,.non⟩ kT (λa h=>nomatch h) q
 ·exact λb4 H' aw bt cf s sr q=>q.elim
 ·exact λb4 H' aw bt cf s sr q=>q.elim
 ·exact λv H' aw m d As s w r nd own q=>fin v H' aw m d As s w r nd own q
def ZI.ok{P:cq}{st:h8}{N ps:List Str}(F:oj K x qual st f fd)(S:xI N ps (dS st))(len:∀ ds Q,sp ds Q->ds.length=ps.length)(wc:∀ (dc:ah) (A:ft) (outer:List PySem.Env) (s:aE) (H:Hp) (E:XK),gi k (A.deeper (kN qual (dS st) s.heap.objs.size f dc))->tm (mI kP P w K mg base N qual (dS st) f dc A outer s H E).xE K L0 (lT st) t)(hp:∀ ds Q,sp ds Q->t { nx:=λ_=>Q .sh .non,rt:=Q } (aM N.length ds)):kR P w K mg base kP (k+1) f fd ps (fW K sp) :=
 F.ok S (λvs H Q E ⟨ds,Qd,rs,hs,_⟩=>by rw[<- rs.length];exact len ds Qd hs) λdc A outer s H vs Q E hr hs=>⟨_,wc dc A outer s H E hr,wZ hs hp⟩
def bx(sp:fk)(t:WA):WE:=λρ Q=>t ρ λps=>sp (ps.map (·.2)) λm d=>b9 (m,d) (f:=λp=>Q (vv p.1 p.2) p.2) ⟨⟩
def zE{sp:fk}{t:WA}{σ:St}{H:Hp}{Qv:VK}{E:XK}(h:vn K (bx sp t) σ H Qv):KS (fW K sp) [] E (UY K t) σ H Qv:=by obtain⟨Hs,ρ,tot,Q,sr,h,f⟩:=h;refine⟨Hs,ρ,tot,_,sr,h,λvs H1 aI ps As g1 r1 f1 q1=>?_⟩;refine⟨_,_,by rw[kM];exact r1.reps g1.wf,q1,λv H' aw m d As s w r nd own q=>?_⟩;obtain⟨gy,r',fr⟩:=iM g1.wf s w r nd own;exact Fin.after f g1 v H' _ (vv m d) d gy (b7 g1.wf s w) r' fr q
def bH {k:Nat} {x:Str} {ps:List Str} {sp:fk} {p:Pos} {es:List Expr} {t:WA} (C:UK X.prog X.w X.K X.mg X.base k x ps (fW K sp)) (ha:QA X K (e :: es) t) (hg:autoParam (Gl X x) bv) (ip:(x == ("__debug__" : Str))=false:=by decide) (he:autoParam (aT (e :: es) X.env=(false,b3 e X.env) :: aT es X.env) bv) (hU:autoParam ((gV pos (aT es X.env)).any (·.1)=false) bv) (hr:gi k X.A:=by exact gi.mono (by assumption) (by decide)):QE X K (.Call (.Name x p) (e :: es) [] pos) (bx sp t):=PE.imp (J8 C hr ha hg ip he hU) λσ H Qv h=>zE h
end
abbrev WG:=D->Env->(Env->Prop)->Prop
def ZJ(K:ay)(g:WG):TG:=λv σ H Qv=>∃ Hs ρ tot d Q,dE K Hs ρ σ H tot/\Rep K Hs d v/\g d ρ Q/\∀ b4 bt cf,dE K Hs bt b4 H cf->(∀ a∈cf,a∈tot)->Q bt->Qv b4 H
abbrev QG(X:Cx)(K:ay)(e:Expr)(g:WG):Prop:=PG X e (ZJ K g)
def gN(i:Nat):WG:=λd ρ Q=>Q (ρ.set i (some (.sh d)))
abbrev L7:=List D->Env->(Env->Prop)->Prop
def kj'(K:ay)(g:L7):N3:=λvs σ H Qv=>∃ Hs ρ tot ds Q,dE K Hs ρ σ H tot/\bS K Hs ds vs/\g ds ρ Q/\∀ b4 bt cf,dE K Hs bt b4 H cf->(∀ a∈cf,a∈tot)->Q bt->Qv b4 H
abbrev U5(X:Cx)(K:ay)(es:List Expr)(g:L7):Prop:=CM X es (kj' K g)
def Ba:L7:=λds ρ Q=>ds=[]/\Q ρ
def tL(g:WG)(gs:L7):L7:=λds ρ Q=>match ds with
 |d :: ds=>g d ρ λbt=>gs ds bt Q
 |[]=>False
def gT(n:Nat)(gs:L7):WG:=λd ρ Q=>match d with
 |.tup ds=>ds.length=n/\gs ds ρ Q
 |_=>False
section
variable {X:Cx}{K:ay}{e:Expr}{es:List Expr}{g:WG}{gs:L7}{pos:Pos}
def PG.imp(h:PG X e t)(i:∀ v σ H Q,t' v σ H Q->t v σ H Q):PG X e t':=λpins s σ H v u Q I r q=>h pins s σ H v u Q I r (i v σ H Q q)
def CM.imp(h:CM X es t)(i:∀ v σ H Q,t' v σ H Q->t v σ H Q):CM X es t':=λpins s σ H v u Q I r q=>h pins s σ H v u Q I r (i v σ H Q q)
def dE.zX(i:Nat)(s:dE K Hs ρ σ H tot)(r:Rep K Hs d v):∃ cf,(∀ a∈cf,a∈tot)/\dE K Hs (ρ.set i (some (.sh d))) (σ.set i (some v)) H cf:=by obtain⟨t,a,b⟩:=s.sr.CN r i;exact⟨t,λx hx=>a.subset hx,b,s.wf,a.nodup s.nX,λx hx=>s.own x (a.subset hx)⟩
def aR(i:Nat)(hf:X.fn x=true\/X.env.scope.names.lookup x=some .local:=by first|exact .inl rfl|exact .inr rfl|assumption)(hN:X.N.Nodup:=by assumption)(hi:autoParam (X.N[i]? = some x) bv)(hx:Loc X.env.scope x:=by first|exact .inl rfl|exact .inr rfl):QG X K (.Name x pos) (gN i) :=
 PG.imp (Wj hN hi hx hf) λv σ H Qv dA=>by obtain⟨Hs,ρ,tot,d,Q,sr,r,h,k⟩:=dA;obtain⟨t,m,s⟩:=sr.zX i r;exact k _ _ t s m h
def Ha:U5 X K [] Ba:=CM.imp aV' λv σ H Qv dA=>by obtain⟨Hs,ρ,tot,ds,Q,sr,r,h,k⟩:=dA;obtain⟨rfl,h⟩:=h;cases r;exact⟨rfl,k σ ρ tot sr (λ_ z=>z) h⟩
def ue(h1:QG X K e g)(h2:U5 X K es gs)(hs:autoParam ((sF (e :: es) X.env).map (·.2)=assign e X.env :: (sF es X.env).map (·.2)) bv):U5 X K (e :: es) (tL g gs) :=
 CM.imp (Wk h1 h2 hs) λv σ H Qv dA=>by
  obtain⟨Hs,ρ,tot,ds,Q,sr,r,h,k⟩:=dA
  cases r with
  |nil=>exact h.elim
  |cons r rs=>exact⟨_,_,rfl,Hs,ρ,tot,_,_,sr,r,h,λlh fo eL fP m2 q2=>⟨Hs,fo,eL,_,Q,fP,rs,q2,λqB BH ZK HC m3=>k qB BH ZK HC λa h=>m2 a (m3 a h)⟩⟩
def J5(h:U5 X K es gs)(hn:autoParam ((sF es X.env).length=n) bv)(pT:autoParam ((sF es X.env).findIdx? (·.1)=none) bv)(hc:autoParam (X.calm=true) bv):QG X K (.Tuple es k pos) (gT n gs) :=
 PG.imp (aW' hc h hn pT) λv σ H Qv dA=>by
  obtain⟨Hs,ρ,tot,d,Q,sr,r,h,k⟩:=dA
  cases r with
  |tup z e rs=>exact⟨_,_,rfl,.inl (.inl (sr.wf.sub _ _ e)),by rw[<- rs.length];exact h.1,Hs,ρ,tot,_,Q,sr,rs,h.2,k⟩
  |_=>exact h.elim
end
abbrev WI:=Env->(List D->Prop)->Prop
structure oG(K:ay)(J:It)(ds:List D)(C:Hp->Hp->Prop):Prop where
 go:∀ i Hs H,C Hs H->Wf Hs H->i<ds.length->J.go i H
 mG:∀ i Hs H x H' d,C Hs H->Wf Hs H->ds[i]? = some d->J.mG i H x H'->∃ aw,fe Hs H aw H'/\Rep K aw d x
 stop:∀ Hs H,C Hs H->Wf Hs H->J.stop ds.length H
abbrev uD(K:ay)(Hs:Hp)(J:It)(ds:List D):Prop:=oG K J ds λG _=>aS Hs G
def nM(xs:List D):List D:=xs.mapIdx λi x=>.tup [.int i,x]
section
variable {K:ay}{Hs:Hp}{J:It}{ds:List D}{C C':Hp->Hp->Prop}{a:ae}
def oG.imp(S:oG K J ds C)(h:∀ Hs H,C' Hs H->C Hs H):oG K J ds C':=⟨λi Hs H c=>S.go i Hs H (h _ _ c),λi Hs H x H' d c=>S.mG i Hs H x H' d (h _ _ c),λHs H c=>S.stop Hs H (h _ _ c)⟩
def oG.seq(rs:bS K Hs ds vs)(S:dW J vs λH=>aS Hs H):uD K Hs J ds where
 go:=λi G H s w h=>S.go i H (s.trans w.sub) (by rw[<- rs.length];exact h)
 mG:=λi G H x H' d s w h y=>by
  have hi:i<ds.length:=by
   rcases Nat.lt_or_ge i ds.length with q|q
   ·exact q
   ·rw[IU q] at h;cases h
  obtain⟨e,z⟩:=S.mG i H x H' (s.trans w.sub) (by rw[<- rs.length];exact hi) y;subst e;obtain⟨d',ed,rd⟩:=rs.ZC z;rw[h] at ed;cases ed;exact⟨G,fe.refl w,rd.same s⟩
 stop:=λG H s w=>by rw[rs.length];exact S.stop H (s.trans w.sub)
abbrev v7(K:ay)(a:ae)(ds:List D)(C:Hp->Hp->Prop):Prop:=∀ Hs H,C Hs H->Wf Hs H->∃ vs,e7 K H a vs/\bS K Hs ds vs
def oG.list(h:v7 K a ds C):oG K (T9 K a) ds C where
 go:=λi G H c w hi=>by obtain⟨vs,q,rs⟩:=h G H c w;exact⟨vs,vs[i]'(by rw[<- rs.length];exact hi),q,by simp⟩
 mG:=λi G H x H' d c w hd y=>by obtain⟨vs,q,rs⟩:=h G H c w;obtain⟨rfl,y⟩:=y;obtain⟨d',ed,rd⟩:=rs.ZC (y vs q);rw[hd] at ed;cases ed;exact⟨G,fe.refl w,rd⟩
 stop:=λG H c w=>by obtain⟨vs,q,rs⟩:=h G H c w;exact⟨vs,q,by rw[rs.length];exact c9 _⟩
def oG.enum(h:v7 K a ds C):oG K (Zh K a) (nM ds) C where
 go:=λi G H c w hi=>by
  obtain⟨vs,q,rs⟩:=h G H c w;have hi:i<ds.length:=by simpa[nM] using hi
  exact⟨vs,vs[i]'(by rw[<- rs.length];exact hi),q,by simp⟩
 mG:=λi G H x H' d c w hd y=>by
  obtain⟨vs,q,rs⟩:=h G H c w;obtain⟨p,v,rfl,hp,rfl,y⟩:=y;obtain⟨d',ed,rd⟩:=rs.ZC (y vs q);have:d=.tup [.int i,d']:=by simp only[nM,List.getElem?_mapIdx,ed,NS] at hd;cases hd;rfl
  subst this;have g:=LZ (vs:=[.int i,v]) w hp;exact⟨_,g,.tup (vs:=[.int i,v]) Dc eJ (.cons (.int _) (.cons (rd.same g.sh) .nil))⟩
 stop:=λG H c w=>by obtain⟨vs,q,rs⟩:=h G H c w;exact⟨vs,q,by rw[nM,List.length_mapIdx,rs.length];exact c9 _⟩
def qx(s:e7 K Hs a vs)(rs:bS K Hs ds vs):v7 K a ds λG _=>aS Hs G:=λG H c w=>⟨vs,aS.seq (c.trans w.sub) s,rs.same c⟩
end
def tpI(K:ay)(wi:WI):TI:=λσ H R=>∃ Hs ρ tot Q,dE K Hs ρ σ H tot/\wi ρ Q/\∀ J H' aw ds,fe Hs H aw H'->uD K aw J ds->ds.length<=bE->Q ds->R J H'
abbrev QI(X:Cx)(K:ay)(tg iter:Expr)(wi:WI):Prop:=PI X tg iter (tpI K wi)
def lM:Md->Prop
 |.wl .. => False
 |.bo=>False
 |_=>True
def jo(te:WE):WI:=λρ Q=>te ρ λm d=>lM m/\match d with
 |.list xs=>Q xs
 |_=>False
def zx(te:WE):WI:=λρ Q=>te ρ λm d=>lM m/\match d with
 |.tup xs=>Q xs
 |_=>False
def ZL(z:Str):List D:=z.cps.toList.map λc=>.str ⟨#[c]⟩
def Aq(te:WE):WI:=λρ Q=>te ρ λ_ d=>match d with
 |.str z=>Q (ZL z)
 |_=>False
def iV(lo:Int)(n:Nat):List D:=(List.range n).map λi=>.int (lo+(i:Nat))
def iz(te:WE):WI:=λρ Q=>te ρ λ_ d=>match d with
 |.int j=>j<=16777216/\-(2 ^ 62)<=j/\Q (iV 0 j.toNat)
 |_=>False
def uH(ta tb:WE):WI:=λρ Q=>ta ρ λ_ x=>tb ρ λ_ y=>match x with
 |.int i=>match y with
  |.int j=>j-i<=16777216/\(-(2 ^ 62)<=i/\i<2 ^ 62/\-(2 ^ 62)<=j/\j<2 ^ 62)/\Q (iV i (j-i).toNat)
  |_=>False
 |_=>False
section
variable {X:Cx}{K:ay}{e e2 tg:Expr}{te HG:WE}{pos p:Pos}
def PI.imp(h:PI X tg iter t)(i:∀ σ H R,t' σ H R->t σ H R):PI X tg iter t':=λpins s σ H R I q=>h pins s σ H R I (i σ H R q)
def dW.imp{J:It}(s:dW J vs c)(h:∀ H,c' H->c H):dW J vs c':=⟨λi H q=>s.go i H (h H q),λi H x H' q=>s.mG i H x H' (h H q),λH q=>s.stop H (h H q)⟩
def RM.pF(g:fe Hs H aI H1)(r:RM K aI H1 m d v As)(f:bM aI H As)(h:lM m):∃ aC,fe Hs H aC H1/\Rep K aC d v:=by
 have n:∀ a∈As,aI a=none:=λa ha=>(f.2 a ha).1;have pub:Rep K (zt aI H1 As) d v->∃ aC,fe Hs H aC H1/\Rep K aC d v:=λz=>by
  refine⟨zt aI H1 As,⟨g.all,g.sh.trans (gG n),Cr g.wf r.own,λa h=>?_⟩,z⟩;unfold zt at h;by_cases m:a∈As
  ·exact .inr (f.2 a m).2
  ·rw[if_neg m] at h;exact g.new a h
 cases m with
 |sh=>exact⟨aI,g,r.2⟩
 |bo=>exact h.elim
 |wl=>exact h.elim
 |ow fl=>exact pub (cK.rep (gG n) r.1 λa ha=>by unfold zt;rw[if_pos ha])
 |fr=>exact pub (r.2.same (t6 (λa vs e=>gG n _ _ e) λa m o e=>by unfold zt;rw[if_pos m];exact e))
def kZ(he:QE X K e te)(hK:autoParam (X.K=K) bv):QI X K tg e (jo te):=by
 subst hK;refine PI.imp (aY' he) λσ H R hx=>hV hx λHs ρ tot Q sr h k=>⟨Hs,ρ,tot,_,sr,h,λv H1 aI m d As g1 r1 f1 q1=>?_⟩
 obtain⟨nb,q1⟩:=q1;obtain⟨aC,g2,r2⟩:=r1.pF g1 f1 nb
 cases r2 with
 |list z s rs=>exact⟨_,rfl,⟨_,aS.seq g2.wf.sub s⟩,k _ H1 aC _ g2 (.seq rs (dW.imp (BR X.K _ _) λH' s'=>aS.seq s' s)) (by rw[rs.length];exact z) q1⟩
 |_=>exact q1.elim
def CZ(he:QE X K e te)(hK:autoParam (X.K=K) bv):QI X K tg e (zx te):=by
 refine PI.imp (aZ' he) λσ H R hx=>hV hx λHs ρ tot Q sr h k=>⟨Hs,ρ,tot,_,sr,h,λv H1 aI m d As g1 r1 f1 q1=>?_⟩
 obtain⟨nb,q1⟩:=q1;obtain⟨aC,g2,r2⟩:=r1.pF g1 f1 nb
 cases r2 with
 |tup z s rs=>exact⟨_,rfl,⟨_,.inl (.inl (g2.wf.sub _ _ s))⟩,k _ H1 aC _ g2 (.seq rs (dW.imp (xP X.K _ _) λH' s'=>.inl (.inl (s' _ _ s)))) (by rw[rs.length];exact z) q1⟩
 |_=>exact q1.elim
theorem uI:∀ (l:List Nat),bS K H (l.map λc=>.str ⟨#[c]⟩) (l.map λc=>V.str ⟨#[c]⟩)
 |[]=>.nil
 |c :: l=>.cons (.str (wU c)) (uI l)
def HR(he:QE X K e te):QI X K tg e (Aq te):=by
 refine PI.imp (J3 he) λσ H R hx=>hV hx λHs ρ tot Q sr h k=>⟨Hs,ρ,tot,_,sr,h,λv H1 aI m d As g1 r1 f1 q1=>?_⟩
 have r:=r1.rep g1.wf
 cases r with
 |str hz=>exact⟨_,rfl,k _ H1 aI _ g1 (.seq (uI _) (dW.imp (Em _) λ_ _=>trivial)) (by rw[dz,Bi];exact hz) q1⟩
 |_=>exact q1.elim
theorem jR(lo:Int):∀ (l:List Nat),bS K H (l.map λi=>.int (lo+(i:Nat))) (l.map λi=>V.int (lo+(i:Nat)))
 |[]=>.nil
 |c :: l=>.cons (.int _) (jR lo l)
def iD (hm:X.mg "range" = none) (he:QE X K e te) (hg:Gl X "range" := by rfl) (hs:autoParam (aT [e] X.env=(false,b3 e X.env) :: aT [] X.env) bv) (iN:autoParam (aT [e] X.env=[(false,b3 e X.env)]) bv):QI X K tg (.Call (.Name "range" p) [e] [] pos) (iz te):=by
 refine PI.imp (fJ' hg hm (i3 he ly hs) iN) λσ H R hx=>hV hx λHs ρ tot Q sr h k=>⟨Hs,ρ,tot,_,sr,h,λv H1 aI m d As g1 r1 f1 q1=>?_⟩
 have r:=r1.rep g1.wf
 cases r with
 |int j =>obtain⟨h1,h2,q1⟩:=q1;exact⟨j,rfl,h2,by lia,k _ H1 aI _ g1 (.seq (jR 0 _) (dW.imp (yf _ _) λ_ _=>trivial)) (by rw[dz,Tr,nS];lia) q1⟩
 |_=>exact q1.elim
def Dq (hm:X.mg "range" = none) (he:QE X K e te) (LM:QE X K e2 HG) (hg:Gl X "range" := by rfl) (hs:autoParam (aT (e :: [e2]) X.env=(false,b3 e X.env) :: aT [e2] X.env) bv) (ny:autoParam (aT (e2 :: []) X.env=(false,b3 e2 X.env) :: aT [] X.env) bv) (iN:autoParam (aT [e,e2] X.env=[(false,b3 e X.env),(false,b3 e2 X.env)]) bv) (ZM:autoParam (aT [e2] X.env=[(false,b3 e2 X.env)]) bv):QI X K tg (.Call (.Name "range" p) [e,e2] [] pos) (uH te HG):=by
 refine PI.imp (fK' hg hm (i3 he (i3 LM ly ny) hs) iN ZM) λσ H R hx=>hV hx λHs ρ tot Q sr h k=>⟨Hs,ρ,tot,_,sr,h,λv H1 aI m d As g1 r1 f1 q1=>⟨aI,ρ,tot,_,sr.grow g1,q1,λu H2 aC n y Bs g2 r2 f2 q2=>?_⟩⟩
 have r:=(r1.grow g2).rep g2.wf;have r':=r2.rep g2.wf
 cases r with
 |int i=>cases r' with
  |int j =>obtain⟨h1,h2,q2⟩:=q2;exact⟨i,j,rfl,h2,k _ H2 aC _ (g1.trans g2) (.seq (jR i _) (dW.imp (yf _ _) λ_ _=>trivial)) (by rw[dz,Tr,nS];lia) q2⟩
  |_=>exact q2.elim
 |_=>exact q2.elim
section
variable {X:Cx}{K:ay}{e tg:Expr}{te:WE}{pos p:Pos}
def ZN(K:ay)(wi:WI):TI:=λσ H R=>∃ Hs ρ tot Q,dE K Hs ρ σ H tot/\wi ρ Q/\∀ J H' aw ds,fe Hs H aw H'->uD K H' J ds->ds.length<=bE->Q ds->R J H'
abbrev L8(X:Cx)(K:ay)(tg iter:Expr)(wi:WI):Prop:=PI X tg iter (ZN K wi)
def uz(h:QI X K tg iter wi):L8 X K tg iter wi:=PI.imp h λσ H R hx=>hV hx λHs ρ tot Q sr h k=>⟨Hs,ρ,tot,Q,sr,h,λJ H' aw ds g w z q=>k J H' aw ds g (w.imp λG H s=>g.wf.sub.trans s) z q⟩
def qg(te:WE):WI:=λρ Q=>te ρ λ_ d=>match d with
 |.list xs=>Q xs
 |_=>False
def xJ(te:WE):WI:=λρ Q=>te ρ λ_ d=>match d with
 |.tup xs=>Q xs
 |_=>False
def uq(te:WE):WI:=λρ Q=>te ρ λ_ d=>match d with
 |.list xs=>Q (nM xs)
 |_=>False
def xO(he:QE X K e te)(hK:autoParam (X.K=K) bv):L8 X K tg e (qg te):=by
 subst hK;refine PI.imp (aY' he) λσ H R hx=>hV hx λHs ρ tot Q sr h k=>⟨Hs,ρ,tot,_,sr,h,λv H1 aI m d As g1 r1 f1 q1=>?_⟩
 have r:=r1.rep g1.wf
 cases r with
 |list z s rs=>exact⟨_,rfl,⟨_,s⟩,k _ H1 aI _ g1 (.list (qx s rs)) (by rw[rs.length];exact z) q1⟩
 |_=>exact q1.elim
def Cu(he:QE X K e te)(hK:autoParam (X.K=K) bv):L8 X K tg e (xJ te):=by
 refine PI.imp (aZ' he) λσ H R hx=>hV hx λHs ρ tot Q sr h k=>⟨Hs,ρ,tot,_,sr,h,λv H1 aI m d As g1 r1 f1 q1=>?_⟩
 have r:=r1.rep g1.wf
 cases r with
 |tup z s rs=>exact⟨_,rfl,⟨_,.inl (.inl s)⟩,k _ H1 aI _ g1 (.seq rs (dW.imp (xP X.K _ _) λH' s'=>.inl (.inl (s' _ _ s)))) (by rw[rs.length];exact z) q1⟩
 |_=>exact q1.elim
def Hh (hm:X.mg "enumerate" = none) (he:QE X K e te) (hK:autoParam (X.K=K) bv) (hg:Gl X "enumerate" := by rfl) (hs:autoParam (aT [e] X.env=(false,b3 e X.env) :: aT [] X.env) bv) (iN:autoParam (aT [e] X.env=[(false,b3 e X.env)]) bv) :
  L8 X K (.Tuple elts kk tp) (.Call (.Name "enumerate" p) [e] [] pos) (uq te):=by
 subst hK;refine PI.imp (G8 hg hm (i3 he ly hs) iN) λσ H R hx=>hV hx λHs ρ tot Q sr h k=>⟨Hs,ρ,tot,_,sr,h,λv H1 aI m d As g1 r1 f1 q1=>?_⟩
 have r:=r1.rep g1.wf
 cases r with
 |list z s rs=>exact⟨_,rfl,⟨_,s⟩,k _ H1 aI _ g1 (.enum (qx s rs)) (by rw[nM,List.length_mapIdx,rs.length];exact z) q1⟩
 |_=>exact q1.elim
end
def dX(g:WG)(b:WS)(E:dH):List D->Env->Prop
 |[],ρ=>E.nx ρ
 |x :: xs,ρ=>g x ρ λi7=>b { E with nx:=dX g b E xs,ct:=dX g b E xs,bk:=E.nx } i7
def yi(wi:WI)(g:WG)(b:WS):WS:=λE ρ=>wi ρ λds=>dX g b E ds ρ
variable {wi:WI}{g:WG}{b:WS}{body:List h8}
def dR(hi:QI X K tg iter wi)(hg:QG X K tg g)(hb:tm X K L body b)(hs:∀ x,DU iter X.env x=pure x:=by intro _;rfl)(hp:PassesOwn (bq X.prog X.w) X.A X.env X.xe:=by first|exact PassesOwn.never|exact PassesOwn.leaving)(hc:autoParam (X.calm=true) bv) :
  QS X K L (.For tg iter body [] pos) (yi wi g b):=by
 refine PS.imp (bc' hp hc hi hg hb hs) λD σ H hx=>cG hx λHs ρ tot E sr h k1 k2 k3 k4 kx=>?_;refine⟨Hs,ρ,tot,_,sr,h,λJ H1 aI ds g1 S hz q1=>?_⟩;refine⟨λi m σ H=>m=ds.length-i/\i<=ds.length/\∃ aw bt cf,aS aI aw/\dE K aw bt σ H cf/\dX g b E (ds.drop i) bt,⟨ds.length,by simp,gd _,aI,ρ,tot,aS.refl _,sr.grow g1,by simpa using q1⟩,?_⟩;rintro i m lh H2 ⟨rfl,hi,aC,fo,eL,s2,fP,q2⟩;by_cases i5:i<ds.length
 ·refine .inr ⟨S.go i aC H2 s2 fP.wf i5,λqB H3=>∃ aw bt cf,aS aI aw/\dE K aw bt qB H3 cf/\dX g b E (ds.drop (i+1)) bt,λqB H3 h3=>⟨ds.length-(i+1),by lia,rfl,i5,h3⟩,λx H3 y=>?_⟩;obtain⟨gv,g3,rd⟩:=S.mG i aC H2 x H3 ds[i] s2 fP.wf (by simp[i5]) y;rw[A6 i5] at q2;have s3:=s2.trans g3.sh;refine⟨gv,fo,eL,ds[i],_,fP.grow g3,rd,q2,λσ4 md L9 E2 _ q4=>?_⟩;refine⟨gv,md,L9,_,E2,q4,?_,?_,?_,?_,λn H5 s5=>kx n H5 ((g1.sh.trans s3).trans s5)⟩
  ·exact λBI H5 k8 tF tI s5 tJ q5=>⟨k8,tF,tI,s3.trans s5,tJ,q5⟩
  ·exact λBI H5 k8 tF tI s5 tJ q5=>k1 BI H5 k8 tF tI ((g1.sh.trans s3).trans s5) tJ q5
  ·exact λBI H5 k8 tF tI s5 tJ q5=>⟨k8,tF,tI,s3.trans s5,tJ,q5⟩
  ·exact λv H5 k8 m d As s5=>k4 v H5 k8 m d As ((g1.sh.trans s3).trans s5)
 ·have e:i=ds.length:=by lia
  subst e;refine .inl ⟨S.stop aC H2 s2 fP.wf,?_⟩;rw[NH] at q2;exact k1 lh H2 aC fo eL (g1.sh.trans s2) fP q2
def b8(xs:List D)(Pv:Nat->Env->Prop)(h0:Pv 0 ρ)(hs:∀ i x ρ,xs[i]? = some x->Pv i ρ->∀ N:Env->Prop,(∀ bt,Pv (i+1) bt->N bt)->g x ρ λi7=>b { E with nx:=N,ct:=N,bk:=E.nx } i7) (hd:∀ ρ,Pv xs.length ρ->E.nx ρ):dX g b E xs ρ:=by
 have go:∀ (k i:Nat) ρ,i+k=xs.length->Pv i ρ->dX g b E (xs.drop i) ρ:=by
  intro k
  induction k with
  |zero =>
   intro i ρ e p;have:i=xs.length:=by lia
   subst this;rw[NH];exact hd ρ p
  |succ k ih =>
   intro i ρ e p;have hi:i<xs.length:=by lia
   rw[A6 hi];exact hs i xs[i] ρ (by simp[hi]) p _ λfo h2=>ih (i+1) fo (by lia) h2
 have:=go xs.length 0 ρ (by lia) h0;simpa using this
def yO(c:WT)(b:WS):WS:=λE ρ=>∃ (Pv:Env->Prop) (μ:Env->Nat),Pv ρ/\∀ ρ,Pv ρ->c ρ λk=>if k=true then b { E with nx:=λbt=>Pv bt/\μ bt<μ ρ,ct:=λbt=>Pv bt/\μ bt<μ ρ,bk:=E.nx } ρ else E.nx ρ
def sJ(hc:QT X K c tc)(hb:tm X K L body b)(hp:PassesOwn (bq X.prog X.w) X.A X.env X.xe:=by first|exact PassesOwn.never|exact PassesOwn.leaving):QS X K L (.While c body [] pos) (yO tc b):=by
 refine PS.imp (fB' hp hc hb) λD σ H hx=>cG hx λHs ρ tot E sr h k1 k2 k3 k4 kx=>?_;obtain⟨Pv,μ,p0,turn⟩:=h;refine⟨λm σ H=>∃ aw bt cf,aS Hs aw/\dE K aw bt σ H cf/\Pv bt/\μ bt=m,⟨_,Hs,ρ,tot,aS.refl _,sr,p0,rfl⟩,?_⟩;rintro m lh H2 ⟨aC,fo,eL,s2,fP,p2,rfl⟩;refine⟨aC,fo,eL,_,fP,turn fo p2,λk H3 gv g3 q3=>?_⟩
 cases k with
 |false=>exact k1 lh H3 gv fo eL (s2.trans g3.sh) (fP.grow g3) q3
 |true =>
  refine⟨λb4 H'=>∃ aw bt cf,aS Hs aw/\dE K aw bt b4 H' cf/\Pv bt/\μ bt<μ fo,λb4 H' ⟨aw,bt,cf,a,b,c,d⟩=>⟨μ bt,d,aw,bt,cf,a,b,c,rfl⟩,?_⟩;have s3:aS Hs gv:=s2.trans g3.sh;refine⟨gv,fo,eL,_,fP.grow g3,q3,?_,?_,?_,?_,λn H5 s5=>kx n H5 (s3.trans s5)⟩
  ·exact λBI H5 k8 tF tI s5 tJ q5=>⟨k8,tF,tI,s3.trans s5,tJ,q5.1,q5.2⟩
  ·exact λBI H5 k8 tF tI s5 tJ q5=>k1 BI H5 k8 tF tI (s3.trans s5) tJ q5
  ·exact λBI H5 k8 tF tI s5 tJ q5=>⟨k8,tF,tI,s3.trans s5,tJ,q5.1,q5.2⟩
  ·exact λv H5 k8 m d As s5=>k4 v H5 k8 m d As (s3.trans s5)
end
def BM:WT:=λ_ Q=>Q true
def U6(m:Md)(d:D):Prop:=d.flat=true\/m=.ow true
def gY(g:WG)(tc:WT)(te:WE):List D->Env->(List D->Prop)->Prop
 |[],_,k=>k []
 |x :: xs,ρ,k=>g x ρ λi7=>tc i7 λb=>if b=true then te i7 λm d=>U6 m d/\gY g tc te xs i7 (λout=>k (d :: out)) else gY g tc te xs i7 k
def vz(tn:Nat)(ix:List Nat)(ρ:Env):Env:=List.replicate tn none++ix.map λj=>(ρ[j]?).join.map ZH
def jr(wi:WI)(g:WG)(tc:WT)(te:WE)(tn:Nat)(ix:List Nat):WE:=λρ Q=>wi ρ λds=>gY g tc te ds (vz tn ix ρ) λout=>Q (.ow true) (.list out)
section
variable {X:Cx}{K:ay}
theorem iI{Hs H G:Hp}(sr:dE K Hs ρ σ H tot)(G':Hp):∀ (ix:List Nat),SR K H G' (ix.map λj=>(ρ[j]?).join.map ZH) (ix.map λj=>(σ[j]?).join) []
 |[]=>.nil
 |j :: ix=>by
  have ih:=iI sr G' ix (G:=G);simp only[fR]
  cases e:ρ[j]? with
  |none=>exact .non ih
  |some o =>
   cases o with
   |none=>exact .non ih
   |some sl =>
    obtain⟨v,e1,r⟩:=sr.sr.get e;rw[e1]
    cases sl with
    |sh d=>exact .sh (Rep.same sr.wf.sub r) ih
    |xc a=>subst r;exact .xc ih
    |ob a p=>obtain⟨r,_⟩:=r;subst r;exact .xc ih
    |ow fl d =>obtain⟨As,_,r,_⟩:=r;exact .sh (r.rep sr.wf.sub λ_ _=>rfl) ih
    |lk a fl d =>obtain⟨As,_,r,_⟩:=r;exact .sh (r.rep sr.wf.sub λ_ _=>rfl) ih
theorem kW(s:SR K H G ρ σ []):∀ (n:Nat),SR K H G (List.replicate n none++ρ) (List.replicate n none++σ) []
 |0=>s
 |n+1=>.non (kW s n)
def SR.heap(s:SR K Hs H ρ σ []):SR K Hs H' ρ σ []:=s.fS (aS.refl _) λa h=>nomatch h
def qI(w:Wf Hs H)(n:Hs p=none)(ho:∀ vs,o≠.tup vs):Wf Hs (upd H p o):=⟨λb u q=>by
  rw[df (λz=>by subst z;rw[n] at q;cases q)];exact w.sub b u q,λb us q=>by
  by_cases hb:b=p
  ·subst hb;rw[eJ] at q;exact absurd (Option.some.inj q) (ho us)
  ·rw[df hb] at q;exact w.iF b us q⟩
structure CompI(K:ay)(H1:Hp)(b:ae)(acc:List D)(ys:List V)(As:List ae)(Hs:Hp)(ρ:Env)(τ:St)(H:Hp):Prop where
 sm:aS H1 Hs
 sr:dE K Hs ρ τ H []
 eD:H b=some (.lst ys)
 nD:Hs b=none
 ra:aB K Hs H true acc ys As
 nd:(b :: As).Nodup
 own:∀ a∈As,Hs a=none
def CompI.grow(c:CompI K H1 b acc ys As Hs ρ τ H)(g:fe Hs H aw H'):CompI K H1 b acc ys As aw ρ τ H' :=
 ⟨c.sm.trans g.sh,c.sr.grow g,g.all _ _ c.eD,g.oq c.nD (by rw[c.eD];exact λz=>nomatch z),c.ra.grow g.sh g.all,c.nd,λa ha=>g.oq (c.own a ha) (c.ra.own a ha).ne⟩
def CompI.push(c:CompI K H1 b acc ys As Hs ρ τ H)(r:RM K Hs H m d v Bs)(ok:U6 m d)(nb:Bs.Nodup)(fb:∀ a∈Bs,Hs a=none/\a∉b :: As):∃ gy,CompI K H1 b (acc++[d]) (ys++[v]) gy Hs ρ τ (upd H b (.lst (ys++[v]))):=by
 obtain⟨B,sb,rb⟩:∃ B,B.Sublist Bs/\cK K Hs H true d v B:=by
  rcases ok with hf|rfl
  ·exact⟨[],AA _,.sh (λ_=>hf) (r.flat c.sr.wf hf)⟩
  ·exact⟨Bs,List.Sublist.refl _,r.1⟩
 obtain⟨na,nA⟩:=rX.mp c.nd;have E3:=λa ha=>fb a (sb.subset ha);refine⟨As++(B++[]),c.sm,⟨c.sr.sr.heap,qI c.sr.wf c.nD (λ_ z=>nomatch z),kT,λa h=>nomatch h⟩,eJ,c.nD,(c.ra.fS (aS.refl _) λa ha=>df λz=>na (by subst z;exact ha)).append (.cons (rb.fS (aS.refl _) λa ha=>df λz=>(E3 a ha).2 (by subst z;exact fA)) .nil),?_,?_⟩
 ·rw[kM];refine rX.mpr ⟨λm=>(eR.mp m).elim na λm=>(E3 b m).2 fA,g7.mpr ⟨nA,sb.nodup nb,λx hx y hy e=>(E3 y hy).2 (e ▸ eI _ hx)⟩⟩
 ·rw[kM];exact λa ha=>(eR.mp ha).elim (c.own a) λm=>(E3 a m).1
def pJ(h:vn K (jr wi g tc te tn ix) σ H Qv):vK (ZN K wi) (ZJ K g) (EW K tc) (vn K te) tn ix σ H Qv:=by
 obtain⟨Hs,ρ,tot,Q,sr,h,f⟩:=h;refine⟨Hs,ρ,tot,_,sr,h,λJ H1 aI ds g1 S hz q1 b hb=>?_⟩;have st:CompI K H1 b [] [] [] H1 (vz tn ix ρ) (lW tn ix σ) (upd H1 b (.lst [])):=by
  refine⟨aS.refl _,⟨kW (iI (G:=H1) (sr.grow g1) _ ix) tn,⟨(aS.refl H1).upd hb,λa xs e=>?_⟩,kT,λa h=>nomatch h⟩,eJ,hb,.nil,by simp,λa h=>nomatch h⟩;by_cases ha:a=b
  ·subst ha;rw[eJ] at e;cases e
  ·rw[df ha] at e;exact e
 refine⟨λi m τ H2=>m=ds.length-i/\i<=ds.length/\∃ aC fo acc ys As,CompI K H1 b acc ys As aC fo τ H2/\acc.length<=i/\gY g tc te (ds.drop i) fo (λout=>Q (.ow true) (.list (acc++out))), ⟨ds.length,by simp,gd _,H1,_,[],[],[],st,c9 _,by simpa using q1⟩,?_⟩
 rintro i m τ H2 ⟨rfl,hi,aC,fo,acc,ys,As,c,la,q2⟩;by_cases i5:i<ds.length
 ·refine .inr ⟨S.go i aC H2 c.sm c.sr.wf i5,
   λzC v H4=>∃ zh md d,CompI K H1 b acc ys As zh md zC H4/\(∃ gy,CompI K H1 b (acc++[d]) (ys++[v]) gy zh md zC (upd H4 b (.lst (ys++[v]))))/\gY g tc te (ds.drop (i+1)) md (λout=>Q (.ow true) (.list (acc++d :: out))),
   λzC H3=>∃ gv BH,CompI K H1 b acc ys As gv BH zC H3/\gY g tc te (ds.drop (i+1)) BH (λout=>Q (.ow true) (.list (acc++out))),?_,?_,?_⟩
  ·rintro zC v H4 ⟨zh,md,d,c4,⟨gy,c5⟩,q4⟩;have ZO:=c4.ra.length;exact⟨ys,ds.length-(i+1),c4.eD,by lia,by lia,rfl,i5,zh,md,acc++[d],ys++[v],gy,c5,by rw[iq];simpa using la,by simpa using q4⟩
  ·rintro zC H3 ⟨gv,BH,c3,q3⟩;exact⟨ds.length-(i+1),by lia,rfl,i5,gv,BH,acc,ys,As,c3,by lia,q3⟩
  ·intro x H3 y;obtain⟨gv,g3,rd⟩:=S.mG i aC H2 x H3 ds[i] c.sm c.sr.wf (by simp[i5]) y;rw[A6 i5] at q2;have c3:=c.grow g3;refine⟨gv,fo,[],ds[i],_,c3.sr,rd,q2,λZP md L9 E2 m4 q4=>?_⟩;have t4:L9=[]:=xdw.mpr λa ha=>nomatch m4 a ha;subst t4;have c4:CompI K H1 b acc ys As gv md ZP H3:=⟨c3.sm,E2,c3.eD,c3.nD,c3.ra,c3.nd,c3.own⟩
   refine⟨gv,md,[],_,E2,q4,λk H5 k8 g5 q5=>?_⟩;have c5:=c4.grow g5
   cases k with
   |false=>exact⟨k8,md,c5,q5⟩
   |true =>
    refine⟨k8,md,[],_,c5.sr,q5,λv H6 ZQ m6 d6 As6 g6 r6 f6 q6=>?_⟩;have c6:=c5.grow g6;refine⟨ZQ,md,d6,c6,c6.push r6 q6.1 f6.1 λa ha=>⟨(f6.2 a ha).1,λm=>?_⟩,q6.2⟩;rcases eW.mp m with rfl|m
    ·have:=(f6.2 _ ha).2;rw[c5.eD] at this;cases this
    ·exact(c5.ra.own a m).ne (f6.2 a ha).2
 ·have e:i=ds.length:=by lia
  subst e;refine .inl ⟨S.stop aC H2 c.sm c.sr.wf,?_⟩;rw[NH] at q2;have q2:Q (.ow true) (.list (acc++[])):=q2;rw[kM] at q2;have ZO:=c.ra.length;have rm:RM K aC H2 (.ow true) (.list acc) (.ref b) (b :: As):=⟨.list (by lia) c.eD c.ra,by simp⟩
  obtain⟨gy,r',fr⟩:=iM g1.wf c.sm c.sr.wf rm c.nd λa ha=>(eW.mp ha).elim (λz=>z ▸ c.nD) (c.own a);exact Fin.after f g1 (.ref b) H2 _ (.ow true) (.list acc) gy (b7 g1.wf c.sm c.sr.wf) r' fr q2
def EI.imp(h:EI X ifs t)(i:∀ σ H Q,t' σ H Q->t σ H Q):EI X ifs t':=λpins s σ H Q I q=>h pins s σ H Q I (i σ H Q q)
abbrev U7(X:Cx)(K:ay)(ifs:List Expr)(t:WT):Prop:=EI X ifs (EW K t)
def dJ:U7 X K [] BM:=EI.imp Hf λσ H Qv hx=>hV hx λHs ρ tot Q sr h k=>k true H Hs (fe.refl sr.wf) h
def lu(hi:L8 X K tg iter wi)(hg:∀ {C fp gp iL} {q:(tn++cn).Nodup},QG (aX X scope C (tn++cn) fp gp iL) K tg g) (xS:∀ {C fp gp iL},U7 (aX X scope C (tn++cn) fp gp iL) K ifs tc) (he:∀ {C fp gp iL},QE (aX X scope C (tn++cn) fp gp iL) K elt te)(hs:∀ x,DU iter X.env x=pure x:=by intro _;rfl) (nd:(tn++cn).Nodup:=by decide +kernel) (O:cN X scope tn cn ix:=by exact cN.by (by assumption) (by decide +kernel)) (hc:autoParam (X.calm=true) bv):QE X K (.ListComp elt [⟨tg,iter,ifs,0⟩] scope pos) (jr wi g tc te tn.length ix) :=
 PE.imp (Eh hc hi O (λ_ _ _ _=>hg (q:=nd)) (λ_ _ _ _=>xS) (λ_ _ _ _=>he) hs) λσ H Qv h=>pJ h
end
def cB(p:D->Bool)(f:D->D)(Iv:Env->Prop):∀ (xs:List D) (ρ:Env) (k:List D->Prop),Iv ρ -> (∀ x∈xs,∀ ρ,Iv ρ->∀ N1:Env->Prop,∀ N2:Env->D->Prop,(∀ bt,Iv bt->p x=false->N1 bt)->(∀ bt,Iv bt->p x=true->N2 bt (f x))->g x ρ λi7=>tc i7 λb=>if b=true then te i7 λm d=>U6 m d/\N2 i7 d else N1 i7) ->
  k ((xs.filter p).map f)->gY g tc te xs ρ k
 |[],_,k,_,_,h=>h
 |x :: xs,ρ,k,iv,hs,h=>by
  refine hs x fA ρ iv _ _ (λbt E4 hp=>?_) (λbt E4 hp=>?_)
  ·exact cB p f Iv xs bt k E4 (λy hy=>hs y (eI _ hy)) (by simpa[hp] using h)
  ·exact cB p f Iv xs bt _ E4 (λy hy=>hs y (eI _ hy)) (by simpa[hp] using h)
def Upd(K:ay)(Hs H:Hp)(σ:St)(fl:Bool)(v:V)(up:Bool->D->Env)(gy:List ae):Prop:=∀ aC H2 eA d2 i9,aS Hs aC->Wf aC H2->(∀ a,Hs a=none->H a≠none->aC a=none)->(eA=true->fl=true) ->
  cK K aC H2 eA d2 v i9->i9≠[]->i9.Nodup->(∀ a∈i9,aC a=none/\(a∈gy\/H a=none))->(∀ a,H a≠none->a∉gy->H2 a=H a)->∃ eL,dE K aC (up eA d2) σ H2 eL
structure Place(K:ay)(Hs H:Hp)(σ:St)(fl:Bool)(d:D)(v:V)(up:Bool->D->Env):Prop where
 ex:∃ gy,cK K Hs H fl d v gy/\gy≠[]/\gy.Nodup/\(∀ a∈gy,Hs a=none)/\Upd K Hs H σ fl v up gy
def Upd.node{K:ay}(k:Upd K Hs H σ fl (.ref a) up (a :: A))(g:fe Hs H aC H2)(own:∀ x∈a :: A,Hs x=none/\H x≠none)(ho:∀ vs,o≠.tup vs)(hf:eA=true->fl=true)(r:cK K aC (upd H2 a o) eA d2 (.ref a) (a :: C)) (nC:C.Nodup) (U8:a∉C) (hC:∀ x∈C,x∈A\/(aC x=none/\H x=none)):∃ eL,dE K aC (up eA d2) σ (upd H2 a o) eL:=by
 have hn:∀ x∈a :: A,aC x=none:=λx hx=>g.oq (own x hx).1 (own x hx).2;refine k aC _ eA d2 (a :: C) g.sh (qI g.wf (hn a fA) ho) (λb h1 h2=>g.oq h1 h2) hf r (FK _ _) (rX.mpr ⟨U8,nC⟩) (λb hb=>?_) λb h1 h2=>?_
 ·rcases eW.mp hb with rfl|hb
  ·exact⟨hn _ fA,.inl fA⟩
  ·exact(hC b hb).elim (λq=>⟨hn b (eI _ q),.inl (eI _ q)⟩) λq=>⟨q.1,.inr q.2⟩
 ·rw[df λz=>h2 (by subst z;exact fA)]
  cases q:H b with
  |none=>exact absurd q h1
  |some o=>exact g.all b o q
abbrev WP:=Env->(Bool->D->(Bool->D->Env)->Prop)->Prop
def tpP(K:ay)(t:WP):TE:=λσ H Qv=>∃ Hs ρ tot Q,dE K Hs ρ σ H tot/\t ρ Q/\∀ v H' aw fl d up,fe Hs H aw H'->Place K aw H' σ fl d v up->Q fl d up->Qv v H'
abbrev QP(X:Cx)(K:ay)(e:Expr)(t:WP):Prop:=PE X e (tpP K t)
section
variable {K:ay}{Hs H:Hp}{σ:St}{fl:Bool}{d:D}{v:V}
def cK.ne2:(∀ {d:D} {v:V} {As:List ae},cK K Hs H true d v As->d.flat=false->As≠[])/\∀ {ds:List D} {vs:List V} {As:List ae},aB K Hs H true ds vs As->dn ds=false->As≠[] :=
 cK.ind (λ_ _ f _ h=>by rw[f rfl] at h;cases h) (λ_ _ _ _ _ _ _ _ _=>FK _ _) (λ_ _ _ _ _ _ n _ ih _=>ih n) (λ_ _ _ _ _ _ _ _ _=>FK _ _) (λ_ _ _ _ _ _ _ _ _=>FK _ _) (λh=>by simp[dn] at h) λd _ _ _ _ _ _ _ i1 i2 h=>by
   cases e:d.flat with
   |false=>exact λz=>i1 e (Q8.mp z).1
   |true =>simp only[dn,e,I0] at h;exact λz=>i2 h (Q8.mp z).2
def cK.ne(r:cK K Hs H true d v As)(h:d.flat=false):As≠[]:=cK.ne2.1 r h
def aB.ne(r:aB K Hs H true ds vs As)(h:dn ds=false):As≠[]:=cK.ne2.2 r h
def qa(i:Nat):WP:=λρ Q=>match ρ[i]? with
 |some (some (.ow fl d))=>Q fl d λeA d2=>ρ.set i (some (.ow eA d2))
 |_=>False
def SR.put(i:Nat)(s:SR K Hs H ρ σ tot):ρ[i]? = some (some (.ow fl d))->tot.Nodup ->
  ∃ (v:V) (As cf:List ae),σ[i]? = some (some v)/\As≠[]/\cK K Hs H fl d v As/\As.Sublist tot/\∀ aC H2 eA d2 i9,aS Hs aC->cK K aC H2 eA d2 v i9->i9≠[]->i9.Nodup->(∀ a∈i9,a∈tot->a∈As)->(∀ a∈tot,a∉As->H2 a=H a) ->
   ∃ eL,eL.Nodup/\(∀ a∈eL,a∈tot\/a∈i9)/\SR K aC H2 (ρ.set i (some (.ow eA d2))) σ eL:=by
 induction s generalizing i with
 |nil=>intro e;simp at e
 |@non ρ σ tot o q ih =>
  intro e n
  cases i with
  |zero=>simp at e
  |succ i =>obtain⟨v,As,t,a,b,c,d,g⟩:=ih i (by simpa using e) n;refine⟨v,As,t,by simpa using a,b,c,d,λaC H2 eA d2 i9 s2 r2 ne2 n9 dj st=>?_⟩;obtain⟨t2,x,y,z⟩:=g aC H2 eA d2 i9 s2 r2 ne2 n9 dj st;exact⟨t2,x,y,.non z⟩
 |sh r q ih =>
  intro e n
  cases i with
  |zero=>simp at e
  |succ i =>obtain⟨v,As,t,a,b,c,d,g⟩:=ih i (by simpa using e) n;refine⟨v,As,t,by simpa using a,b,c,d,λaC H2 eA d2 i9 s2 r2 ne2 n9 dj st=>?_⟩;obtain⟨t2,x,y,z⟩:=g aC H2 eA d2 i9 s2 r2 ne2 n9 dj st;exact⟨t2,x,y,.sh (r.same s2) z⟩
 |xc q ih =>
  intro e n
  cases i with
  |zero=>simp at e
  |succ i =>obtain⟨v,As,t,a,b,c,d,g⟩:=ih i (by simpa using e) n;refine⟨v,As,t,by simpa using a,b,c,d,λaC H2 eA d2 i9 s2 r2 ne2 n9 dj st=>?_⟩;obtain⟨t2,x,y,z⟩:=g aC H2 eA d2 i9 s2 r2 ne2 n9 dj st;exact⟨t2,x,y,.xc z⟩
 |@ow ρ σ t2 B fl0 d0 v ne r q ih =>
  intro e n;obtain⟨n1,n2,n3⟩:=g7.mp n
  cases i with
  |zero =>
   obtain⟨rfl,rfl⟩:=e;refine⟨v,B,t2,rfl,ne,r,ND _ _,λaC H2 eA d2 i9 s2 r2 ne2 n9 dj st=>⟨i9++t2,g7.mpr ⟨n9,n2,λa ha b hb e=>?_⟩,λa h=>?_,.ow ne2 r2 (q.fS s2 λa h=>st a (eT _ h) λz=>n3 a z a h rfl)⟩⟩
   ·subst e;exact n3 a (dj a ha (eT _ hb)) a hb rfl
   ·exact(eR.mp h).symm.imp (λz=>eT _ z) id
  |succ i =>
   obtain⟨v,As,t,a,b,c,d,g⟩:=ih i (by simpa using e) n2;have hB:∀ x∈B,x∉As:=λx hx m=>n3 x hx x (d.subset m) rfl;refine⟨v,As,B++t,by simpa using a,b,c,d.trans (k9 _ _),λaC H2 eA d2 i9 s2 r2 ne2 n9 dj st=>?_⟩;obtain⟨t2,x,y,z⟩:=g aC H2 eA d2 i9 s2 r2 ne2 n9 (λa ha m=>dj a ha (eT _ m)) λa ha m=>st a (eT _ ha) m;refine⟨B++t2,g7.mpr ⟨n1,x,λa ha b hb e=>?_⟩,λa h=>?_,.ow ne (r.fS s2 λa h=>st a (kg _ h) (hB a h)) z⟩
   ·subst e;rcases y a hb with w|w
    ·exact n3 a ha a w rfl
    ·exact hB a ha (dj a w (kg _ ha))
   ·rcases eR.mp h with w|w
    ·exact .inl (kg _ w)
    ·exact(y a w).imp (λw=>eT _ w) id
 |@lk ρ σ t2 B a0 fl0 d0 ne r q ih =>
  intro e n;obtain⟨n1,n2,n3⟩:=g7.mp n
  cases i with
  |zero=>simp at e
  |succ i =>
   obtain⟨v,As,t,a,b,c,d,g⟩:=ih i (by simpa using e) n2;have hB:∀ x∈B,x∉As:=λx hx m=>n3 x hx x (d.subset m) rfl;refine⟨v,As,B++t,by simpa using a,b,c,d.trans (k9 _ _),λaC H2 eA d2 i9 s2 r2 ne2 n9 dj st=>?_⟩;obtain⟨t2,x,y,z⟩:=g aC H2 eA d2 i9 s2 r2 ne2 n9 (λa ha m=>dj a ha (eT _ m)) λa ha m=>st a (eT _ ha) m;refine⟨B++t2,g7.mpr ⟨n1,x,λa ha b hb e=>?_⟩,λa h=>?_,.lk ne (r.fS s2 λa h=>st a (kg _ h) (hB a h)) z⟩
   ·subst e;rcases y a hb with w|w
    ·exact n3 a ha a w rfl
    ·exact hB a ha (dj a w (kg _ ha))
   ·rcases eR.mp h with w|w
    ·exact .inl (kg _ w)
    ·exact(y a w).imp (λw=>eT _ w) id
 |@ob ρ σ t2 B a0 p0 r q ih =>
  intro e n;obtain⟨n1,n2,n3⟩:=g7.mp n
  cases i with
  |zero=>simp at e
  |succ i =>
   obtain⟨v,As,t,a,b,c,d,g⟩:=ih i (by simpa using e) n2;have hB:∀ x∈B,x∉As:=λx hx m=>n3 x hx x (d.subset m) rfl;refine⟨v,As,B++t,by simpa using a,b,c,d.trans (k9 _ _),λaC H2 eA d2 i9 s2 r2 ne2 n9 dj st=>?_⟩;obtain⟨t2,x,y,z⟩:=g aC H2 eA d2 i9 s2 r2 ne2 n9 (λa ha m=>dj a ha (eT _ m)) λa ha m=>st a (eT _ ha) m;refine⟨B++t2,g7.mpr ⟨n1,x,λa ha b hb e=>?_⟩,λa h=>?_,.ob (p0.fS (iZ s2) (λa h=>st a (kg _ h) (hB a h)) r) z⟩
   ·subst e;rcases y a hb with w|w
    ·exact n3 a ha a w rfl
    ·exact hB a ha (dj a w (kg _ ha))
   ·rcases eR.mp h with w|w
    ·exact .inl (kg _ w)
    ·exact(y a w).imp (λw=>eT _ w) id
def bB{X:Cx}(h:PE X e (jI i)):QP X K e (qa i):=PE.imp h λσ H Qv hx=>hV hx λHs ρ tot Q sr h f=>by
 unfold qa at h;split at h
 ·rename_i fl d e1;obtain⟨v,As,t,e2,ne,r,sb,g⟩:=SR.put i sr.sr e1 sr.nX;refine⟨v,e2,f v H Hs fl d _ (fe.refl sr.wf) ⟨As,r,ne,sb.nodup sr.nX,λa h=>sr.own a (sb.subset h),λaC H2 eA d2 i9 s2 w2 n2 _ r2 ne2 n9 o2 st=>?_⟩ h⟩;obtain⟨t2,x,y,z⟩:=g aC H2 eA d2 i9 s2 r2 ne2 n9 (λa ha m=>(o2 a ha).2.elim id λq=>absurd q (sr.sr.own a m).ne) λa ha m=>st a (sr.sr.own a ha).ne m;exact⟨t2,z,w2,x,λa h=>(y a h).elim (λq=>n2 a (sr.own a q) (sr.sr.own a q).ne) λq=>(o2 a q).1⟩
 ·exact h.elim
def cK.wk(h:eA=true->fl=true)(r:cK K Hs H fl d v As):cK K Hs H eA d v As:=by
 cases eA with
 |false=>exact r.UX
 |true=>rw[h rfl] at r;exact r
def aB.wk{fl eA:Bool}{d:List D}{v:List V}{As:List ae}(h:eA=true->fl=true)(r:aB K Hs H fl d v As):aB K Hs H eA d v As:=by
 cases eA with
 |false=>exact r.UX
 |true=>rw[h rfl] at r;exact r
def aB.at(r:aB K Hs H fl ds vs As)(e:ds[j]? = some d)(n:As.Nodup) :
  ∃ (v:V) (B:List ae),vs[j]? = some v/\cK K Hs H fl d v B/\B.Sublist As/\∀ aC H2 eA d2 B2,aS Hs aC->(eA=true->fl=true)->cK K aC H2 eA d2 v B2->B2.Nodup->(∀ a∈B2,a∈As->a∈B)->(∀ a∈As,a∉B->H2 a=H a) ->
   ∃ i9,i9.Nodup/\(∀ a∈i9,(a∈As/\a∉B)\/a∈B2)/\(B2≠[]->i9≠[])/\aB K aC H2 eA (ds.set j d2) vs i9:=by
 induction ds generalizing vs As j with
 |nil=>simp at e
 |cons x ds ih =>
  obtain⟨v,us,A,B,rfl,rfl,r,rs⟩:=r.c;obtain⟨n1,n2,n3⟩:=g7.mp n
  cases j with
  |zero =>
   simp at e;subst e;refine⟨v,A,rfl,r,ND _ _,λaC H2 eA d2 B2 s2 hf r2 n9 dj st=>⟨B2++B,g7.mpr ⟨n9,n2,λa ha b hb e=>?_⟩,λa h=>?_,λne z=>ne (Q8.mp z).1,.cons r2 ((rs.wk hf).fS s2 λa h=>st a (eT _ h) λz=>n3 a z a h rfl)⟩⟩
   ·subst e;exact n3 a (dj a ha (eT _ hb)) a hb rfl
   ·rcases eR.mp h with w|w
    ·exact .inr w
    ·exact .inl ⟨eT _ w,λz=>n3 a z a w rfl⟩
  |succ j =>
   obtain⟨v,C,a,b,c,g⟩:=ih rs (by simpa using e) n2;have hA:∀ x∈A,x∉C:=λx hx m=>n3 x hx x (c.subset m) rfl;refine⟨v,C,by simpa using a,b,c.trans (k9 _ _),λaC H2 eA d2 B2 s2 hf r2 n9 dj st=>?_⟩;obtain⟨i9,x,y,w,z⟩:=g aC H2 eA d2 B2 s2 hf r2 n9 (λa ha m=>dj a ha (eT _ m)) λa ha m=>st a (eT _ ha) m;refine⟨A++i9,g7.mpr ⟨n1,x,λa ha b hb e=>?_⟩,λa h=>?_,λne q=>w ne (Q8.mp q).2,.cons ((r.wk hf).fS s2 λa h=>st a (kg _ h) (hA a h)) z⟩
   ·subst e;rcases y a hb with q|q
    ·exact n3 a ha a q.1 rfl
    ·exact hA a ha (dj a q (kg _ ha))
   ·rcases eR.mp h with q|q
    ·exact .inl ⟨kg _ q,hA a q⟩
    ·exact(y a q).imp (λq=>⟨eT _ q.1,q.2⟩) id
def Iw{α:Type}{xs:List α}{i:Int}{x:α}(h:e8 xs i=some x):∃ j,x3 xs.length i=some j/\xs[j]? = some x:=by
 unfold L2.e8 at h
 cases e:x3 xs.length i with
 |none=>rw[e] at h;cases h
 |some j=>rw[e] at h;exact⟨j,rfl,h⟩
def JR{α:Type}{xs:List α}{i:Int}{j:Nat}{x:α}(h:x3 xs.length i=some j)(e:xs[j]? = some x):e8 xs i=some x:=by unfold L2.e8;rw[h];exact e
end
section
variable {X:Cx}{K:ay}{e:Expr}{p:WP}{te:WE}{apos eP pos:Pos}
def ig(fl:Bool)(m:Md)(d:D):Option Bool:=match m with
 |.sh=>some (fl && d.flat)
 |.ow b=>some (fl && b)
 |_=>bif d.flat then some fl else none
def yk(p:WP)(te:WE):WS:=λE ρ=>p ρ λfl d up=>match d with
 |.list xs=>te ρ λm x=>xs.length<bE/\match ig fl m x with
  |some eA=>E.nx (up eA (.list (xs++[x])))
  |none=>False
 |_=>False
def t_(w:Wf Hs H)(r:RM K Hs H m d v As)(h:ig fl m d=some eA):(eA=true->fl=true)/\∃ B,B.Sublist As/\cK K Hs H eA d v B:=by
 cases m with
 |sh =>cases h;exact⟨λz=>by cases fl<;>simp_all,[],AA _,.sh (λz=>by cases fl<;>simp_all) r.2⟩
 |ow b =>cases h;refine⟨λz=>by cases fl<;>simp_all,As,List.Sublist.refl _,r.1.wk λz=>by cases fl<;>simp_all⟩
 |_ =>
  cases hf:d.flat with
  |true =>simp only[ig,hf,cond_true,Option.some.injEq] at h;subst h;exact⟨id,[],AA _,.sh (λ_=>hf) (r.flat w hf)⟩
  |false=>simp[ig,hf] at h
def Place.put(pl:Place K aI H1 σ fl (.list xs) v up)(g:fe aI H1 aC H2) :
  ∃ a vs A,v=.ref a/\H2 a=some (.lst vs)/\H1 a=some (.lst vs)/\aB K aC H2 fl xs vs A/\(a :: A).Nodup/\(∀ x∈a :: A,aC x=none/\H1 x≠none) /\
   ∀ eA ys ws C,(eA=true->fl=true)->aB K aC H2 eA ys ws C->ws.length<=bE->C.Nodup->a∉C->(∀ x∈C,x∈A\/(aC x=none/\H1 x=none))->∃ eL,dE K aC (up eA (.list ys)) σ (upd H2 a (.lst ws)) eL:=by
 obtain⟨gy,r,ne,nd,own,k⟩:=pl.ex
 cases r with
 |sh hf _=>exact absurd rfl ne
 |@list a vs _ A hz e rs =>
  have e2:=g.all _ _ e;have U9:=rs.grow g.sh g.all;have hw:∀ x∈a :: A,aI x=none/\H1 x≠none:=λx hx=>⟨own x hx,by
   rcases eW.mp hx with rfl|hx
   ·rw[e];exact λz=>nomatch z
   ·exact(rs.own x hx).ne⟩
  exact⟨a,vs,A,rfl,e2,e,U9,nd,λx hx=>⟨g.oq (hw x hx).1 (hw x hx).2,(hw x hx).2⟩,λeA ys ws C hf qS hz ndC U8 hC=>k.node g hw (λ_ z=>by cases z) hf (.list hz eJ (qS.fS (aS.refl _) λb hb=>df λz=>U8 (by subst z;exact hb))) ndC U8 hC⟩
def Place.ZR(w:Wf aI H1)(pl:Place K aI H1 σ fl (.list xs) v up):∃ a vs,v=.ref a/\e7 K H1 a vs:=by
 obtain⟨gy,r,ne,nd,own,k⟩:=pl.ex
 cases r with
 |sh hf _=>exact absurd rfl ne
 |list hz e rs=>exact⟨_,_,rfl,.inl (.inl e)⟩
def fY (ho:QP X K e p) (he:QE X K e2 te) (hK:autoParam (X.K=K) bv) (hs:autoParam (lP (.Call (.Attribute e "append" apos) [e2] [] eP) none pos.line X.env=pure false) bv) (oI:autoParam (vS e "append" X.env (b3 e X.env)=b3 e X.env) bv) (wq:autoParam (((gV eP (aT [e2] X.env)).all (λx=>!x.1) && (A4 eP (A3 [] X.env)).all (λx=>x.1.isSome)
   && decide ([e2].length+([]:List uk).length+(if ([]:List uk).isEmpty then 0 else 1)<30))=true) bv)
  (hline:autoParam ((apos.endLine == eP.line)=true) bv) (qc:autoParam (aT (e2 :: []) X.env=(false,b3 e2 X.env) :: aT [] X.env) bv) (w8:autoParam ((gV eP (aT [] X.env)).any (·.1)=false) bv) :
  QS X K L (.Expr (.Call (.Attribute e "append" apos) [e2] [] eP) pos) (yk p te):=by
 subst hK;refine PS.imp (N0 (Lc PySem.F.plainAttrs_list PySem.F.slot_list_append PySem.F.type_list_append RV ho (i3 he ly qc) oI wq hline qc w8) hs) λD σ H hx=>bR hx λHs ρ tot E sr h k1 k2 k3 k4=>?_;refine⟨Hs,ρ,tot,_,sr,h,λv H1 aI fl d up g1 p1 q1=>?_⟩
 cases d with
 |list xs =>
  obtain⟨a1,vs1,e1,s1⟩:=p1.ZR g1.wf;subst e1;refine⟨.inl ⟨rfl,_,s1⟩,aI,ρ,tot,_,sr.grow g1,q1,λy H2 aC m x As g2 r2 f2 q2=>?_⟩;obtain⟨hz,q2⟩:=q2;obtain⟨a,vs,A,ea,e2,_,rs,nd,hn,k⟩:=p1.put g2;cases ea;have hl:=rs.length;refine⟨a1,vs,y,rfl,rfl,e2,by lia,?_⟩
  cases hp:ig fl m x with
  |none=>rw[hp] at q2;exact q2.elim
  |some eA =>
   rw[hp] at q2;obtain⟨hf,B,sb,rb⟩:=t_ g2.wf r2 hp;obtain⟨na,nA⟩:=rX.mp nd;have fB:∀ x∈B,aC x=none/\H1 x=none:=λx hx=>f2.2 x (sb.subset hx);have c1:(A++(B++[])).Nodup:=by rw[kM];exact g7.mpr ⟨nA,sb.nodup f2.1,λx hx z hz e=>by subst e;exact(hn x (eI _ hx)).2 (fB x hz).2⟩
   have c2:a1∉A++(B++[]):=by
    rw[kM];intro m;rcases eR.mp m with m|m
    ·exact na m
    ·exact(hn _ fA).2 (fB _ m).2
   have c3:∀ x∈A++(B++[]),x∈A\/(aC x=none/\H1 x=none):=by rw[kM];intro x hx;exact(eR.mp hx).imp id λz=>fB x z
   obtain⟨eL,fP⟩:=k eA (xs++[x]) (vs++[y]) (A++(B++[])) hf ((rs.wk hf).append (.cons rb .nil)) (by rw[iq];simp;lia) c1 c2 c3;exact k1 σ _ aC _ eL (g1.sh.trans g2.sh) fP q2
 |_=>exact q1.elim
def uN:WE:=λ_ Q=>Q (.ow true) (.dK [])
def yu:QE X K (.Dict [] [] pos) uN:=PE.imp il' λσ H Qv hx=>hV hx λHs ρ tot Q sr h f=>λa ha =>
 f _ _ Hs (.ow true) (.dK []) [a] (PK sr.wf ha λ_ z=>nomatch z) ⟨.dK ⟨gd _,λp hp=>nomatch hp⟩ eJ .nil,by simp⟩ ⟨by simp,λb hb=>by
  obtain rfl:b=a:=by simpa using hb
  exact⟨sr.wf.sub.free ha,ha⟩⟩ h
section
variable {κ:Type}[DecidableEq κ]
def yl{Hs H:Hp}{fl:Bool}{k:κ}{d:D}{v:V}(r:cK K Hs H fl d v []){ag:List (κ × D)}{vs:List V}{As:List ae}(qs:aB K Hs H fl (ag.map (·.2)) vs As):∃ ws Bs,Bs.Sublist As /\
  aB K Hs H fl ((ag.map λkv=>if kv.1=k then (kv.1,d) else kv).map (·.2)) ws Bs/\((ag.map (·.1)).zip vs).map (λkv=>if kv.1=k then (kv.1,v) else kv)=(((ag.map λkv=>if kv.1=k then (kv.1,d) else kv)).map (·.1)).zip ws:=by
 induction ag generalizing vs As with
 |nil=>exact⟨[],[],AA _,.nil,rfl⟩
 |cons p ag ih =>
  obtain⟨u,vs,A,B,rfl,rfl,q,qs⟩:=aB.c qs;obtain⟨ws,Bs,sb,rs,e⟩:=ih qs;by_cases h:p.1=k
  ·refine⟨v :: ws,[]++Bs,by simpa using sb.trans (k9 _ _),?_,?_⟩
   ·simp only[fR,h,if_true];exact .cons r rs
   ·simp only[fR,Ra,h,if_true,e]
  ·refine⟨u :: ws,A++Bs,sb.append_left _,?_,?_⟩
   ·simp only[fR,h,if_false];exact .cons q rs
   ·simp only[fR,Ra,h,if_false,e]
def BK{Hs H:Hp}{fl:Bool}{k:κ}{d:D}{v:V}(r:cK K Hs H fl d v []){ag:List (κ × D)}{vs:List V}{As:List ae}(q:aB K Hs H fl (ag.map (·.2)) vs As) :
  ∃ ws Bs,Bs.Sublist As/\aB K Hs H fl ((sA ag k d).map (·.2)) ws Bs/\putK ((ag.map (·.1)).zip vs) k v=((sA ag k d).map (·.1)).zip ws:=by
 have hl:=q.length;rw[dz] at hl;unfold putK sA;rw[Hm hl]
 cases h:ag.any λkv=>decide (kv.1=k) with
 |true =>exact yl r q
 |false =>
  simp only[yB,if_false];refine⟨vs++[v],As++([]++[]),by simp,?_,?_⟩
  ·rw[nh];exact q.append (.cons r .nil)
  ·rw[nh,List.zip_append (by rw[dz];exact hl)];rfl
def wM{Hs H:Hp}{fl:Bool}{k:κ}{d:D}{v:V}(r:Rep K Hs d v)(hd:d.flat=true){ag:List (κ × D)}{vs:List V}{As:List ae}(q:aB K Hs H fl (ag.map (·.2)) vs As) :
  ∃ ws Bs,Bs.Sublist As/\aB K Hs H fl ((sA ag k d).map (·.2)) ws Bs/\putK ((ag.map (·.1)).zip vs) k v=((sA ag k d).map (·.1)).zip ws:=BK (.sh (λ_=>hd) r) q
def uG{β:Type}(ag:List (κ × β))(k:κ)(v:β):(sA ag k v).length<=ag.length+1:=by
 unfold sA;split
 ·rw[dz];exact Nat.le_add_right _ _
 ·simp
def uJ{β:Type}{ag:List (κ × β)}{k:κ}{v:β}{p:κ × β}(h:p∈sA ag k v):p.1=k\/p.1∈ag.map (·.1):=by
 unfold sA at h;split at h
 ·obtain⟨q,hq,e⟩:=iX.mp h;by_cases hk:q.1=k
  ·rw[if_pos hk] at e;subst e;exact .inl hk
  ·rw[if_neg hk] at e;subst e;exact .inr (iX.mpr ⟨q,hq,rfl⟩)
 ·rcases eR.mp h with h|h
  ·exact .inr (iX.mpr ⟨p,h,rfl⟩)
  ·have:p=(k,v):=by simpa using h
   subst this;exact .inl rfl
end
def Bv(p:WP)(tk tv:WE):WS:=λE ρ=>tv ρ λ_ x=>p ρ λfl d up=>tk ρ λ_ y=>x.flat=true/\match d with
 |.dK ag=>∃ k,y.key1=some k/\ag.length<bE/\E.nx (up fl (.dK (sA ag k x)))
 |.dT ag=>match y with
  |.tup ys=>∃ ks,gF ys=some ks/\ag.length<bE/\E.nx (up fl (.dT (sA ag ks x)))
  |_=>False
 |_=>False
def qY(r:Rep K H d v)(h:d.key1=some k):tj k=true:=by
 cases r<;>simp[D.key1] at h<;>subst h
 ·rfl
 ·rename_i hz;simp[tj,hz]
def Ax(r:bS K H ds vs)(h:gF ds=some ks):ks.length=ds.length/\∀ k∈ks,tj k=true:=by
 induction ds generalizing vs ks with
 |nil=>simp[gF] at h;subst h;exact⟨rfl,λk hk=>nomatch hk⟩
 |cons d ds ih =>
  obtain⟨u,us,rfl,r,rs⟩:=r.c;unfold gF at h
  cases e1:d.key1 with
  |none=>rw[e1] at h;simp at h
  |some k =>
   cases e2:gF ds with
   |none=>rw[e1,e2] at h;simp at h
   |some ks' =>
    rw[e1,e2] at h;simp at h;subst h;obtain⟨a,b⟩:=ih rs e2;refine⟨by simp[a],λj hj=>?_⟩;rcases eW.mp hj with rfl|hj
    ·exact qY r e1
    ·exact b j hj
def yh{a b c:Expr}{tk tv:WE}{pos':Pos}(ho:QP X K a p)(hi:QE X K b tk)(hv:QE X K c tv)(hs:autoParam (lP c (some (.Subscript a b pos')) pos.line X.env=pure false) bv)(hu:X.A.units+64<iE:=by assumption) :
  QS X K L (.Assign [.Subscript a b pos'] c pos) (Bv p tk tv):=by
 refine PS.imp (ij' (by lia) ho hi hv hs) λD σ H hx=>bR hx λHs ρ tot E sr h k1 k2 k3 k4=>?_;refine⟨Hs,ρ,tot,_,sr,h,λv H1 aI m1 x As1 g1 r1 f1 q1=>⟨aI,ρ,tot,_,sr.grow g1,q1,λu H2 aC fl d up g2 p2 q2=>⟨aC,ρ,tot,_,(sr.grow g1).grow g2,q2,λy H3 gv m3 yd As3 g3 r3 f3 q3=>?_⟩⟩⟩;obtain⟨hx,q3⟩:=q3;have rx:Rep K gv x v:=((r1.grow g2).grow g3).flat g3.wf hx;have ry:=r3.rep g3.wf;obtain⟨gy,r,ne,nd,own,k⟩:=p2.ex;have sm:aS Hs gv:=(g1.sh.trans g2.sh).trans g3.sh;have lv:∀ x∈gy,aC x=none/\H2 x≠none:=λx hx=>⟨own x hx,(r.own x hx).ne⟩
 cases r with
 |sh hf _=>exact absurd rfl ne
 |@dK a0 vs ag A kk e rs =>
  obtain⟨key,hk,hz,q⟩:=q3;have ey:=ry.key hk;subst ey;obtain⟨na,nA⟩:=rX.mp nd;obtain⟨ws,Bs,sb,qS,ew⟩:=wM rx hx (rs.grow g3.sh g3.all);have hl:ag.length=vs.length:=by have:=rs.length;rwa[dz] at this
  refine⟨a0,_,rfl,GB.k (g3.all _ _ e) (by rw[Tz,dz,<- hl,TH];exact hz),?_⟩;rw[ew];have nB:a0∉Bs:=λz=>na (sb.subset z);obtain⟨eL,fP⟩:=k.node g3 lv (λ_ z=>by cases z) id (.dK ⟨kD (uG _ _ _) hz,λp hp=>(uJ hp).elim (λz=>by rw[z];exact qY ry hk) λz=>by obtain⟨p',rh,e'⟩:=iX.mp z;rw[<- e'];exact kk.2 p' rh⟩ eJ (qS.fS (aS.refl _) λb hb=>df λz=>nB (by subst z;exact hb))) (sb.nodup nA) nB λb hb=>.inl (sb.subset hb)
  exact k1 σ _ gv _ eL sm fP q
 |@dT a0 vs ag A kk e rs =>
  cases ry with
  |tup t1 e1 P1 =>
   obtain⟨key,hk,hz,q⟩:=q3;obtain⟨b,eb,e5⟩:=Rep.PH (.tup t1 e1 P1) hk;cases eb;obtain⟨kl,ko⟩:=Ax P1 hk;obtain⟨na,nA⟩:=rX.mp nd;obtain⟨ws,Bs,sb,qS,ew⟩:=wM rx hx (rs.grow g3.sh g3.all);have hl:ag.length=vs.length:=by have:=rs.length;rwa[dz] at this
   refine⟨a0,_,rfl,GB.t (g3.all _ _ e) e5 (by rw[Tz,dz,<- hl,TH];exact hz),?_⟩;rw[ew];have nB:a0∉Bs:=λz=>na (sb.subset z);have l1:=P1.length;obtain⟨eL,fP⟩:=k.node g3 lv (λ_ z=>by cases z) id (.dT ⟨kD (uG _ _ _) hz,λp hp=>(uJ hp).elim (λz=>by rw[z];exact⟨by lia,ko⟩) λz=>by obtain⟨p',rh,e'⟩:=iX.mp z;rw[<- e'];exact kk.2 p' rh⟩ eJ (qS.fS (aS.refl _) λb hb=>df λz=>nB (by subst z;exact hb))) (sb.nodup nA) nB λb hb=>.inl (sb.subset hb)
   exact k1 σ _ gv _ eL sm fP q
  |_=>exact q3.elim
 |_=>exact q3.elim
end
abbrev WJ:=Env->Str->(Str->Prop)->Prop
section
variable {X:Cx}{K:ay}{e:Expr}{te:WE}{j:WJ}
def iW:List D->Option (List Str)
 |[]=>some []
 |.str x :: xs=>(iW xs).map (x :: ·)
 |_ :: _=>none
def qC(to te:WE):WE:=λρ Q=>to ρ λ_ x=>match x with
 |.str z=>te ρ λ_ y=>match y with
  |.list ys=>∃ zs,iW ys=some zs/\(zs.map (·.length)).sum+zs.length*z.length<=16777216/\Q .sh (.str (Str.join z zs))
  |_=>False
 |_=>False
def BJ(r:bS K H ds vs)(q:Vals vs us)(h:iW ds=some zs):StrsAre us zs:=by
 induction ds generalizing vs us zs with
 |nil =>simp[iW] at h;subst h;have:=r.n0;subst this;rw[Paired.n0 q];exact .nil
 |cons d ds ih =>
  obtain⟨v,vs,rfl,r1,rs⟩:=r.c;obtain⟨u,us,rfl,q1,qs⟩:=Paired.c q
  cases r1 with
  |str hz =>
   simp only[iW] at h
   cases e:iW ds with
   |none=>rw[e] at h;cases h
   |some ys =>rw[e] at h;cases h;obtain⟨t,rfl⟩:=q1;exact .cons _ t (ih rs qs e)
  |_=>simp[iW] at h
def Hk (hK:autoParam (X.K=K) bv):Um X "str.join" (λx xs H Q=>∃ z a ds vs zs,x=.str z/\xs=[.ref a]/\e7 K H a vs/\bS K H ds vs/\iW ds=some zs/\(zs.map (·.length)).sum+zs.length*z.length<=16777216/\Q (.str (Str.join z zs)) H):=by subst hK;intro pins s σ H x xs v us Q I rx rs h;obtain⟨z,a,ds,vs,zs,rfl,rfl,hs,rr,e,hz,q⟩:=h;obtain⟨t,rfl⟩:=rx;obtain⟨u,rfl,ru⟩:=Vals.one rs;cases ru;obtain⟨its,rv,pl,_⟩:=I.list hs;exact join_list pl.isList (by simpa using BJ rr rv e) hz λt' k=>⟨.str _,H,I.tok _,⟨t',rfl⟩,by rw[show Txt.join z zs=Str.join z zs from StrLaws.glued_eq_join z zs];exact q⟩
theorem gR:∀ {zs:List Str},(Str.join z zs).length<=(zs.map (·.length)).sum+zs.length*z.length
 |[]=>by exact kD (show Str.empty.length<=0 by decide) (gd _)
 |[x]=>by simp[Str.join]
 |x :: y :: r=>by have ih:=gR (z:=z) (zs:=y :: r);show(x++z++Str.join z (y :: r)).length<=_;rw[aV,aV];simp only[fR,NM,jv,Nat.add_mul,Nat.one_mul] at ih ⊢;lia
def Cp(ho:QE X K o to)(he:QE X K e te)(hK:autoParam (X.K=K) bv) (oI:autoParam (vS o "join" X.env (b3 o X.env)=b3 o X.env) bv) (wq:autoParam (((gV eP (aT [e] X.env)).all (λx=>!x.1) && (A4 eP (A3 [] X.env)).all (λx=>x.1.isSome)
   && decide ([e].length+([]:List uk).length+(if ([]:List uk).isEmpty then 0 else 1)<30))=true) bv)
  (hline:autoParam ((apos.endLine == eP.line)=true) bv) (qc:autoParam (aT (e :: []) X.env=(false,b3 e X.env) :: aT [] X.env) bv) (w8:autoParam ((gV eP (aT [] X.env)).any (·.1)=false) bv) :
  QE X K (.Call (.Attribute o "join" apos) [e] [] eP) (qC to te):=by
 subst hK;refine PE.imp (Lc PySem.F.plainAttrs_str PySem.F.slot_str_join PySem.F.type_str_join Hk ho (i3 he ly qc) oI wq hline qc w8) λσ H Qv hx=>hV hx λHs ρ tot Q sr h f=>?_;refine⟨Hs,ρ,tot,_,sr,h,λv H1 aI m x As g1 r1 f1 q1=>?_⟩;have r:=r1.rep g1.wf
 cases r with
 |str hz =>
  refine⟨rfl,aI,ρ,tot,_,sr.grow g1,q1,λy H2 aC m2 x2 i9 g2 r2 f2 q2=>?_⟩;have rr:=r2.rep g2.wf
  cases rr with
  |list z s rs =>obtain⟨zs,e,hz,q⟩:=q2;exact⟨_,_,_,_,zs,rfl,rfl,s,rs,e,hz,Fin.sh (Fin.after f (g1.trans g2)) g2.wf (.str (kD gR (by rw[nS];exact hz))) q⟩
  |_=>exact q2.elim
 |_=>exact q1.elim
def PH(k:List Key):D:=.tup (k.map n5)
def Oh:W1:=λ_ x Q=>match x with
 |.list xs=>∃ ks sh,xs=ks.map PH/\(∀ k∈ks,DC k=true :: sh)/\∀ ms:List (List Key),ms.Perm ks->(ms.Pairwise λa b=>nI b a=false)->Q (.ow true) (.list (ms.map PH))
 |_=>False
def DG{H:Hp}{ks:List Key}{vs:List V}(r:bS K H (ks.map n5) vs):vs=ks.map kV/\∀ k∈ks,tj k=true:=by
 induction ks generalizing vs with
 |nil=>exact⟨r.n0,λk h=>nomatch h⟩
 |cons k ks ih =>
  obtain⟨u,us,rfl,r1,rs⟩:=bS.c r;obtain⟨e,o⟩:=ih rs;subst e
  cases k with
  |inl i=>cases r1;exact⟨rfl,λj hj=>by rcases eW.mp hj with rfl|hj;rfl;exact o j hj⟩
  |inr x =>
   cases r1 with
   |str hz=>exact⟨rfl,λj hj=>by rcases eW.mp hj with rfl|hj;simp[tj,hz];exact o j hj⟩
def xq:nL "sorted" = some (.builtin "sorted"):=by decide +kernel
end
def shF(A:List ae)(F:Nat->List ae):Nat->List ae
 |0=>A
 |i+1=>F i
def Mb(K:ay)(Hs H:Hp)(ρ:Env)(σ:St)(tot:List ae)(F:Nat->List ae):Prop:=(∀ i fl d,ρ[i]? = some (some (.ow fl d))->∃ v,σ[i]? = some (some v)/\F i≠[]/\cK K Hs H fl d v (F i)) /\ (∀ i,(F i).Sublist tot)/\∀ i j,i≠j->∀ a∈F i,a∉F j
def Mb.skip{K:ay}{F:Nat->List ae}(h:Mb K Hs H ρ σ tot F)(no:∀ fl d,o≠some (.ow fl d)):Mb K Hs H (o :: ρ) (u :: σ) tot (shF [] F):=by
 obtain⟨a,b,c⟩:=h;refine⟨λi fl d e=>?_,λi=>?_,λi j ne x hx=>?_⟩
 ·cases i with
  |zero=>simp at e;exact absurd e (no fl d)
  |succ i=>exact a i fl d (by simpa using e)
 ·cases i with
  |zero=>exact AA _
  |succ i=>exact b i
 ·cases i with
  |zero=>exact xh hx
  |succ i =>
   cases j with
   |zero=>exact λz=>xh z
   |succ j=>exact c i j (λz=>ne (by rw[z])) x hx
def Mb.own{K:ay}{tot B:List ae}{F:Nat->List ae}(h:Mb K Hs H ρ σ tot F)(n:(B++tot).Nodup)(hs:∀ fl d,sl=.ow fl d->B≠[]/\cK K Hs H fl d v B):Mb K Hs H (some sl :: ρ) (some v :: σ) (B++tot) (shF B F):=by
 obtain⟨a,b,c⟩:=h;obtain⟨n1,n2,n3⟩:=g7.mp n;refine⟨λi fl d e=>?_,λi=>?_,λi j ne x hx=>?_⟩
 ·cases i with
  |zero=>simp at e;exact⟨v,rfl,hs fl d e⟩
  |succ i=>exact a i fl d (by simpa using e)
 ·cases i with
  |zero=>exact ND _ _
  |succ i=>exact(b i).trans (k9 _ _)
 ·cases i with
  |zero =>
   cases j with
   |zero=>exact absurd rfl ne
   |succ j=>exact λz=>n3 x hx x ((b j).subset z) rfl
  |succ i =>
   cases j with
   |zero=>exact λz=>n3 x z x ((b i).subset hx) rfl
   |succ j=>exact c i j (λz=>ne (by rw[z])) x hx
def SR.addrs{K:ay}(s:SR K Hs H ρ σ tot):tot.Nodup->∃ F:Nat->List ae,Mb K Hs H ρ σ tot F:=by
 induction s with
 |nil=>exact λ_=>⟨λ_=>[],λi fl d e=>by simp at e,λi=>AA _,λi j _ a h=>xh h⟩
 |non s ih =>intro n;obtain⟨F,h⟩:=ih n;exact⟨_,h.skip λfl d z=>by cases z⟩
 |sh r s ih =>intro n;obtain⟨F,h⟩:=ih n;exact⟨_,h.skip λfl d z=>by cases z⟩
 |xc s ih =>intro n;obtain⟨F,h⟩:=ih n;exact⟨_,h.skip λfl d z=>by cases z⟩
 |ow ne r s ih =>intro n;obtain⟨F,h⟩:=ih (g7.mp n).2.1;exact⟨_,h.own n λfl d e=>by cases e;exact⟨ne,r⟩⟩
 |lk ne r s ih =>intro n;obtain⟨F,h⟩:=ih (g7.mp n).2.1;exact⟨_,h.own n λfl d e=>by cases e⟩
 |ob r s ih =>intro n;obtain⟨F,h⟩:=ih (g7.mp n).2.1;exact⟨_,h.own n λfl d e=>by cases e⟩
abbrev Plan:=List (WE ⊕ Nat)
def U_:Plan->List Nat
 |[]=>[]
 |.inl _ :: r=>U_ r
 |.inr i :: r=>i :: U_ r
def Va:Option (Option Sl)->Option (Md × D)
 |some (some (.sh d))=>some (.sh,d)
 |some (some (.ow fl d))=>some (.ow fl,d)
 |_=>none
def lH:Plan->Env->(List (Md × D)->Prop)->Prop
 |[],_,Q=>Q []
 |.inl t :: r,ρ,Q=>t ρ λm x=>lH r ρ λps=>Q ((m,x) :: ps)
 |.inr i :: r,ρ,Q=>match Va ρ[i]? with
  |some p=>lH r ρ λps=>Q (p :: ps)
  |none=>False
def tpM(K:ay)(pl:Plan):TA:=λσ H Qv=>∃ (Hs:Hp) (ρ:Env) (tot:List ae) (F:Nat->List ae) (Q:List (Md × D)->Prop),dE K Hs ρ σ H tot/\(∀ i fl d,ρ[i]? = some (some (.ow fl d))->∃ v,σ[i]? = some (some v)/\F i≠[]/\cK K Hs H fl d v (F i))/\(∀ i,(F i).Sublist tot)/\(∀ i j,i≠j->∀ a∈F i,a∉F j) /\
 lH pl ρ Q/\∀ vs H' aw ps As,fe Hs H aw H'->x8 K aw H' ps vs As->As.Nodup->(∀ a∈As,aw a=none/\(H a=none\/∃ i∈U_ pl,a∈F i))->Q ps->Qv vs H'
abbrev QM(X:Cx)(K:ay)(es:List Expr)(pl:Plan):Prop:=PA X es (tpM K pl)
section
variable {X:Cx}{K:ay}{e:Expr}{es:List Expr}{te:WE}{pl:Plan}{pos:Pos}
def xR:QM X K [] []:=PA.imp ly λσ H Qv hx=>by obtain⟨Hs,ρ,tot,F,Q,sr,h1,h2,h3,h,f⟩:=hx;exact f [] H Hs [] [] (fe.refl sr.wf) .nil kT (λa h=>xh h) h
def ZS(ha:QE X K e te)(hr:QM X K es pl)(hs:autoParam (aT (e :: es) X.env=(false,b3 e X.env) :: aT es X.env) bv):QM X K (e :: es) (.inl te :: pl):=by
 refine PA.imp (i3 ha hr hs) λσ H Qv dA=>?_;obtain⟨Hs,ρ,tot,F,Q,sr,h1,h2,h3,h,f⟩:=dA;refine⟨Hs,ρ,tot,_,sr,h,λv H1 aI m x As g1 r1 f1 q1=>⟨aI,ρ,tot,F,_,sr.grow g1,(λi fl d e=>?_),h2,h3,q1,λvs H2 aC ps Bs g2 r2 n9 o2 q2=>?_⟩⟩
 ·obtain⟨v,a,b,c⟩:=h1 i fl d e;exact⟨v,a,b,c.grow g1.sh g1.all⟩
 ·refine f (v :: vs) H2 aC _ _ (g1.trans g2) (.cons (r1.grow g2) r2) (g7.mpr ⟨f1.1,n9,λa ha b hb e=>?_⟩) (λa ha=>?_) q2
  ·subst e;rcases (o2 a hb).2 with z|⟨i,_,z⟩
   ·exact(r1.own a ha).ne z
   ·exact(sr.sr.own a ((h2 i).subset z)).ne (f1.2 a ha).2
  ·rcases eR.mp ha with z|z
   ·exact⟨g2.oq (f1.2 a z).1 (r1.own a z).ne,.inl (f1.2 a z).2⟩
   ·exact⟨(o2 a z).1,(o2 a z).2.imp g1.all.free id⟩
def Vb(ha:PE X e (jI i))(hr:QM X K es pl)(hi:i∉U_ pl:=by decide)(hs:autoParam (aT (e :: es) X.env=(false,b3 e X.env) :: aT es X.env) bv):QM X K (e :: es) (.inr i :: pl):=by
 refine PA.imp (i3 ha hr hs) λσ H Qv dA=>?_;obtain⟨Hs,ρ,tot,F,Q,sr,h1,h2,h3,h,f⟩:=dA;unfold lH at h
 cases hm:Va ρ[i]? with
 |none=>rw[hm] at h;exact h.elim
 |some p =>
  rw[hm] at h;have key:∃ v A,σ[i]? = some (some v)/\RM K Hs H p.1 p.2 v A/\A.Nodup/\∀ a∈A,a∈F i:=by
   cases e1:ρ[i]? with
   |none=>rw[e1] at hm;cases hm
   |some o =>
    cases o with
    |none=>rw[e1] at hm;cases hm
    |some sl =>
     cases sl with
     |sh d =>rw[e1] at hm;cases hm;obtain⟨v,a,b⟩:=sr.sr.get e1;exact⟨v,[],a,⟨rfl,b⟩,kT,λa h=>nomatch h⟩
     |lk a fl d=>rw[e1] at hm;cases hm
     |xc a=>rw[e1] at hm;cases hm
     |ob a p=>rw[e1] at hm;cases hm
     |ow fl d =>rw[e1] at hm;cases hm;obtain⟨v,a,b,c⟩:=h1 i fl d e1;exact⟨v,F i,a,⟨c,b⟩,(h2 i).nodup sr.nX,λa h=>h⟩
  obtain⟨v,A,ev,rm,My,hA⟩:=key;refine⟨v,ev,Hs,ρ,tot,F,_,sr,h1,h2,h3,h,λvs H2 aC ps Bs g2 r2 n9 o2 q2=>?_⟩;refine f (v :: vs) H2 aC _ _ g2 (.cons (rm.grow g2) r2) (g7.mpr ⟨My,n9,λa ha b hb e=>?_⟩) (λa ha=>?_) q2
  ·subst e;rcases (o2 a hb).2 with z|⟨j,hj,z⟩
   ·exact(rm.own a ha).ne z
   ·exact h3 i j (λz=>hi (by rw[z];exact hj)) a (hA a ha) z
  ·rcases eR.mp ha with z|z
   ·have:a∈tot:=(h2 i).subset (hA a z);exact⟨g2.oq (sr.own a this) (sr.sr.own a this).ne,.inr ⟨i,fA,hA a z⟩⟩
   ·exact⟨(o2 a z).1,(o2 a z).2.imp id λ⟨j,hj,q⟩=>⟨j,eI _ hj,q⟩⟩
def yF(pl:Plan):WS:=λE ρ=>lH pl ρ λps=>ps.length<=bE/\E.rt (uX ps) (.tup (ps.map (·.2)))
def qM{x1}(h:QM X K es pl):QS X K L (.Return (some (.Tuple es x1 qz')) pos) (yF pl):=by
 refine PS.imp (Ki (RL h)) λD σ H hx=>bR hx λHs ρ tot E sr h k1 k2 k3 k4=>?_;obtain⟨F,h1,h2,h3⟩:=sr.sr.addrs sr.nX;refine⟨Hs,ρ,tot,F,_,sr,h1,h2,h3,h,λvs H1 aI ps As g1 r1 nd1 o1 q1=>?_⟩;obtain⟨hz,q⟩:=q1;have rl:=r1.reps g1.wf;have hl:=rl.length;rw[dz] at hl;refine⟨by lia,λp hp=>?_⟩;have g2:=LZ (vs:=vs) g1.wf hp;have sm:aS Hs (upd aI p (.tup vs)):=g1.sh.trans g2.sh;unfold uX at q
 cases e1:ps.all zl with
 |true =>rw[e1] at q;exact k4 _ _ _ .sh _ [] sm g2.wf ⟨rfl,.tup (by lia) eJ ((r1.sh g1.wf e1).same g2.sh)⟩ kT (λa h=>nomatch h) q
 |false =>
  rw[e1] at q
  cases e2:ps.all L6 with
  |false =>rw[e2] at q;exact k4 _ _ _ .bo _ [] sm g2.wf ⟨rfl,.tup (by lia) eJ (rl.same g2.all)⟩ kT (λa h=>nomatch h) q
  |true =>
   rw[e2] at q;obtain⟨Bs,sb,nz,ro⟩:=r1.ow g1.wf e2 λz=>z;have lI:dn (ps.map (·.2))=false:=by
    cases hf:dn (ps.map (·.2)) with
    |false=>rfl
    |true=>rw[nG hf] at e1;cases e1
   exact k4 _ _ _ (.ow _) _ Bs sm g2.wf ⟨.tup (by lia) eJ lI (ro.grow g2.sh g2.all),nz e1⟩ (sb.nodup nd1) (λa ha=>g2.oq (o1 a (sb.subset ha)).1 (ro.own a ha).ne) q
end
def di':fk:=λds Q=>∃ ns:List Int,ds=[.list (ns.map .int)]/\ns.length<=63/\∀ m,Q m (.bl true)
theorem ints_rep{K:ay}:∀ (ns:List Int),bS K H (ns.map .int) (ns.map V.int)
 |[]=>.nil
 |n :: ns=>.cons (.int n) (ints_rep ns)
def Az{K:ay}{H:Hp}{a:ae}{ns:List Int}{E:XK}(hl:ns.length<=63)(hS:e7 K H a (ns.map V.int)):fW K di' [.ref a] H (λv _=>v=.bl true) E:=by refine⟨[.list (ns.map .int)],λ_ d=>d=.bl true,.cons (.list (by rw[dz];exact kD hl (by decide)) hS (ints_rep ns)) .nil,⟨ns,rfl,hl,λ_=>rfl⟩,?_⟩;intro v H' aw m d As s w r nd own q;subst q;have:=r.rep w;cases this;rfl
abbrev sg(x:Str):List Nat:=x.cps.toList
def ji(x y:Str):sg (x++y)=sg x++sg y:=by show(x.cps++y.cps).toList=_;simp[sg]
def empty_app(x:Str):Str.empty++x=x:=lQ (by rw[<- sg,ji];rfl)
def okS(x:Str):Prop:=∀ c∈sg x,c<0x110000
def G9(x:Str):PyData.strOk x=true↔okS x:=by unfold PyData.strOk okS sg;rw[Array.all_eq_true'];simp
def kt'{α:Type}(x:α)(l:List α):e8 (x :: l) 0=some x:=by simp[L2.e8,x3]
def ku'{α:Type}(x y:α)(l:List α):e8 (x :: y :: l) 1=some y:=by have:=wo (xs:=x :: y :: l) (j:=1) rfl;exact this
def kv'{α:Type}(x y z:α)(l:List α):e8 (x :: y :: z :: l) 2=some z:=by have:=wo (xs:=x :: y :: z :: l) (j:=2) rfl;exact this
def Ij:Str.empty.length=0:=by decide
end L2.Q
namespace L2.Q.R
section
variable {f:D->Prop}{k:Kt f}
def O7:b9 .non k=f .non:=rfl
def QX:b9 (.bl b) k=f (.bl b):=rfl
def Ny:b9 (.int i) k=f (.int i):=rfl
def NQ:b9 (.str x) k=f (.str x):=rfl
def Lp:b9 (.list xs) k=f (.list xs):=rfl
def Oc:b9 (.tup xs) k=f (.tup xs):=rfl
def QR:b9 (.dK xs) k=f (.dK xs):=rfl
def Qn:b9 (.dT xs) k=f (.dT xs):=rfl
end
def MT{f:Bool->Prop}{k:Kt f}:b9 true k=f true:=rfl
def Ke{f:Bool->Prop}{k:Kt f}:b9 false k=f false:=rfl
def NT{d:D}{f:Md × D->Prop}{k:Kt f}:b9 (Md.sh,d) k=f (.sh,d):=rfl
def Ng{b:Bool}{d:D}{f:Md × D->Prop}{k:Kt f}:b9 (Md.ow b,d) k=f (.ow b,d):=rfl
def Om{d:D}{f:Option Sl->Prop}{k:Kt f}:b9 (some (.sh d)) k=f (some (.sh d)):=rfl
def Od{b:Bool}{d:D}{f:Option Sl->Prop}{k:Kt f}:b9 (some (.ow b d)) k=f (some (.ow b d)):=rfl
def Ow{p:Md × D}{f:Option (Md × D)->Prop}{k:Kt f}:b9 (some p) k=f (some p):=rfl
def Qj{p:Bool}{f:Option Bool->Prop}{k:Kt f}:b9 (some p) k=f (some p):=rfl
def O4{d:D}{f:Option (Option Sl)->Prop}{k:Kt f}:b9 (some (some (.sh d))) k=f (some (some (.sh d))):=rfl
def OD{b:Bool}{d:D}{f:Option (Option Sl)->Prop}{k:Kt f}:b9 (some (some (.ow b d))) k=f (some (some (.ow b d))):=rfl
section
variable {E:dH}{ρ:Env}{Q:Md->D->Prop}{B:Bool->Prop}{t u:WS}{te ta tb tc to':WE}{tt tu:WT}{tar:WA}{i j n:Nat}{m m':Md}{d d':D}{sp:fk}{p:WP}{R:List (Md × D)->Prop}
def Pr:aP E ρ=E.nx ρ:=rfl
def P0:b5 t u E ρ=t { E with nx:=u E } ρ:=rfl
def Qq:fF te E ρ=te ρ E.rt:=rfl
def put(sl:Option Sl)(k:Sl->Prop):Prop:=match sl with
 |some s=>k s
 |none=>False
def O2:put (some (.sh d)) k=k (.sh d):=rfl
def Pn:put (some (.ow b d)) k=k (.ow b d):=rfl
def Qc:eS i te E ρ=te ρ λm d=>b9 (asg m d) (f:=λo=>put o λsl=>E.nx (ρ.set i (some sl))) ⟨⟩:=rfl
def Q4:fm tt t u E ρ=tt ρ λb=>b9 b (f:=λb=>if b=true then t E ρ else u E ρ) ⟨⟩:=rfl
def Pk:jt i E ρ=b9 ρ[i]? (f:=λo=>match o with
 |some (some (.sh d))=>E.rt .sh d
 |some (some (.ow fl d))=>E.rt (.ow fl) d
 |_=>False) ⟨⟩:=rfl
def Pq:yF pl E ρ=lH pl ρ λps=>ps.length<=bE/\E.rt (uX ps) (.tup (ps.map (·.2))):=rfl
def JQ:lH [] ρ R=R []:=rfl
def Mz:lH (.inl te :: r) ρ R=te ρ λm x=>lH r ρ λps=>R ((m,x) :: ps):=rfl
def mov(o:Option (Md × D))(k:Md × D->Prop):Prop:=match o with
 |some p=>k p
 |none=>False
def Kf{p:Md × D}{k:Md × D->Prop}:mov (some p) k=k p:=rfl
def K8:lH (.inr i :: r) ρ R=b9 (Va ρ[i]?) (f:=λo=>mov o λp=>lH r ρ λps=>R (p :: ps)) ⟨⟩:=rfl
def Qz:zv i t E ρ=t E (Sv i ρ):=rfl
-- tests
def bol(d:D)(B:Bool->Prop):Prop:=match d with
 |.bl b=>B b
 |_=>False
def Pg:bol (.bl b) B=B b:=rfl
def wB_:wB te ρ B=te ρ λ_ x=>b9 x (f:=λx=>bol x B) ⟨⟩:=rfl
def QL:yb tt ρ B=tt ρ λc=>B (!c):=rfl
def kx':vt tt tu ρ B=tt ρ λc=>b9 c (f:=λc=>if c=true then B true else tu ρ B) ⟨⟩:=rfl
def Qs:BM ρ B=B true:=rfl
-- expressions
def PX:ai i ρ Q=b9 ρ[i]? (f:=λo=>U0 o Q) ⟨⟩:=rfl
def M6:U0 (some (some (.sh d))) Q=Q .sh d:=rfl
def KN:U0 (some (some (.ow b d))) Q=Q .bo d:=rfl
def wC_:wC d ρ Q=Q .sh d:=rfl
def kz':ax f ta tb ρ Q=ta ρ λm x=>tb ρ λn y=>f m x n y Q:=rfl
def kA':dQ f ta ρ Q=ta ρ λm x=>f m x Q:=rfl
def LK:jU f g ta tb tc ρ Q=ta ρ λm x=>tb ρ λn y=>f m x n y λ_ z=>b9 z (f:=λz=>bol z λk=>b9 k (f:=λk=>if k=true then tc ρ λl w=>g n y l w Q else Q .sh (.bl false)) ⟨⟩) ⟨⟩:=by rfl
def O6:kO ta tb ρ Q=ta ρ λ_ x=>b9 x (f:=λx=>bol x λc=>b9 c (f:=λc=>if c=true then tb ρ Q else Q .sh (.bl false)) ⟨⟩) ⟨⟩:=by unfold kO b9 bol;rfl
def Qk:U4 ta tb ρ Q=ta ρ λ_ x=>b9 x (f:=λx=>bol x λc=>b9 c (f:=λc=>if c=true then Q .sh (.bl true) else tb ρ Q) ⟨⟩) ⟨⟩:=by unfold U4 b9 bol;rfl
def Oa:zV ta ρ Q=ta ρ λ_ x=>b9 x (f:=λx=>bol x λc=>Q .sh (.bl (!c))) ⟨⟩:=by unfold zV b9 bol;rfl
def Oe:ak te tar ρ R=te ρ λm x=>tar ρ λps=>R ((m,x) :: ps):=rfl
def PJ:bP ρ R=R []:=rfl
def Qg:fq tar ρ Q=tar ρ λps=>ps.length<=bE/\Q (uX ps) (.tup (ps.map (·.2))):=rfl
def Pz:fT tar ρ Q=tar ρ λps=>ps.length<=bE/\Q (Du ps) (.list (ps.map (·.2))):=rfl
def Np:bx sp tar ρ Q=tar ρ λps=>sp (ps.map (·.2)) λm d=>b9 (m,d) (f:=λp=>Q (vv p.1 p.2) p.2) ⟨⟩:=rfl
-- operators
section
variable {x y:Str}{a b:Int}{xs ys:List D}{ag:List (Key × D)}{kts:List (List Key × D)}
def Kv:iO m (.int a) m' (.int b) Q=Q .sh (.int (a+b)):=rfl
def Mu:iO m (.str x) m' (.str y) Q=(x.length+y.length<=bE/\Q .sh (.str (x++y))):=rfl
def Mf:iO m (.list xs) m' (.list ys) Q=(xs.length+ys.length<=bE/\((dn xs=true/\dn ys=true/\Q (.ow true) (.list (xs++ys)))\/(m=.sh/\m'=.sh/\Q (.ow false) (.list (xs++ys))))):=rfl
def Ly:GW m (.int a) m' (.int b) Q=Q .sh (.int (a-b)):=rfl
def K4:DE m (.int a) m' (.int b) Q=(Oy a b/\Q .sh (.int (a*b))):=rfl
def Lq:rj m (.int a) m' (.int b) Q=((0<b/\b<1073741824)/\Q .sh (.int (a / b))):=rfl
def Ku:kH m (.int a) m' (.int b) Q=(0<b/\Q .sh (.int (a % b))):=rfl
def O1:PY m (.int a) m' (.int b) Q=Q .sh (.bl (decide (a<b))):=rfl
def Nu:GY m (.int a) m' (.int b) Q=Q .sh (.bl (decide (a<=b))):=rfl
def Ob:L5 m (.int a) m' (.int b) Q=Q .sh (.bl (decide (b<a))):=rfl
def NZ:fE m (.int a) m' (.int b) Q=Q .sh (.bl (decide (a=b))):=rfl
def Nx:fE m (.str x) m' (.str y) Q=Q .sh (.bl (decide (x=y))):=rfl
def Px:fE m (.list xs) m' d Q=(eK 12 (.list xs)=true/\eK 12 d=true/\Q .sh (.bl (nK (.list xs) d))):=by cases d<;>rfl
def Qw:fE m (.tup xs) m' d Q=(eK 12 (.tup xs)=true/\eK 12 d=true/\Q .sh (.bl (nK (.tup xs) d))):=by cases d<;>rfl
def Qp:fE m .non m' d Q=(eK 12 .non=true/\eK 12 d=true/\Q .sh (.bl (nK .non d))):=by cases d<;>rfl
def Nz:EX m (.int a) m' (.int b) Q=Q .sh (.bl (!decide (a=b))):=rfl
def QF:EX m (.list xs) m' d Q=(eK 12 (.list xs)=true/\eK 12 d=true/\Q .sh (.bl (!nK (.list xs) d))):=by cases d<;>rfl
def Q3:EX m (.tup xs) m' d Q=(eK 12 (.tup xs)=true/\eK 12 d=true/\Q .sh (.bl (!nK (.tup xs) d))):=by cases d<;>rfl
def Py:ZE m d m' .non Q=Q .sh (.bl d.PZ):=rfl
def N5:Gr m d m' .non Q=Q .sh (.bl (!d.PZ)):=rfl
def QK:G0 neg m (.str x) m' (.str y) Q=Q .sh (.bl (if neg then !Dx x y else Dx x y)):=rfl
def PN:G0 neg m d m' (.tup ys) Q=(gZ d=true/\ys.all gZ=true/\Q .sh (.bl (if neg then !inD d ys else inD d ys))):=rfl
def Qh:G0 neg m d m' (.dK ag) Q = ∃ k,d.key1=some k/\Q .sh (.bl (if neg then !(mM ag k).isSome else (mM ag k).isSome)):=rfl
def Qo:zk m (.int a) Q=Q .sh (.int (-a)):=rfl
def Qm:cp m (.list xs) m' (.int a) Q = ∃ d,e8 xs a=some d/\b9 d (f:=λd=>Q (ya m d) d) ⟨⟩:=rfl
def QD:cp m (.tup xs) m' (.int a) Q = ∃ d,e8 xs a=some d/\b9 d (f:=λd=>Q (ya m d) d) ⟨⟩:=rfl
def QV:cp m (.str x) m' (.int a) Q = ∃ c,e8 x.cps.toList a=some c/\Q .sh (.str ⟨#[c]⟩):=rfl
def Pu:cp m (.dK ag) m' d Q = ∃ k d',d.key1=some k/\mM ag k=some d'/\b9 d' (f:=λd'=>Q (ya m d') d') ⟨⟩:=rfl
def Nj:i6 m (.str x) Q=Q .sh (.int x.length):=rfl
def Nk:i6 m (.list xs) Q=Q .sh (.int xs.length):=rfl
def NK:i6 m (.tup xs) Q=Q .sh (.int xs.length):=rfl
def Ou:i6 m (.dK ag) Q=Q .sh (.int ag.length):=rfl
def Oj:i6 m (.dT kts) Q=Q .sh (.int kts.length):=rfl
def Q5{T:String}:zo T m d Q=Q .sh (.bl (OW d.ty T)):=rfl
def Lz:xK m (.list xs) Q=((dn xs=true/\Q (.ow true) (.list xs))\/(m=.sh/\Q (.ow false) (.list xs))):=rfl
def La:xK m (.tup xs) Q=((dn xs=true/\Q (.ow true) (.list xs))\/(m=.sh/\Q (.ow false) (.list xs))):=rfl
def kB':EZ te tl th ρ Q=te ρ λm x=>tl ρ λlo=>th ρ λhi=>Sr m x lo hi Q:=rfl
def Kc:dM ρ O=O none:=rfl
def int'(d:D)(k:Int->Prop):Prop:=match d with
 |.int i=>k i
 |_=>False
def Nm:int' (.int a) k=k a:=rfl
def Og:iT te ρ O=te ρ λ_ x=>b9 x (f:=λx=>int' x λi=>O (some i)) ⟨⟩:=by unfold iT b9 int';rfl
def QB{lo hi:Option Int}:Sr m (.str x) lo hi Q=Q .sh (.str (nV x lo hi)):=rfl
def QH{lo hi:Option Int}:Sr m (.list xs) lo hi Q=((dn xs=true/\Q (.ow true) (.list (ox xs lo hi)))\/(m=.sh/\Q (.ow false) (.list (ox xs lo hi)))):=rfl
def Qi{lo hi:Option Int}:Sr m (.tup xs) lo hi Q=(dn xs=true/\¬ (HT.cE xs.length 0 lo=0/\HT.cE xs.length xs.length hi=xs.length)/\Q .sh (.tup (ox xs lo hi))):=rfl
end
-- texts
def MB(d:D)(k:Str->Prop):Prop:=match d with
 |.str x=>k x
 |_=>False
def Oi:MB (.str x) k=k x:=rfl
def tN(d:D)(k:List D->Prop):Prop:=match d with
 |.list x=>k x
 |_=>False
def Ld:tN (.list x) k=k x:=rfl
def Mm:qC to' te ρ Q=to' ρ λ_ x=>b9 x (f:=λx=>MB x λz=>te ρ λ_ y=>b9 y (f:=λy=>tN y λys=>∃ zs,iW ys=some zs/\(zs.map (·.length)).sum+zs.length*z.length<=16777216/\Q .sh (.str (Str.join z zs))) ⟨⟩) ⟨⟩:=by unfold qC b9 MB tN;rfl
-- places
def kC'{P:Bool->D->(Bool->D->Env)->Prop}:qa i ρ P=b9 ρ[i]? (f:=λo=>match o with
 |some (some (.ow fl d))=>P fl d λeA d2=>ρ.set i (some (.ow eA d2))
 |_=>False) ⟨⟩:=rfl
def Sw(o:Option Bool)(k:Bool->Prop):Prop:=match o with
 |some b=>k b
 |none=>False
def Kg:Sw (some b) k=k b:=rfl
def QC:yk p te E ρ=p ρ λfl d up=>b9 d (f:=λd=>tN d λxs=>te ρ λm x=>xs.length<bE/\b9 (ig fl m x) (f:=λo=>Sw o λeA=>E.nx (up eA (.list (xs++[x])))) ⟨⟩) ⟨⟩:=by unfold yk b9 tN Sw;rfl
def Lj:uN ρ Q=Q (.ow true) (.dK []):=rfl
def dct(d y:D)(k1:List (Key × D)->Prop)(k2:List (List Key × D)->List D->Prop):Prop:=match d with
 |.dK ag=>k1 ag
 |.dT ag=>match y with
  |.tup ys=>k2 ag ys
  |_=>False
 |_=>False
def P_:dct (.dK ag) y k1 k2=k1 ag:=rfl
def Oq:Bv p tk tv E ρ=tv ρ λ_ x=>p ρ λfl d up=>tk ρ λ_ y=>x.flat=true/\b9 d (f:=λd=>dct d y (λag=>∃ k,y.key1=some k/\ag.length<bE/\E.nx (up fl (.dK (sA ag k x)))) (λag ys=>∃ ks,gF ys=some ks/\ag.length<bE/\E.nx (up fl (.dT (sA ag ks x))))) ⟨⟩:=by rfl
-- loops
variable {LQ:List D->Prop}
def PB:yi wi g b E ρ=wi ρ λds=>dX g b E ds ρ:=rfl
def Ks:jo te ρ LQ=te ρ λm d=>lM m/\b9 d (f:=λd=>tN d LQ) ⟨⟩:=by unfold jo b9 tN;rfl
def MD(d:D)(k:List D->Prop):Prop:=match d with
 |.tup x=>k x
 |_=>False
def NP:MD (.tup x) k=k x:=rfl
def Ph:zx te ρ LQ=te ρ λm d=>lM m/\b9 d (f:=λd=>MD d LQ) ⟨⟩:=by unfold zx b9 MD;rfl
def Ox:Aq te ρ LQ=te ρ λ_ d=>b9 d (f:=λd=>MB d λz=>LQ (ZL z)) ⟨⟩:=by unfold Aq b9 MB;rfl
def K9:iz te ρ LQ=te ρ λ_ d=>b9 d (f:=λd=>int' d λj=>j<=16777216/\-(2 ^ 62)<=j/\LQ (iV 0 j.toNat)) ⟨⟩:=by unfold iz b9 int';rfl
def KD:uH ta tb ρ LQ=ta ρ λ_ x=>tb ρ λ_ y=>b9 x (f:=λx=>int' x λi=>b9 y (f:=λy=>int' y λj=>j-i<=16777216/\(-(2 ^ 62)<=i/\i<2 ^ 62/\-(2 ^ 62)<=j/\j<2 ^ 62)/\LQ (iV i (j-i).toNat)) ⟨⟩) ⟨⟩:=by unfold uH b9 int';rfl
def Kh:lM .sh=True:=rfl
def Kl:lM (.ow b)=True:=rfl
def gN_:gN i d ρ N=N (ρ.set i (some (.sh d))):=rfl
def gT_:gT n gs d ρ N=b9 d (f:=λd=>MD d λds=>ds.length=n/\gs ds ρ N) ⟨⟩:=by unfold gT b9 MD;rfl
def OJ:tL g gs (d :: ds) ρ N=g d ρ λbt=>gs ds bt N:=rfl
def Qt:Ba [] ρ N=N ρ:=by simp[Ba]
def Nv:jr wi g tt te tn ix ρ Q=wi ρ λds=>gY g tt te ds (vz tn ix ρ) λout=>Q (.ow true) (.list out):=rfl
end
def B{c:Bool}{f:Bool->Prop}{k:Kt f}(h1:c=true->f true)(h2:c=false->f false):b9 c k:=by
 cases c with
 |true=>exact h1 rfl
 |false=>exact h2 rfl
def D{p:Prop}[Decidable p]{f:Bool->Prop}{k:Kt f}(h1:p->f true)(h2:¬ p->f false):b9 (decide p) k :=
 B (λh=>h1 (of_decide_eq_true h)) λh=>h2 (of_decide_eq_false h)
def T{c:Bool}{f:Bool->Prop}{k:Kt f}(h:c=true)(h1:f true):b9 c k:=by subst h;exact h1
def F{c:Bool}{f:Bool->Prop}{k:Kt f}(h:c=false)(h1:f false):b9 c k:=by subst h;exact h1
end L2.Q.R
namespace L2
end L2
namespace L2.Q
section
variable {X:Cx}{K:ay}{e e2:Expr}{te HG:WE}{pos p eP apos:Pos}
def ZT(tk tv:WE):WE:=λρ Q=>tk ρ λ_ x=>tv ρ λ_ y=>∃ k,x.key1=some k/\y.flat=true/\Q (.ow true) (.dK [(k,y)])
def Er(he:QE X K e te)(LM:QE X K e2 HG):QE X K (.Dict [some e] [e2] pos) (ZT te HG):=by
 refine PE.imp (bW' (W3 he LM bT') rfl rfl (by simp) (by simp)) λσ H Qv hx=>hV hx λHs ρ tot Q sr h fin=>λa ha=>?_;have g0:fe Hs H Hs (upd H a (.dK [])):=PK sr.wf ha λ_ z=>nomatch z;refine⟨Hs,ρ,tot,_,sr.grow g0,h,λv H1 aI m x As g1 r1 f1 q1=>⟨aI,ρ,tot,_,(sr.grow g0).grow g1,q1,λu H2 aC n y Bs g2 r2 f2 q2=>?_⟩⟩;obtain⟨k,ek,fy,q2⟩:=q2;have rx:=(r1.grow g2).rep g2.wf;have ex:=rx.key ek;subst ex;have ry:=r2.flat g2.wf fy;have gg:=(g0.trans g1).trans g2;have e2:H2 a=some (.dK []):=g2.all _ _ (g1.all _ _ eJ);have nH:Hs a=none:=sr.wf.sub.free ha;have n2:aC a=none:=g2.oq (g1.oq nH (by rw[eJ];exact λz=>nomatch z)) (by rw[g1.all _ _ eJ];exact λz=>nomatch z);refine⟨e2,[(k,u)],rfl,by simp,?_⟩;have g3:fe Hs H aC (upd H2 a (.dK [(k,u)])):=⟨λb o hb=>by rw[df (sP hb ha)];exact gg.all b o hb,gg.sh,⟨λb o hb=>by rw[df (sP hb n2)];exact gg.wf.sub b o hb,λb vs hb=>by
  by_cases z:b=a
  ·subst z;rw[eJ] at hb;cases hb
  ·rw[df z] at hb;exact gg.wf.iF b vs hb⟩,gg.new⟩
 exact fin (.ref a) _ aC (.ow true) (.dK [(k,y)]) [a] g3 ⟨.dK ⟨by rw[nS];simp,λp hp=>by
  have:p=(k,y):=by simpa using hp
  subst this;exact qY rx ek⟩ eJ (.cons (.sh (λ_=>fy) ry) .nil),by simp⟩ ⟨by simp,λb hb=>by
  obtain rfl:b=a:=by simpa using hb
  exact⟨n2,ha⟩⟩ q2
def wV:W1:=λ_ x Q=>match x with
 |.list xs=>∃ ks b,xs=ks.map n5/\(∀ k∈ks,AV k=b)/\∀ ms:List Key,ms.Perm ks->(ms.Pairwise λa b=>ti b a=false)->Q (.ow true) (.list (ms.map n5))
 |.dK ag=>∃ b,(∀ p∈ag,AV p.1=b)/\∀ ms:List Key,ms.Perm (ag.map (·.1))->(ms.Pairwise λa b=>ti b a=false)->Q (.ow true) (.list (ms.map n5))
 |_=>False
def Ca:He K (uQ K) wV:=by
 intro Hs H m x v As Qd Qv w rx h f;have r1:=rx.rep w
 cases r1 with
 |list z s q =>obtain⟨ks,b,rfl,hb,h⟩:=h;obtain⟨e,ok⟩:=DG q;subst e;exact⟨ks,b,.inl s,hb,λms l pm pw hl=>f.lst w (by rw[dz,pm.length_eq];simpa using z) (ir λk hk=>ok k (pm.mem_iff.mp hk)) (g_ ms) (h ms pm pw) l hl⟩
 |@dK a vs ag kk e q =>
  obtain⟨b,hb,h⟩:=h;have hlen:=q.length;rw[dz] at hlen;have ez:(((ag.map (·.1)).zip vs).map (·.1))=ag.map (·.1):=by rw[VY (by rw[dz];lia)]
  refine⟨ag.map (·.1),b,.inr ⟨_,e,ez.symm⟩,λk hk=>?_,λms l pm pw hl=>?_⟩
  ·obtain⟨p,hp,rfl⟩:=iX.mp hk;exact hb p hp
  ·refine f.lst w (by rw[dz,pm.length_eq,dz];exact kk.1) (ir λk hk=>?_) (g_ ms) (h ms pm pw) l hl;obtain⟨p,hp,rfl⟩:=iX.mp (pm.mem_iff.mp hk);exact kk.2 p hp
 |_=>exact h.elim
def Jr (hc:autoParam (X.calm=true) bv) (hK:autoParam (X.K=K) bv):mn X (.builtin "sorted") (uQ K):=by subst hK;exact vP hc
section
variable {Hs H:Hp}{fl:Bool}
def aB.erase(k:Nat)(r:aB K Hs H fl ds vs As):∃ Bs,Bs.Sublist As/\aB K Hs H fl (ds.eraseIdx k) (vs.eraseIdx k) Bs:=by
 induction ds generalizing vs As k with
 |nil =>obtain⟨rfl,rfl⟩:=r.n0;exact⟨[],List.Sublist.refl _,.nil⟩
 |cons d ds ih =>
  obtain⟨u,us,A,B,rfl,rfl,r,rs⟩:=r.c
  cases k with
  |zero=>exact⟨B,k9 _ _,rs⟩
  |succ k =>obtain⟨C,sb,q⟩:=ih k rs;exact⟨A++C,sb.append_left _,.cons r q⟩
def aB.kF'{ds:List D}{vs:List V}{As:List ae}{k:Nat}{d:D}(r:aB K Hs H fl ds vs As)(e:ds[k]? = some d)(hf:d.flat=true)(w:Wf Hs H):∃ v,vs[k]? = some v/\Rep K Hs d v:=by
 induction ds generalizing vs As k with
 |nil=>simp at e
 |cons x ds ih =>
  obtain⟨u,us,A,B,rfl,rfl,r,rs⟩:=r.c
  cases k with
  |zero =>simp at e;subst e;exact⟨_,rfl,(r.rep w.sub λ_ _=>rfl).dN w.iF hf⟩
  |succ k=>exact ih (k:=k) rs (by simpa using e)
end
def Vc(i:Nat)(p:WP):WS:=λE ρ=>p ρ λfl d up=>match d with
 |.list xs=>∃ y,xs[xs.length-1]? = some y/\y.flat=true/\E.nx ((up fl (.list xs.dropLast)).set i (some (.sh y)))
 |_=>False
def pH{α:Type}(xs:List α):xs.eraseIdx (xs.length-1)=xs.dropLast:=by rw[List.dropLast_eq_take,List.eraseIdx_eq_take_drop_succ];rw[List.drop_eq_nil_of_le (by lia),kM]
def J1{wp:WP}(i:Nat){x:Str}{pos':Pos}(ho:QP X K e wp)(hK:autoParam (X.K=K) bv) (oI:autoParam (vS e "pop" X.env (b3 e X.env)=b3 e X.env) bv) (hline:autoParam ((apos.endLine == eP.line)=true) bv) (hs:autoParam (lP (.Call (.Attribute e "pop" apos) [] [] eP) (some (.Name x pos')) pos.line X.env=pure false) bv) (hf:X.fn x=true\/X.env.scope.names.lookup x=some .local:=by first|exact .inl rfl|exact .inr rfl|assumption) (hN:X.N.Nodup:=by assumption) (hi:autoParam (X.N[i]? = some x) bv) (hx:Loc X.env.scope x:=by first|exact .inl rfl|exact .inr rfl) :
  QS X K L (.Assign [.Name x pos'] (.Call (.Attribute e "pop" apos) [] [] eP) pos) (Vc i wp):=by
 refine PS.imp (Kj hN hi hx (bK' PySem.F.plainAttrs_list PySem.F.slot_list_pop PySem.F.type_list_pop bM' ho oI hline) hs hf) λD σ H hx=>bR hx λHs ρ tot E sr h k1 k2 k3 k4=>?_;refine⟨Hs,ρ,tot,_,sr,h,λv H1 aI fl d up g1 p1 q1=>?_⟩
 cases d with
 |list xs =>
  obtain⟨y,ey,fy,q1⟩:=q1;obtain⟨a,vs,A,ea,e2,_,rs,nd,hn,k⟩:=p1.put (fe.refl g1.wf);subst ea;obtain⟨nA,My⟩:=rX.mp nd;obtain⟨u,eu,ru⟩:=rs.kF' ey fy g1.wf;obtain⟨B,sb,rb⟩:=rs.erase (xs.length-1);have hl:=rs.length;rw[pH] at rb;rw[hl,pH] at rb;rw[hl] at eu;refine⟨.inl ⟨rfl,_,.inl (.inl e2)⟩,a,vs,u,rfl,rfl,e2,eu,?_⟩;have hz:vs.dropLast.length<=bE:=by
   rcases p1.ex with⟨gy,r,ne,_⟩
   cases r with
   |sh _ _=>exact absurd rfl ne
   |list hz e3 _=>rw[e2] at e3;cases e3;rw[To];lia
  obtain⟨eL,fP⟩:=k fl _ _ B id rb hz (sb.nodup My) (λz=>nA (sb.subset z)) (λx hx=>.inl (sb.subset hx));obtain⟨ZK,_,HC⟩:=fP.zX i ru;exact k1 _ _ aI _ ZK g1.sh HC q1
 |_=>exact q1.elim
end
abbrev WIL:=Env->(List D->Prop)->Prop
section
variable {X:Cx}{K:ay}
def vy(i:Nat)(hi:L8 X K tg iter wi)(hg:∀ {C fp gp iL} {q:(tn++cn).Nodup},QG (aX X scope C (tn++cn) fp gp iL) K tg g) (xS:∀ {C fp gp iL},U7 (aX X scope C (tn++cn) fp gp iL) K ifs tc) (he:∀ {C fp gp iL},QE (aX X scope C (tn++cn) fp gp iL) K elt te)(R5:autoParam (lP (.ListComp elt [⟨tg,iter,ifs,0⟩] scope pos) (some (.Name x pos')) OV.line X.env=pure true) bv) (hs:∀ x,DU iter X.env x=pure x:=by intro _;rfl) (hf:X.fn x=true\/X.env.scope.names.lookup x=some .local:=by first|exact .inl rfl|exact .inr rfl|assumption) (hN:X.N.Nodup:=by assumption) (BG:autoParam (X.N[i]? = some x) bv) (hx:Loc X.env.scope x:=by first|exact .inl rfl|exact .inr rfl) (nd:(tn++cn).Nodup:=by decide +kernel) (O:cN X scope tn cn ix:=by exact cN.by (by assumption) (by decide +kernel)) (hc:autoParam (X.calm=true) bv) :
  QS X K L (.Assign [.Name x pos'] (.ListComp elt [⟨tg,iter,ifs,0⟩] scope pos) OV) (eS i (jr wi g tc te tn.length ix)) :=
 PS.imp (mQ hN BG hx hc hi O (λ_ _ _ _=>hg (q:=nd)) (λ_ _ _ _=>xS) (λ_ _ _ _=>he) R5 hs hf) λD σ H hx=>bR hx λHs ρ tot E sr h k1 k2 k3 k4=>by
  refine pJ ⟨Hs,ρ,tot,_,sr,h,λv H1 aI m d As g1 r1 f1 q1=>?_⟩
  cases e:asg m d with
  |none=>rw[e] at q1;exact q1.elim
  |some sl =>rw[e] at q1;obtain⟨cf,s'⟩:=(sr.grow g1).set i r1 f1.1 (λa ha=>⟨(f1.2 a ha).1,λm=>(sr.sr.own a m).ne (f1.2 a ha).2⟩) e;exact k1 _ H1 aI _ cf g1.sh s' q1
end
end L2.Q
namespace L2.Q.R
section
variable {E:dH}{ρ:Env}{Q:Md->L2.Q.D->Prop}{te tk:WE}{i:Nat}{d:L2.Q.D}{p:WP}{LQ:List L2.Q.D->Prop}
def kG':ZT tk te ρ Q=tk ρ λ_ x=>te ρ λ_ y=>∃ k,x.key1=some k/\y.flat=true/\Q (.ow true) (.dK [(k,y)]):=rfl
def QZ:Vc i p E ρ=p ρ λfl d up=>b9 d (f:=λd=>tN d λxs=>∃ y,xs[xs.length-1]? = some y/\y.flat=true/\b9 y (f:=λy=>E.nx ((up fl (.list xs.dropLast)).set i (some (.sh y)))) ⟨⟩) ⟨⟩:=by unfold Vc b9 tN;rfl
def Mx:uq te ρ LQ=te ρ λ_ d=>b9 d (f:=λd=>tN d λxs=>LQ (nM xs)) ⟨⟩:=by unfold uq b9 tN;rfl
def MK:qg te ρ LQ=te ρ λ_ d=>b9 d (f:=λd=>tN d LQ) ⟨⟩:=by unfold qg b9 tN;rfl
def Nh:xJ te ρ LQ=te ρ λ_ d=>b9 d (f:=λd=>MD d LQ) ⟨⟩:=by unfold xJ b9 MD;rfl
end
end L2.Q.R
namespace L2
open Builtin Builtin.Str Builtin.Int
section
variable {prog:cq}{w:cS}{A:ft}{E:ah->aE->Prop}{s:aE}{x:Str}{n:Int}{t u:Tok}
def rO(bG:MulOk x n)(h:∀ t' k,Q (.str (Txt.mul x n) t') { s with toks:=k }):b6 (bq prog w) A (oz .Mult (.int n u) (.str x t)) Q E s:=by
 refine lm_binaryOp_repeat_right (by decide) (λs'=>typeIs_int s' n u) (DZ s x t) F.fills_int_mul noFill_str_mul F.slot_int_mul lm_noRepeat_int repeat_str F.slot_int_index.lookup (call_gives F.slot_int_mul (typeIs_int s n u) F.entry_int_mul (F.args_int_mul_2 _ _) (AutoIntG3.int___mul___int_str_0 n u x t) ⟨rfl,DZ _ x t,call_gives F.slot_str_mul (DZ _ x t) F.entry_str_mul (F.args_str_mul_2 _ _) (gives_str_mul x n t u bG.1 bG.2.1 bG.2.2) ?_⟩)
 unfold Txt.mul at h;by_cases h1:n<1
 ·rw[if_pos h1];have h':=h s.toks (s.toks+1);rw[if_pos h1] at h';exact⟨by decide,h'⟩
 ·rw[if_neg h1];refine post_val_or_made (λhc=>fits_reps (bG.2.2 h1 (by simpa using hc))) λt' k=>?_;have h':=h t' k;rw[if_neg h1] at h';exact h'
end
def yn(n:Int)(z:Str):Str:=⟨(List.replicate n.toNat z.cps.toList).flatten.toArray⟩
theorem mK(xs:Array Nat):∀ (k:Nat) (acc:Array Nat),(List.replicate k xs).foldl (· ++ ·) acc=acc++(List.replicate k xs.toList).flatten.toArray
 |0,acc=>by simp
 |k+1,acc=>by rw[B9,NJ,mK xs k,B9,An];apply Array.ext';simp
def Hl(h:1<=n):Txt.mul z n=yn n z:=by
 unfold Txt.mul yn;rw[if_neg (by lia)];by_cases h1:n=1
 ·subst h1;simp
 ·by_cases h0:z.length=0
  ·have hz:z.cps = #[]:=Rm h0;rw[if_pos (by simp[h0])];obtain⟨c⟩:=z;cases hz;simp
  ·rw[if_neg (by simp[h1,h0]),mK];simp
def GD:R2:=λx y H Q=>match x,y with
 |.int n,.str z=>(1<=n/\n<=100/\z.length<=100)/\Q (.str (yn n z)) H
 |_,_=>False
section
variable {X:Cx}
def DX:d5 X (oz .Mult) GD:=by
 intro pins s σ H x y v u Q I rx ry h;unfold GD at h;split at h
 ·rename_i n z;obtain⟨⟨h1,h2,h3⟩,q⟩:=h;obtain⟨t,rfl⟩:=rx;obtain⟨t',rfl⟩:=ry;refine rO ⟨?_,λ_ _=>?_,λ_ _=>?_⟩ λt' k=>⟨.str (yn n z),H,I.tok _,⟨_,by rw[Hl h1]⟩,q⟩
  ·have a1:¬ n < -(2 ^ 63:Int):=by lia
   have a2:¬ n >= 2 ^ 63:=by lia
   rw[decide_eq_false a1,decide_eq_false a2];rfl
  ·have:(2 ^ 63-1:Int) / 100<=(2 ^ 63-1) / n:=by apply Int.le_ediv_of_mul_le (by lia);lia
   lia
  ·have:z.length*n.toNat<=100*100:=Ri h3 (by lia);have hs:=nS;simp only[tooLong,decide_eq_false_iff_not];lia
 ·exact h.elim
end
end L2
namespace L2
end L2
namespace L2.Q
section
variable {X:Cx}{K:ay}{e a b:Expr}{ta tb:WE}{p pos:Pos}{x:Str}{id:String}
def Sx:W1:=λ_ x Q=>match x with
 |.list xs=>∃ bs:List Bool,xs=bs.map D.bl/\Q .sh (.bl (bs.all (λb=>b)))
 |_=>False
def Jl{H:Hp}{bs:List Bool}{vs:List V}(r:bS K H (bs.map D.bl) vs):vs=bs.map V.bl:=by
 induction bs generalizing vs with
 |nil=>exact r.n0
 |cons b bs ih =>obtain⟨u,us,rfl,r1,rs⟩:=bS.c r;cases r1;rw[ih rs];rfl
def yE:He K (UI K) Sx:=by
 intro Hs H m x v As Qd Qv w rx h f;have r1:=rx.rep w
 cases r1 with
 |list z s q =>obtain⟨bs,rfl,h⟩:=h;cases Jl q;exact⟨bs,s,f.sh w (.bl _) h⟩
 |_=>exact h.elim
def mR:W1:=λ_ x Q=>match x with
 |.list xs=>dn xs=true/\Q .sh (.tup xs)
 |_=>False
def jH:He K (λxs H Q=>∃ p ys,xs=[.ref p]/\((e7 K H p ys/\∀ l,H l=none->Q (.ref l) (upd H l (.tup ys)))\/(kU K H p ys/\Q (.ref p) H))) mR:=by
 intro Hs H m x v As Qd Qv w rx h f;have r1:=rx.rep w
 cases r1 with
 |list z s q =>have hl:=q.length;exact⟨_,_,rfl,.inl ⟨s,f.tup w (by lia) q h.1 h.2⟩⟩
 |_=>exact h.elim
def uv (hK:autoParam (X.K=K) bv):mn X (.type "tuple") (λxs H Q=>∃ p ys,xs=[.ref p]/\((e7 K H p ys/\∀ l,H l=none->Q (.ref l) (upd H l (.tup ys)))\/(kU K H p ys/\Q (.ref p) H))):=by subst hK;exact hM'
def uM(n:Int)(z:Str):(yn n z).length=n.toNat*z.length:=by unfold yn Str.length;rw[kB,len_rep,Bi]
def B_:W2:=λ_ x _ y Q=>match x,y with
 |.int n,.str z=>(1<=n/\n<=100/\z.length<=100)/\Q .sh (.str (yn n z))
 |_,_=>False
def EY:k7 K GD B_:=by
 intro Hs H m x v As n y u Bs Qd Qv w rx ry h f;have r1:=rx.rep w;have r2:=ry.rep w
 cases r1 with
 |int i=>cases r2 with
  |str hz =>refine⟨h.1,yg f w ?_ h.2⟩;obtain⟨⟨h1,h2,h3⟩,_⟩:=h;rw[uM,nS];have:=Ri (show i.toNat<=100 by lia) h3;lia
  |_=>exact h.elim
 |_=>cases r2<;>exact h.elim
def I_(ha:QE X K a ta)(hb:QE X K b tb):QE X K (.BinOp a .Mult b pos) (ax B_ ta tb):=L4 DX EY ha hb
def uO:nL "min" = some (.builtin "min"):=by decide +kernel
def El:R2:=λx y H Q=>match x,y with
 |.int i,.int j=>Q (.int (if j<i then j else i)) H
 |_,_=>False
def sE:W2:=λ_ x _ y Q=>match x,y with
 |.int i,.int j=>Q .sh (.int (if j<i then j else i))
 |_,_=>False
def nU:k7 K El sE:=by
 intro Hs H m x v As n y u Bs Qd Qv w rx ry h f;have r1:=rx.rep w;have r2:=ry.rep w
 cases r1 with
 |int i=>cases r2 with
  |int j=>exact f.sh w (.int _) h
  |_=>exact h.elim
 |_=>cases r2<;>exact h.elim
def n6(hc:mn X (.builtin id) λxs H Q=>∃ x y,xs=[x,y]/\r x y H Q)(br:k7 K r f)(hm:X.mg x=none)(hv:nL x=some (.builtin id))(ha:QE X K a ta)(hb:QE X K b tb)(hs:autoParam (aT [a,b] X.env=(false,b3 a X.env) :: aT [b] X.env) bv) (ny:autoParam (aT [b] X.env=(false,b3 b X.env) :: aT [] X.env) bv) (hn:x ≠ "__name__" := by decide) (ip:(x == ("__debug__" : Str))=false:=by decide) (hU:autoParam ((gV pos (aT [b] X.env)).any (·.1)=false) bv) (hg:autoParam (Gl X x) bv):QE X K (.Call (.Name x p) [a,b] [] pos) (ax f ta tb):=by
 refine PE.imp (OI hc hg hm hv (i3 ha (i3 hb ly ny) hs) hn ip hs hU) λσ H Qv h=>?_;obtain⟨Hs,ρ,tot,Q,sr,h,fin⟩:=jL br σ H Qv h;exact⟨Hs,ρ,tot,Q,sr,h,λv H1 aI m x As g1 r1 f1 q1=>by
  obtain⟨aC,fo,eL,Q2,fP,h2,fin2⟩:=fin v H1 aI m x As g1 r1 f1 q1;exact⟨aC,fo,eL,Q2,fP,h2,λu H2 gv n y Bs g2 r2 f2 q2=>⟨v,u,rfl,fin2 u H2 gv n y Bs g2 r2 f2 q2⟩⟩⟩
def tO (hc:autoParam (X.calm=true) bv):mn X (.builtin "min") λxs H Q=>∃ x y,xs=[x,y]/\El x y H Q:=λpins s σ H xs us Q I r dA=>by
 obtain⟨x,y,e,q⟩:=dA;subst e;unfold El at q;split at q
 ·exact gq' hc pins s σ H _ us Q I r ⟨_,_,rfl,q⟩
 ·exact q.elim
end
end L2.Q
namespace L2.Q.R
section
variable {Q:Md->L2.Q.D->Prop}{m m':Md}{xs:List L2.Q.D}{a b:Int}{x:Str}
def QJ:Sx m (.list xs) Q = ∃ bs:List Bool,xs=bs.map L2.Q.D.bl/\Q .sh (.bl (bs.all (λb=>b))):=rfl
def K6:mR m (.list xs) Q=(dn xs=true/\Q .sh (.tup xs)):=rfl
def Pb:B_ m (.int a) m' (.str x) Q=((1<=a/\a<=100/\x.length<=100)/\Q .sh (.str (yn a x))):=rfl
def O3:sE m (.int a) m' (.int b) Q=Q .sh (.int (if b<a then b else a)):=rfl
end
end L2.Q.R
namespace L2.Q
theorem pG(O:Nat->List D->Prop)(Iv:Env->Prop):∀ (xs:List D) (i:Nat) (pre:List D) (ρ:Env) (k:List D->Prop),Iv ρ->O i pre -> (∀ j x,xs[j]? = some x->∀ ρ,Iv ρ->∀ out,O (i+j) out->∀ N1:Env->Prop,∀ N2:Env->D->Prop,(∀ bt d,Iv bt->O (i+j+1) (out++[d])->N2 bt d)->g x ρ λi7=>tc i7 λb=>if b=true then te i7 λm d=>U6 m d/\N2 i7 d else N1 i7) -> (∀ out,O (i+xs.length) (pre++out)->k out)->gY g tc te xs ρ k
 |[],i,pre,_,k,_,h0,_,h=>h [] (by simpa using h0)
 |x :: xs,i,pre,ρ,k,iv,h0,hs,h=>by
  refine hs 0 x rfl ρ iv pre h0 _ _ (λbt d E4 o'=>?_);refine pG O Iv xs (i+1) (pre++[d]) bt _ E4 o' (λj y hy ρ iv out ho=>?_) λout ho=>?_
  ·have:=hs (j+1) y (by simpa using hy) ρ iv out (by rwa[show i+(j+1)=i+1+j by lia]);rwa[show i+(j+1)+1=i+1+j+1 by lia] at this
  ·refine h (d :: out) ?_;rw[pE] at ho;rwa[jv,show i+(xs.length+1)=i+1+xs.length by lia]
end L2.Q
end
namespace TS
open PySem PySem.SetTable
def Up(xs:Array Nat):Prop:=∀ i j:Nat,i<j->j<xs.size->xs.getD i 0<xs.getD j 0
def RJ{α:Type}(xs:Array α){p:Nat}(x:α)(h:p<=xs.size)(i:Nat):(insertAt xs p x)[i]? = if i<p then xs[i]? else if i=p then some x else xs[i-1]? := by
 unfold insertAt;have hs:((xs.extract 0 p).push x).size=p+1:=by simp;exact Nat.min_eq_left ‹_›
 by_cases h1:i<p
 ·rw[if_pos h1,Array.getElem?_append_left (by lia),Array.getElem?_push,if_neg (by simp;lia),TR];rw[if_pos (by lia)];simp
 ·rw[if_neg h1];by_cases h2:i=p
  ·rw[if_pos h2,Array.getElem?_append_left (by lia),Array.getElem?_push,if_pos (by simp;lia)]
  ·rw[if_neg h2,Array.getElem?_append_right (by lia),hs,TR];by_cases h3:i-(p+1)<min xs.size xs.size-p
   ·rw[if_pos h3];congr 1;lia
   ·rw[if_neg h3,TQ (by lia)]
local macro_rules | `(tactic| walk_at $s:str) => do
 let x:=s.getString
 if x.startsWith "PV" then `(tactic| exact $(Lean.mkIdent (.str (.str (.num (.str (.str (.str .anonymous "_private") "PySem") "SetOps") 0) "PySem") (x.drop 2).toString)))
 else Lean.Macro.throwUnsupported
end TS
namespace TS
open PySem PySem.SetTable PyProof.Rows
end TS
namespace GO
open PySem PyProof.Rows
end GO
namespace TS
open PySem PySem.SetTable PyProof.Rows
end TS
section
open PySem PySem.Spec PyProof.Rows
namespace L2
end L2
end
namespace TS
open PySem PySem.SetTable PyProof.Rows
end TS
section
open PySem PySem.Spec PyProof.Rows
namespace L2
end L2
namespace L2.Q
end L2.Q
namespace L2.Q.R
end L2.Q.R
namespace L2
section
def Vals.rev(h:Vals xs vs):Vals xs.reverse vs.reverse:=by
 induction xs generalizing vs with
 |nil=>rw[Paired.n0 h];exact .nil
 |cons x xs ih =>obtain⟨v,vs,rfl,r,rs⟩:=Paired.c h;rw[FH,FH];exact Vals.append (ih rs) (.cons r .nil)
end
end L2
namespace L2.Q
section
variable {K:ay}
def bS.rev(r:bS K H ds vs):bS K H ds.reverse vs.reverse:=by
 induction ds generalizing vs with
 |nil=>rw[r.n0];exact .nil
 |cons d ds ih =>obtain⟨u,us,rfl,r,rs⟩:=r.c;rw[FH,FH];exact(ih rs).append (.cons r .nil)
end
end L2.Q
namespace L2.Q.R
end L2.Q.R
namespace L2.Q
open PySem.W
abbrev dp':List ah:=[.type "ValueError",.type "Exception",.type "BaseException",.type "object"]
structure oy(K:ay)(C:ae):Prop where
 ex:excIn K C dp' "ValueError.__new__" = true
 gx:findIn K (.ref C) "__getattr__" = some none
 ga:findIn K (.ref C) "__getattribute__" = some (some (.builtin "BaseException.__getattribute__"))
 cl:findIn K (.ref C) "__class__" = some (some (.builtin "object.__class__"))
 ob:mroIn K C (.type "object")=some true
def oy.obj{K:ay}(x:oy K C)(X:K.In h):∃ bm N nm q bs hdct sn sub ab col dd k0 k1 k2 k3 k5 mN,
  h.get? C=some (excClassObj nm q C N bs bm hdct sn sub ab col dd k0 k1 k2 k3 k5 "ValueError.__new__")/\h.Ns N mN/\mN "__init__" = none/\OwnTail h dp' bm:=by
 have q:=x.ex;unfold excIn at q;split at q
 ·rename_i dd cd sl ho;split at q
  ·rename_i C' bm k0 k1 k2 k3 n k5 hm hs;simp only[nv,beq_iff_eq,V3] at q;obtain⟨⟨⟨⟨⟨e1,e2⟩,kH'⟩,ht⟩,bG⟩,HK⟩:=q;cases e1;cases e2;cases cd;cases hm;cases kH';have hsl:sl = #[k0,k1,k2,k3,some (.builtin "ValueError.__new__"),k5]:=by cases sl;dsimp only at hs;rw[hs]
   cases hsl;exact⟨bm,_,_,_,_,_,_,_,_,_,dd,k0,k1,k2,k3,k5,_,X _ _ ho,.of_isNs (isNs_of_in X bG),nsMap_none_of_in X bG HK,tail_of_in X ht⟩
  ·cases q
 ·cases q
section
variable {prog:cq}{w:cS}{A:ft}{E:ah->aE->Prop}{h:dk}{g:Array GenState}{d:Drawn}{t:Nat}{os:OsState}{a C:ae}{o:Obj}{K:ay}
def zN{R:Result->aE->Prop}(x:oy K C)(X:K.In h)(hx:h.get? a=some o)(hc:o.cls=.ref C)(hq:R (.ok (.ret (.ref C))) ⟨h,g,d,t,os⟩) :
  codeAny (bq prog w) A (.call (.builtin "getset_descriptor.__get__") ⟨[.builtin "object.__class__",.ref a,.ref C],[]⟩) R ⟨h,g,d,t,os⟩:=by
 obtain⟨bm,N,nm,q,bs,hdct,sn,sub,ab,col,dd,k0,k1,k2,k3,k5,mN,hC,hN,HK,T⟩:=x.obj X;have hT5:(⟨h,g,d,t,os⟩:aE).TypeIs (.builtin "object.__class__") "getset_descriptor" := F.typeOf_object_class;have Sy:(Value.ref C :: bm).contains (.type (".".intercalate ("object.__class__".cutAt '.').dropLast))=true:=by rw[F.owner_object_class,VS,T.hasType rfl];rfl
 refine codeAny_call_builtin F.slot_gs_get.plain F.entry_gs_get (F.slot_gs_get.check _ _ _ _ _ _ _ _ hT5 (F.args_gs_get _ _ _) ?_);repeat (any_goals (first|assumption|(with_reducible refine II hx ?_;rw[hc])|(with_reducible refine wpAny_isSubtype_exc hC ?_;rw[Sy])|wp_step))
 refine⟨Code.quiet_builtin _ (by decide +kernel),codeAny_builtin F.entry_object_class ?_⟩;repeat (any_goals (first|assumption|(with_reducible refine II hx ?_;rw[hc])|wp_step))
def vA(x:oy K C)(X:K.In h)(hx:h.get? a=some o)(hc:o.cls=.ref C)(hq:Q (.done (.ret (.ref C))) ⟨h,g,d,t,os⟩) :
  b6 (bq prog w) A (Builtin.«object.__getattribute__» ⟨[.ref a,.str "__class__" tk],[]⟩) Q E ⟨h,g,d,t,os⟩:=by
 have f5:=F.typeOf_object_class;have f6:=F.slot_gs_get.lookup;have f7:=F.slot_gs_set.lookup;have Lk:=looks_findIn (M:=bq prog w) X x.cl;repeat (any_goals (first|assumption|(with_reducible refine II hx ?_;rw[hc])|with_reducible refine Lk.at ?_|wp_step))
 refine zN x X hx hc ?_;repeat (any_goals (first|assumption|wp_step))
def Ex(x:oy K C)(X:K.In h)(hx:h.get? a=some o)(hc:o.cls=.ref C)(hq:Q (.ref C) ⟨h,g,d,t,os⟩) :
  b6 (bq prog w) A (getAttrBy (.ref a) (.str "__class__" tk) false) Q E ⟨h,g,d,t,os⟩:=by
 have f3:=F.attr_ValueError.ga.bind (.ref a);have Lk:=looks_findIn (M:=bq prog w) X x.ga;have Lg:=looks_findIn (M:=bq prog w) X x.gx;repeat (any_goals (first|assumption|(with_reducible refine II hx ?_;rw[hc])|with_reducible refine Lk.at ?_|with_reducible refine Lg.at ?_|wp_step))
 obtain⟨bm,N,nm,q,bs,hdct,sn,sub,ab,col,dd,k0,k1,k2,k3,k5,mN,hC,hN,HK,T⟩:=x.obj X;have hk:builtinKind "BaseException.__getattribute__" = some .slot:=by decide +kernel
 have hsplit:splitId "BaseException.__getattribute__" = some ("BaseException", "__getattribute__"):=by decide +kernel
 have Sy:(Value.ref C :: bm).contains (.type "BaseException")=true:=by rw[VS,T.hasType rfl];rfl
 have chk:∀ {Q':Unit->aE->Prop} {E':ah->aE->Prop} {A':ft},Q' () ⟨h,g,d,t,os⟩->b6 (bq prog w) A' (checkBuiltinCall "BaseException.__getattribute__" ⟨[.ref a,.str "__class__" tk],[]⟩) Q' E' ⟨h,g,d,t,os⟩:=λ{Q' E' A'} KW=>by
  have ha:=F.args_bexc_ga (.ref a) (.str "__class__" tk);simp only[checkBuiltinCall,hk,hsplit];refine bT ?_;unfold isInstance;repeat (first|(with_reducible refine II hx ?_;rw[hc])|(with_reducible refine wpAny_isSubtype_exc hC ?_;rw[Sy])|wp_step)
  exact KW
 refine codeAny_call_builtin F.attr_ValueError.ga.plain F.entry_bexc_ga (chk (vA x X hx hc ?_));repeat (any_goals (first|assumption|wp_step))
def yM (x:oy K C) (X:K.In h) (hx:h.get? a=some o) (hc:o.cls=.ref C) (hq:Q (some (.ref C)) ⟨h,g,d,t+1,os⟩):b6 (bq prog w) A (getAttr? (.ref a) "__class__") Q E ⟨h,g,d,t,os⟩:=by
 repeat (any_goals (first|assumption|with_reducible apply Ex x X hx hc|wp_step))
end
def XAt(a C:ae)(h:dk):Prop:=∃ o,h.get? a=some o/\o.cls=.ref C
def oy.kK'{K:ay}(x:oy K C)(X:K.In h):Looks M h (isType (.ref C)) true:=by obtain⟨bm,N,nm,q,bs,hdct,sn,sub,ab,col,dd,k0,k1,k2,k3,k5,mN,hC,hN,HK,T⟩:=x.obj X;intro A' Q' E' s' k q;exact bT (wpAny_loadPart (k _ _ hC) (dv q))
def sO{K:ay}(x:oy K C):KitX K (.ref a) (.ref C) (XAt a C) where
 ty:=λM h X p=>by obtain⟨o,h1,h2⟩:=p;exact h2 ▸ (Looks.ld h1).andThen .now
 it:=λM h X p=>x.kK' X
 ne:=λh tp dd its n sl X htp=>by obtain⟨bm,N,nm,q,bs,hdct,sn,sub,ab,col,dd,k0,k1,k2,k3,k5,mN,hC,hN,HK,T⟩:=x.obj X;refine Bool.eq_false_iff.mpr λq=>?_;have e:C=tp:=Value.ref.inj (beq_iff_eq.mp q);subst e;have z:=congrArg (λo=>o.map (·.data)) (hC.symm.trans htp);cases z
 ca:=λ{prog w A E Q s} X p k=>by obtain⟨h,g,d,t,os⟩:=s;obtain⟨o,h1,h2⟩:=p;exact yM x X h1 h2 k
def rC{K:ay}{a C R:ae}{os:OsState}(x:oy K C)(r:oy K R)(sub:mroIn K C (.ref R)=some true)(X:K.In h)(p:XAt a C h)(hq:Q true ⟨h,g,d,t,os⟩):b6 M A (excMatches (.ref a) (.ref R)) Q E ⟨h,g,d,t,os⟩:=by
 obtain⟨bm,N,nm,q,bs,hdct,sn,qB',ab,col,dd,k0,k1,k2,k3,k5,mN,hC,hN,HK,T⟩:=r.obj X;obtain⟨oe,he,Wd⟩:=p;have Sy:(Value.ref R :: bm).contains (.type "BaseException")=true:=by rw[VS,T.hasType rfl];rfl
 have f:=tc_notTuple;have Lk:=looks_mroIn (M:=M) X sub;repeat (first|(with_reducible refine II he ?_;rw[Wd])|with_reducible refine II hC ?_|(with_reducible refine wpAny_isSubtype_exc hC ?_;rw[Sy])|with_reducible refine Lk.at ?_|wp_step)
 exact hq
theorem FunFrames.rebase{h base B:dk}:∀ {l:List PySem.Env},h.FunFrames base l->(∀ b∈g9 l,B.get? b=none)->h.FunFrames B l
 |[],_,_=>trivial
 |env :: rest,⟨hk,⟨L,o,hf,hn,ho,hd⟩,hr⟩,hB=>⟨hk,⟨L,o,hf,hB L (by unfold g9;rw[FG,hf];exact fA),ho,hd⟩,
   FunFrames.rebase hr λb hb=>hB b (by unfold g9;rw[FG,hf];exact eI _ hb)⟩
def lS.there{P:cq}(x:lS P w H h a o):∃ u,h.get? a=some u:=by
 cases o with
 |lst xs=>obtain⟨_,_,_,_,e⟩:=x;exact⟨_,e⟩
 |tup xs=>obtain⟨_,_,_,_,e,_⟩:=x;exact⟨_,e⟩
 |dK ag=>obtain⟨_,_,_,_,o,_,_,e,_⟩:=x;exact⟨_,e⟩
 |dT ag=>obtain⟨_,_,_,_,o,_,_,e,_⟩:=x;exact⟨_,e⟩
 |set S n=>obtain⟨o,_,_,_,e,_⟩:=x;exact⟨_,e⟩
 |ins C dx fs=>obtain⟨_,_,_,e,_⟩:=x;exact⟨_,e⟩
 |own y=>exact x
 |xd fs=>obtain⟨_,⟨_,_,_,e,_⟩,_⟩:=x;exact⟨_,e⟩
 |TY lo hi=>obtain⟨_,_,_,e⟩:=x;exact⟨_,e⟩
 |qq ob u=>obtain⟨e,_⟩:=x;exact⟨_,e⟩
 |FP ps=>exact⟨_,(x)⟩
 |met f y=>exact⟨_,(x)⟩
 |ext φ=>obtain⟨_,e,_⟩:=x;exact e
def BO(B:dk)(fs:List ae)(H':Hp)(h₀ h:dk):Prop:=∀ b o,h.get? b=some o->(H' b≠none\/h₀.get? b≠none)->b∉fs->B.get? b=some o
def oS(P:cq)(w:cS)(mg:Str->Option ah)(rn:List Str):ED:=λouter H s E e s' =>
 ∃ a n C a0 H' B,e=.ref a/\(n∈rn/\mg n=some (.ref C))/\s'.os=s.os/\AllBare s'.gens/\Un (g9 outer) [] H H' s.heap s'.heap/\ic P w H' s'.heap /\
  Heap.FlyingW B outer a (.ref C) a0 s'.heap/\BO B (g9 outer) H' s.heap s'.heap/\(∀ b∈g9 outer,H' b=none)/\E (.ref C) none H'
structure fZ(fs:List ae)(H':Hp)(h₀ h h':dk):Prop where
 keep:∀ b o,h.get? b=some o->(H' b≠none\/h₀.get? b≠none)->b∉fs->h'.get? b=some o
 slot:∀ b o,h.get? b=some o->b∈fs->∃ sl,h'.get? b=some { o with slots:=sl }
def fZ.of{B:dk}(c:BO B (g9 l) H' h₀ h)(st:B.StaysIn h')(up:h.UpToSlots h')(ff:h.FunFrames base l):fZ (g9 l) H' h₀ h h' :=
 ⟨λb o e k n=>st b o (c b o e k n),λb o e m=>by
  obtain⟨_,o',e',d⟩:=ff.mem m;rw[e] at e';cases e';exact up b o e d⟩
def fZ.un(m:fZ fs H' h₀ h h')(u:Un fs [] H H' h₀ h):Un fs [] H H' h₀ h' where
 keep:=λb o e n nb nx=>m.keep b o (u.keep b o e n nb nx) (.inr (by rw[e];exact λz=>nomatch z)) nb
 slot:=λb o e n hb nx=>by obtain⟨_,e1⟩:=u.slot b o e n hb nx;obtain⟨sl,e2⟩:=m.slot b _ e1 hb;exact⟨sl,e2⟩
 free:=u.free
 there:=λb o e nx=>by
  obtain⟨o',e1⟩:=u.there b o e nx;by_cases hb:b∈fs
  ·obtain⟨sl,e2⟩:=m.slot b o' e1 hb;exact⟨_,e2⟩
  ·exact⟨o',m.keep b o' e1 (.inr (by rw[e];exact λz=>nomatch z)) hb⟩
 iF:=u.iF
 xC:=u.xC
 yT:=u.yT
def fZ.bG{P:cq}(m:fZ fs H' h₀ h h')(f:∀ b∈fs,H' b=none)(x:ic P w H' h):ic P w H' h':=λa o e =>
 (x a o e).fS (λb u hb q=>by
  have hH:H' b≠none:=by
   rcases hb with z|z
   ·rw[z,e];exact λz=>nomatch z
   ·rw[z];exact λz=>nomatch z
  exact m.keep b u q (.inl hH) λz=>hH (f b z)) (λ_ q=>q) λ_ _ q=>q
section
variable {X:Cx}{pins:List (ae × Obj)}{σ:St}{H H':Hp}{s:aE}{e:ah}
def BO.up{B h h':dk}(pT:X.stack=X.env :: X.outer)(hf:X.env.frame=some X.env.locals)(hex:X.ex=[])(I:Inv X pins σ H s)(un:Un (g9 X.stack) [] H H' s.heap h)(c:BO B (g9 X.stack) H' s.heap h)(m:fZ (g9 X.stack) H' s.heap h h')(fr:∀ b∈g9 X.stack,H' b=none)(bG:ic X.prog X.w H' h) :
  Un X.fs [] X.D9 H' X.gL.heap h'/\BO B X.fs H' X.gL.heap h':=by
 have hs:∀ b,b∈g9 X.stack↔b=X.env.locals\/b∈X.fs:=λb=>by rw[pT];unfold g9;rw[FG,hf];exact eW
 have Rt:∀ b o,X.gL.heap.get? b=some o->b≠X.env.locals:=λb o e=>kE (qo (gI e) I.ok.above);have P2:∀ b:ae,b∉X.ex:=λb z=>by rw[hex] at z;exact nomatch z
 have m':=m.un un;have th:∀ b o,X.gL.heap.get? b=some o->∃ o',s.heap.get? b=some o':=λb o e=>I.base.there b o e (P2 b);refine⟨⟨λb o e n nb nx=>?_,λb o e n hb nx=>?_,λb o e n nx=>?_,λb o e nx=>?_,λb xs e=>un.iF b xs (I.base.iF b xs e),λb ob u e=>un.xC b ob u (I.base.xC b ob u e),λb ps e=>?_⟩,λb o e k nb=>?_⟩
 ·exact m'.keep b o (I.base.keep b o e n nb (P2 b)) (I.base.free b o e n (P2 b)) (λz=>((hs b).mp z).elim (Rt b o e) nb) (by simp)
 ·obtain⟨_,e1⟩:=I.base.slot b o e n hb (P2 b);obtain⟨sl,e2⟩:=m'.slot b _ e1 (I.base.free b o e n (P2 b)) ((hs b).mpr (.inr hb)) (by simp);exact⟨sl,e2⟩
 ·obtain⟨o',e1⟩:=th b o e;exact un.free b o' e1 (I.base.free b o e n (P2 b)) (by simp)
 ·obtain⟨o',e1⟩:=th b o e;exact m'.there b o' e1 (by simp)
 ·obtain⟨m1,e1⟩:=I.base.yT b ps e;obtain⟨m2,e2⟩:=un.yT b _ e1;exact⟨m1++m2,by rw[e2,Rn]⟩
 ·have key:∀ o',h.get? b=some o'->(H' b≠none\/s.heap.get? b≠none)->b∉g9 X.stack->B.get? b=some o:=λo' e' k' n'=>by have:=m.keep b o' e' k' n';rw[e] at this;cases this;exact c b o e' k' n'
  rcases k with k|k
  ·have nf:b∉g9 X.stack:=λz=>k (fr b z)
   cases q:H' b with
   |none=>exact absurd q k
   |some u =>obtain⟨o',e'⟩:=lS.there (bG b u q);exact key o' e' (.inl k) nf
  ·cases q:X.gL.heap.get? b with
   |none=>exact absurd q k
   |some o0 =>obtain⟨o1,e1⟩:=th b o0 q;obtain⟨o2,e2⟩:=un.there b o1 e1 (by simp);exact key o2 e2 (.inr (by rw[e1];exact λz=>nomatch z)) λz=>((hs b).mp z).elim (Rt b o0 q) nb
end
section
variable {P:cq}{w:cS}{K:ay}{mg:Str->Option ah}{base:dk}{N:List Str}{qual:Str}{scope:Scope}{f:ae}{cd:ah}{A:ft}{outer:List PySem.Env}{gL:aE}{D9:Hp}{E:XK}{rn:List Str}
def zb(hf:env.frame=some L)(h:b∈g9 l):b∈g9 (env :: l):=by unfold g9;rw[FG,hf];exact eI _ h
def nJ:Passes (oS P w mg rn) (mI (oS P w mg rn) P w K mg base N qual scope f cd A outer gL D9 E) E:=by intro pins σ H s e s' I hx;obtain⟨a,n,C,a0,H',B,he,hn,os,bare,un,bG,HL,cov,fr,hE⟩:=hx;subst he;refine wpAny_leaves_onW I.ok.frames rfl HL λh' dt' up=>?_;have mv:=fZ.of cov dt'.1 up HL.2.2.1;obtain⟨u1,c1⟩:=BO.up rfl rfl rfl I un cov mv fr bG;exact⟨a,n,C,a0,H',B,rfl,hn,os.trans I.os,bare,u1,mv.bG fr bG,dt',c1,λb hb=>fr b (zb rfl hb),hE⟩
def rA(X:Cx)(rn:List Str)(E:XK):Prop:=∀ (pins:List (ae × Obj)) (σ:St) (H:Hp) (s:aE) (h':dk) (e:ae) (n:Str) (C:ae) (vs:List ah),Inv X pins σ H s->Heap.MadeExcOf s.heap h' e (.ref C) vs ->
 n∈rn->X.mg n=some (.ref C)->E (.ref C) none H->X.xe (.ref e) { s with heap:=h' }
def gK:rA (mI (oS P w mg rn) P w K mg base N qual scope f cd A outer gL D9 E) rn E:=by
 intro pins σ H s h' e n C vs I hx hn hm hE;have st:=I.stack;have ff:s.heap.FunFrames (hideAll s.heap (g9 (kN qual scope gL.heap.objs.size f cd :: outer))) (kN qual scope gL.heap.objs.size f cd :: outer):=FunFrames.rebase st λb hb=>hideAll_none _ hb;refine wpAny_leaves_madeW (h:=s.heap) I.ok.frames rfl (λb o q=>of_hideAll _ q) ff hx λh'' t HL tup hnt up=>?_;have ff':h'.FunFrames (hideAll s.heap (g9 (kN qual scope gL.heap.objs.size f cd :: outer))) (kN qual scope gL.heap.objs.size f cd :: outer):=ff.of_keeps λb o q _=>⟨o,hx.keeps b o q,rfl⟩
 have bG:ic P w H h':=I.bG.kept hx.keeps;have fr:∀ b∈g9 (kN qual scope gL.heap.objs.size f cd :: outer),H b=none:=I.V_;have cov:BO (hideAll s.heap (g9 (kN qual scope gL.heap.objs.size f cd :: outer))) (g9 (kN qual scope gL.heap.objs.size f cd :: outer)) H s.heap h':=λb o q k nb=>by
  have ho:∃ o1,s.heap.get? b=some o1:=by
   rcases k with k|k
   ·cases z:H b with
    |none=>exact absurd z k
    |some u=>exact lS.there (I.bG b u z)
   ·exact V0.mp k
  obtain⟨o1,e1⟩:=ho;have e2:=hx.keeps b o1 e1;rw[q] at e2;cases e2;exact hideAll_get _ e1 nb
 have mv:fZ (g9 (kN qual scope gL.heap.objs.size f cd :: outer)) H s.heap h' h'':=fZ.of cov HL.1 up ff';obtain⟨u1,c1⟩:=BO.up rfl rfl rfl I (Un.kept hx.keeps) cov mv fr bG;exact⟨e,n,C,_,H,_,rfl,⟨hn,hm⟩,I.os,I.bare,u1,mv.bG fr bG,HL,c1,λb hb=>fr b (zb rfl hb),hE⟩
def K1{X:Cx}:Passes (oS P w mg rn) X E0:=by intro _ _ _ _ _ _ _ hx;obtain⟨_,_,_,_,_,_,_,_,_,_,_,_,_,_,_,h⟩:=hx;exact h.elim
def LX(rn:List Str)(mg:Str->Option ah)(E:XK):Str->Hp->Prop:=λn H'=>n∈rn->∀ C,mg n=some (.ref C)->E (.ref C) none H'
def eO(K:ay)(rn:List Str)(mg:Str->Option ah)(sp:fk):Sp:=λvs H Qv E=>∃ ds Qd,bS K H ds vs/\sp ds Qd /\ (∀ v H' aw m d As,aS H aw->Wf aw H'->RM K aw H' m d v As->As.Nodup->(∀ a∈As,aw a=none)->Qd m d->Qv v H') /\
 ∀ n H',aS H H'->Qd (.ow false) (.str n)->LX rn mg E n H'
def u6(h:eO K rn mg sp vs H Qv E)(hp:∀ ds Q,sp ds Q->t { nx:=λ_=>Q .sh .non,rt:=Q } (aM N.length ds)) :
  y8 K (LX rn mg E) t { nx:=λ_ H'=>Qv .non H',rt:=Qv } (start N vs) H:=by
 obtain⟨ds,Qd,rs,hs,fin,fx⟩:=h;have hl:=rs.length;refine⟨H,aM N.length ds,[],{ nx:=λ_=>Qd .sh .non,rt:=Qd },⟨?_,⟨aS.refl _,λ_ _ e=>e⟩,kT,λa h=>nomatch h⟩,hp ds Qd hs,?_,?_,?_,?_,fx⟩
 ·unfold aM start;rw[hl];exact SR.start rs
 ·exact λb4 H' aw bt cf s sr q=>fin .non H' aw .sh .non [] s sr.wf ⟨rfl,.non⟩ kT (λa h=>nomatch h) q
 ·exact λb4 H' aw bt cf s sr q=>q.elim
 ·exact λb4 H' aw bt cf s sr q=>q.elim
 ·exact λv H' aw m d As s w r nd own q=>fin v H' aw m d As s w r nd own q
def ZU.ok{st:h8}{ps:List Str}(F:oj K x qual st f fd)(S:xI N ps (dS st))(len:∀ ds Q,sp ds Q->ds.length=ps.length)(wc:∀ (dc:ah) (A:ft) (outer:List PySem.Env) (s:aE) (H:Hp) (E:XK),gi k (A.deeper (kN qual (dS st) s.heap.objs.size f dc))->tm (mI (oS P w mg rn) P w K mg base N qual (dS st) f dc A outer s H E) K (LX rn mg E) (lT st) t)(hp:∀ ds Q,sp ds Q->t { nx:=λ_=>Q .sh .non,rt:=Q } (aM N.length ds)):kR P w K mg base (oS P w mg rn) (k+1) f fd ps (eO K rn mg sp):=by
 obtain⟨oc,od,kV,doc,pm,an,dc,ct,AQ,rfl,lk,qA⟩:=F.ex;exact WH lk qA S (λvs H Q E ⟨ds,Qd,rs,hs,_⟩=>by rw[<- rs.length];exact len ds Qd hs) λA outer s H vs Q E hr AR=>⟨_,wc dc A outer s H E hr,u6 AR hp⟩
structure MG(P:cq)(w:cS)(K:ay)(mg:Str->Option ah)(base:dk)(rn:List Str)(k:Nat)(x:Str)(ps:List Str)(sp:fk):Prop where
 ex:∃ (g:ae) (fd:og),mg x=some (.ref g)/\ui K (.ref g)=true/\Binds K fd ps []/\kR P w K mg base (oS P w mg rn) k g fd ps (eO K rn mg sp)
def oj.kN'{st:h8}{ps:List Str}(F:oj K x qual st f fd)(hm:mg x=some (.ref f))(ok:kR P w K mg base (oS P w mg rn) k f fd ps (eO K rn mg sp))(h:∀ (kV doc pm:ah) (an:Option ae) (dc ct:ah) (us:List ah),us.length=ps.length->bindArgs (qh x qual (tf st) (lT st) (dS st) .none kV doc pm an dc ct) ⟨us,[]⟩=pure (ps.zip us)):MG P w K mg base rn k x ps sp:=⟨f,fd,hm,F.kp,F.binds h,ok⟩
end
def Vd(K:ay)(mg:Str->Option ah)(n:Str):Prop:=∃ C,mg n=some (.ref C)/\oy K C
def xi(m:Md)(d:D)(Y:Str->Prop)(N:Prop):Prop:=match m,d with
 |.ow false,.str n=>Y n
 |_,_=>N
def wN{K:ay}(r:RM K Hs H m d v As)(h:xi m d Y N):N:=by
 unfold xi at h;split at h
 ·obtain⟨r,ne⟩:=r;cases r;exact absurd rfl ne
 ·exact h
section
variable {X:Cx}{K:ay}{rn:List Str}{E:XK}{e:Expr}{es:List Expr}{te:WE}{t:WA}{pos:Pos}
def e_(n:Str)(te:WE):WS:=λE ρ=>te ρ λ_ _=>E.rt (.ow false) (.str n)
def Am (hc:X.calm=true) (ok:rA X rn E) (hn:x∈rn) (hm:X.mg x=some (.ref C)) (xc:oy X.K C) (ha:PA X [e] ta) (hg:Gl X x) (ip:(x == ("__debug__" : Str))=false)(he:aT [e] X.env=[(false,b3 e X.env)]):PS X (.Raise (some (.Call (.Name x np) [e] [] eP)) none pos) (λD σ H=>ta σ H λvs H1=>vs.length<=bE/\E (.ref C) none H1):=by
 intro pins s σ H D I h;obtain⟨bm,N,nm,q,bs,hdct,sn,sub,ab,col,dd,k0,k1,k2,k3,k5,mN,hC,hN,HK,T⟩:=xc.obj I.mod.NW;refine wpAny_Raise_call_subT (nm:=nm) (q:=q) (N:=N) (bs:=bs) (hdct:=hdct) (sn:=sn) (sub:=sub) (ab:=ab) (col:=col) (dd:=dd) (k0:=k0) (k1:=k1) (k2:=k2) (k3:=k3) (k5:=k5)
  F.excBase_ValueError (T.hasType F.excBase_ValueError.hasBase) (I.ok.hd hc) (by rw[he];rfl) HK (JY I hg hm ⟨rfl,?_⟩ ip)
 have h2:=ha eP pins s σ H _ I h;rw[he] at h2 ⊢;exact Calls.evalArgs_plain (cv h2 λvs s1 ⟨xs,H1,I1,r,hl,q⟩=>⟨rfl,by rw[<- r.length];exact hl,I1.bk _ _ hC,hN.keeps I1.bk,T.keeps I1.bk,λh' e' hx=>ok pins σ H1 s1 h' e' x C vs I1 hx hn hm q⟩)
def cu (hc:X.calm=true) (ok:rA X rn E) (xc:Vd K X.mg x) (hn:x∈rn) (he:QE X K e te) (hg:autoParam (Gl X x) bv) (ip:(x == ("__debug__" : Str))=false:=by decide) (hK:autoParam (X.K=K) bv) (hs:autoParam (aT [e] X.env=[(false,b3 e X.env)]) bv):QS X K (LX rn X.mg E) (.Raise (some (.Call (.Name x np) [e] [] eP)) none pos) (e_ x te):=by
 subst hK;obtain⟨C,hm,xc⟩:=xc;exact PS.imp (Am hc ok hn hm xc (i3 he ly hs) hg ip hs) λD σ H hx=>cG hx λHs ρ tot E' sr h k1 k2 k3 k4 kx=>⟨Hs,ρ,tot,_,sr,h,λv H1 aI m d As g1 r1 f1 q1=>⟨(by decide:1<=bE),kx x H1 (g1.sh.trans g1.wf.sub) q1 hn C hm⟩⟩
section
variable {k:Nat}{x:Str}{ps:List Str}{sp:fk}{p eP:Pos}
def rP (C:MG X.prog X.w X.K X.mg X.base rn k x ps sp) (hr:gi k X.A) (hx:Passes (oS X.prog X.w X.mg rn) X E) (ha:PA X (e :: es) ta) (hg:Gl X x) (ip:(x == ("__debug__" : Str))=false) (he:aT (e :: es) X.env=(false,b3 e X.env) :: aT es X.env)(hU:(gV pos (aT es X.env)).any (·.1)=false):PE X (.Call (.Name x p) (e :: es) [] pos) (KS (eO X.K rn X.mg sp) [] E ta):=by
 obtain⟨g,fd,hm,hk,hb,F⟩:=C.ex;exact WC F hr hg hm hk hb .nil hx ha ip he hU
def iQ{σ:St}{H:Hp}{Qv:VK}{Hs:Hp}{ρ:Env}{tot:List ae}{Y:Str->Prop}{Q:Md->D->Prop}(sr:dE K Hs ρ σ H tot)(h:t ρ λps=>sp (ps.map (·.2)) λm d=>xi m d Y (b9 (m,d) (f:=λp=>Q (vv p.1 p.2) p.2) ⟨⟩)) (f:∀ v H' aw m d As,fe Hs H aw H'->RM K aw H' m d v As->bM aw H As->Q m d->Qv v H') (fx:∀ n H',aS Hs H'->Y n->LX rn X.mg E n H'):KS (eO K rn X.mg sp) [] E (UY K t) σ H Qv:=by
 refine⟨Hs,ρ,tot,_,sr,h,λvs H1 aI ps As g1 r1 f1 q1=>?_⟩;refine⟨_,_,by rw[kM];exact r1.reps g1.wf,q1,λv H' aw m d As s w r nd own q=>?_,λn H' s q=>fx n H' (g1.sh.trans (g1.wf.sub.trans s)) q⟩;obtain⟨gy,r',fr⟩:=iM g1.wf s w r nd own;exact Fin.after f g1 v H' _ (vv m d) d gy (b7 g1.wf s w) r' fr (wN r q)
def pO(sp:fk)(t:WA):WE:=λρ Q=>t ρ λps=>sp (ps.map (·.2)) λm d=>xi m d (λ_=>False) (b9 (m,d) (f:=λp=>Q (vv p.1 p.2) p.2) ⟨⟩)
def uw(sp:fk)(t:WA):WS:=λE ρ=>t ρ λps=>sp (ps.map (·.2)) λm d=>xi m d (λn=>E.rt (.ow false) (.str n)) (b9 (m,d) (f:=λ_=>E.nx ρ) ⟨⟩)
variable (C:MG X.prog X.w X.K X.mg X.base rn k x ps sp)(hr:gi k X.A)
include C hr
def zA (ha:QA X K (e :: es) t) (hK:autoParam (X.K=K) bv) (hg:autoParam (Gl X x) bv) (ip:(x == ("__debug__" : Str))=false:=by decide) (he:autoParam (aT (e :: es) X.env=(false,b3 e X.env) :: aT es X.env) bv) (hU:autoParam ((gV pos (aT es X.env)).any (·.1)=false) bv):QE X K (.Call (.Name x p) (e :: es) [] pos) (pO sp t):=by
 subst hK;exact PE.imp (rP C hr K1 ha hg ip he hU) λσ H Qv h=>hV h λHs ρ tot Q sr h f=>iQ sr h f λn H' _ z=>z.elim
variable (hx:Passes (oS X.prog X.w X.mg rn) X E)
include hx
def ug (ha:QA X K (e :: es) t) (hs:autoParam (lP (.Call (.Name x p) (e :: es) [] eP) none pos.line X.env=pure false) bv) (hK:autoParam (X.K=K) bv) (hg:autoParam (Gl X x) bv) (ip:(x == ("__debug__" : Str))=false:=by decide) (he:autoParam (aT (e :: es) X.env=(false,b3 e X.env) :: aT es X.env) bv) (hU:autoParam ((gV eP (aT es X.env)).any (·.1)=false) bv):QS X K (LX rn X.mg E) (.Expr (.Call (.Name x p) (e :: es) [] eP) pos) (uw sp t):=by
 subst hK;exact PS.imp (N0 (rP C hr hx ha hg ip he hU) hs) λD σ H hx=>cG hx λHs ρ tot E' sr h k1 k2 k3 k4 kx=>iQ (Q:=λ_ _=>E'.nx ρ) sr h (λv H1 aI m d As g1 r1 f1 q1=>k1 σ H1 aI ρ tot g1.sh (sr.grow g1) q1) kx
end
def ML(j:Nat)(a:ae)(b:Bool):WE:=λρ Q=>ρ[j]? = some (some (.xc a))/\Q .sh (.bl b)
def GC (hm:X.mg "isinstance" = none) (hp:(a,oe)∈X.pn) (sf:oe.cls=.ref C) (xc:oy X.K C) (hk:kitOne X.K (.ref C) c=some b) (he:PE X e (jI j)) (ht:PE X e2 (tC vc)) (hvc:∀ u,RelV vc u->u=c)(hg:Gl X "isinstance" := by rfl) (hs:autoParam (aT (e :: [e2]) X.env=(false,b3 e X.env) :: aT [e2] X.env) bv) (ny:autoParam (aT (e2 :: []) X.env=(false,b3 e2 X.env) :: aT [] X.env) bv) (hU:autoParam ((gV pos (aT [e2] X.env)).any (·.1)=false) bv) :
  QE X K (.Call (.Name "isinstance" p) [e,e2] [] pos) (ML j a b):=by
 have hc:mn X (.builtin "isinstance") (λxs H Q=>xs=[.ref a,vc]/\Q (.bl b) H):=by intro pins s σ H xs us Q I r h;obtain⟨rfl,q⟩:=h;obtain⟨u,v,rfl,ru,rv⟩:=Vals.two r;obtain rfl:u=Value.ref a:=ru;obtain rfl:=hvc v rv;obtain⟨ho,_⟩:=I.pin (a,oe) (kg _ hp);exact kia_one (sO xc) I.iA ⟨oe,ho,sf⟩ hk (λz=>nomatch z) λtk=>⟨.bl b,H,I.tok tk,rfl,q⟩
 refine PE.imp (OI hc hg hm dD (i3 he (i3 ht ly ny) hs) (by decide) (by decide) hs hU) λσ H Qv hx=>hV hx λHs ρ tot Q sr h f=>?_;obtain⟨ea,q⟩:=h;obtain⟨v,e1,r⟩:=sr.sr.get ea;subst r;exact⟨_,e1,rfl,Fin.sh f sr.wf (.bl _) q⟩
end
abbrev jc(X:Cx)(pn:List (ae × Obj))(xe:ah->aE->Prop):Cx:={ X with pn:=pn,xe:=xe }
abbrev HM(X:Cx)(pn:List (ae × Obj))(a:ae):Cx:={ X with A:=X.A.mark (some (.ref a)),calm:=false,pn:=pn,xe:=λ_ _=>False }
abbrev Dw(X:Cx)(H:Hp)(s:aE)(p:ae × Obj):Prop:=s.heap.get? p.1=some p.2/\H p.1=none/\p.1≠X.env.locals/\p.1∉X.fs/\∀ v,p.2.data≠.cell v
section
variable {X:Cx}{pins se pn:List (ae × Obj)}{σ:St}{H:Hp}{s:aE}{xe:ah->aE->Prop}{a:ae}
def Inv.jc(I:Inv X pins σ H s)(h:∀ p∈pn++se,Dw X H s p):Inv (jc X pn xe) se σ H s :=
 ⟨⟨I.ok.mod,I.ok.kind,I.ok.glob,I.ok.blt,I.ok.above,I.ok.inj,I.ok.has,I.ok.CD,I.ok.hd,I.ok.frames,I.ok.Ee,I.ok.EA,I.ok.bs,I.ok.xD,I.ok.CF,I.ok.CH,I.ok.sQ,I.ok.AI⟩,I.os,I.bare,I.base,I.loc,I.cell,I.free,I.sR,h,I.bG,I.len⟩
def Inv.mY(I:Inv (L2.Q.jc X pn xe) se σ H s)(h:∀ p∈X.pn++pins,p∈pn++se):Inv X pins σ H s :=
 ⟨⟨I.ok.mod,I.ok.kind,I.ok.glob,I.ok.blt,I.ok.above,I.ok.inj,I.ok.has,I.ok.CD,I.ok.hd,I.ok.frames,I.ok.Ee,I.ok.EA,I.ok.bs,I.ok.xD,I.ok.CF,I.ok.CH,I.ok.sQ,I.ok.AI⟩,I.os,I.bare,I.base,I.loc,I.cell,I.free,I.sR,λp hp=>I.pin p (h p hp),I.bG,I.len⟩
def Inv.HM(I:Inv (L2.Q.jc X pn xe) se σ H s)(h:∀ p∈pn2++kQ',Dw X H s p):Inv (L2.Q.HM X pn2 a) kQ' σ H s :=
 ⟨⟨I.ok.mod,I.ok.kind,I.ok.glob,I.ok.blt,I.ok.above,I.ok.inj,I.ok.has,I.ok.CD,(λz=>nomatch z),I.ok.frames,I.ok.Ee,I.ok.EA,I.ok.bs,I.ok.xD,I.ok.CF,I.ok.CH,I.ok.sQ,I.ok.AI⟩,I.os,I.bare,I.base,I.loc,I.cell,I.free,I.sR,h,I.bG,I.len⟩
def Inv.Mw(I:Inv (L2.Q.jc X pn xe) pins σ H s):Inv (L2.Q.jc X pn xe2) pins σ H s :=
 ⟨⟨I.ok.mod,I.ok.kind,I.ok.glob,I.ok.blt,I.ok.above,I.ok.inj,I.ok.has,I.ok.CD,I.ok.hd,I.ok.frames,I.ok.Ee,I.ok.EA,I.ok.bs,I.ok.xD,I.ok.CF,I.ok.CH,I.ok.sQ,I.ok.AI⟩,I.os,I.bare,I.base,I.loc,I.cell,I.free,I.sR,I.pin,I.bG,I.len⟩
def Inv.yS(I:Inv (L2.Q.HM X pn a) se σ H s)(hd:X.calm=true->X.A.handled=none)(h:∀ p∈X.pn++pins,p∈pn++se):Inv X pins σ H s :=
 ⟨⟨I.ok.mod,I.ok.kind,I.ok.glob,I.ok.blt,I.ok.above,I.ok.inj,I.ok.has,I.ok.CD,hd,I.ok.frames,I.ok.Ee,I.ok.EA,I.ok.bs,I.ok.xD,I.ok.CF,I.ok.CH,I.ok.sQ,I.ok.AI⟩,I.os,I.bare,I.base,I.loc,I.cell,I.free,I.sR,λp hp=>I.pin p (h p hp),I.bG,I.len⟩
def SP.mY{D:Ends}(h:SP (L2.Q.jc X pn xe) se D f s)(hp:∀ p∈X.pn++pins,p∈pn++se):SP X pins D f s:=by
 cases f with
 |next=>obtain⟨b4,H',I,q⟩:=h;exact⟨b4,H',Inv.mY I hp,q⟩
 |brk=>obtain⟨b4,H',I,q⟩:=h;exact⟨b4,H',Inv.mY I hp,q⟩
 |cont=>obtain⟨b4,H',I,q⟩:=h;exact⟨b4,H',Inv.mY I hp,q⟩
 |ret u=>obtain⟨v,b4,H',I,r,q⟩:=h;exact⟨v,b4,H',Inv.mY I hp,r,q⟩
def Inv.forget(I:Inv X pins σ H s)(hn:h'.Ns X.env.locals m)(hs:Heap.SameBut X.env.locals s.heap h'):Inv X pins (List.replicate X.N.length none) H { s with heap:=h',toks:=t }:=by
 have ne:∀ b o,X.gL.heap.get? b=some o->b≠X.env.locals:=λb o e=>kE (qo (gI e) I.ok.above);refine⟨I.ok,I.os,I.bare,⟨λb o e n hb hx=>(hs.2 b (ne b o e)).trans (I.base.keep b o e n hb hx),λb o e n hb hx=>?_,I.base.free,λb o e hx=>?_,I.base.iF,I.base.xC,I.base.yT⟩,⟨m,hn,λi x v e1 e2=>?_⟩,λx c e=>?_,I.free,I.sR,λp hp=>?_,λb o e=>?_,Tj⟩
 ·obtain⟨sl,e1⟩:=I.base.slot b o e n hb hx;exact⟨sl,(hs.2 b (ne b o e)).trans e1⟩
 ·obtain⟨o',e1⟩:=I.base.there b o e hx;exact⟨o',(hs.2 b (ne b o e)).trans e1⟩
 ·rw[VL] at e2;split at e2<;>cases e2
 ·obtain⟨v,z⟩:=I.cell x c e;exact⟨v,z.sameBut hs (I.EB x c e)⟩
 ·obtain⟨e,n,nl,nf,d⟩:=I.pin p hp;exact⟨(hs.2 p.1 nl).trans e,n,nl,nf,d⟩
 ·refine(I.bG b o e).fS (λc u hc q=>(hs.2 c ?_).trans q) (λ_ q=>q) λ_ _ q=>q;intro z;rcases hc with w|w
  ·rw[<- w,z,I.free] at e;cases e
  ·rw[z,I.free] at w;cases w
end
theorem SR.du'{K:ay}:∀ σ:St,SR K Hs H (List.replicate σ.length none) σ []
 |[]=>.nil
 |_ :: σ=>.non (SR.du' σ)
def BO.next{P:cq}{B:dk}(c:BO B fs H' h₀ h)(m:fZ fs H' h₀ h h')(bG:ic P w H' h)(th:∀ b o,h₀.get? b=some o->∃ o',h.get? b=some o'):BO B fs H' h₀ h':=λb o e k nb=>by
 have ho:∃ o',h.get? b=some o':=by
  rcases k with k|k
  ·cases z:H' b with
   |none=>exact absurd z k
   |some u=>exact lS.there (bG b u z)
  ·obtain⟨o0,e0⟩:=V0.mp k;exact th b o0 e0
 obtain⟨o',e'⟩:=ho;have e2:=m.keep b o' e' k nb;rw[e] at e2;cases e2;exact c b o e' k nb
structure JN(K:ay)(mg:Str->Option ah)(rn:List Str)(R:Str):Prop where
 ex:∃ r,mg R=some (.ref r)/\oy K r/\∀ n C,n∈rn->mg n=some (.ref C)->oy K C/\mroIn K C (.ref r)=some true
end L2.Q
namespace L2.Q
def oA:nL "ValueError" = some (.type "ValueError"):=by decide +kernel
end L2.Q
namespace L2.Q.R
section
variable {E:dH}{ρ:Env}{Q:Md->L2.Q.D->Prop}{te:WE}{tar:WA}{j:Nat}{a:ae}{b:Bool}{sp:fk}{n:Str}{d:L2.Q.D}{Y:Str->Prop}{N:Prop}
def L_:e_ n te E ρ=te ρ λ_ _=>E.rt (.ow false) (.str n):=rfl
def MP:pO sp tar ρ Q=tar ρ λps=>sp (ps.map (·.2)) λm d=>xi m d (λ_=>False) (b9 (m,d) (f:=λp=>Q (vv p.1 p.2) p.2) ⟨⟩):=rfl
def Lf:uw sp tar E ρ=tar ρ λps=>sp (ps.map (·.2)) λm d=>xi m d (λn=>E.rt (.ow false) (.str n)) (b9 (m,d) (f:=λ_=>E.nx ρ) ⟨⟩):=rfl
def PQ:ML j a b ρ Q=(ρ[j]? = some (some (.xc a))/\Q .sh (.bl b)):=rfl
def Qf:xi (.ow false) (.str n) Y N=Y n:=rfl
def Oo:xi .sh d Y N=N:=rfl
def Q0:xi (.ow b) (.list xs) Y N=N:=by cases b<;>rfl
end
end L2.Q.R
namespace L2.Q
open PySem.W
def u_{K:Frag}:kitAny K t []=some false:=rfl
def j7{K:Frag}(h:kitOne K t c=some a)(g:kitAny K t r=some b):kitAny K t (c :: r)=some (a || b):=by
 unfold kitAny;rw[h];cases a
 ·exact g
 ·rfl
section
variable {X:Cx}{K:ay}{e:Expr}{es:List Expr}{pos:Pos}
def Ve(vs:List V):TA:=λ_ H Q=>Q vs H
def Dj:PA X [] (Ve []):=ly
def tY(h:PE X e (tC v))(r:PA X es (Ve vs))(hs:autoParam (aT (e :: es) X.env=(false,b3 e X.env) :: aT es X.env) bv):PA X (e :: es) (Ve (v :: vs)):=i3 h r hs
def Ec{cs:List ae}{us:List ah}(h:Vals (cs.map V.ref) us):us=cs.map Value.ref:=by
 induction cs generalizing us with
 |nil=>exact Paired.n0 h
 |cons c cs ih =>obtain⟨u,us,rfl,r,t⟩:=Paired.c h;rw[show u=Value.ref c from r,ih t];rfl
def Ie {j:Nat} {a C:ae} {oe:Obj} {cs:List ae} {b:Bool} {x1} {p p2:Pos} (hm:X.mg "isinstance" = none) (hp:(a,oe)∈X.pn) (sf:oe.cls=.ref C) (xc:oy X.K C) (hk:kitAny X.K (.ref C) (cs.map Value.ref)=some b) (hz:cs.length<=100) (he:PE X e (jI j)) (ht:PA X es (Ve (cs.map V.ref)))(hg:Gl X "isinstance" := by rfl) (hs:autoParam (aT (e :: [.Tuple es x1 p2]) X.env=(false,b3 e X.env) :: aT [.Tuple es x1 p2] X.env) bv) (ny:autoParam (aT (.Tuple es x1 p2 :: []) X.env=(false,b3 (.Tuple es x1 p2) X.env) :: aT [] X.env) bv) (hU:autoParam ((gV pos (aT [.Tuple es x1 p2] X.env)).any (·.1)=false) bv) :
  QE X K (.Call (.Name "isinstance" p) [e,.Tuple es x1 p2] [] pos) (ML j a b):=by
 have hc:mn X (.builtin "isinstance") (λxs H Q=>∃ t,xs=[.ref a,.ref t]/\H t=some (.tup (cs.map V.ref))/\Q (.bl b) H):=by intro pins s σ H xs us Q I r h;obtain⟨t,rfl,et,q⟩:=h;obtain⟨u,v,rfl,ru,rv⟩:=Vals.two r;obtain rfl:u=Value.ref a:=ru;obtain rfl:v=Value.ref t:=rv;obtain⟨ho,_⟩:=I.pin (a,oe) (kg _ hp);obtain⟨its,ri,o,e1,e2,n,e3⟩:=I.tup et;obtain⟨c',d',dt,sl⟩:=o;cases e2;cases e3;rw[Ec ri] at e1;exact kia_tup (sO xc) I.iA ⟨oe,ho,sf⟩ e1 hk (λz=>nomatch z) λtk=>⟨.bl b,H,I.tok tk,rfl,q⟩
 refine PE.imp (OI hc hg hm dD (i3 he (i3 (RL ht) ly ny) hs) (by decide) (by decide) hs hU) λσ H Qv hx=>hV hx λHs ρ tot Q sr h f=>?_;obtain⟨ea,q⟩:=h;obtain⟨v,e1,r⟩:=sr.sr.get ea;subst r;refine⟨_,e1,by rw[dz];exact kD hz (by decide),λt hT=>⟨t,rfl,eJ,?_⟩⟩;have g:=LZ (vs:=cs.map V.ref) sr.wf hT;exact Fin.sh (Fin.after f g) g.wf (.bl _) q
end
def SR.Gz{K:ay}{Hs H:Hp}{ρ:Env}{σ:St}{tot:List ae}{j:Nat}{o:Option V}(s:SR K Hs H (ρ.set j none) σ tot):SR K Hs H (ρ.set j none) (σ.set j o) tot:=by
 generalize e:ρ.set j none=bt at s
 induction s generalizing ρ j with
 |nil=>exact .nil
 |non s ih =>
  cases ρ with
  |nil=>cases e
  |cons x ρ =>
   cases j with
   |zero=>exact .non s
   |succ j=>exact .non (ih (List.cons.inj e).2)
 |sh r s ih =>
  cases ρ with
  |nil=>cases e
  |cons x ρ =>
   cases j with
   |zero=>cases e
   |succ j=>exact .sh r (ih (List.cons.inj e).2)
 |xc s ih =>
  cases ρ with
  |nil=>cases e
  |cons x ρ =>
   cases j with
   |zero=>cases e
   |succ j=>exact .xc (ih (List.cons.inj e).2)
 |ow ne r s ih =>
  cases ρ with
  |nil=>cases e
  |cons x ρ =>
   cases j with
   |zero=>cases e
   |succ j=>exact .ow ne r (ih (List.cons.inj e).2)
 |lk ne r s ih =>
  cases ρ with
  |nil=>cases e
  |cons x ρ =>
   cases j with
   |zero=>cases e
   |succ j=>exact .lk ne r (ih (List.cons.inj e).2)
 |ob r s ih =>
  cases ρ with
  |nil=>cases e
  |cons x ρ =>
   cases j with
   |zero=>cases e
   |succ j=>exact .ob r (ih (List.cons.inj e).2)
def Ff{α:Type}{l:List α}(h:l.Nodup){i j:Nat}{x:α}(a:l[i]? = some x)(b:l[j]? = some x):i=j:=by
 obtain⟨hi,ei⟩:=ng.mp a;obtain⟨hj,ej⟩:=ng.mp b;rcases Nat.lt_trichotomy i j with q|q|q
 ·exact absurd (ei.trans ej.symm) (NC.mp h i j hi hj q)
 ·exact q
 ·exact absurd (ej.trans ei.symm) (NC.mp h j i hj hi q)
section
variable {X:Cx}{pins:List (ae × Obj)}{σ:St}{H:Hp}{s:aE}
def Inv.drop(I:Inv X pins σ H s)(hN:X.N.Nodup)(hj:X.N[j]? = some en)(lk:∀ (i:Nat) (x:Str) (v:V),X.N[i]? = some x->σ[i]? = some (some v)->Rr X.env.scope x->∃ u,RelV v u/\Look X.env s.heap m x u)(hn:h'.Ns X.env.locals λx=>if x=en then v else m x) (hs:Heap.SameBut X.env.locals s.heap h'):Inv X pins (σ.set j none) H { s with heap:=h',toks:=t }:=by
 have F:=Inv.forget (t:=t) I hn hs;refine⟨F.ok,F.os,F.bare,F.base,⟨_,hn,λi x v' e1 e2 vs=>?_⟩,F.cell,F.free,F.sR,F.pin,F.bG,by rw[List.length_set];exact I.len⟩;have nE:j≠i:=λz=>by
  subst z;rw[List.getElem?_set] at e2;split at e2
  ·split at e2<;>cases e2
  ·rename_i z;exact z rfl
 rw[Tn nE] at e2;obtain⟨u,r,l⟩:=lk i x v' e1 e2 vs;refine⟨u,r,?_⟩;rcases l with⟨a,b⟩|⟨a,c,b,d⟩
 ·refine .inl ⟨a,?_⟩;show(if x=en then v else m x)=some u;rw[if_neg λz=>nE ?_]
  ·exact b
  ·subst z;exact Ff hN hj e1
 ·exact .inr ⟨a,c,b,d.sameBut hs (I.EB x c b)⟩
end
end L2.Q
namespace L2.Q.R
end L2.Q.R
namespace L2.Q
def Sz(m:Md)(d:D)(S:D->D->Prop)(O:D->D->Prop):Prop:=match m,d with
 |.sh,.tup [a,b]=>S a b
 |.ow true,.tup [a,b]=>a.flat=false/\b.flat=false/\O a b
 |_,_=>False
def zL(i j:Nat)(te:WE):WS:=λE ρ=>te ρ λm d=>Sz m d (λa b=>E.nx ((ρ.set i (some (.sh a))).set j (some (.sh b)))) λa b=>E.nx ((ρ.set i (some (.ow true a))).set j (some (.ow true b)))
def zB{X:Cx}{K:ay}{L:Str->Hp->Prop}{e:Expr}{te:WE}{i j:Nat}{x y:Str}{k:Nat}{p1 p2 p3 pos:Pos}(hc:X.calm=true)(hN:X.N.Nodup)(hi:X.N[i]? = some x)(hx:Loc X.env.scope x)(hj:X.N[j]? = some y)(hy:Loc X.env.scope y)(he:QE X K e te)(hK:autoParam (X.K=K) bv) (hf:X.fn x=true\/X.env.scope.names.lookup x=some .local:=by first|exact .inl rfl|exact .inr rfl|assumption) (hf2:X.fn y=true\/X.env.scope.names.lookup y=some .local:=by first|exact .inl rfl|exact .inr rfl|assumption) (hn:autoParam ((sF [.Name x p1,.Name y p2] X.env).length=2) bv) (pT:autoParam ((sF [.Name x p1,.Name y p2] X.env).findIdx? (·.1)=none) bv) (hs:autoParam (swapsWithSole [.Tuple [.Name x p1,.Name y p2] k p3] e pos.line X.env=pure false) bv) (hw:autoParam (swappedStores [.Tuple [.Name x p1,.Name y p2] k p3] e X.env=pure none) bv) (h1:autoParam ((sF [.Tuple [.Name x p1,.Name y p2] k p3] X.env).map (·.2)=[assign (.Tuple [.Name x p1,.Name y p2] k p3) X.env]) bv) (h2:autoParam ((sF [.Name x p1,.Name y p2] X.env).map (·.2)=assign (.Name x p1) X.env :: (sF [.Name y p2] X.env).map (·.2)) bv) (h3:autoParam ((sF [.Name y p2] X.env).map (·.2)=assign (.Name y p2) X.env :: (sF [] X.env).map (·.2)) bv) :
  QS X K L (.Assign [.Tuple [.Name x p1,.Name y p2] k p3] e pos) (zL i j te):=by
 subst hK;refine PS.imp (fz' he (aW' hc (Wk (Wj hN hi hx hf) (Wk (Wj hN hj hy hf2) aV' h3) h2) hn pT) hs hw h1) λD σ H hx=>bR hx λHs ρ tot E sr h k1 k2 k3 k4=>?_;refine⟨Hs,ρ,tot,_,sr,h,λv H1 aI m d As g1 r1 f1 q1=>?_⟩;have kK:=sr.grow g1;unfold Sz at q1;split at q1
 ·rename_i a b;obtain⟨_,r⟩:=r1
  cases r with
  |tup z e rs =>
   cases rs with
   |cons ra rs=>cases rs with
    |cons rb rs=>cases rs with
     |nil =>obtain⟨t1,m1,s1⟩:=kK.zX i ra;obtain⟨t2,m2,s2⟩:=s1.zX j rb;exact⟨_,_,rfl,.inl (.inl (g1.wf.sub _ _ e)),rfl,_,_,rfl,_,_,rfl,rfl,k1 _ H1 aI _ t2 g1.sh s2 q1⟩
 ·rename_i a b;obtain⟨fa,fb,q1⟩:=q1;obtain⟨r,ne⟩:=r1
  cases r with
  |sh _ _=>exact absurd rfl ne
  |tup z e n rs =>
   cases rs with
   |@cons _ v1 _ _ A1 _ ra rs=>cases rs with
    |@cons _ v2 _ _ A2 _ rb rs=>cases rs with
     |nil =>
      obtain⟨nd,fr⟩:=f1;rw[kM] at nd fr;obtain⟨n1,n2,n3⟩:=g7.mp nd;have dj:∀ c∈A1++A2,c∉tot:=λc hc z=>(sr.sr.own c z).ne (fr c hc).2;obtain⟨t1,a1,b1,c1⟩:=SR.xG (ra.ne fa) ra n1 i kK.sr kK.nX λc hc=>dj c (kg _ hc);obtain⟨t2,a2,b2,c2⟩:=SR.xG (rb.ne fb) rb n2 j c1 a1 λc hc z=>by
       rcases b1 c z with w|w
       ·exact dj c (eT _ hc) w
       ·exact n3 c w c hc rfl
      refine⟨_,_,rfl,.inl (.inl (g1.wf.sub _ _ e)),rfl,_,_,rfl,_,_,rfl,rfl,k1 _ H1 aI _ t2 g1.sh ⟨c2,g1.wf,a2,λc hc=>?_⟩ q1⟩;rcases b2 c hc with w|w
      ·rcases b1 c w with w|w
       ·exact kK.own c w
       ·exact(fr c (kg _ w)).1
      ·exact(fr c (eT _ w)).1
 ·exact q1.elim
end L2.Q
namespace L2.Q.R
section
variable {E:dH}{ρ:Env}{te:WE}{i j:Nat}{x y:L2.Q.D}{S O:L2.Q.D->L2.Q.D->Prop}
def N8:zL i j te E ρ=te ρ λm d=>b9 (m,d) (f:=λp=>Sz p.1 p.2 (λa b=>E.nx ((ρ.set i (some (.sh a))).set j (some (.sh b)))) λa b=>E.nx ((ρ.set i (some (.ow true a))).set j (some (.ow true b)))) ⟨⟩:=rfl
def Nb:Sz .sh (.tup [x,y]) S O=S x y:=rfl
def K_:Sz (.ow true) (.tup [x,y]) S O=(x.flat=false/\y.flat=false/\O x y):=rfl
end
end L2.Q.R
namespace L2
open Builtin Builtin.Str Builtin.Int
end L2
namespace L2.Q
section
variable {X:Cx}{K:ay}{a b:Expr}{ta tb:WE}{pos:Pos}
def ZV(t:WE):WE:=λρ Q=>t ρ λm d=>lM m/\Q .sh d
def kS'(h:QE X K a ta):QE X K a (ZV ta):=by refine PE.imp h λσ H Qv hx=>hV hx λHs ρ tot Q sr h fin=>?_;refine⟨Hs,ρ,tot,_,sr,h,λv H1 aI m d As g1 r1 f1 q1=>?_⟩;obtain⟨nb,q⟩:=q1;obtain⟨aC,g2,r2⟩:=r1.pF g1 f1 nb;exact fin v H1 aC .sh d [] g2 ⟨rfl,r2⟩ ⟨kT,λ_ h=>xh h⟩ q
def BQ(ys:List D)(x:D):Bool:=ys.any λz=>nK z x
def ZW(neg:Bool):W2:=λ_ x _ y Q=>∃ ys,(y=.list ys\/y=.tup ys)/\eK 12 x=true/\eK 12 y=true/\Q .sh (.bl (if neg then !BQ ys x else BQ ys x))
def ZX(K:ay)(neg:Bool):R2:=λx y H Q=>∃ d e xs,L2.Rep K H d x/\L2.Rep K H e y/\(e=.list xs\/e=.tuple xs)/\d.canLay0=true/\PyData.canLayAll0 xs=true/\d.depth<=60/\Q (.bl (if neg then !(xs.any λz=>PyData.eqv z d) else xs.any λz=>PyData.eqv z d)) H
def Ji(hu:X.A.units+64<iE):d5 X (hZ .In) (ZX X.K false):=by
 intro pins s σ H x y v u Q I rx ry h;obtain⟨d,e,xs,h1,h2,h3,h4,h5,h6,q⟩:=h;obtain⟨as,r1⟩:=h1.reads I rx;obtain⟨bs,r2⟩:=h2.reads I ry;rcases h3 with rfl|rfl
 ·exact PySem.SeqAt.in_list_reads r2 r1 h5 h4 (by lia) ⟨.bl _,H,I,rfl,q⟩
 ·exact PySem.SeqAt.in_tuple_reads r2 r1 h5 h4 (by lia) ⟨.bl _,H,I,rfl,q⟩
def kT'(hK:autoParam (X.K=K) bv)(hu:X.A.units+64<iE:=by assumption):d5 X (hZ .In) (ZX K false):=by subst hK;exact Ji hu
def Dl(ys:List D)(x:D):((sv ys).any λz=>PyData.eqv z x.py)=BQ ys x:=by
 induction ys with
 |nil=>rfl
 |cons y ys ih =>rw[sv,D5,ih];rfl
def JP:k7 K (ZX K neg) (ZW neg):=by
 intro Hs H m x v As n y u Bs Qd Qv w rx ry h f;obtain⟨ys,hy,o1,o2,q⟩:=h;have l1:=jg 12 x o1;have l2:=jg 12 y o2;refine⟨x.py,y.py,sv ys,(rx.rep w).l2 o1,(ry.rep w).l2 o2,?_,l1.1,?_,by lia,?_⟩
 ·rcases hy with rfl|rfl
  ·exact .inl rfl
  ·exact .inr rfl
 ·rcases hy with rfl|rfl
  ·exact l2.1
  ·exact l2.1
 ·rw[Dl];exact f.sh w (.bl _) q
def ZY(o:Option (Option Sl))(k:List D->Prop):Prop:=match o with
 |some (some (.ow true (.list xs)))=>k xs
 |_=>False
def intD(y:D)(k:Int->Prop):Prop:=match y with
 |.int i=>k i
 |_=>False
def SD(d:D):Md:=bif d.flat then .sh else .ow true
def uP(i:Nat)(tb:WE):WS:=λE ρ=>ZY ρ[i]? λxs=>tb ρ λ_ y=>intD y λk=>∃ d,L2.e8 xs k=some d/\E.rt (SD d) d
def zY(he:PE X a (jI i))(hb:QE X K b tb)(hs:Ul b:=by exact λ_ _=>rfl)(hK:autoParam (X.K=K) bv):QS X K L (.Return (some (.Subscript a b pos)) pos') (uP i tb) :=
 PS.imp (Ki (WR (kIx hK) he hb hs)) λD σ H hx=>bR hx λHs ρ tot E sr h k1 k2 k3 k4=>by
 unfold uP ZY at h;split at h
 ·rename_i xs e1;obtain⟨v,As,e2,ne,r,sb⟩:=sr.sr.at e1
  cases r with
  |sh _ _=>exact absurd rfl ne
  |@list a vs _ As z e rs =>
   refine⟨_,e2,Hs,ρ,tot,_,sr,h,λu H1 aI m y Bs g1 r1 f1 q1=>?_⟩;have ry:=r1.rep g1.wf
   cases ry with
   |int k =>
    obtain⟨d,e3,q⟩:=q1;obtain⟨j,ej,ed⟩:=Iw e3;have nd:As.Nodup:=(rX.mp (sb.nodup sr.nX)).2;obtain⟨w,B,ew,qS,sB,_⟩:=rs.at ed nd;have sub:∀ c∈B,c∈tot:=λc hc=>sb.subset (eI _ (sB.subset hc));have r2:=qS.grow g1.sh g1.all;refine .inl ⟨vs,w,.inl (.inl (g1.all _ _ e)),JR (by rw[<- rs.length];exact ej) ew,?_⟩;have kK:=sr.grow g1
    cases hf:d.flat with
    |true =>rw[SD,hf] at q;exact k4 w H1 aI .sh d [] g1.sh g1.wf ⟨rfl,(r2.rep g1.wf.sub λ_ _=>rfl).dN g1.wf.iF hf⟩ kT (λc hc=>xh hc) q
    |false =>rw[SD,hf] at q;exact k4 w H1 aI (.ow true) d B g1.sh g1.wf ⟨r2,r2.ne hf⟩ (sB.nodup nd) (λc hc=>kK.own c (sub c hc)) q
   |_=>exact q1.elim
 ·exact h.elim
end
end L2.Q
namespace L2.Q.R
section
variable {ρ:Env}{te:WE}{m m':Md}{x:L2.Q.D}{ys:List L2.Q.D}{Q:Md->L2.Q.D->Prop}
def Mp:uP i te E ρ=b9 ρ[i]? (f:=λo=>ZY o λxs=>te ρ λ_ y=>b9 y (f:=λy=>intD y λk=>∃ d,e8 xs k=some d/\b9 d (f:=λd=>E.rt (SD d) d) ⟨⟩) ⟨⟩) ⟨⟩:=rfl
def Ol:intD (.int i) k=k i:=rfl
def kU':ZV te ρ Q=te ρ λm d=>lM m/\Q .sh d:=rfl
def Nr:ZW neg m x m' (.list ys) Q=(eK 12 x=true/\eK 12 (.list ys)=true/\Q .sh (.bl (if neg then !BQ ys x else BQ ys x))):=by apply propext;exact⟨λ⟨zs,h,a,b,c⟩=>by rcases h with h|h<;>cases h;exact⟨a,b,c⟩,λ⟨a,b,c⟩=>⟨ys,.inl rfl,a,b,c⟩⟩
end
end L2.Q.R
namespace L2
end L2
namespace L2.Q
end L2.Q
namespace L2
end L2
namespace L2.Q
end L2.Q
namespace L2.Q.R
end L2.Q.R
namespace L2
end L2
namespace L2.Q
section
variable {X:Cx}{K:ay}{L:Str->Hp->Prop}{e e2 e3:Expr}{p:WP}{te:WE}{apos eP pos:Pos}
def yC:nL "int" = some (.type "int"):=by decide +kernel
def Place.short(pl:Place K aI H1 σ fl (.list xs) v up)(e:v=.ref a)(h:H1 a=some (.lst vs)):vs.length<=bE:=by
 subst e;rcases pl.ex with⟨gy,r,ne,_⟩
 cases r with
 |sh _ _=>exact absurd rfl ne
 |list hz e3 _=>rw[h] at e3;cases e3;exact hz
def ZZ(p:WP)(te:WE):WS:=λE ρ=>p ρ λfl d up=>match d with
 |.list xs=>te ρ λm y=>m=.ow true/\match y with
  |.list ys=>dn ys=true/\xs.length+ys.length<=bE/\E.nx (up fl (.list (xs++ys)))
  |_=>False
 |_=>False
def Jc (ho:QP X K e p) (he:QE X K e2 te) (hK:autoParam (X.K=K) bv) (hs:autoParam (lP (.Call (.Attribute e "extend" apos) [e2] [] eP) none pos.line X.env=pure false) bv) (oI:autoParam (vS e "extend" X.env (b3 e X.env)=b3 e X.env) bv) (wq:autoParam (((gV eP (aT [e2] X.env)).all (λx=>!x.1) && (A4 eP (A3 [] X.env)).all (λx=>x.1.isSome)
   && decide ([e2].length+([]:List uk).length+(if ([]:List uk).isEmpty then 0 else 1)<30))=true) bv)
  (hline:autoParam ((apos.endLine == eP.line)=true) bv) (qc:autoParam (aT (e2 :: []) X.env=(false,b3 e2 X.env) :: aT [] X.env) bv) (w8:autoParam ((gV eP (aT [] X.env)).any (·.1)=false) bv) :
  QS X K L (.Expr (.Call (.Attribute e "extend" apos) [e2] [] eP) pos) (ZZ p te):=by
 subst hK;refine PS.imp (N0 (Lc PySem.F.plainAttrs_list PySem.F.slot_list_extend PySem.F.type_list_extend hT' ho (i3 he ly qc) oI wq hline qc w8) hs) λD σ H hx=>bR hx λHs ρ tot E sr h k1 k2 k3 k4=>?_;refine⟨Hs,ρ,tot,_,sr,h,λv H1 aI fl d up g1 p1 q1=>?_⟩
 cases d with
 |list xs =>
  obtain⟨a1,vs1,e1,s1⟩:=p1.ZR g1.wf;refine⟨by subst e1;exact .inl ⟨rfl,_,s1⟩,aI,ρ,tot,_,sr.grow g1,q1,λy H2 aC m x As g2 r2 f2 q2=>?_⟩;obtain⟨rfl,q2⟩:=q2;obtain⟨a,vs,A,ea,e2,e21,rs,nd,hn,k⟩:=p1.put g2;obtain⟨r,ne⟩:=r2
  cases r with
  |sh _ _=>exact absurd rfl ne
  |list hz e3 U9 =>obtain⟨fy,hl,q2⟩:=q2;obtain⟨nA,My⟩:=rX.mp nd;have l1:=rs.length;have l2:=U9.length;refine⟨a,_,vs,_,ea,rfl,e2,e3,by lia,?_⟩;obtain⟨eL,fP⟩:=k fl (xs++_) (vs++_) (A++[]) id (rs.append (bS.owned ((U9.reps g2.wf.sub λ_ _=>rfl).dN g2.wf.iF fy) fy)) (by rw[iq];lia) (by simpa using My) (by simpa using nA) (λx hx=>.inl (by simpa using hx));exact k1 _ _ aC _ eL (g1.sh.trans g2.sh) fP q2
  |_=>exact q2.elim
 |_=>exact q1.elim
end
end L2.Q
namespace L2.Q.R
section
variable {ρ:Env}{E:dH}{te:WE}{m:Md}{Q:Md->L2.Q.D->Prop}{p:WP}{xs ys:List L2.Q.D}{k:List L2.Q.D->Prop}
def MQ(d:L2.Q.D)(k:List L2.Q.D->Prop):Prop:=match d with
 |.list xs=>k xs
 |_=>False
def PL:MQ (.list xs) k=k xs:=rfl
def QQ:ZZ p te E ρ=p ρ λfl d up=>b9 d (f:=λd=>MQ d λxs=>te ρ λm y=>m=.ow true/\b9 y (f:=λy=>MQ y λys=>dn ys=true/\xs.length+ys.length<=bE/\E.nx (up fl (.list (xs++ys)))) ⟨⟩) ⟨⟩:=rfl
end
end L2.Q.R
namespace L2
section
variable {X:Cx}{tg:Expr}
def Z0(K:ay)(a:ae)(n:Nat):It :=
 ⟨λi H=>i<n/\∃ xs,e7 K H a xs/\xs.length=n,λi H x H'=>H'=H/\∀ xs,e7 K H a xs->xs.length=n->xs[n-1-i]? = some x,λi _=>i=n⟩
def Ar{P:cq}{w:cS}{K:ay}{tg:Expr}(a it:ae)(n:Nat):Turn P w K tg (Z0 K a n) [it] it (λi h=>h.IsRevIter it a ((n:Int)-1-(i:Int))) where
 mem:=by simp
 obj:=λi h st b hb=>by
  have e:b=it:=by simpa using hb
  subst e;obtain⟨o,e,c,d⟩:=st;exact⟨o,e,λv z=>by rw[d] at z;cases z⟩
 keep:=λi h h' st k=>st.at λo e=>k it (by simp) o e
 item:=by
  intro X hP hw hK hc i pins s σ H E I hf st hg;subst hP hw hK;obtain⟨hi,xs,hq,hl⟩:=hg;obtain⟨its,rv,p,hz⟩:=I.list hq;have hx:xs[n-1-i]? = some (xs[n-1-i]'(by lia)):=qk _;obtain⟨u,hu,ru⟩:=rv.get hx;obtain⟨f0,f1,f2,f3,f4,f5⟩:=hf it (by simp);have e1:(n:Int)-1-(i:Int)=((n-1-i:Nat):Int):=by lia
  rw[e1] at st;refine wpAny_pyNext_rev_item st p.isList (x:=u) (by simpa using hu) λh' av sb=>?_;have e2:((n-1-i:Nat):Int)-1=(n:Int)-1-((i+1:Nat):Int):=by lia
  rw[e2] at av;have I1:Inv X pins σ H { s with heap:=h' }:=I.turned (t':=s.toks) (λb o hb e=>(sb.2 b hb).trans e) f0 f1 f3 f4 f5;obtain⟨o,e,c,d⟩:=id av;exact⟨u,rfl,N9 (s:={ s with heap:=h' }) e c d (by decide) ⟨_,H,I1,ru,⟨rfl,λys hy _=>by rw[I.Wg hy hq];exact hx⟩,av,λb hb=>(hf b hb).1⟩⟩
 done:=by
  intro X hP hw hK hc i pins s σ H E I hf st hg;subst hP hw hK;obtain⟨f0,f1,f2,f3,f4,f5⟩:=hf it (by simp);have e1:(n:Int)-1-(i:Int) = -1:=by have:i=n:=hg;lia
  rw[e1] at st;exact wpAny_pyNext_rev_end (I.ok.hd hc) st λh' eb=>⟨rfl,I.turned (t':=s.toks) (λb o hb e=>eb b o hb e) f0 f1 f3 f4 f5⟩
 self:=λ_ _ _ _ _ st h=>wpAny_pyIter_revIter st h
def kV'(K:ay)(ta:TA):TI:=λσ H R=>ta σ H λvs H1=>∃ a xs,vs=[.ref a]/\e7 K H1 a xs/\R (Z0 K a xs.length) H1
def Jt:nL "reversed" = some (.type "reversed"):=by decide +kernel
def JF {a:Expr} {ta:TA} {p pos:Pos} (hg:Gl X "reversed") (hm:X.mg "reversed" = none) (ha:PA X [a] ta) (hs:autoParam (aT [a] X.env=[(false,b3 a X.env)]) bv) :
  PI X tg (.Call (.Name "reversed" p) [a] [] pos) (kV' X.K ta):=by
 intro pins s σ H R I h;refine Call_ (FU I hg hm Jt (PyProof.Rows.callWith_type1 (cv (ha pos pins s σ H _ I h) λus s1 ck=>L2.eM ck λvs H1 I1 r1 q1=>?_) hs rfl));obtain⟨l,xs,e,hq,q⟩:=q1;subst e
 cases r1 with
 |cons r rr =>
  cases rr;cases r;obtain⟨its,rv,pl,hz⟩:=I1.list hq;have hl:=rv.length;have e0:((its.toArray.size:Nat):Int)-1=(xs.length:Int)-1-((0:Nat):Int):=by simp;lia
  refine call_reversed_list pl.isList ?_;rw[e0];refine wpAny_pyIter_revIter (s:={ s1 with heap:=s1.heap.push (revObj l ((xs.length:Int)-1-((0:Nat):Int))) }) ⟨_,oi _ rfl,rfl,rfl⟩ ?_;refine⟨s1.heap.objs.size,[s1.heap.objs.size],_,_,H1,rfl,I1.kept (t':=s1.toks) λb o e=>ki _ e,Ar l _ xs.length,⟨_,oi _ rfl,rfl,rfl⟩,λb hb=>?_,q⟩;have e:b=s1.heap.objs.size:=by simpa using hb
  subst e;exact I1.FX (c9 _) (I1.bG.fresh (c9 _))
def Hg(K:ay)(a:ae)(xs:List V):dW (Z0 K a xs.length) xs.reverse (λH=>e7 K H a xs) where
 go:=λi H h hi=>⟨by simpa using hi,xs,h,rfl⟩
 mG:=λi H x H' h hi y=>by refine⟨y.1,?_⟩;rw[List.getElem?_reverse (by simpa using hi)];exact y.2 xs h rfl
 stop:=λH h=>A8
end
end L2
namespace L2.Q
end L2.Q
namespace L2.Q.R
end L2.Q.R
namespace L2
open PySem.SeqAt
end L2
namespace L2.Q
open PySem.SeqAt
end L2.Q
namespace L2.Q.R
open PySem.SeqAt
end L2.Q.R
namespace L2
open PySem.SeqAt
section
variable {X:Cx}
def Ew(K:ay):R2:=λx y H Q=>∃ l xs n,x=.ref l/\y=.int n/\e7 K H l xs/\0<=n/\n<=4000/\xs.length<=1000/\∀ p,H p=none->Q (.ref p) (upd H p (.lst (List.replicate n.toNat xs).flatten))
def Bm{xs:List V}{vs:List ah}(h:Vals xs vs)(k:Nat):Vals (List.replicate k xs).flatten (List.replicate k vs).flatten:=by
 induction k with
 |zero=>exact .nil
 |succ k ih=>rw[B9,B9,An,An];exact h.append ih
def tW{α:Type}(xs:List α)(k:Nat):(List.replicate k xs).flatten.length=xs.length*k:=by
 induction k with
 |zero=>rfl
 |succ k ih=>rw[B9,An,iq,ih,Nat.mul_succ];lia
def FJ:d5 X (oz .Mult) (Ew X.K):=by
 intro pins s σ H x y v u Q I rx ry h;obtain⟨l,xs,n,rfl,rfl,hH,h0,h1,h2,q⟩:=h;cases rx;obtain⟨t,rfl⟩:=ry;obtain⟨its,r,pl,z⟩:=I.list hH;have hl:=r.length;obtain⟨⟨cls,dd,data,sl⟩,ho,hc,k,hd⟩:=id pl.isList;simp only at hc hd;subst hc hd;have hm:its.toArray.size*n.toNat<=1000*4000:=Ri (by rw[kB];lia) (by lia);have jS:=nS;refine wpAny_binaryOp_repeat_ref (T := "list") (U := "int") (by decide) ⟨_,ho,rfl⟩ (λs'=>typeIs_int s' n t) noFill_list_mul PySem.F.fills_int_mul PySem.F.slot_int_rmul repeat_list PySem.F.slot_int_index.lookup (FD PySem.F.slot_int_rmul (typeIs_int s n t) PySem.F.entry_int_rmul (PySem.F.args_int_rmul_2 _ _) (lm_int_rmul_list_any n t l its.toArray k dd sl) ⟨ho,rfl,⟨_,ho,rfl⟩,FD PySem.F.slot_list_mul ⟨_,ho,rfl⟩ PySem.F.entry_list_mul (PySem.F.args_list_mul_2 _ _) (lm_list_mul_any l its.toArray k dd sl n t (by simp[Builtin.List.listFitsIndex];lia) (by lia) (by simp only[Builtin.List.listTooLong,decide_eq_true_eq];lia)) ⟨ho,?_⟩⟩)
 rw[listMul_foldl_if];exact⟨.ref _,_,I.RQ (t':=s.toks) (Bm r _) (by
  rw[tW];have:xs.length*n.toNat<=1000*4000:=Ri h2 (by lia);lia),rfl,q _ I.fresh⟩
end
end L2
namespace L2.Q
open PySem.SeqAt
section
variable {X:Cx}{K:ay}{a b:Expr}{ta tb:WE}{pos:Pos}
def vp:W2:=λ_ x _ y Q=>match x with
 |.list xs=>match y with
  |.int n=>(0<=n/\n<=4000/\xs.length<=1000)/\dn xs=true/\Q (.ow true) (.list (List.replicate n.toNat xs).flatten)
  |_=>False
 |_=>False
def zQ{H:Hp}{xs:List D}{vs:List V}(h:bS K H xs vs)(k:Nat):bS K H (List.replicate k xs).flatten (List.replicate k vs).flatten:=by
 induction k with
 |zero=>exact .nil
 |succ k ih=>rw[B9,B9,An,An];exact h.append ih
def wO{xs:List D}(h:dn xs=true)(k:Nat):dn (List.replicate k xs).flatten=true:=by
 induction k with
 |zero=>rfl
 |succ k ih=>rw[B9,An,eG,h,ih];rfl
def DR:k7 K (Ew K) vp:=by
 intro Hs H m x v As n y u Bs Qd Qv w rx ry h f;have r1:=rx.rep w;have r2:=ry.rep w
 cases r1 with
 |list z s q=>cases r2 with
  |int n =>obtain⟨⟨h0,h1,h2⟩,fl,h⟩:=h;have hl:=q.length;refine⟨_,_,_,rfl,rfl,s,h0,h1,by lia,?_⟩;refine f.lst w ?_ (zQ q _) (wO fl _) h;rw[tW,nS];have:List.length _*n.toNat<=1000*4000:=Ri h2 (by lia);exact kD this (by decide)
  |_=>exact h.elim
 |_=>exact h.elim
def M8(hK:autoParam (X.K=K) bv):d5 X (oz .Mult) (Ew K):=by subst hK;exact FJ
def Ht(ha:QE X K a ta)(hb:QE X K b tb)(hK:autoParam (X.K=K) bv):QE X K (.BinOp a .Mult b pos) (ax vp ta tb):=L4 (M8 hK) DR ha hb
end
end L2.Q
namespace L2.Q.R
open PySem.SeqAt
section
variable {Q:Md->L2.Q.D->Prop}{m m':Md}{xs:List L2.Q.D}{a:Int}
def N7:vp m (.list xs) m' (.int a) Q=((0<=a/\a<=4000/\xs.length<=1000)/\dn xs=true/\Q (.ow true) (.list (List.replicate a.toNat xs).flatten)):=rfl
end
end L2.Q.R
namespace L2
end L2
namespace L2.Q
section
variable {K:ay}
def yc(m:Md)(d:D):Prop:=d.flat=true\/m=.sh
def eQ(g:WG)(tc:WT)(te:WE):List D->Env->(List D->Prop)->Prop
 |[],_,k=>k []
 |x :: xs,ρ,k=>g x ρ λi7=>tc i7 λb=>if b=true then te i7 λm d=>yc m d/\eQ g tc te xs i7 (λout=>k (d :: out)) else eQ g tc te xs i7 k
def tH(wi:WI)(g:WG)(tc:WT)(te:WE)(tn:Nat)(ix:List Nat):WE:=λρ Q=>wi ρ λds=>eQ g tc te ds (vz tn ix ρ) λout=>Q .bo (.list out)
structure jz(K:ay)(H1:Hp)(b:ae)(acc:List D)(ys:List V)(As:List ae)(Hs:Hp)(ρ:Env)(τ:St)(H:Hp):Prop where
 sm:aS H1 Hs
 sr:dE K Hs ρ τ H []
 eD:H b=some (.lst ys)
 nD:Hs b=none
 ra:aB K Hs H false acc ys As
 nd:(b :: As).Nodup
 own:∀ a∈As,Hs a=none
def jz.grow{H1:Hp}{b:ae}{acc:List D}{ys:List V}{As:List ae}{Hs H aw H':Hp}{ρ:Env}{τ:St}(c:jz K H1 b acc ys As Hs ρ τ H)(g:fe Hs H aw H'):jz K H1 b acc ys As aw ρ τ H' :=
 ⟨c.sm.trans g.sh,c.sr.grow g,g.all _ _ c.eD,g.oq c.nD (by rw[c.eD];exact λz=>nomatch z),c.ra.grow g.sh g.all,c.nd,λa ha=>g.oq (c.own a ha) (c.ra.own a ha).ne⟩
def jz.push{H1:Hp}{b:ae}{acc:List D}{ys:List V}{As Bs:List ae}{Hs H:Hp}{ρ:Env}{τ:St}{m:Md}{d:D}{v:V}(c:jz K H1 b acc ys As Hs ρ τ H)(r:RM K Hs H m d v Bs)(ok:yc m d)(nb:Bs.Nodup)(fb:∀ a∈Bs,Hs a=none/\a∉b :: As):∃ gy,jz K H1 b (acc++[d]) (ys++[v]) gy Hs ρ τ (upd H b (.lst (ys++[v]))):=by
 obtain⟨B,sb,rb⟩:∃ B,B.Sublist Bs/\cK K Hs H false d v B:=by
  rcases ok with hf|rfl
  ·exact⟨[],AA _,.sh (λ_=>hf) (r.flat c.sr.wf hf)⟩
  ·exact⟨[],AA _,.sh (λz=>nomatch z) r.2⟩
 obtain⟨na,nA⟩:=rX.mp c.nd;have E3:=λa ha=>fb a (sb.subset ha);refine⟨As++(B++[]),c.sm,⟨c.sr.sr.heap,qI c.sr.wf c.nD (λ_ z=>nomatch z),kT,λa h=>nomatch h⟩,eJ,c.nD,(c.ra.fS (H':=upd H b (.lst (ys++[v]))) (aS.refl _) λa ha=>df λz=>na (by subst z;exact ha)).append (.cons (rb.fS (aS.refl _) λa ha=>df λz=>(E3 a ha).2 (by subst z;exact fA)) .nil),?_,?_⟩
 ·rw[kM];refine rX.mpr ⟨λm=>(eR.mp m).elim na λm=>(E3 b m).2 fA,g7.mpr ⟨nA,sb.nodup nb,λx hx y hy e=>(E3 y hy).2 (e ▸ eI _ hx)⟩⟩
 ·rw[kM];exact λa ha=>(eR.mp ha).elim (c.own a) λm=>(E3 a m).1
def vC{wi:WI}{g:WG}{tc:WT}{te:WE}{tn:Nat}{ix:List Nat}{σ:St}{H:Hp}{Qv:VK}(h:vn K (tH wi g tc te tn ix) σ H Qv):vK (ZN K wi) (ZJ K g) (EW K tc) (vn K te) tn ix σ H Qv:=by
 obtain⟨Hs,ρ,tot,Q,sr,h,f⟩:=h;rw[Al];refine⟨Hs,ρ,tot,_,sr,h,λJ H1 aI ds g1 S hz q1 b hb=>?_⟩;have st:jz K H1 b [] [] [] H1 (vz tn ix ρ) (lW tn ix σ) (upd H1 b (.lst [])):=by
  refine⟨aS.refl _,⟨kW (iI (G:=H1) (sr.grow g1) _ ix) tn,⟨(aS.refl H1).upd hb,λa xs e=>?_⟩,kT,λa h=>nomatch h⟩,eJ,hb,.nil,by simp,λa h=>nomatch h⟩;by_cases ha:a=b
  ·subst ha;rw[eJ] at e;cases e
  ·rw[df ha] at e;exact e
 refine⟨λi m τ H2=>m=ds.length-i/\i<=ds.length/\∃ aC fo acc ys As,jz K H1 b acc ys As aC fo τ H2/\acc.length<=i/\eQ g tc te (ds.drop i) fo (λout=>Q .bo (.list (acc++out))), ⟨ds.length,by simp,gd _,H1,_,[],[],[],st,c9 _,by simpa using q1⟩,?_⟩
 rintro i m τ H2 ⟨rfl,hi,aC,fo,acc,ys,As,c,la,q2⟩;by_cases i5:i<ds.length
 ·refine .inr ⟨S.go i aC H2 c.sm c.sr.wf i5,
   λzC v H4=>∃ zh md d,jz K H1 b acc ys As zh md zC H4/\(∃ gy,jz K H1 b (acc++[d]) (ys++[v]) gy zh md zC (upd H4 b (.lst (ys++[v]))))/\eQ g tc te (ds.drop (i+1)) md (λout=>Q .bo (.list (acc++d :: out))),
   λzC H3=>∃ gv BH,jz K H1 b acc ys As gv BH zC H3/\eQ g tc te (ds.drop (i+1)) BH (λout=>Q .bo (.list (acc++out))),?_,?_,?_⟩
  ·rintro zC v H4 ⟨zh,md,d,c4,⟨gy,c5⟩,q4⟩;have ZO:=c4.ra.length;exact⟨ys,ds.length-(i+1),c4.eD,by lia,by lia,rfl,i5,zh,md,acc++[d],ys++[v],gy,c5,by rw[iq];simpa using la,by simpa using q4⟩
  ·rintro zC H3 ⟨gv,BH,c3,q3⟩;exact⟨ds.length-(i+1),by lia,rfl,i5,gv,BH,acc,ys,As,c3,by lia,q3⟩
  ·intro x H3 y;obtain⟨gv,g3,rd⟩:=S.mG i aC H2 x H3 ds[i] c.sm c.sr.wf (by simp[i5]) y;rw[A6 i5] at q2;have c3:=c.grow g3;refine⟨gv,fo,[],ds[i],_,c3.sr,rd,q2,λZP md L9 E2 m4 q4=>?_⟩;have t4:L9=[]:=xdw.mpr λa ha=>nomatch m4 a ha;subst t4;have c4:jz K H1 b acc ys As gv md ZP H3:=⟨c3.sm,E2,c3.eD,c3.nD,c3.ra,c3.nd,c3.own⟩
   refine⟨gv,md,[],_,E2,q4,λk H5 k8 g5 q5=>?_⟩;have c5:=c4.grow g5
   cases k with
   |false=>exact⟨k8,md,c5,q5⟩
   |true =>
    refine⟨k8,md,[],_,c5.sr,q5,λv H6 ZQ m6 d6 As6 g6 r6 f6 q6=>?_⟩;have c6:=c5.grow g6;refine⟨ZQ,md,d6,c6,c6.push r6 q6.1 f6.1 λa ha=>⟨(f6.2 a ha).1,λm=>?_⟩,q6.2⟩;rcases eW.mp m with rfl|m
    ·have:=(f6.2 _ ha).2;rw[c5.eD] at this;cases this
    ·exact(c5.ra.own a m).ne (f6.2 a ha).2
 ·have e:i=ds.length:=by lia
  subst e;refine .inl ⟨S.stop aC H2 c.sm c.sr.wf,?_⟩;rw[NH] at q2;have q2:Q .bo (.list (acc++[])):=q2;rw[kM] at q2;have ZO:=c.ra.length;have rm:RM K aC H2 (.ow false) (.list acc) (.ref b) (b :: As):=⟨.list (by lia) c.eD c.ra,by simp⟩
  obtain⟨gy,r',fr⟩:=iM g1.wf c.sm c.sr.wf rm c.nd λa ha=>(eW.mp ha).elim (λz=>z ▸ c.nD) (c.own a);exact Fin.after f g1 (.ref b) H2 _ .bo (.list acc) gy (b7 g1.wf c.sm c.sr.wf) r' fr q2
end
def jO{g:WG}{tc:WT}{te:WE}(p:D->Bool)(f:D->D)(Iv:Env->Prop):∀ (xs:List D) (ρ:Env) (k:List D->Prop),Iv ρ -> (∀ x∈xs,∀ ρ,Iv ρ->∀ N1:Env->Prop,∀ N2:Env->D->Prop,(∀ bt,Iv bt->p x=false->N1 bt)->(∀ bt,Iv bt->p x=true->N2 bt (f x))->g x ρ λi7=>tc i7 λb=>if b=true then te i7 λm d=>yc m d/\N2 i7 d else N1 i7) ->
  k ((xs.filter p).map f)->eQ g tc te xs ρ k
 |[],_,k,_,_,h=>h
 |x :: xs,ρ,k,iv,hs,h=>by
  refine hs x fA ρ iv _ _ (λbt E4 hp=>?_) (λbt E4 hp=>?_)
  ·exact jO p f Iv xs bt k E4 (λy hy=>hs y (eI _ hy)) (by simpa[hp] using h)
  ·exact jO p f Iv xs bt _ E4 (λy hy=>hs y (eI _ hy)) (by simpa[hp] using h)
end L2.Q
namespace L2.Q.R
def Mj{ρ:L2.Q.Env}{Q:Md->L2.Q.D->Prop}{tt:WT}{te:WE}{wi:WI}{g:WG}{tn:Nat}{ix:List Nat}:tH wi g tt te tn ix ρ Q=wi ρ λds=>eQ g tt te ds (vz tn ix ρ) λout=>Q .bo (.list out):=rfl
end L2.Q.R
namespace L2
section
variable {X:Cx}{o i value:Expr}{pos pos':Pos}{td ty tv:TE}
def Mt(td ty tv:TE):TS:=λD σ H=>tv σ H λv H1=>td σ H1 λx H2=>ty σ H2 λy H3=>∃ a xs,∃ j:Int,x=.ref a/\y=.int j/\H3 a=some (.lst xs)/\0<=j/\j<xs.length/\D.nx σ (upd H3 a (.lst (xs.set j.toNat v)))
def BZ(r:RelV v u)(h:Vals xs us)(k:Nat):Vals (xs.set k v) (us.set k u):=by
 induction h generalizing k with
 |nil=>exact .nil
 |cons a _ ih =>
  cases k with
  |zero=>exact .cons r ‹_›
  |succ k=>exact .cons a (ih k)
def Ez(ho:PE X o td)(hi:PE X i ty)(hv:PE X value tv)(hs:lP value (some (.Subscript o i pos')) pos.line X.env=pure false) :
  PS X (.Assign [.Subscript o i pos'] value pos) (Mt td ty tv):=by
 intro pins s σ H D I h;refine wpAny_Assign_Subscript (cv (hv pins s σ H _ I h) λr s1 ck=>L2.eM ck λv H1 I1 rv q1=>cv (ho pins s1 σ H1 _ I1 q1) λu s2 ck=>L2.eM ck λx H2 I2 rx q2=>cv (hi pins s2 σ H2 _ I2 q2) λiv s3 dA=>?_) hs;obtain⟨y,H3,I3,ry,a,xs,j,ex,ey,g,h0,h1,q3⟩:=dA;subst ex ey;obtain rfl:u=Value.ref a:=rx;obtain⟨t,rfl⟩:=ry;obtain⟨z,its,n,r',hl,e⟩:=I3.RT g;have hsl:bE<2 ^ 62:=by rw[nS];decide
 exact PySem.W.ki_setAt e h0 (by lia) (by rw[kB];lia) ⟨σ,_,I3.Ur g e (by simp) (BZ rv r' _) (by simpa using z),q3⟩
end
end L2
namespace L2.Q
section
variable {X:Cx}{K:ay}{L:Str->Hp->Prop}{a b c e2:Expr}{p:WP}{tk tv:WE}{pos pos':Pos}
def aB.put(r:cK K Hs H fl d v [])(k:Nat)(q:aB K Hs H fl ds vs As):∃ Bs,Bs.Sublist As/\aB K Hs H fl (ds.set k d) (vs.set k v) Bs:=by
 induction k generalizing ds vs As with
 |zero =>
  cases ds with
  |nil=>obtain⟨rfl,rfl⟩:=q.n0;exact⟨[],List.Sublist.refl _,q⟩
  |cons x ds =>obtain⟨u,us,A,B,rfl,rfl,_,q2⟩:=q.c;exact⟨[]++B,k9 _ _,aB.cons r q2⟩
 |succ k ih =>
  cases ds with
  |nil=>obtain⟨rfl,rfl⟩:=q.n0;exact⟨[],List.Sublist.refl _,q⟩
  |cons x ds =>obtain⟨u,us,A,B,rfl,rfl,r1,q2⟩:=q.c;obtain⟨Bs,sb,q3⟩:=ih q2;exact⟨A++Bs,List.Sublist.append (List.Sublist.refl _) sb,aB.cons r1 q3⟩
def Ds(p:WP)(tk tv:WE):WS:=λE ρ=>tv ρ λ_ x=>p ρ λfl d up=>tk ρ λ_ j=>x.flat=true/\R.MQ d λxs=>intD j λj=>0<=j/\j<xs.length/\E.nx (up fl (.list (xs.set j.toNat x)))
def Gg(ho:QP X K a p)(hi:QE X K b tk)(hv:QE X K c tv)(hs:autoParam (lP c (some (.Subscript a b pos')) pos.line X.env=pure false) bv) :
  QS X K L (.Assign [.Subscript a b pos'] c pos) (Ds p tk tv):=by
 refine PS.imp (Ez ho hi hv hs) λD σ H hx=>bR hx λHs ρ tot E sr h k1 k2 k3 k4=>?_;refine⟨Hs,ρ,tot,_,sr,h,λv H1 aI m1 x As1 g1 r1 f1 q1=>⟨aI,ρ,tot,_,sr.grow g1,q1,λu H2 aC fl d up g2 p2 q2=>⟨aC,ρ,tot,_,(sr.grow g1).grow g2,q2,λy H3 gv m3 yd As3 g3 r3 f3 q3=>?_⟩⟩⟩;obtain⟨hx,q3⟩:=q3;have rx:Rep K gv x v:=((r1.grow g2).grow g3).flat g3.wf hx;have ry:=r3.rep g3.wf
 cases d with
 |list xs =>
  cases ry with
  |int j =>obtain⟨h0,h1,q3⟩:=q3;obtain⟨a,vs,A,ea,e2,e21,rs,nd,hn,k⟩:=p2.put g3;obtain⟨nA,My⟩:=rX.mp nd;have hl:=rs.length;have hz0:=p2.short ea e21;obtain⟨B,sb,rb⟩:=aB.put (cK.sh (λ_=>hx) rx) j.toNat rs;refine⟨a,vs,j,ea,rfl,e2,h0,by lia,?_⟩;obtain⟨eL,fP⟩:=k fl _ _ B id rb (by rw[List.length_set];lia) (sb.nodup My) (λz=>nA (sb.subset z)) (λx hx=>.inl (sb.subset hx));exact k1 _ _ gv _ eL ((g1.sh.trans g2.sh).trans g3.sh) fP q3
  |_=>exact q3.elim
 |_=>exact q3.elim
end
end L2.Q
namespace L2.Q.R
section
variable {tk tv:WE}{ρ:L2.Q.Env}{E:dH}{p:WP}
def O9:Ds p tk tv E ρ=tv ρ λ_ x=>p ρ λfl d up=>tk ρ λ_ j=>x.flat=true/\b9 d (f:=λd=>MQ d λxs=>b9 j (f:=λj=>intD j λj=>0<=j/\j<xs.length/\E.nx (up fl (.list (xs.set j.toNat x)))) ⟨⟩) ⟨⟩:=rfl
end
end L2.Q.R
namespace L2.Q
def dw'(o:Option Sl):Bool:=match o with
 |none=>true
 |some (.sh _)=>true
 |_=>false
def gw(ρ:Env):Bool:=ρ.all dw'
section
variable {X:Cx}{K:ay}{L:Str->Hp->Prop}{pos:Pos}{e:Expr}{te:WE}
def SR.gw{Hs H aw H':Hp}{ρ:Env}{σ:St}{tot:List ae}(s:SR K Hs H ρ σ tot)(h:gw ρ=true)(g:aS Hs aw):SR K aw H' ρ σ []:=by
 induction s with
 |nil=>exact .nil
 |non _ ih=>exact .non (ih h)
 |sh r _ ih=>exact .sh (r.same g) (ih h)
 |_=>simp[L2.Q.gw,dw'] at h
def dE.gw{Hs H:Hp}{ρ:Env}{σ:St}{tot:List ae}(s:dE K Hs ρ σ H tot)(h:gw ρ=true):dE K H ρ σ H [] :=
 ⟨s.sr.gw h s.wf.sub,⟨λ_ _ z=>z,λ_ _ z=>z⟩,kT,λ_ m=>nomatch m⟩
def mD(i:Nat)(te:WE):WS:=λE ρ=>te ρ λ_ d=>gw ρ=true/\E.nx (ρ.set i (some (.sh d)))
def iC(i:Nat){x:Str}{pos':Pos}(he:QE X K e te)(hs:autoParam (lP e (some (.Name x pos')) pos.line X.env=pure false) bv) (hf:X.fn x=true\/X.env.scope.names.lookup x=some .local:=by first|exact .inl rfl|exact .inr rfl|assumption) (hN:X.N.Nodup:=by assumption) (hi:autoParam (X.N[i]? = some x) bv) (hx:Loc X.env.scope x:=by first|exact .inl rfl|exact .inr rfl):QS X K L (.Assign [.Name x pos'] e pos) (mD i te):=PS.imp (Kj hN hi hx he hs hf) λD σ H hx=>bR hx λHs ρ tot E sr h k1 k2 k3 k4=>by
 refine⟨Hs,ρ,tot,_,sr,h,λv H1 aI m d As g1 r1 f1 q1=>?_⟩;obtain⟨a,q1⟩:=q1;obtain⟨cf,s'⟩:=((sr.grow g1).gw a).set i (m:=.sh) (As:=[]) ⟨rfl,r1.rep g1.wf⟩ kT (λ_ m=>nomatch m) rfl;exact k1 _ H1 H1 _ cf (g1.sh.trans g1.wf.sub) s' q1
end
end L2.Q
namespace L2.Q.R
def O_{te:WE}{i:Nat}{E:dH}{ρ:L2.Q.Env}:mD i te E ρ=te ρ λ_ d=>b9 d (f:=λd=>gw ρ=true/\E.nx (ρ.set i (some (.sh d)))) ⟨⟩:=rfl
def KC{ρ:L2.Q.Env}:gw (none :: ρ)=gw ρ:=rfl
def K5{d:L2.Q.D}{ρ:L2.Q.Env}:gw (some (.sh d) :: ρ)=gw ρ:=rfl
def Kr:gw []=true:=rfl
end L2.Q.R
namespace L2
open PySem.Calls
end L2
end
namespace PySem
open Sem (wp)
open Builtin Builtin.Str
def yL{prog:cq}{w:cS}{A:ft}{E:ah->aE->Prop}{s:aE}{x y:Str}{t u:Tok}{Q:ah->aE->Prop}(hy:(y.length == 0)=false)(jS:x.length<=bE)(kW':(partsBetween x (occurrences x y 0 x.length (x.length+1)) y.length).length<=bE)(hq:∀ l k,l.map (·.1)=Txt.split x y->Q (.ref s.heap.objs.size) { s with heap:=s.heap.push { cls:=.type "list",data:=.seq (strValues l).toArray },toks:=k }) :
  b6 (bq prog w) A (call (.builtin "str.split") [.str x t,.str y u]) Q E s:=by
 cases h1:(decide (x.length<y.length) || decide (Builtin.Str.strKind x<Builtin.Str.strKind y))
 ·cases hf:(occurrences x y 0 x.length (x.length+1)).isEmpty
  ·refine FD F.slot_str_split (DZ _ _ _) F.entry_str_split (F.args_str_split_2 _ _) (meets_str_split_sep x y t u h1 hy hf jS kW') ?_;show wants Q E _ { s with toks:=_,heap:=s.heap.push { cls:=.type "list",data:=.seq (strsFrom s.toks (partsBetween x (occurrences x y 0 x.length (x.length+1)) y.length)).toArray } };rw[strsFrom_eq];exact hq (numbered s.toks _) _ ((numbered_texts _ _).trans ((if_neg (ne_true_of_eq_false h1)).trans (if_neg (ne_true_of_eq_false hf))).symm)
  ·exact FD F.slot_str_split (DZ _ _ _) F.entry_str_split (F.args_str_split_2 _ _) (meets_str_split_not_found x y t u h1 hy hf) (hq [(x,t)] s.toks ((if_neg (ne_true_of_eq_false h1)).trans (if_pos hf)).symm)
 ·exact FD F.slot_str_split (DZ _ _ _) F.entry_str_split (F.args_str_split_2 _ _) (meets_str_split_cannot_occur x y t u h1) (hq [(x,t)] s.toks (if_pos h1).symm)
end PySem
namespace PySem
open Builtin Builtin.Str StrLaws
theorem pU(x y:Str)(hi:Nat)(hw:1<=y.length):∀ (cs:List Nat) (a f:Nat),ChainG x y hi a cs f->cs=[]\/cs.length+a<=hi
 |[],_,_,_=>.inl rfl
 |d :: r,a,f,h=>by
  have h1:=h.1;have h2:=h.2.1.1;rcases pU x y hi hw r _ f h.2.2.2 with e|e
  ·subst e;right;simp;lia
  ·right;simp only[jv];lia
theorem pR(x:Str)(w:Nat):∀ (cs:List Nat) (a:Nat),(partsFrom x w a cs).length=cs.length+1
 |[],_=>rfl
 |d :: r,a=>by show(partsFrom x w _ r).length+1=_;rw[pR x w r];rfl
def lB(x y:Str)(hw:1<=y.length):(partsBetween x (occurrences x y 0 x.length (x.length+1)) y.length).length<=x.length+1:=by
 obtain⟨f,hG,_⟩:=occ_tight x y hw;rw[partsBetween_eq,pR];rcases pU x y x.length hw _ 0 f hG with e|e
 ·rw[e];simp
 ·lia
def pP(x y:Str)(hw:1<=y.length):(Txt.split x y).length<=x.length+1:=by
 unfold Txt.split;split
 ·simp
 ·split
  ·simp
  ·exact lB x y hw
end PySem
section
open PySem PySem.Spec PyProof.Rows
namespace L2
open PySem.Calls
section
variable {X:Cx}
theorem qb:∀ l:List (Str × Tok),Vals ((l.map (·.1)).map V.str) (PySem.strValues l)
 |[]=>.nil
 |p :: l=>.cons ⟨p.2,rfl⟩ (qb l)
def Ac:Um X "str.split" (λx xs H Q=>∃ z y,x=.str z/\xs=[.str y]/\1<=y.length/\z.length<=1000000/\∀ p,H p=none->Q (.ref p) (upd H p (.lst ((Txt.split z y).map V.str)))):=by intro pins s σ H x vs v us Q I rx rv h;obtain⟨z,y,rfl,rfl,hy,hz,q⟩:=h;obtain⟨t,rfl⟩:=rx;obtain⟨u,rfl,ru⟩:=Vals.one rv;obtain⟨t',rfl⟩:=ru;have hb:=lB z y hy;refine yL (beq_eq_false_iff_ne.mpr (by lia)) (kD hz (by decide)) (kD hb (by rw[nS];lia)) λl k el=>?_;have I2:=I.RQ (t':=k) (qb l) (by rw[dz,el];exact kD (pP z y hy) (by rw[nS];lia));rw[el] at I2;exact⟨.ref _,_,I2,rfl,q _ I.fresh⟩
end
end L2
namespace L2.Q
theorem pL{y p:Str}:∀ {zs:List Str},p∈zs->p.length<=(Str.join y zs).length
 |[],h=>nomatch h
 |[x],h=>by rw[iP.mp h];exact c9 _
 |x :: z :: r,h=>by
  show _<=(x++y++Str.join y (z :: r)).length;rw[aV,aV];rcases eW.mp h with rfl|h
  ·lia
  ·have:=pL (y:=y) h;lia
def vo{x y p:Str}(h:p∈Txt.split x y):p.length<=x.length:=by have:=pL (y:=y) h;rwa[StrLaws.join_split] at this
theorem qH{K:ay}{H:Hp}:∀ {l:List Str},(∀ x∈l,x.length<=bE)->bS K H (l.map .str) (l.map V.str)
 |[],_=>.nil
 |x :: l,h=>.cons (.str (h x fA)) (qH λy hy=>h y (eI _ hy))
theorem nj:∀ l:List Str,dn (l.map D.str)=true
 |[]=>rfl
 |x :: l=>by simp[dn,nj l,D.flat]
def tG(to te:WE):WE:=λρ Q=>to ρ λ_ x=>match x with
 |.str z=>te ρ λ_ y=>match y with
  |.str s=>1<=s.length/\z.length<=1000000/\Q (.ow true) (.list ((Txt.split z s).map .str))
  |_=>False
 |_=>False
section
variable {X:Cx}{K:ay}{o e:Expr}{to te:WE}{apos eP:Pos}
def wL (ho:QE X K o to) (he:QE X K e te) (oI:autoParam (vS o "split" X.env (b3 o X.env)=b3 o X.env) bv) (wq:autoParam (((gV eP (aT [e] X.env)).all (λx=>!x.1) && (A4 eP (A3 [] X.env)).all (λx=>x.1.isSome) && decide ([e].length+([]:List uk).length+(if ([]:List uk).isEmpty then 0 else 1)<30))=true) bv) (hline:autoParam ((apos.endLine == eP.line)=true) bv) (qc:autoParam (aT (e :: []) X.env=(false,b3 e X.env) :: aT [] X.env) bv) (w8:autoParam ((gV eP (aT [] X.env)).any (·.1)=false) bv) :
  QE X K (.Call (.Attribute o "split" apos) [e] [] eP) (tG to te):=by
 refine PE.imp (Lc PySem.F.plainAttrs_str PySem.F.slot_str_split PySem.F.type_str_split Ac ho (i3 he ly qc) oI wq hline qc w8) λσ H Qv hx=>hV hx λHs ρ tot Q sr h f=>?_;refine⟨Hs,ρ,tot,_,sr,h,λv H1 aI m x As g1 r1 f1 q1=>?_⟩;have r:=r1.rep g1.wf
 cases r with
 |str hz =>
  refine⟨rfl,aI,ρ,tot,_,sr.grow g1,q1,λy H2 aC m2 x2 i9 g2 r2 f2 q2=>?_⟩;have rr:=r2.rep g2.wf
  cases rr with
  |str hz2 =>
   obtain⟨h1,h2,q⟩:=q2;refine⟨_,_,rfl,rfl,h1,h2,Fin.lst (Fin.after f (g1.trans g2)) g2.wf ?_ (qH λp hp=>?_) (nj _) q⟩
   ·rw[dz];exact kD (pP _ _ h1) (by rw[nS];lia)
   ·exact kD (vo hp) hz
  |_=>exact q2.elim
 |_=>exact q1.elim
end
end L2.Q
namespace L2.Q.R
section
variable {ρ:L2.Q.Env}{to te:WE}{Q:Md->L2.Q.D->Prop}
def Ls:tG to te ρ Q=to ρ λ_ x=>b9 x (f:=λx=>MB x λz=>te ρ λ_ y=>b9 y (f:=λy=>MB y λs=>1<=s.length/\z.length<=1000000/\Q (.ow true) (.list ((Txt.split z s).map .str))) ⟨⟩) ⟨⟩:=rfl
end
end L2.Q.R
namespace L2.Q
open PySem.StrLaws PySem.Builtin.Str
def cY{c:Nat}{x r:List Nat}(h:c∉x):(x++c :: r).takeWhile (· != c)=x/\(x++c :: r).dropWhile (· != c)=c :: r:=by
 induction x with
 |nil=>simp
 |cons a x ih =>
  have ha:(a != c)=true:=by simp;intro e;exact h (by simp[e])
  have:=ih λm=>h (eI _ m);simp[ha,this.1,this.2]
def uo{c:Nat}{x:List Nat}(h:c∉x):x.takeWhile (· != c)=x/\x.dropWhile (· != c)=[]:=by
 induction x with
 |nil=>simp
 |cons a x ih =>
  have ha:(a != c)=true:=by simp;intro e;exact h (by simp[e])
  have:=ih λm=>h (eI _ m);simp[ha,this.1,this.2]
def gQ(y a b:Str)(r:List Str):sg (Str.join y (a :: b :: r))=sg a++(sg y++sg (Str.join y (b :: r))):=by show sg (a++y++Str.join y (b :: r))=_;rw[ji,ji,pE]
theorem uf{c:Nat}{y:Str}{s:List Nat}(hy:sg y=c :: s):∀ {ps qs:List Str},ps≠[]->qs≠[]->(∀ p∈ps,c∉sg p)->(∀ p∈qs,c∉sg p)->sg (Str.join y ps)=sg (Str.join y qs)->ps=qs
 |[],_,h,_,_,_,_=>absurd rfl h
 |_,[],_,h,_,_,_=>absurd rfl h
 |[a],[b],_,_,_,_,e=>by rw[lQ (show sg a=sg b from e)]
 |[a],b :: b2 :: r,_,_,ha,hb,e=>by rw[gQ,hy] at e;have e:sg a=_:=e;have:=congrArg (List.dropWhile (· != c)) e;rw[(uo (ha a (by simp))).2,Tv,(cY (hb b (by simp))).2] at this;cases this
 |a :: a2 :: r,[b],_,_,ha,hb,e=>by rw[gQ,hy] at e;have e:_=sg b:=e;have:=congrArg (List.dropWhile (· != c)) e;rw[(uo (hb b (by simp))).2,Tv,(cY (ha a (by simp))).2] at this;cases this
 |a :: a2 :: r,b :: b2 :: t,_,_,ha,hb,e=>by rw[gQ,gQ,hy,Tv,Tv] at e;have h1:=congrArg (List.takeWhile (· != c)) e;have h2:=congrArg (List.dropWhile (· != c)) e;rw[(cY (ha a (by simp))).1,(cY (hb b (by simp))).1] at h1;rw[(cY (ha a (by simp))).2,(cY (hb b (by simp))).2] at h2;have h3:=List.append_cancel_left (List.cons.inj h2).2;rw[lQ h1,uf hy (ps:=a2 :: r) (qs:=b2 :: t) (by simp) (by simp) (λp hp=>ha p (eI _ hp)) (λp hp=>hb p (eI _ hp)) h3]
def Av(x y:Str):Txt.split x y≠[]:=by
 unfold Txt.split;split
 ·simp
 ·split
  ·simp
  ·rw[partsBetween_eq];obtain⟨p,r,e⟩:=partsFrom_ne x y.length 0 (occurrences x y 0 x.length (x.length+1));rw[e];simp
def vN{c:Nat}{ps:List Str}(h:ps≠[])(hc:∀ p∈ps,c∉sg p):Txt.split (Str.join ⟨#[c]⟩ ps) ⟨#[c]⟩=ps :=
 uf (c:=c) (s:=[]) rfl (Av _ _) h (split_free _ c) hc (by rw[join_split])
end L2.Q
namespace L2.Q
open PySem.W
abbrev WX:=Env->(Md->D->Prop)->(Str->Prop)->Prop
def tpX(K:ay)(rn:List Str)(mg:Str->Option ah)(E1:XK)(tP:St)(t:WX):TE:=λσ H Qv=>σ=tP/\∃ Hs ρ tot Q Y,dE K Hs ρ σ H tot/\t ρ Q Y /\ (∀ v H' aw m d As,fe Hs H aw H'->RM K aw H' m d v As->bM aw H As->Q m d->Qv v H')/\∀ n H',aS H H'->Y n->LX rn mg E1 n H'
def xY(rn:List Str)(X:Cx)(tP:St)(E1:XK):Prop:=∀ pins H s e s',Inv X pins tP H s->oS X.prog X.w X.mg rn X.stack H s E1 e s'->X.xe e s'
def yW(sp:fk)(t:WA):WX:=λρ Q Y=>t ρ λps=>sp (ps.map (·.2)) λm d=>xi m d Y (b9 (m,d) (f:=λp=>Q (vv p.1 p.2) p.2) ⟨⟩)
section
variable {X:Cx}{K:ay}{rn:List Str}{E:XK}{tP:St}{e:Expr}{es:List Expr}{t:WA}{ta:TA}{pos p:Pos}{k:Nat}{x:Str}{ps:List Str}{sp:fk}
def zm (C:MG X.prog X.w X.K X.mg X.base rn k x ps sp) (hr:gi k X.A) (hx:xY rn X tP E) (ha:PA X (e :: es) ta) (hg:Gl X x) (ip:(x == ("__debug__" : Str))=false) (he:aT (e :: es) X.env=(false,b3 e X.env) :: aT es X.env)(hU:(gV pos (aT es X.env)).any (·.1)=false):PE X (.Call (.Name x p) (e :: es) [] pos) (λσ H Q=>σ=tP/\KS (eO X.K rn X.mg sp) [] E ta σ H Q):=by
 intro pins s σ H Q I ⟨e0,h⟩;subst e0;obtain⟨g,fd,hm,hk,hb,F⟩:=C.ex;refine Q6 (JY I hg hm ?_ ip);refine VB I.ok.mod.NW hk (cv (ha pos pins s σ H _ I h) λus s1 ck=>L2.eM ck λvs H1 I1 r q=>⟨I1.iA,?_⟩) he hU;have r2:Vals (vs++[]) (us++[]):=r.append .nil;have hl:(us++[]).length=ps.length:=by rw[<- r2.length];exact F.len _ _ _ _ q
 refine wpAny_call (codeAny_mono (F.run X.A X.stack s1 H1 ⟨us,[]⟩ (us++[]) (vs++[]) Q E hr I1.Wy (hb s1 us I1.iA hl) r2 q) λr s' hq=>?_)
 cases r with
 |error e=>exact hx pins H1 s1 e s' I1 hq
 |ok fl =>
  cases fl with
  |ret u=>exact I1.after hq
  |next=>exact False.elim hq
  |brk=>exact False.elim hq
  |cont=>exact False.elim hq
def rD{σ:St}{H:Hp}{Qv:VK}{Hs:Hp}{ρ:Env}{tot:List ae}{Y:Str->Prop}{N:Md->D->Prop}(sr:dE K Hs ρ σ H tot)(h:t ρ λps=>sp (ps.map (·.2)) λm d=>xi m d Y (N m d))(f:∀ v H1 aI H' aw m d As,fe Hs H aI H1->aS H1 aw->Wf aw H'->RM K aw H' m d v As->As.Nodup->(∀ a∈As,aw a=none)->N m d->Qv v H') (fx:∀ n H',aS H H'->Y n->LX rn X.mg E n H'):KS (eO K rn X.mg sp) [] E (UY K t) σ H Qv:=by
 exact⟨Hs,ρ,tot,_,sr,h,λvs H1 aI ps As g1 r1 f1 q1=>⟨_,_,by rw[kM];exact r1.reps g1.wf,q1,λv H' aw m d As s w r nd own q=>f v H1 aI H' aw m d As g1 s w r nd own (wN r q),λn H' s q=>fx n H' (g1.all.trans s) q⟩⟩
def GX (C:MG X.prog X.w X.K X.mg X.base rn k x ps sp) (hr:gi k X.A) (hx:xY rn X tP E) (ha:QA X K (e :: es) t) (hK:autoParam (X.K=K) bv) (hg:autoParam (Gl X x) bv) (ip:(x == ("__debug__" : Str))=false:=by decide) (he:autoParam (aT (e :: es) X.env=(false,b3 e X.env) :: aT es X.env) bv) (hU:autoParam ((gV pos (aT es X.env)).any (·.1)=false) bv):PE X (.Call (.Name x p) (e :: es) [] pos) (tpX K rn X.mg E tP (yW sp t)):=by
 subst hK;refine PE.imp (zm C hr hx ha hg ip he hU) λσ H Qv ⟨e0,Hs,ρ,tot,Q,Y,sr,h,f,fx⟩=>⟨e0,rD sr h (λv H1 aI H' aw m d As g1 s w r nd own q=>?_) fx⟩
 obtain⟨gy,r',fr⟩:=iM g1.wf s w r nd own;exact Fin.after f g1 v H' _ (vv m d) d gy (b7 g1.wf s w) r' fr q
end
end L2.Q
namespace L2.Q.R
end L2.Q.R
namespace L2.Q
open PySem.W
abbrev WB:=Env->(Env->Prop)->(Str->Prop)->Prop
def tpB(K:ay)(rn:List Str)(mg:Str->Option ah)(E1:XK)(tP:St)(t:WB):TS:=λD σ H=>σ=tP/\∃ Hs ρ tot N Y,dE K Hs ρ σ H tot/\t ρ N Y /\ (∀ b4 H' aw bt cf,aS Hs aw->dE K aw bt b4 H' cf->N bt->D.nx b4 H')/\∀ n H',aS H H'->Y n->LX rn mg E1 n H'
def Dt(i:Nat)(wx:WX):WB:=λρ N Y=>wx ρ (λm d=>b9 (asg m d) (f:=λo=>R.put o λsl=>N (ρ.set i (some sl))) ⟨⟩) Y
def SR.Jd{K:ay}:∀ (i:Nat),SR K Hs H ρ σ tot->∃ cf,cf.Sublist tot/\SR K Hs H (ρ.set i (some (.xc a))) (σ.set i (some (.ref a))) cf:=by
 intro i s
 induction s generalizing i with
 |nil=>exact⟨[],AA _,.nil⟩
 |non s ih =>
  cases i with
  |zero=>exact⟨_,List.Sublist.refl _,.xc s⟩
  |succ i=>obtain⟨t,a,b⟩:=ih i;exact⟨t,a,.non b⟩
 |sh q s ih =>
  cases i with
  |zero=>exact⟨_,List.Sublist.refl _,.xc s⟩
  |succ i=>obtain⟨t,a,b⟩:=ih i;exact⟨t,a,.sh q b⟩
 |xc s ih =>
  cases i with
  |zero=>exact⟨_,List.Sublist.refl _,.xc s⟩
  |succ i=>obtain⟨t,a,b⟩:=ih i;exact⟨t,a,.xc b⟩
 |ow ne q s ih =>
  cases i with
  |zero=>exact⟨_,k9 _ _,.xc s⟩
  |succ i=>obtain⟨t,a,b⟩:=ih i;exact⟨_,a.append_left _,.ow ne q b⟩
 |lk ne q s ih =>
  cases i with
  |zero=>exact⟨_,k9 _ _,.xc s⟩
  |succ i=>obtain⟨t,a,b⟩:=ih i;exact⟨_,a.append_left _,.lk ne q b⟩
 |ob q s ih =>
  cases i with
  |zero=>exact⟨_,k9 _ _,.xc s⟩
  |succ i=>obtain⟨t,a,b⟩:=ih i;exact⟨_,a.append_left _,.ob q b⟩
section
variable {X:Cx}{K:ay}{rn:List Str}{E1:XK}{tP:St}{e:Expr}{wx:WX}{i:Nat}{y:Str}{pos' apos:Pos}
def Jv(hN:X.N.Nodup)(hi:X.N[i]? = some y)(hy:Loc X.env.scope y)(he:PE X e (tpX K rn X.mg E1 tP wx))(hs:autoParam (lP e (some (.Name y pos')) apos.line X.env=pure false) bv) (Rx:X.fn y=true\/X.env.scope.names.lookup y=some .local:=by first|exact .inl rfl|exact .inr rfl|assumption):mE X [.Assign [.Name y pos'] e apos] (tpB K rn X.mg E1 tP (Dt i wx)):=by
 intro pins s σ H D I ⟨e0,Hs,ρ,tot,N,Y,sr,h,f,fx⟩;refine RC (Kj hN hi hy he hs Rx) pins s σ H D I ⟨e0,Hs,ρ,tot,_,_,sr,h,λv H' aw m d As g1 r1 f1 q1=>?_,fx⟩
 cases ea:asg m d with
 |none=>rw[ea] at q1;exact q1.elim
 |some sl =>rw[ea] at q1;obtain⟨cf,s'⟩:=(sr.grow g1).set i r1 f1.1 (λa ha=>⟨(f1.2 a ha).1,λm=>(sr.sr.own a m).ne (f1.2 a ha).2⟩) ea;exact f _ H' aw _ cf g1.sh s' q1
end
def Ga(j:Nat)(wb:WB)(hd:ae->Str->WS):WS:=λE ρ=>wb ρ E.nx λn=>∀ a,hd a n { nx:=λbt=>E.nx (bt.set j none),rt:=E.rt } (ρ.set j (some (.xc a)))
def Dv{X:Cx}{K:ay}{R:Str}(xr:JN X.K X.mg rn R) (hN:X.N.Nodup) (hj:X.N[j]? = some en) (hl:X.env.scope.names.lookup en=some .local) (pT:X.stack=X.env :: X.outer) (hf:X.env.frame=some X.env.locals)(hb:∀ pn xe E1 tP,xY rn (jc X pn xe) tP E1->mE (jc X pn xe) body (tpB K rn X.mg E1 tP wb))(hh:∀ pn a oe n C,n∈rn->X.mg n=some (.ref C)->oy X.K C->(a,oe)∈pn->oe.cls=.ref C->tm (HM X pn a) K L (kX' :: suite) (hd a n)) (hg:autoParam (Gl X R) bv) (ip:(R == ("__debug__" : Str))=false:=by decide) :
  QS X K L (.Try body [.ExceptHandler (some (.Name R np)) (some en) (kX' :: suite) qG'] [] [] pos) (Ga j wb hd):=by
 intro pins s σ H D I hx;obtain⟨Hs,ρ,tot,E,sr,h,k1,k2,k3,k4,kx⟩:=hx;obtain⟨r,hm,xr,sub⟩:=xr.ex;have sp0:∀ p∈X.pn++pins,p∈(X.pn++pins)++[]:=λp hp=>by rw[kM];exact hp
 have wc:=hb (X.pn++pins) (λe s'=>∃ se H1 s1,Inv (jc X (X.pn++pins) X.xe) se σ H1 s1/\oS X.prog X.w X.mg rn X.stack H1 s1 (λc _ H'=>∃ n C,c=.ref C/\n∈rn/\X.mg n=some (.ref C)/\aS H H'/\∀ a,hd a n { nx:=λbt=>E.nx (bt.set j none),rt:=E.rt } (ρ.set j (some (.xc a)))) e s') _ σ (λse H1 s1 e s' I1 c=>⟨se,H1,s1,Inv.Mw I1,c⟩) [] s σ H D (Inv.jc I λp hp=>I.pin p (by rw[kM] at hp;exact hp)) ⟨rfl,Hs,ρ,tot,_,_,sr,h,k1,λn H' s2 q hn C hC=>⟨n,C,rfl,hn,hC,s2,q⟩⟩
 refine wpAny_Try_except (sD wc (λf s1 hs=>?_) λe s' hx=>?_)
 ·have hs:=SP.mY hs sp0
  cases f with
  |next =>obtain⟨b4,H',I',q⟩:=hs;exact Wh pins s1 b4 H' D I' q
  |brk=>exact hs
  |cont=>exact hs
  |ret u=>exact hs
 ·obtain⟨se,H1,s1,I1,a,n',C,a0,H',B,rfl,FT,os,bare,un,bG,HL,cov,fr,n,C2,eC,hn,GP,sm,hq⟩:=hx;cases eC;obtain⟨xc,kZ'⟩:=sub n C hn GP;obtain⟨Z1,g',d',t',Wz⟩:=s';obtain rfl:Wz=s1.os:=os;have la':Heap.FlyingW B (X.env :: X.outer) a (.ref C) a0 Z1:=pT ▸ HL;have th:∀ b o,s1.heap.get? b=some o->∃ o',Z1.get? b=some o':=λb o e=>un.there b o e (by simp);refine wpAny_looks_onW (pT ▸ I.ok.frames) hf la' λh4 held up4=>wpAny_landsW held λh5 Vf up5=>?_;have Z2:fZ (g9 X.stack) H' s1.heap Z1 h5:=fZ.of cov Vf.1 (up4.trans up5) HL.2.2.1;have dz':=cov.next Z2 bG th;have Z3:=Z2.un un;have Z4:=Z2.bG fr bG;have I5:Inv (jc X (X.pn++pins) X.xe) se σ H' ⟨h5,g',d',t',s1.os⟩:=I1.call Z3 Z4 bare (λb z=>absurd z (by simp));refine wpAny_handleBy_cons (codeAny_handlers_test ?_) (by intro q;cases q);refine JY (Inv.HM I5 λp hp=>I5.pin p hp) hg hm ?_ ip;refine rC xc xr kZ' I5.iA Vf.there (codeAny_handlers_suite_as ?_);refine lands_againW Vf λh6 Vg up6=>?_;have ff5:h5.FunFrames B X.stack:=pT ▸ Vf.2.2.1;have Z5:fZ (g9 X.stack) H' s1.heap h5 h6:=fZ.of dz' Vg.1 up6 ff5;have un6:=Z5.un Z3;have lg':=Z5.bG fr Z4;have I6:Inv (jc X (X.pn++pins) X.xe) se σ H' ⟨h6,g',d',t',s1.os⟩:=I1.call un6 lg' bare (λb z=>absurd z (by simp));obtain⟨oe,vs,he,sf,hdt,_⟩:=Vg.first;have nf:a∉g9 X.stack:=λz=>by have ff6:h6.FunFrames B X.stack:=pT ▸ Vg.2.2.1;obtain⟨_,o,e1,d1⟩:=ff6.mem z;rw[he] at e1;cases e1;exact d1 vs hdt
  have na:H' a=none:=by
   cases z:H' a with
   |none=>rfl
   |some u =>have:=(dz'.next Z5 Z4 λb o e=>Z3.there b o e (by simp)) a oe he (.inl (by rw[z];exact λz=>nomatch z)) nf;rw[Vg.2.1] at this;cases this
  have frm:∀ b,b∈g9 X.stack↔b=X.env.locals\/b∈X.fs:=λb=>by rw[pT];unfold g9;rw[FG,hf];exact eW
  have pa:Dw X H' ⟨h6,g',d',t',s1.os⟩ (a,oe):=⟨he,na,λz=>nf ((frm a).mpr (.inl z)),λz=>nf ((frm a).mpr (.inr z)),λv z=>by rw[hdt] at z;cases z⟩
  have I6h:Inv (HM X ((a,oe) :: (X.pn++pins)) a) [] σ H' ⟨h6,g',d',t',s1.os⟩:=Inv.HM I6 λp hp=>by
   rw[kM] at hp;rcases eW.mp hp with z|z
   ·rw[z];exact pa
   ·exact I6.pin p (kg _ z)
  have gr:=b7 sr.wf sm ⟨aS.refl H',λ_ _ e=>e⟩;have sg:=sr.grow gr;obtain⟨lj',dB',r6⟩:=SR.Jd j sg.sr;refine Wc (X:=HM X ((a,oe) :: (X.pn++pins)) a) (v:=.ref a) I6h hN hj (.inl hl) rfl (λs7 I7 _=>?_) (.inr hl);refine sD (hh ((a,oe) :: (X.pn++pins)) a oe n C hn GP xc fA sf [] s7 (σ.set j (some (.ref a))) H' { nx:=λMR H8=>∃ P4 SF Vh,aS _ P4/\dE K P4 SF MR H8 Vh/\E.nx (SF.set j none),rt:=D.rt } I7 ⟨_,ρ.set j (some (.xc a)),lj',_,⟨r6,sg.wf,dB'.nodup sg.nX,λb hb=>sg.own b (dB'.subset hb)⟩,hq a,λMR H8 P4 SF Vh m8 r8 q8=>⟨P4,SF,Vh,m8,r8,q8⟩,λ_ _ _ _ _ _ _ z=>z,λ_ _ _ _ _ _ _ z=>z,
    λv H2 aC m d As s2=>k4 v H2 aC m d As (gr.sh.trans s2),λn H2 s2=>kx n H2 (gr.sh.trans s2)⟩) (λf s8 hs=>?_) λ_ _ z=>z.elim
  cases f with
  |next =>
   obtain⟨MR,H8,I8,P4,SF,Vh,m8,r8,q8⟩:=hs;have I9:Inv X pins MR H8 s8:=Inv.yS I8 I.ok.hd λp hp=>by rw[kM];exact eI _ hp
   obtain⟨m,Z6,lk⟩:=id I9.loc;obtain⟨lk',dC',r9⟩:=SR.Fi j r8.sr;exact wpAny_nameGoes_keeps hl Z6 (by rw[I9.ok.kind];rfl) λh9 v Z7 sb=>⟨MR.set j none,H8,Inv.drop I9 hN hj lk Z7 sb,k1 _ H8 P4 _ lk' (gr.sh.trans m8) ⟨r9.Gz,r8.wf,dC'.nodup r8.nX,λb hb=>r8.own b (dC'.subset hb)⟩ q8⟩
  |brk=>obtain⟨_,_,_,z⟩:=hs;exact z.elim
  |cont=>obtain⟨_,_,_,z⟩:=hs;exact z.elim
  |ret u =>
   obtain⟨v,MR,H8,I8,rv,q⟩:=hs;have I9:Inv X pins MR H8 s8:=Inv.yS I8 I.ok.hd λp hp=>by rw[kM];exact eI _ hp
   obtain⟨m,Z6,_⟩:=id I9.loc;exact wpAny_nameGoes hl Z6 (by rw[I9.ok.kind];rfl) λh9 m9 Z7 sb=>⟨v,_,H8,Inv.forget I9 Z7 sb,rv,q⟩
end L2.Q
namespace L2.Q.R
section
variable {ρ:L2.Q.Env}{E:dH}{i j:Nat}{wb:WB}{hd:ae->Str->WS}{sp:fk}{t:WA}{N:L2.Q.Env->Prop}{Y:Str->Prop}
def Nt:Ga j wb hd E ρ=wb ρ E.nx λn=>∀ a,hd a n { nx:=λbt=>E.nx (bt.set j none),rt:=E.rt } (ρ.set j (some (.xc a))):=rfl
def Ot:Dt i (yW sp t) ρ N Y=t ρ λps=>sp (ps.map (·.2)) λm d=>xi m d Y (b9 (m,d) (f:=λp=>b9 (asg (vv p.1 p.2) p.2) (f:=λo=>put o λsl=>N (ρ.set i (some sl))) ⟨⟩) ⟨⟩):=rfl
end
end L2.Q.R
namespace L2.Q
open PySem.W
abbrev AW:=Env->(Str->Prop)->(Md->D->Prop)->Prop
abbrev E5:=Env->(Str->Prop)->(List (Md × D)->Prop)->Prop
def ll'(K:ay)(L:Str->Hp->Prop)(t:AW):TE:=λσ H Qv=>∃ Hs ρ tot Y Q,dE K Hs ρ σ H tot/\t ρ Y Q /\ (∀ v H' aw m d As,fe Hs H aw H'->RM K aw H' m d v As->bM aw H As->Q m d->Qv v H')/\∀ n H',aS Hs H'->Y n->L n H'
def Kz(K:ay)(L:Str->Hp->Prop)(t:E5):TA:=λσ H Qv=>∃ Hs ρ tot Y Q,dE K Hs ρ σ H tot/\t ρ Y Q /\ (∀ vs H' aw ps As,fe Hs H aw H'->x8 K aw H' ps vs As->bM aw H As->Q ps->Qv vs H')/\∀ n H',aS Hs H'->Y n->L n H'
abbrev P5(X:Cx)(K:ay)(L:Str->Hp->Prop)(e:Expr)(t:AW):Prop:=PE X e (ll' K L t)
abbrev Vi(X:Cx)(K:ay)(L:Str->Hp->Prop)(es:List Expr)(t:E5):Prop:=PA X es (Kz K L t)
def Z8(te:WE):AW:=λρ _ Q=>te ρ Q
def uK(sp:fk)(t:WA):AW:=λρ Y Q=>t ρ λps=>sp (ps.map (·.2)) λm d=>xi m d Y (b9 (m,d) (f:=λp=>Q (vv p.1 p.2) p.2) ⟨⟩)
def Ey:E5:=λ_ _ Q=>Q []
def sI(te:AW)(t:E5):E5:=λρ Y Q=>te ρ Y λm d=>t ρ Y λps=>Q ((m,d) :: ps)
def Gn(t:E5):AW:=λρ Y Q=>t ρ Y λps=>ps.length<=bE/\ps.all zl=true/\Q .sh (.tup (ps.map (·.2)))
section
variable {X:Cx}{K:ay}{rn:List Str}{E:XK}{e:Expr}{es:List Expr}{te:WE}{t:WA}{tx:AW}{ta:E5}{pos:Pos}{L:Str->Hp->Prop}
def lm'(h:QE X K e te):P5 X K L e (Z8 te):=PE.imp h λσ H Qv hx=>by obtain⟨Hs,ρ,tot,Y,Q,sr,h,f,fx⟩:=hx;exact⟨Hs,ρ,tot,Q,sr,h,f⟩
def Hn:Vi X K L [] Ey:=PA.imp aq λσ H Qv hx=>by obtain⟨Hs,ρ,tot,Y,Q,sr,h,f,fx⟩:=hx;exact⟨Hs,ρ,tot,Q,sr,h,f⟩
def zF(ha:P5 X K L e tx)(hr:Vi X K L es ta)(hs:autoParam (aT (e :: es) X.env=(false,b3 e X.env) :: aT es X.env) bv):Vi X K L (e :: es) (sI tx ta):=by refine PA.imp (i3 ha hr hs) λσ H Qv hx=>?_;obtain⟨Hs,ρ,tot,Y,Q,sr,h,f,fx⟩:=hx;refine⟨Hs,ρ,tot,Y,_,sr,h,λv H1 aI m x As g1 r1 f1 q1=>⟨aI,ρ,tot,Y,_,sr.grow g1,q1,λvs H2 aC ps Bs g2 r2 f2 q2=>?_,λn H' s y=>fx n H' (g1.sh.trans s) y⟩,fx⟩;exact f (v :: vs) H2 aC _ _ (g1.trans g2) (.cons (r1.grow g2) r2) (f1.app (λa h=>(r1.own a h).ne) f2 g1.all λa h1 h2=>g2.oq h1 h2) q2
def JX{x1}(h:Vi X K L es ta):P5 X K L (.Tuple es x1 pos) (Gn ta):=by refine PE.imp (RL h) λσ H Qv hx=>?_;obtain⟨Hs,ρ,tot,Y,Q,sr,h,f,fx⟩:=hx;refine⟨Hs,ρ,tot,Y,_,sr,h,λvs H1 aI ps As g1 r1 f1 q1=>?_,fx⟩;obtain⟨hz,h1,q⟩:=q1;have hl:=(r1.reps g1.wf).length;rw[dz] at hl;refine⟨by lia,λp hp=>?_⟩;have g2:=LZ (vs:=vs) g1.wf hp;exact Fin.after f g1 _ _ _ .sh _ [] g2 ⟨rfl,.tup (by lia) eJ ((r1.sh g1.wf h1).same g2.sh)⟩ bM.nil q
def yG {k:Nat} {x:Str} {ps:List Str} {sp:fk} {p:Pos} (C:MG X.prog X.w X.K X.mg X.base rn k x ps sp) (hr:gi k X.A) (hx:Passes (oS X.prog X.w X.mg rn) X E) (ha:QA X K (e :: es) t) (hK:autoParam (X.K=K) bv) (hg:autoParam (Gl X x) bv) (ip:(x == ("__debug__" : Str))=false:=by decide) (he:autoParam (aT (e :: es) X.env=(false,b3 e X.env) :: aT es X.env) bv) (hU:autoParam ((gV pos (aT es X.env)).any (·.1)=false) bv):P5 X K (LX rn X.mg E) (.Call (.Name x p) (e :: es) [] pos) (uK sp t):=by
 subst hK;refine PE.imp (rP C hr hx ha hg ip he hU) λσ H Qv h=>?_;obtain⟨Hs,ρ,tot,Y,Q,sr,h,f,fx⟩:=h;exact iQ sr h f fx
end
end L2.Q
end
namespace L2.Q.R
open L2.Q PySem
section
variable {Q:Md->L2.Q.D->Prop}{Y:Str->Prop}{ρ:L2.Q.Env}
def ln'{te:WE}:Z8 te ρ Y Q=te ρ Q:=rfl
def Lb{sp:fk}{t:WA}:uK sp t ρ Y Q=t ρ λps=>sp (ps.map (·.2)) λm d=>xi m d Y (b9 (m,d) (f:=λp=>Q (vv p.1 p.2) p.2) ⟨⟩):=rfl
def Oz{Q:List (Md × L2.Q.D)->Prop}:Ey ρ Y Q=Q []:=rfl
def Ln{te:AW}{t:E5}{Q:List (Md × L2.Q.D)->Prop}:sI te t ρ Y Q=te ρ Y λm d=>t ρ Y λps=>Q ((m,d) :: ps):=rfl
def Pa{t:E5}:Gn t ρ Y Q=t ρ Y λps=>ps.length<=bE/\ps.all zl=true/\Q .sh (.tup (ps.map (·.2))):=rfl
end
end L2.Q.R
section
open PySem PySem.Spec PyProof.Rows
namespace L2
abbrev RI:=Key ⊕ List Key
section
variable {prog:cq}{w:cS}
inductive cj(prog:cq)(w:cS)(h:dk):RI->ah->Prop
 |one {k:Key} {v:ah}:(kG prog w).is k v=true->cj prog w h (.inl k) v
 |tup {ks:List Key} {a:ae}:IsTupleKey (kG prog w) h ks a->cj prog w h (.inr ks) (.ref a)
inductive bA(prog:cq)(w:cS)(h:dk):List RI->List ah->Prop
 |nil:bA prog w h [] []
 |cons {i:RI} {v:ah} {is:List RI} {vs:List ah}:cj prog w h i v->bA prog w h is vs->bA prog w h (i :: is) (v :: vs)
def cj.inj(a:cj prog w h x v)(b:cj prog w h y v):x=y:=by
 cases a with
 |one a =>
  cases b with
  |one b=>rw[(kG prog w).inj _ _ _ a b]
  |tup b=>exact absurd ((kG prog w).byValue _ _ a) (by simp[carriedByValue])
 |tup a =>
  cases b with
  |one b=>exact absurd ((kG prog w).byValue _ _ b) (by simp[carriedByValue])
  |tup b=>rw[a.inj b]
def bA.inj(a:bA prog w h x vs)(b:bA prog w h y vs):x=y:=by
 induction a generalizing y with
 |nil=>cases b;rfl
 |cons a _ ih =>
  cases b with
  |cons b t=>rw[a.inj b,ih t]
def cj.keeps{es ep}(a:cj prog w h x v)(ho:h.get? d=some o)(hd:o.data=.dict es ep)(hs:Heap.SameBut d h h'):cj prog w h' x v:=by
 cases a with
 |one a=>exact .one a
 |tup a=>exact .tup (a.keeps ho hd hs)
def bA.keeps{es ep}(a:bA prog w h x vs)(ho:h.get? d=some o)(hd:o.data=.dict es ep)(hs:Heap.SameBut d h h'):bA prog w h' x vs:=by
 induction a with
 |nil=>exact .nil
 |cons a _ ih=>exact .cons (a.keeps ho hd hs) ih
def ju (prog:cq) (w:cS) (h:dk) (r:List RI) (a:ae):Prop:=∃ o items n,h.get? a=some o/\o.cls=.type "tuple"/\o.data=.seq items n/\bA prog w h r items.toList
def ju.typeIs {s:aE} {r:List RI} {a:ae} (x:ju prog w s.heap r a):s.TypeIs (.ref a) "tuple" := let ⟨o,_,_,ho,hc,_⟩:=x;⟨o,ho,hc⟩
def ju.inj(p:ju prog w h x a)(q:ju prog w h y a):x=y:=by obtain⟨o,i,n,h1,_,h2,h3⟩:=p;obtain⟨o',i',n',g1,_,g2,g3⟩:=q;rw[h1] at g1;cases g1;rw[h2] at g2;cases g2;exact h3.inj g3
def ju.keeps{es ep}(x:ju prog w h r a)(ho:h.get? d=some o)(hd:o.data=.dict es ep)(hs:Heap.SameBut d h h'):ju prog w h' r a:=by obtain⟨u,items,n,h1,h2,h3,h4⟩:=x;refine⟨u,items,n,(hs.2 a λz=>?_).trans h1,h2,h3,h4.keeps ho hd hs⟩;rw[z,ho] at h1;cases h1;rw[hd] at h3;cases h3
def vX(prog:cq)(w:cS):RI->Int
 |.inl k=>(kG prog w).hash k
 |.inr ks=>tupleKeyHash (kG prog w) ks
def qT(prog:cq)(w:cS)(r:List RI):Int:=reduceHash (Builtin.Tuple.tupleHashOf (r.map (vX prog w)))
def mF:RI->Nat
 |.inl _=>1
 |.inr ks=>ks.length+1
def oK(r:List RI):Nat:=(r.map mF).sum+1
variable {A:ft}{E:ah->aE->Prop}{s:aE}
def cj.hash(hu:A.units<iE)(x:cj prog w s.heap i v)(h:Q (vX prog w i) { s with toks:=s.toks+mF i }):b6 (bq prog w) A (pyHash v) Q E s:=by
 cases x with
 |one x=>exact(kG prog w).pyHash x h
 |tup x=>exact wpAny_pyHash_tuple hu x h
def Ao{r:List RI}{a:ae}{Q:Int->aE->Prop}(hu:A.units+1<iE)(x:ju prog w s.heap r a)(h:Q (qT prog w r) { s with toks:=s.toks+oK r }):b6 (bq prog w) A (pyHash (.ref a)) Q E s:=by
 have ty:=x.typeIs;obtain⟨o,items,n,ho,_,hd,hi⟩:=x;refine PySem.W.pyHash_slot ty PySem.F.slot_tuple_hash PySem.F.entry_tuple_hash (PySem.F.args_tuple_hash_1 _) (beq_builtin_none _) (.inr (by lia)) ?_;show b6 _ _ (Builtin.Tuple.tupleItemsOf (.ref a) >>= _) _ _ s;refine bT (wpAny_tupleItemsOf ho hd (bT ?_));rw[<- Array.forIn_toList];refine wpAny_forIn_list _ (λrest b s'=>∃ done left,r=done++left/\bA prog w s.heap left rest/\b.toList=done.map (vX prog w)/\s'={ s with toks:=s.toks+(done.map mF).sum }) _ ?_ ?_ _ _ ⟨[],r,rfl,hi,rfl,rfl⟩
 ·rintro v rest b s' ⟨done,left,rfl,hl,hb,rfl⟩
  cases hl with
  |@cons i _ dD' _ x1 hl' =>
   refine bT (cj.hash (by exact hu) x1 ?_);have fin:∃ d l,done++i :: dD'=d++l/\bA prog w s.heap l rest/\(b.push (vX prog w i)).toList=d.map (vX prog w)/\({ s with toks:=s.toks+(done.map mF).sum+mF i }:aE)={ s with toks:=s.toks+(d.map mF).sum } :=
    ⟨done++[i],dD',by simp,hl',by simp[hb],by simp[Nat.add_assoc]⟩
   first
    |exact dv fin
    |exact bT (dv (dv fin))
 ·rintro b s' ⟨done,left,e,hl,hb,rfl⟩;cases hl;rw[kM] at e;subst e;show b6 _ _ (retInt (Builtin.Tuple.tupleHashOf b.toList)) _ _ _;rw[hb];exact bT (wpAny_mkInt (dv ⟨_,_,rfl,by
   have h':=h;unfold qT oK at h';exact h'⟩))
def qt (ho:s.heap.get? a=some o) (hc:o.cls=.type "tuple") (hd:o.data=.seq items n)(hv:∀ v∈items.toList,∀ Q:Bool->aE->Prop,Q true s->b6 (bq prog w) A (eqIsQuiet m v) Q E s) (h:Q true s):b6 (bq prog w) A (eqIsQuiet (m+1) (.ref a)) Q E s:=by
 have ty:s.TypeIs (.ref a) "tuple" := ⟨o,ho,hc⟩
 unfold eqIsQuiet;refine bT (wpAny_specialOf ty PySem.F.slot_tuple_eq.lookup ?_);refine bT (wpAny_isInstance ty isSubtype_tuple_tuple ?_);refine bT (wpAny_seqItems ho hd (bT ?_));rw[<- Array.forIn_toList];refine wpAny_forIn_list _ (λrest r s'=>r.1=none/\s'=s/\∀ v∈rest,v∈items.toList) _ ?_ ?_ _ _ ⟨rfl,rfl,λ_ z=>z⟩
 ·rintro v rest r s' ⟨_,rfl,all⟩;exact bT (hv v (all v fA) _ (dv ⟨rfl,rfl,λu z=>all u (eI _ z)⟩))
 ·rintro⟨r1,r2⟩ s' ⟨z,rfl,_⟩;subst z;exact dv h
def bA.mem(x:bA prog w h r vs):∀ v∈vs,∃ i,cj prog w h i v:=by
 induction x with
 |nil=>intro v z;cases z
 |cons a _ ih =>
  intro v z;rcases eW.mp z with rfl|z
  ·exact⟨_,a⟩
  ·exact ih v z
def cj.quiet(x:cj prog w s.heap i v)(h:Q true s):b6 (bq prog w) A (eqIsQuiet (m+1) v) Q E s:=by
 cases x with
 |one x =>rw[eqIsQuiet_byValue _ ((kG prog w).byValue _ _ x)];exact dv h
 |tup x =>obtain⟨o,items,n,ho,hc,hd,hi⟩:=x;refine qt ho hc hd (λv hv Q q=>?_) h;rw[eqIsQuiet_byValue _ (hi.byValue v hv)];exact dv q
def yV(x:ju prog w s.heap r a)(h:Q true s):b6 (bq prog w) A (eqIsQuiet 8 (.ref a)) Q E s:=by obtain⟨o,items,n,ho,hc,hd,hi⟩:=x;refine qt ho hc hd (λv hv Q q=>?_) h;obtain⟨i,y⟩:=hi.mem v hv;exact y.quiet q
end
end L2
namespace L2.Q
def DF:RI->D
 |.inl k=>n5 k
 |.inr ks=>.tup (ks.map n5)
def oT(r:List RI):D:=.tup (r.map DF)
theorem ud:∀ {x y:Key},n5 x=n5 y->x=y
 |.inl _,.inl _,h=>by cases h;rfl
 |.inr _,.inr _,h=>by cases h;rfl
 |.inl _,.inr _,h=>nomatch h
 |.inr _,.inl _,h=>nomatch h
theorem map_inj{α β:Type}{f:α->β}(hf:∀ x y,f x=f y->x=y):∀ {l m:List α},l.map f=m.map f->l=m
 |[],[],_=>rfl
 |x :: l,y :: m,h=>by injection h with h1 h2;rw[hf x y h1,map_inj hf h2]
theorem Gv:∀ {x y:RI},DF x=DF y->x=y
 |.inl _,.inl _,h=>by rw[ud h]
 |.inr _,.inr _,h=>by injection h with h;rw[map_inj (λ_ _=>ud) h]
 |.inl (.inl _),.inr _,h=>nomatch h
 |.inl (.inr _),.inr _,h=>nomatch h
 |.inr _,.inl (.inl _),h=>nomatch h
 |.inr _,.inl (.inr _),h=>nomatch h
def Bo(h:oT x=oT y):x=y:=by injection h with h;exact map_inj (λ_ _=>Gv) h
theorem n_:∀ ks:List Key,oQ (ks.map n5)=true
 |[]=>rfl
 |.inl _ :: ks=>by simp[oQ,D.nb,n5,n_ ks]
 |.inr _ :: ks=>by simp[oQ,D.nb,n5,n_ ks]
theorem lR:∀ r:List RI,oQ (r.map DF)=true
 |[]=>rfl
 |.inl (.inl _) :: r=>by simp[oQ,D.nb,DF,n5,lR r]
 |.inl (.inr _) :: r=>by simp[oQ,D.nb,DF,n5,lR r]
 |.inr ks :: r=>by simp[oQ,D.nb,DF,n_ ks,lR r]
def DN(x y:List RI):nK (oT x) (oT y)=decide (x=y):=by rw[D7,decide_eq_true_iff,d_ (oT x) (oT y) (lR x) (lR y)];exact⟨Bo,λz=>by rw[z]⟩
section
variable {prog:cq}{w:cS}{h:dk}
def qK(x:(kG prog w).is k v=true):Reads h v (n5 k).py []:=by
 rcases Bn x with⟨i,t,rfl,rfl⟩|⟨y,t,rfl,rfl⟩
 ·exact .int i t
 ·exact .str y t
def u9(x:ItemsAre (kG prog w) ks vs):ReadsAll h vs (sv (ks.map n5)) []:=by
 induction x with
 |nil=>exact .nil
 |cons a _ ih=>exact .cons (qK a) ih
def vJ(x:cj prog w h i v):Reads h v (DF i).py []:=by
 cases x with
 |one x=>exact qK x
 |tup x =>obtain⟨o,items,n,ho,hc,hd,hi⟩:=x;exact .tuple ho hc hd (u9 hi)
def qU(x:bA prog w h r vs):ReadsAll h vs (sv (r.map DF)) []:=by
 induction x with
 |nil=>exact .nil
 |cons a _ ih=>exact .cons (vJ a) ih
def row_reads(x:ju prog w h r a):Reads h (.ref a) (oT r).py []:=by obtain⟨o,items,n,ho,hc,hd,hi⟩:=x;exact .tuple ho hc hd (qU hi)
end
def pq(prog:cq)(w:cS):HeapKind prog w (List RI) where
 is:=λh r a=>ju prog w h r a/\eK 12 (oT r)=true
 hash:=qT prog w
 draws:=oK
 room:=λA=>A.units+13<iE
 inj:=λx y=>x.1.inj y.1
 keeps:=λx ho hd hs=>⟨x.1.keeps ho hd hs,x.2⟩
 pyHash:=λhu x h=>Ao (by lia) x.1 h
 eqBool:=λ{A E s x y a b Q} hu hx hy h=>by have l1:=jg 12 _ hx.2;have l2:=jg 12 _ hy.2;have e:=PySem.SeqAt.eqAt_reads (oT x).py (oT y).py A s _ _ _ _ (row_reads hx.1) (row_reads hy.1) l1.1 l2.1 (by lia);have q:PyData.eqv (oT x).py (oT y).py=decide (x=y):=DN x y;rw[q] at e;exact e prog w E Q h
 quiet:=λx h=>yV x.1 h
def E6(P:cq)(w:cS)(a:ae)(xs:List (List RI × ae × ah)):HO:=.ext λh=>∃ o es ep,h.get? a=some o/\o.ExactDict/\o.data=.dict es ep/\es.toList=xs.map (entryOfKey (pq P w))/\(xs.map (·.1)).Nodup
def Aw(H:Hp):RI->V->Prop
 |.inl k,y=>y=kV k
 |.inr ks,y=>∃ c,y=.ref c/\H c=some (.tup (ks.map kV))
def kc(H:Hp)(r:List RI)(b:ae):Prop:=eK 12 (oT r)=true/\∃ ys,H b=some (.tup ys)/\Paired (Aw H) r ys
section
variable {P:cq}{w:cS}{H:Hp}{h:dk}
theorem uh(ok:ic P w H h):∀ {r:List RI} {ys:List V} {vs:List ah},Paired (Aw H) r ys->Vals ys vs->bA P w h r vs
 |_,_,_,.nil,.nil=>.nil
 |_,_,_,.cons (a:=i) p ps,.cons q qs=>.cons (match i,p with
  |.inl k,p=>.one (OQ (by rw[<- show _=kV k from p];exact q))
  |.inr ks,p=>by
   obtain⟨c,rfl,e⟩:=p;cases (q);exact .tup (RZ ok e)) (uh ok ps qs)
def sS(ok:ic P w H h)(x:kc H r b):(pq P w).is h r b:=by
 obtain⟨o1,ys,e,p⟩:=x;obtain⟨_,its,q,o,h1,h2,n,h3⟩:=(ok b _ e)
 exact⟨⟨o,its.toArray,n,h1,h2,h3,by simpa using uh ok p q⟩,o1⟩
def Lv(ok:ic P w H h)(e:H p=some (E6 P w p xs))(ks:∀ x∈xs,kc H x.1 x.2.1):h.DictOfH (pq P w) p xs:=by
 obtain⟨⟨o,es,ep,h1,h2,h3,h4,h5⟩,_,_⟩:=(ok p _ e)
 exact⟨o,es,ep,h1,h2,h3,h4,λx hx=>sS ok (ks x hx),h5⟩
def kc.SG(x:kc H r b)(e:H p=some o)(no:∀ ys,o≠.tup ys):kc (upd H p ob) r b:=by
 have go:∀ {c:ae} {ys:List V},H c=some (.tup ys)->upd H p ob c=some (.tup ys):=λ{c ys} z=>by rw[df (λq=>by rw[q,e] at z;cases z;exact no ys rfl)];exact z
 obtain⟨o1,ys,e1,q⟩:=x;refine⟨o1,ys,go e1,?_⟩;clear e1 o1
 induction q with
 |nil=>exact .nil
 |@cons i y is ys hi _ ih =>
  refine .cons ?_ ih
  match i,hi with
  |.inl k,hi=>exact hi
  |.inr ks,hi =>obtain⟨c,rfl,z⟩:=hi;exact⟨c,rfl,go z⟩
end
section
variable {X:Cx}{pins:List (ae × Obj)}{σ:St}{H:Hp}{s:aE}{p b:ae}{xs:List (List RI × ae × ah)}{r:List RI}{A:ft}{E:ah->aE->Prop}
def jN{P:cq}(hu:A.units+14<iE):(pq P w).room A.in1:=by show A.units+1+13<iE;lia
def Ej(hu:A.units+14<iE)(I:Inv X pins σ H s)(e:H p=some (E6 X.prog X.w p xs))(hp:(p == xv)=false)(ks:∀ x∈xs,kc H x.1 x.2.1)(rb:kc H r b)(h:∀ s',Inv X pins σ H s'->Q (.bool (!(atKey xs r).isSome)) s'):b6 (bq X.prog X.w) A (hZ .NotIn (.ref b) (.ref p)) Q E s :=
 wpAny_notIn_heap (jN hu) (sS I.bG rb) hp (Lv I.bG e ks) (h _ (I.tok _))
def vU(hu:A.units+14<iE)(I:Inv X pins σ H s)(e:H p=some (E6 X.prog X.w p xs))(ks:∀ x∈xs,kc H x.1 x.2.1)(rb:kc H r b)(hq:atKey xs r=some q)(h:∀ s',Inv X pins σ H s'->Q q.2 s'):b6 (bq X.prog X.w) A (getItem (.ref p) (.ref b)) Q E s :=
 wpAny_getItem_heap (jN hu) (sS I.bG rb) (Lv I.bG e ks) hq (h _ (I.tok _))
def zg(hu:A.units+14<iE)(I:Inv X pins σ H s)(e:H p=some (E6 X.prog X.w p xs))(ks:∀ x∈xs,kc H x.1 x.2.1)(rb:kc H r b)(hz:xs.length<=bE)(h:∀ s',Inv X pins σ (upd H p (E6 X.prog X.w p (storedH xs r b v))) s'->Q () s'):b6 (bq X.prog X.w) A (setItem (.ref p) (.ref b) v) Q E s:=by
 refine wpAny_setItem_heap (jN hu) (sS I.bG rb) (Lv I.bG e ks) λh' EG hs=>h _ ?_;obtain⟨q,es,ep,hq,h2,h3,h4,_,h5⟩:=EG;exact Uv I (by rw[e];exact True.intro) hs ⟨q,hq⟩ ⟨⟨q,es,ep,hq,h2,h3,h4,h5⟩,⟨q,hq⟩,λh1 h2 ⟨o,es,ep,a,z⟩ k=>⟨o,es,ep,k o a,z⟩⟩
end
def RD(P:cq)(w:cS)(H:Hp)(p:ae)(ag:List (List RI × V)):Prop:=∃ xs:List (List RI × ae × ah),(p == xv)=false/\H p=some (E6 P w p xs)/\xs.length<=bE /\
 Paired (λ(q:List RI × V) (x:List RI × ae × ah)=>q.1=x.1/\kc H x.1 x.2.1/\RelV q.2 x.2.2) ag xs
section
variable {H:Hp}
def xZ(x:Paired (λ(q:List RI × V) (x:List RI × ae × ah)=>q.1=x.1/\kc H x.1 x.2.1/\RelV q.2 x.2.2) ag xs)(k:List RI):sd (mr ag k) ((atKey xs k).map (·.2)):=by
 induction x with
 |nil=>exact True.intro
 |@cons p q ps qs h t ih =>
  unfold mr atKey at *
  rw[Ct,Ct,h.1];by_cases e:q.1=k
  ·rw[decide_eq_true e];exact h.2.2
  ·rw[decide_eq_false e];exact ih
def oO(x:Paired (λ(q:List RI × V) (x:List RI × ae × ah)=>q.1=x.1/\kc H x.1 x.2.1/\RelV q.2 x.2.2) ag xs):∀ q∈xs,kc H q.1 q.2.1:=by
 induction x with
 |nil=>intro q hq;cases hq
 |cons h _ ih =>
  intro q hq;rcases eW.mp hq with rfl|hq
  ·exact h.2.1
  ·exact ih q hq
end
def z8(P:cq)(w:cS)(td ty:TE):TE:=λσ H Q=>td σ H λx H1=>ty σ H1 λy H2=>∃ a b ag r v,x=.ref a/\y=.ref b/\RD P w H2 a ag/\kc H2 r b/\mr ag r=some v/\Q v H2
def wW(P:cq)(w:cS)(ty td:TE):TE:=λσ H Q=>ty σ H λy H1=>td σ H1 λx H2=>∃ a b ag r,x=.ref a/\y=.ref b/\RD P w H2 a ag/\kc H2 r b/\Q (.bl (!(mr ag r).isSome)) H2
section
variable {X:Cx}{o i e value:Expr}{pos pos':Pos}{td ty tv:TE}
def yj (I:Inv X pins σ H s) (x:RD X.prog X.w H a ag):s.TypeIs (.ref a) "dict" := by obtain⟨xs,_,e,_,p⟩:=x;exact(Lv I.bG e (oO p)).typeIs
def Ft(hu:X.A.units+14<iE)(ho:PE X o td)(hi:PE X i ty)(hs:Uw i):PE X (.Subscript o i pos) (z8 X.prog X.w td ty):=by intro pins s σ H Q I h;refine bR' PySem.F.slot_dict_getitem.lookup hs (cv (ho pins s σ H _ I h) λu s1 ck=>L2.eM ck λx H1 I1 rx q1=>cv (hi pins s1 σ H1 _ I1 q1) λiv s2 dA=>?_);obtain⟨y,H2,I2,ry,a,b,ag,r,v,ex,ey,d,hr,l,q2⟩:=dA;subst ex ey;obtain rfl:u=Value.ref a:=rx;obtain rfl:iv=Value.ref b:=ry;have ty:=yj I2 d;obtain⟨xs,_,e,_,p⟩:=d;obtain⟨w',hw,qS⟩:=sd.some_of (by rw[<- l];exact xZ p r);obtain⟨q,hq,hq2⟩:=kr.mp hw;exact⟨ty,vU hu I2 e (oO p) hr hq λs3 I3=>⟨v,H2,I3,by rw[hq2];exact qS,q2⟩⟩
def yD(hu:X.A.units+14<iE)(hi:PE X i ty)(ho:PE X o td):PC X .NotIn i o (wW X.prog X.w ty td):=by intro pins s σ H Q I h;refine cv (hi pins s σ H _ I h) λiv s1 ck=>L2.eM ck λy H1 I1 ry q1=>cv (ho pins s1 σ H1 _ I1 q1) λu s2 dA=>?_;obtain⟨x,H2,I2,rx,a,b,ag,r,ex,ey,d,hr,q2⟩:=dA;subst ex ey;obtain rfl:u=Value.ref a:=rx;obtain rfl:iv=Value.ref b:=ry;obtain⟨xs,hp,e,_,p⟩:=d;have q:=(xZ p r).RW;rw[TL] at q;exact Ej hu I2 e hp (oO p) hr λs3 I3=>⟨_,H2,I3,by rw[<- q];rfl,q2⟩
def Hv(P:cq)(w:cS)(td ty tv:TE):TS:=λD σ H=>tv σ H λv H1=>td σ H1 λx H2=>ty σ H2 λy H3=>∃ a b ag r,x=.ref a/\y=.ref b/\RD P w H3 a ag/\kc H3 r b/\mr ag r=none/\ag.length<bE /\
 ∀ H4,RD P w H4 a (ag++[(r,v)])->(∀ c,c≠a->H4 c=H3 c)->(∃ φ,H4 a=some (.ext φ))->D.nx σ H4
def J9{H:Hp}{a:ae}{o:HO}{φ:dk->Prop}(e:H a=some (.ext φ)){ag:List (List RI × V)}{xs:List (List RI × ae × ah)}(x:Paired (λ(q:List RI × V) (x:List RI × ae × ah)=>q.1=x.1/\kc H x.1 x.2.1/\RelV q.2 x.2.2) ag xs){r:List RI}{b:ae}{v:V}{u:ah}(hb:kc H r b)(hv:RelV v u) :
  Paired (λ(q:List RI × V) (x:List RI × ae × ah)=>q.1=x.1/\kc (upd H a o) x.1 x.2.1/\RelV q.2 x.2.2) (ag++[(r,v)]) (xs++[(r,b,u)]):=by
 induction x with
 |nil=>exact .cons ⟨rfl,hb.SG e (λ_ z=>nomatch z),hv⟩ .nil
 |cons h _ ih=>exact .cons ⟨h.1,h.2.1.SG e (λ_ z=>nomatch z),h.2.2⟩ ih
def Gy(hu:X.A.units+14<iE)(ho:PE X o td)(hi:PE X i ty)(hv:PE X value tv)(hs:lP value (some (.Subscript o i pos')) pos.line X.env=pure false) :
  PS X (.Assign [.Subscript o i pos'] value pos) (Hv X.prog X.w td ty tv):=by
 intro pins s σ H D I h;refine wpAny_Assign_Subscript (cv (hv pins s σ H _ I h) λu0 s1 ck=>L2.eM ck λv H1 I1 rv q1=>cv (ho pins s1 σ H1 _ I1 q1) λu s2 ck=>L2.eM ck λx H2 I2 rx q2=>cv (hi pins s2 σ H2 _ I2 q2) λiv s3 dA=>?_) hs;obtain⟨y,H3,I3,ry,a,b,ag,r,ex,ey,d,hr,l,lz,q3⟩:=dA;subst ex ey;obtain rfl:u=Value.ref a:=rx;obtain rfl:iv=Value.ref b:=ry;obtain⟨xs,hp,e,z,p⟩:=d;have n:atKey xs r=none:=by
  have q:=(xZ p r).RW;rw[l,TL] at q
  cases z:atKey xs r with
  |none=>rfl
  |some _=>rw[z] at q;cases q
 have xl:xs.length=ag.length:=(Paired.length p).symm;refine zg hu I3 e (oO p) hr z λs4 I4=>⟨σ,_,I4,?_⟩
 rw[storedH_new n];exact q3 _ ⟨_,hp,eJ,by rw[iq,VM];lia,J9 e p hr rv⟩ (λc hc=>df hc) ⟨_,eJ⟩
def Ip(P:cq)(w:cS):TE:=λ_ H Q=>∀ p,H p=none->RD P w (upd H p (E6 P w p [])) p []->Q (.ref p) (upd H p (E6 P w p []))
def Eo:PE X (.Dict [] [] pos) (Ip X.prog X.w):=λpins s σ H Q I h =>
 wpAny_Dict_empty ⟨.ref s.heap.objs.size,_,I.laid (o:=E6 X.prog X.w s.heap.objs.size []) (λ_ _ q=>ki _ q) (c9 _) ⟨⟨_,#[],0,oi _ rfl,⟨rfl,rfl,rfl⟩,rfl,rfl,kT⟩,⟨_,oi _ rfl⟩,λh1 h2 ⟨o,es,ep,a,z⟩ k=>⟨o,es,ep,k o a,z⟩⟩,rfl,
  h _ (I.bG.fresh (c9 _)) ⟨[],beq_eq_false_iff_ne.mpr (Ne.symm (kE I.big)),eJ,gd _,.nil⟩⟩
end
def E7(rs:List (List RI)):List (List RI × V):=rs.zipIdx.map λq=>(q.1,V.int q.2)
structure dB(K:ay)(P:cq)(w:cS)(H:Hp)(x dx rp pp:ae)(rs:List (List RI)):Prop where
 ins:∃ C,H x=some (.ins C dx [("rows",.ref rp),("places",.ref pp)])/\uS K C/\vb K C "rows"/\vb K C "places"
 own:H dx=some (.own x)
 rows:∃ bs:List ae,H rp=some (.lst (bs.map .ref))/\Paired (kc H) rs bs
 places:RD P w H pp (E7 rs)
 nd:rs.Nodup
def Ab(rs:List (List RI))(r:List RI):E7 (rs++[r])=E7 rs++[(r,V.int rs.length)]:=by unfold E7;rw[List.zipIdx_append,nh];simp
def uV(h:r∉rs):mr (E7 rs) r=none:=by unfold mr E7;rw[V2,List.find?_eq_none];intro q hq;obtain⟨⟨y,k⟩,hm,rfl⟩:=iX.mp hq;have:=FE.mp hm;simp only[decide_eq_true_eq];rintro rfl;exact h (rV this)
def t8{rs:List (List RI)}{r:List RI}(nd:rs.Nodup){k:Nat}(h:rs[k]? = some r):mr (E7 rs) r=some (.int k):=by
 unfold mr E7;rw[kr];have:∃ q,(rs.zipIdx.map λq=>(q.1,V.int q.2)).find? (λkv=>decide (kv.1=r))=some q:=by rw[<- V1,List.find?_isSome];exact⟨(r,.int k),iX.mpr ⟨(r,k),FE.mpr h,rfl⟩,by simp⟩
 obtain⟨q,hq⟩:=this;refine⟨q,hq,?_⟩;obtain⟨⟨y,j⟩,hm,rfl⟩:=iX.mp (List.mem_of_find?_eq_some hq);have e:y=r:=by have:=List.find?_some hq;simpa using this
 subst e;have hj:=FE.mp hm;obtain⟨j1,j2⟩:=ng.mp hj;obtain⟨k1,k2⟩:=ng.mp h;have:j=k:=(VX nd).mp (j2.trans k2.symm);rw[this]
def JW(K:ay)(ta:TE):TE:=Uh (λxs H Q=>∃ x n,xs=[x]/\bl' K x H n/\Q (.int n) H) (Ug ta OG)
def Z9(K:ay)(P:cq)(w:cS):TS :=
 RB (aT' (tB (wW P w (jI 1) (EC K (jI 0) "places"))) (RB (Hv P w (EC K (jI 0) "places") (jI 1) (JW K (EC K (jI 0) "rows"))) (aS' (tBM K "list" bL' (EC K (jI 0) "rows") (Ug (jI 1) OG))))
  aR')
 (T8 (z8 P w (EC K (jI 0) "places") (jI 1)))
def dB.fld{K:ay}{P:cq}(S:dB K P w H x dx rp pp rs)(e:σ[0]? = some (some (.ref x))) : (Q (.ref rp) H->EC K (jI 0) "rows" σ H Q)/\(Q (.ref pp) H->EC K (jI 0) "places" σ H Q):=by
 obtain⟨C,i,c,n1,n2⟩:=S.ins;exact⟨λq=>⟨_,e,x,C,dx,_,_,rfl,i,c,n1,rfl,q⟩,λq=>⟨_,e,x,C,dx,_,_,rfl,i,c,n2,by
  have z:(("places" : Str) == "rows")=false:=by decide +kernel
  simp[List.lookup,z],q⟩⟩
def G5{K:ay}{P:cq}{D:Ends}(S:dB K P w H x dx rp pp rs)(hr:kc H r b)(hz:rs.length<bE)(h:∀ H' ky k,dB K P w H' x dx rp pp ky->(r∈rs/\ky=rs\/r∉rs/\ky=rs++[r])->ky[k]? = some r->(∀ c,c≠rp->c≠pp->H' c=H c)->D.rt (.int (k:Nat)) H') :
  Z9 K P w D [some (.ref x),some (.ref b)] H:=by
 -- the end: self.places[row]
 have fin:∀ H' ky k,dB K P w H' x dx rp pp ky->(r∈rs/\ky=rs\/r∉rs/\ky=rs++[r])->ky[k]? = some r->(∀ c,c≠rp->c≠pp->H' c=H c)->kc H' r b->T8 (z8 P w (EC K (jI 0) "places") (jI 1)) D [some (.ref x),some (.ref b)] H':=λH' ky k S' e1 e2 e3 hr' =>
by
  unfold T8 z8;exact(S'.fld rfl).2 ⟨_,rfl,pp,b,_,r,_,rfl,rfl,S'.places,hr',t8 S'.nd e2,h H' ky k S' e1 e2 e3⟩
 refine⟨_,rfl,(S.fld rfl).2 ⟨pp,b,_,r,rfl,rfl,S.places,hr,_,rfl,?_⟩⟩;by_cases m:r∈rs
 ·obtain⟨k,hk⟩:=A7.mp m;rw[t8 S.nd hk];exact fin H rs k S (.inl ⟨m,rfl⟩) hk (λ_ _ _=>rfl) hr
 ·rw[uV m];obtain⟨bs,e,pr⟩:=S.rows;have bl:bs.length=rs.length:=(Paired.length pr).symm;refine(S.fld rfl).1 ⟨.ref rp,rs.length,rfl,.inl ⟨_,.inl (.inl e),by rw[dz,bl]⟩,(S.fld rfl).2 ⟨_,rfl,pp,b,_,r,rfl,rfl,S.places,hr,uV m,?_,λH4 d4 k4 x4=>?_⟩⟩
  ·unfold E7;rw[dz,List.length_zipIdx];exact hz
  obtain⟨C,hi,c,n1,n2⟩:=S.ins;obtain⟨xs0,_,ep,_,_⟩:=S.places;have ne1:rp≠pp:=λz=>by rw[z,ep] at e;cases e
  have ne2:x≠pp:=λz=>by rw[z,ep] at hi;cases hi
  have ne3:x≠rp:=λz=>by rw[z,e] at hi;cases hi
  have ne4:dx≠pp:=λz=>by have:=S.own;rw[z,ep] at this;cases this
  have ne5:dx≠rp:=λz=>by have:=S.own;rw[z,e] at this;cases this
  have e4:H4 rp=some (.lst (bs.map .ref)):=by rw[k4 rp ne1];exact e
  have hV:H4 x=some (.ins C dx [("rows",.ref rp),("places",.ref pp)]):=by rw[k4 x ne2];exact hi
  have up:∀ {q:List RI} {d:ae},kc H q d->kc (upd H4 rp (.lst (bs.map .ref++[.ref b]))) q d:=λ{q d} z=>by
   obtain⟨φ,x4⟩:=x4;have z4:kc H4 q d:=by
    have:H4=upd H pp (.ext φ):=funext λc=>by
     by_cases hc:c=pp
     ·rw[hc,x4,eJ]
     ·rw[k4 c hc,df hc]
    rw[this];exact z.SG ep (λ_ z=>nomatch z)
   exact z4.SG e4 (λ_ z=>nomatch z)
  refine⟨_,rfl,x,C,dx,_,_,rfl,hV,c,n1,rfl,?_,_,rfl,rp,bs.map .ref,.ref b,rfl,rfl,e4,by rw[dz,bl];exact hz,?_⟩
  ·exact .inl ⟨rfl,_,.inl (.inl e4)⟩
  refine fin _ (rs++[r]) rs.length ⟨⟨C,by rw[df ne3];exact hV,c,n1,n2⟩,by rw[df ne5,k4 dx ne4];exact S.own,⟨bs++[b],by rw[eJ,nh];rfl,?_⟩,?_,?_⟩ (.inr ⟨m,rfl⟩) (by simp) (λc h1 h2=>by rw[df h1,k4 c h2]) (up hr)
  ·have go:∀ {l:List (List RI)} {ds:List ae},Paired (kc H) l ds->Paired (kc (upd H4 rp (.lst (bs.map .ref++[.ref b])))) (l++[r]) (ds++[b]):=by
    intro l ds z
    induction z with
    |nil=>exact .cons (up hr) .nil
    |cons y _ ih=>exact .cons (up y) ih
   exact go pr
  ·rw[Ab];obtain⟨xs,a1,a2,a3,a4⟩:=d4;refine⟨xs,a1,by rw[df (Ne.symm ne1)];exact a2,a3,Paired.imp' (λq y z=>⟨z.1,z.2.1.SG e4 (λ_ z=>nomatch z),z.2.2⟩) a4⟩
  ·rw[g7];exact⟨S.nd,by simp,λy hy z hz q=>by rw[iP.mp hz] at q;exact m (q ▸ hy)⟩
section
variable {X:Cx}{e:Expr}{te:TE}{p pos:Pos}
def Gm (hg:Gl X "len") (hm:X.mg "len" = none) (he:PE X e te) (hs:autoParam (aT [e] X.env=(false,b3 e X.env) :: aT [] X.env) bv) (hU:autoParam ((gV pos (aT [] X.env)).any (·.1)=false) bv):PE X (.Call (.Name "len" p) [e] [] pos) (JW X.K te) :=
 OI Ud hg hm aQ (i3 he ly hs) (by decide) (by decide) hs hU
def Eb (hu:X.A.units+14<iE) (hg:Gl X "len") (hm:X.mg "len" = none)(n0:∀ p,PE X (.Name "self" p) (jI 0)) (n1:∀ p,PE X (.Name "row" p) (jI 1))(b0:∀ p f,vS (.Name "self" p) f X.env (b3 (.Name "self" p) X.env)=b3 (.Name "self" p) X.env)(c1:autoParam (FC .NotIn (.Attribute (.Name "self" p2) "places" p3)=false) bv) (sl:∀ p,Uw (.Name "row" p)) (s1:autoParam (lP (.Call (.Name "len" q1) [.Attribute (.Name "self" q2) "rows" q3] [] q4) (some (.Subscript (.Attribute (.Name "self" p5) "places" p6) (.Name "row" p7) p8)) p9.line X.env=pure false) bv) (t1:autoParam (aT [.Attribute (.Name "self" q2) "rows" q3] X.env=(false,b3 (.Attribute (.Name "self" q2) "rows" q3) X.env) :: aT [] X.env) bv) (t2:autoParam ((gV q4 (aT [] X.env)).any (·.1)=false) bv) (s2:autoParam (lP (.Call (.Attribute (.Attribute (.Name "self" q5) "rows" q6) "append" q7) [.Name "row" q8] [] q9) none r1.line X.env=pure false) bv) (oI:autoParam (vS (.Attribute (.Name "self" q5) "rows" q6) "append" X.env (b3 (.Attribute (.Name "self" q5) "rows" q6) X.env)=b3 (.Attribute (.Name "self" q5) "rows" q6) X.env) bv) (wq:autoParam (((gV q9 (aT [.Name "row" q8] X.env)).all (λx=>!x.1) && (A4 q9 (A3 [] X.env)).all (λx=>x.1.isSome)
   && decide ([Expr.Name "row" q8].length+([]:List uk).length+(if ([]:List uk).isEmpty then 0 else 1)<30))=true) bv)
  (hline:autoParam ((q7.endLine == q9.line)=true) bv) (qc:autoParam (aT [.Name "row" q8] X.env=(false,b3 (.Name "row" q8) X.env) :: aT [] X.env) bv) (w8:autoParam ((gV q9 (aT [] X.env)).any (·.1)=false) bv) :
  mE X [.If (.Compare (.Name "row" p1) [.NotIn] [.Attribute (.Name "self" p2) "places" p3] p4) [.Assign [.Subscript (.Attribute (.Name "self" p5) "places" p6) (.Name "row" p7) p8] (.Call (.Name "len" q1) [.Attribute (.Name "self" q2) "rows" q3] [] q4) p9,
     .Expr (.Call (.Attribute (.Attribute (.Name "self" q5) "rows" q6) "append" q7) [.Name "row" q8] [] q9) r1] [] r2,
   .Return (some (.Subscript (.Attribute (.Name "self" r3) "places" r4) (.Name "row" r5) r6)) r2] (Z9 X.K X.prog X.w) :=
 T7 (aU' (fe' (yD hu (n1 _) (OB (n0 _) (b0 _ _))) c1) (T7 (Gy hu (OB (n0 _) (b0 _ _)) (n1 _) (Gm hg hm (OB (n0 _) (b0 _ _)) t1 t2) s1) (RC (N0 (Lc PySem.F.plainAttrs_list PySem.F.slot_list_append PySem.F.type_list_append RV (OB (n0 _) (b0 _ _)) (i3 (n1 _) ly qc) oI wq hline qc w8) s2)))
   Wh)
  (RC (Ki (Ft hu (OB (n0 _) (b0 _ _)) (n1 _) (sl _))))
end
def v9 (K:ay) (P:cq) (w:cS):TS:=RB (Ww K (jI 0) (bq' OG) "rows") (Ww K (jI 0) (Ip P w) "places")
def Br {K:ay} {P:cq} {D:Ends} (hi:H x=some (.ins C dx [])) (ho:H dx=some (.own x)) (c:uS K C) (n1:vb K C "rows") (n2:vb K C "places")(h:∀ H' rp pp,dB K P w H' x dx rp pp []->H' x=some (.ins C dx [("rows",.ref rp),("places",.ref pp)])->H rp=none->H pp=none->(∀ a,a≠x->a≠rp->a≠pp->H' a=H a)->D.nx [some (.ref x)] H'):v9 K P w D [some (.ref x)] H:=by
 refine⟨gd _,λrp hr=>⟨_,rfl,x,C,dx,[],rfl,?_,c,n1,by decide,?_⟩⟩
 ·rw[df (λz=>by rw[z,hr] at hi;cases hi)];exact hi
 have x1:x≠rp:=λz=>by rw[z,hr] at hi;cases hi
 have d1:dx≠rp:=λz=>by rw[z,hr] at ho;cases ho
 have dx1:dx≠x:=λz=>by rw[z,hi] at ho;cases ho
 intro pp hp rd;have p1:pp≠x:=λz=>by rw[z,eJ] at hp;cases hp
 rw[df p1] at hp;have p2:pp≠rp:=λz=>by rw[z,eJ] at hp;cases hp
 rw[df p2] at hp;have d2:dx≠pp:=λz=>by rw[z,hp] at ho;cases ho
 refine⟨_,rfl,x,C,dx,[("rows",.ref rp)],rfl,by rw[df (Ne.symm p1),eJ];rfl,c,n2,(by show 1<1000;decide),?_⟩;have z:hJ "places" (.ref pp) [("rows",.ref rp)]=[(("rows" : Str),V.ref rp),("places",.ref pp)]:=by rfl
 refine h _ rp pp ⟨⟨C,eJ,c,n1,n2⟩,by rw[df dx1,df d2,df dx1,df d1];exact ho,⟨[],?_,.nil⟩,?_,kT⟩ eJ hr hp λa h1 h2 h3=>by rw[df h1,df h3,df h1,df h2]
 ·rw[df (Ne.symm x1),df (Ne.symm p2),df (Ne.symm x1),eJ];rfl
 ·obtain⟨xs,a1,a2,a3,a4⟩:=rd;refine⟨xs,a1,by rw[df p1];exact a2,a3,?_⟩;cases a4;exact .nil
section
variable {X:Cx}
def Bw (n0:∀ p,PE X (.Name "self" p) (jI 0))(s1:autoParam (lP (.List [] p3) (some (.Attribute (.Name "self" p1) "rows" p2)) p4.line X.env=pure false) bv) (s2:autoParam (lP (.Dict [] [] q3) (some (.Attribute (.Name "self" q1) "places" q2)) q4.line X.env=pure false) bv) :
  mE X [.Assign [.Attribute (.Name "self" p1) "rows" p2] (.List [] p3) p4,.Assign [.Attribute (.Name "self" q1) "places" q2] (.Dict [] [] q3) q4] (v9 X.K X.prog X.w) :=
 T7 (bo' (n0 _) (Wx ly) s1) (RC (bo' (n0 _) Eo s2))
end
def uL(K:ay)(P:cq)(w:cS):Sp:=λvs H Q E=>∃ x dx rp pp b rs r,vs=[.ref x,.ref b]/\dB K P w H x dx rp pp rs/\kc H r b/\rs.length<bE /\
 ∀ H' ky k,dB K P w H' x dx rp pp ky->(r∈rs/\ky=rs\/r∉rs/\ky=rs++[r])->ky[k]? = some r->(∀ c,c≠rp->c≠pp->H' c=H c)->Q (.int (k:Nat)) H'
def nQ (K:ay) (P:cq) (w:cS):Sp:=λvs H Q E=>∃ x dx C,vs=[.ref x]/\H x=some (.ins C dx [])/\H dx=some (.own x)/\uS K C/\vb K C "rows"/\vb K C "places" /\
 ∀ H' rp pp,dB K P w H' x dx rp pp []->H' x=some (.ins C dx [("rows",.ref rp),("places",.ref pp)])->H rp=none->H pp=none->(∀ a,a≠x->a≠rp->a≠pp->H' a=H a)->Q .non H'
section
variable {P:cq}{w:cS}{K:ay}{mg:Str->Option ah}{base:dk}{x qual:Str}{st:h8}{f:ae}{fd:og}
def Gb (F:oj K x qual st f fd) (S:xI ["self", "row"] ["self", "row"] (dS st))(wc:∀ (dc:ah) (A:ft) (outer:List PySem.Env) (s:aE) (H:Hp) (E:XK),gi 0 (A.deeper (kN qual (dS st) s.heap.objs.size f dc))->mE (mI kP P w K mg base ["self", "row"] qual (dS st) f dc A outer s H E).xE (lT st) (Z9 K P w)) :
  kR P w K mg base kP 1 f fd ["self", "row"] (uL K P w) :=
 F.ok S (λvs H Q E ⟨_,_,_,_,_,_,_,e,_⟩=>by rw[e];rfl) λdc A outer s H vs Q E hr dA=>by obtain⟨x,dx,rp,pp,b,rs,r,e,sh,hb,hz,h⟩:=dA;subst e;exact⟨_,wc dc A outer s H E hr,G5 sh hb hz h⟩
def Bl (F:oj K x qual st f fd) (S:xI ["self"] ["self"] (dS st))(wc:∀ (dc:ah) (A:ft) (outer:List PySem.Env) (s:aE) (H:Hp) (E:XK),gi 0 (A.deeper (kN qual (dS st) s.heap.objs.size f dc))->mE (mI kP P w K mg base ["self"] qual (dS st) f dc A outer s H E).xE (lT st) (v9 K P w)) :
  kR P w K mg base kP 1 f fd ["self"] (nQ K P w) :=
 F.ok S (λvs H Q E ⟨_,_,_,e,_⟩=>by rw[e];rfl) λdc A outer s H vs Q E hr dA=>by obtain⟨x,dx,C,e,hi,ho,c,n1,n2,h⟩:=dA;subst e;exact⟨_,wc dc A outer s H E hr,Br hi ho c n1 n2 h⟩
end
def BU(Hs:Hp)(As:List ae)(H:Hp):Hp:=λb=>if b∈As then H b else Hs b
def ie(h:b∈As):BU Hs As H b=H b:=by unfold BU;rw[if_pos h]
def lO(h:b∉As):BU Hs As H b=Hs b:=by unfold BU;rw[if_neg h]
def um(n:PD Hs aw)(k:∀ b∈As,H' b=H b):PD (BU Hs As H) (BU aw As H'):=λa o d e=>by
 by_cases h:a∈As
 ·rw[ie h] at e ⊢;rw[k a h];exact e
 ·rw[lO h] at e ⊢;exact n a o d e
def nP(w:Wf Hs H):aS (BU Hs As H) H:=λa o e=>by
 by_cases h:a∈As
 ·rw[ie h] at e;exact e
 ·rw[lO h] at e;exact w.sub a o e
section
variable {K:ay}{P:cq}{w:cS}{G G':Hp}{x dx rp pp:ae}{rs:List (List RI)}
def kc.mono(n:∀ c ys,G c=some (.tup ys)->G' c=some (.tup ys))(h:kc G r b):kc G' r b:=by
 obtain⟨o1,ys,e,q⟩:=h;refine⟨o1,ys,n _ _ e,?_⟩;clear e o1
 induction q with
 |nil=>exact .nil
 |@cons i y is ys hi _ ih =>
  refine .cons ?_ ih
  match i,hi with
  |.inl k,hi=>exact hi
  |.inr ks,hi =>obtain⟨c,rfl,z⟩:=hi;exact⟨c,rfl,n _ _ z⟩
def dB.moves(h:dB K P w G x dx rp pp rs)(t:∀ c ys,G c=some (.tup ys)->G' c=some (.tup ys))(k:∀ c∈[x,dx,rp,pp],G' c=G c):dB K P w G' x dx rp pp rs:=by obtain⟨⟨C,i1,i2⟩,ow,⟨bs,b1,b2⟩,⟨xs,a1,a2,a3,a4⟩,nd⟩:=h;refine⟨⟨C,(k x (by simp)).trans i1,i2⟩,(k dx (by simp)).trans ow,⟨bs,(k rp (by simp)).trans b1,Paired.imp' (λ_ _ z=>z.mono t) b2⟩,⟨xs,a1,(k pp (by simp)).trans a2,a3,Paired.imp' (λ_ _ z=>⟨z.1,z.2.1.mono t,z.2.2⟩) a4⟩,nd⟩
def dB.at(h:dB K P w G x dx rp pp rs):∀ c∈[x,dx,rp,pp],∃ o,G c=some o/\cR' o/\∀ vs,o≠.tup vs:=by
 obtain⟨⟨C,i1,i2⟩,ow,⟨bs,b1,b2⟩,⟨xs,a1,a2,a3,a4⟩,nd⟩:=h;intro c hc;simp only[eW,FI,or_false] at hc;rcases hc with rfl|rfl|rfl|rfl
 ·exact⟨_,i1,trivial,λ_ z=>nomatch z⟩
 ·exact⟨_,ow,trivial,λ_ z=>nomatch z⟩
 ·exact⟨_,b1,trivial,λ_ z=>nomatch z⟩
 ·exact⟨_,a2,trivial,λ_ z=>nomatch z⟩
def dB.near(n:PD G G')(h:dB K P w G x dx rp pp rs):dB K P w G' x dx rp pp rs :=
 h.moves (λc ys e=>n c _ trivial e) λc hc=>by obtain⟨o,e,d,_⟩:=h.at c hc;rw[e];exact n c o d e
end
def MS:RI->Bool
 |.inl k=>tj k
 |.inr ks=>decide (ks.length<=bE) && ks.all tj
def SJ(r:List RI):Bool:=decide (r.length<=bE) && r.all MS
def rq(K:ay)(P:cq)(w:cS)(C:ae)(o:Bool)(rs:List (List RI)):PF where
 is:=λHs H x As=>(∀ r∈rs,SJ r=true)/\∃ dx rp pp,dB K P w (BU Hs As H) x dx rp pp rs/\BU Hs As H x=some (.ins C dx [("rows",.ref rp),("places",.ref pp)])/\As=bif o then [x,dx,rp,pp] else []
 fS:=λn k ⟨sm,dx,rp,pp,s,i,e⟩=>⟨sm,dx,rp,pp,s.near (um n k),um n k _ _ trivial i,e⟩
 own:=λ⟨sm,dx,rp,pp,s,i,e⟩ b hb=>by
  cases o with
  |false=>rw[e] at hb;exact nomatch hb
  |true =>obtain⟨u,h1,_,h2⟩:=s.at b (by rw[e] at hb;exact hb);rw[ie hb] at h1;exact⟨u,h1,h2⟩
abbrev DH:=Bool->List (List RI)->PF
section
variable {K:ay}{Hs H:Hp}
def Gu(h:kc Hs r b)(sm:SJ r=true):Rep K Hs (oT r) (.ref b):=by
 obtain⟨ok,ys,e,p⟩:=h;simp only[SJ,nv,decide_eq_true_eq,Au] at sm;refine .tup (by rw[<- Paired.length p];exact sm.1) e ?_;have sm2:=sm.2;clear e sm ok
 induction p with
 |nil=>exact .nil
 |@cons i y is ys hi _ ih =>
  refine .cons ?_ (ih λz hz=>sm2 z (eI _ hz));have hm:=sm2 i fA
  match i,hi with
  |.inl (.inl k),hi=>rw[show y=.int k from hi];exact .int k
  |.inl (.inr k),hi=>rw[show y=.str k from hi];exact .str (by simpa[MS,tj] using hm)
  |.inr ks,hi =>obtain⟨c,rfl,z⟩:=hi;simp only[MS,nv,decide_eq_true_eq] at hm;exact .tup (by rw[dz];exact hm.1) z (ir (Au.mp hm.2))
def zZ{ks:List Key}{vs:List V}(h:bS K Hs (ks.map n5) vs):vs=ks.map kV/\ks.all tj=true:=by
 induction ks generalizing vs with
 |nil=>rw[bS.n0 h];exact⟨rfl,rfl⟩
 |cons k ks ih =>
  obtain⟨u,us,rfl,r,t⟩:=bS.c h;obtain⟨e,a⟩:=ih t;rw[e]
  cases k with
  |inl i=>cases r;exact⟨rfl,by simpa[tj] using a⟩
  |inr y=>cases r with|str z=>exact⟨rfl,by simp only[D4,tj,nv,decide_eq_true_eq];exact⟨z,a⟩⟩
def Fj(h:Rep K Hs (oT r) v)(ok:eK 12 (oT r)=true):∃ b,v=.ref b/\kc Hs r b/\SJ r=true:=by
 cases h with
 |@tup a vs _ z e rs =>
  have key:Paired (Aw Hs) r vs/\∀ i∈r,MS i=true:=by
   clear e z ok
   induction r generalizing vs with
   |nil=>rw[bS.n0 rs];exact⟨.nil,λi h=>nomatch h⟩
   |cons i r ih =>
    obtain⟨u,us,rfl,h1,h2⟩:=bS.c rs;obtain⟨p,q⟩:=ih h2;have one:Aw Hs i u/\MS i=true:=by
     match i,h1 with
     |.inl (.inl k),h1=>cases h1;exact⟨rfl,rfl⟩
     |.inl (.inr k),h1=>cases h1 with|str z=>exact⟨rfl,by simpa[MS,tj] using z⟩
     |.inr ks,h1 =>
      cases h1 with
      |tup z e ky =>obtain⟨e2,a⟩:=zZ ky;refine⟨⟨_,rfl,by rw[e,e2]⟩,?_⟩;simp only[MS,nv,decide_eq_true_eq];exact⟨by rw[e2,dz] at z;exact z,a⟩
    exact⟨.cons one.1 p,λj hj=>(eW.mp hj).elim (λz=>z ▸ one.2) (q j)⟩
  refine⟨a,rfl,⟨ok,vs,e,key.1⟩,?_⟩;simp only[SJ,nv,decide_eq_true_eq,Au];exact⟨by rw[Paired.length key.1];exact z,key.2⟩
def SR.Z_(i:Nat)(s:SR K Hs H ρ σ tot):ρ[i]? = some (some (.ob a p))->tot.Nodup ->
  ∃ As,σ[i]? = some (some (.ref a))/\p.is Hs H a As/\As.Sublist tot/\∀ aC H2 q,aS Hs aC->q.is aC H2 a As->(∀ b∈tot,b∉As->H2 b=H b)->SR K aC H2 (ρ.set i (some (.ob a q))) σ tot:=by
 induction s generalizing i with
 |nil=>intro e;simp at e
 |non s ih =>
  intro e n
  cases i with
  |zero=>simp at e
  |succ i =>obtain⟨As,e1,r,sb,g⟩:=ih i (by simpa using e) n;exact⟨As,by simpa using e1,r,sb,λaC H2 q s2 h2 k=>.non (g aC H2 q s2 h2 k)⟩
 |sh r0 s ih =>
  intro e n
  cases i with
  |zero=>simp at e
  |succ i =>obtain⟨As,e1,r,sb,g⟩:=ih i (by simpa using e) n;exact⟨As,by simpa using e1,r,sb,λaC H2 q s2 h2 k=>.sh (r0.same s2) (g aC H2 q s2 h2 k)⟩
 |xc s ih =>
  intro e n
  cases i with
  |zero=>simp at e
  |succ i =>obtain⟨As,e1,r,sb,g⟩:=ih i (by simpa using e) n;exact⟨As,by simpa using e1,r,sb,λaC H2 q s2 h2 k=>.xc (g aC H2 q s2 h2 k)⟩
 |ow ne r0 s ih =>
  intro e n;obtain⟨n1,n2,n3⟩:=g7.mp n
  cases i with
  |zero=>simp at e
  |succ i =>obtain⟨As,e1,r,sb,g⟩:=ih i (by simpa using e) n2;exact⟨As,by simpa using e1,r,sb.trans (k9 _ _),λaC H2 q s2 h2 k=>.ow ne (r0.fS s2 λb hb=>k b (kg _ hb) λz=>n3 b hb b (sb.subset z) rfl) (g aC H2 q s2 h2 λb hb=>k b (eT _ hb))⟩
 |lk ne r0 s ih =>
  intro e n;obtain⟨n1,n2,n3⟩:=g7.mp n
  cases i with
  |zero=>simp at e
  |succ i =>obtain⟨As,e1,r,sb,g⟩:=ih i (by simpa using e) n2;exact⟨As,by simpa using e1,r,sb.trans (k9 _ _),λaC H2 q s2 h2 k=>.lk ne (r0.fS s2 λb hb=>k b (kg _ hb) λz=>n3 b hb b (sb.subset z) rfl) (g aC H2 q s2 h2 λb hb=>k b (eT _ hb))⟩
 |@ob ρ σ t B a0 p0 r0 s ih =>
  intro e n;obtain⟨n1,n2,n3⟩:=g7.mp n
  cases i with
  |zero =>obtain⟨rfl,rfl⟩:=e;exact⟨B,rfl,r0,ND _ _,λaC H2 q s2 h2 k=>.ob h2 (s.fS s2 λb hb=>k b (eT _ hb) λz=>n3 b z b hb rfl)⟩
  |succ i =>obtain⟨As,e1,r,sb,g⟩:=ih i (by simpa using e) n2;exact⟨As,by simpa using e1,r,sb.trans (k9 _ _),λaC H2 q s2 h2 k=>.ob (p0.fS (iZ s2) (λb hb=>k b (kg _ hb) λz=>n3 b hb b (sb.subset z) rfl) r0) (g aC H2 q s2 h2 λb hb=>k b (eT _ hb))⟩
def SR.dG'(r:p.is Hs H a As)(nd:As.Nodup)(i:Nat)(s:SR K Hs H ρ σ tot):tot.Nodup->(∀ b∈As,b∉tot) ->
  ∃ cf,cf.Nodup/\(∀ b∈cf,b∈tot\/b∈As)/\SR K Hs H (ρ.set i (some (.ob a p))) (σ.set i (some (.ref a))) cf:=by
 induction s generalizing i with
 |nil=>exact λn _=>⟨[],kT,(λa h=>xh h),.nil⟩
 |non s ih =>
  intro n dj
  cases i with
  |zero=>exact⟨_,dU nd n dj,λa h=>(eR.mp h).symm,.ob r s⟩
  |succ i=>obtain⟨t,a,b,c⟩:=ih i n dj;exact⟨t,a,b,.non c⟩
 |sh q s ih =>
  intro n dj
  cases i with
  |zero=>exact⟨_,dU nd n dj,λa h=>(eR.mp h).symm,.ob r s⟩
  |succ i=>obtain⟨t,a,b,c⟩:=ih i n dj;exact⟨t,a,b,.sh q c⟩
 |xc s ih =>
  intro n dj
  cases i with
  |zero=>exact⟨_,dU nd n dj,λa h=>(eR.mp h).symm,.ob r s⟩
  |succ i=>obtain⟨t,a,b,c⟩:=ih i n dj;exact⟨t,a,b,.xc c⟩
 |ow ne' q s ih =>
  intro n dj;obtain⟨n1,n2,n3⟩:=g7.mp n;have tq:=λa ha m=>dj a ha (eT _ m)
  cases i with
  |zero=>exact⟨_,dU nd n2 tq,λa h=>(eR.mp h).symm.imp (λz=>eT _ z) λz=>z,.ob r s⟩
  |succ i=>obtain⟨t,a,b,c⟩:=ih i n2 tq;exact⟨_,(aY n dj a b).1,(aY n dj a b).2,.ow ne' q c⟩
 |lk ne' q s ih =>
  intro n dj;obtain⟨n1,n2,n3⟩:=g7.mp n;have tq:=λa ha m=>dj a ha (eT _ m)
  cases i with
  |zero=>exact⟨_,dU nd n2 tq,λa h=>(eR.mp h).symm.imp (λz=>eT _ z) λz=>z,.ob r s⟩
  |succ i=>obtain⟨t,a,b,c⟩:=ih i n2 tq;exact⟨_,(aY n dj a b).1,(aY n dj a b).2,.lk ne' q c⟩
 |ob q s ih =>
  intro n dj;obtain⟨n1,n2,n3⟩:=g7.mp n;have tq:=λa ha m=>dj a ha (eT _ m)
  cases i with
  |zero=>exact⟨_,dU nd n2 tq,λa h=>(eR.mp h).symm.imp (λz=>eT _ z) λz=>z,.ob r s⟩
  |succ i=>obtain⟨t,a,b,c⟩:=ih i n2 tq;exact⟨_,(aY n dj a b).1,(aY n dj a b).2,.ob q c⟩
end
def nW(K:ay)(P:cq)(w:cS)(C:ae)(vw:List (List RI)->fk):Sp:=λvs H Qv _=>∃ x rs ds Vj Qd,vs=.ref x :: Vj/\(rq K P w C false rs).is H H x []/\bS K H ds Vj/\vw rs ds Qd /\
 ∀ v H' aw m d As,aS H aw->Wf aw H'->RM K aw H' m d v As->As.Nodup->(∀ a∈As,aw a=none)->Qd m d->Qv v H'
def iu(n:Nat)(a:ae)(p:PF)(ds:List D):Env:=some (.ob a p) :: (ds.map (λd=>some (.sh d))++List.replicate (n-(ds.length+1)) none)
section
variable {K:ay}{P:cq}{w:cS}{C:ae}{vw:List (List RI)->fk}{t:WS}
def uW(h:nW K P w C vw vs H Qv E)(hp:∀ a rs ds Q,vw rs ds Q->t { nx:=λ_=>Q .sh .non,rt:=Q } (iu N.length a (rq K P w C false rs) ds)) :
  y8 K L0 t { nx:=λ_ H'=>Qv .non H',rt:=Qv } (start N vs) H:=by
 obtain⟨x,rs,ds,Vj,Qd,rfl,sh,re,hs,fin⟩:=h;have hl:=re.length;refine⟨H,iu N.length x (rq K P w C false rs) ds,[],{ nx:=λ_=>Qd .sh .non,rt:=Qd },⟨?_,⟨aS.refl _,λ_ _ e=>e⟩,kT,λa h=>nomatch h⟩,hp x rs ds Qd hs,?_,?_,?_,?_,λ_ _ _ _=>trivial⟩
 ·unfold iu start;rw[hl];exact .ob sh (SR.start re)
 ·exact λb4 H' aw bt cf s sr q=>fin .non H' aw .sh .non [] s sr.wf ⟨rfl,.non⟩ kT (λa h=>nomatch h) q
 ·exact λb4 H' aw bt cf s sr q=>q.elim
 ·exact λb4 H' aw bt cf s sr q=>q.elim
 ·exact λv H' aw m d As s w r nd own q=>fin v H' aw m d As s w r nd own q
def aa'.ok{st:h8}{N ps:List Str}(F:oj K x qual st f fd)(S:xI N ps (dS st))(len:∀ rs ds Q,vw rs ds Q->ds.length+1=ps.length)(wc:∀ (dc:ah) (A:ft) (outer:List PySem.Env) (s:aE) (H:Hp) (E:XK),gi k (A.deeper (kN qual (dS st) s.heap.objs.size f dc))->tm (mI kP P w K mg base N qual (dS st) f dc A outer s H E).xE K L0 (lT st) t)(hp:∀ a rs ds Q,vw rs ds Q->t { nx:=λ_=>Q .sh .non,rt:=Q } (iu N.length a (rq K P w C false rs) ds)):kR P w K mg base kP (k+1) f fd ps (nW K P w C vw) :=
 F.ok S (λvs H Q E ⟨x,rs,ds,Vj,Qd,e,_,re,hs,_⟩=>by rw[e,jv,<- re.length];exact len rs ds Qd hs) λdc A outer s H vs Q E hr hs=>⟨_,wc dc A outer s H E hr,uW hs hp⟩
end
def xU(SP:DH)(i:Nat)(vw:List (List RI)->fk)(t:WA):WE:=λρ Q=>∃ a o rs,ρ[i]? = some (some (.ob a (SP o rs)))/\t ρ λps=>vw rs (ps.map (·.2)) λm d=>b9 (m,d) (f:=λp=>Q (vv p.1 p.2) p.2) ⟨⟩
def ym(SP:DH)(i:Nat)(t:WE):WE:=λρ Q=>∃ a o rs,ρ[i]? = some (some (.ob a (SP o rs)))/\t ρ λ_ y=>∃ (k:Nat) (r:List RI),y=.int k/\rs[k]? = some r/\Q .sh (oT r)
def Hz(SP:DH)(i:Nat):WS:=λE ρ=>∀ a,E.nx (ρ.set i (some (.ob a (SP true []))))
def DY{α β:Type}{R:α->β->Prop}{l:List α}{m:List β}(p:Paired R l m){k:Nat}{x:α}(h:l[k]? = some x):∃ y,m[k]? = some y/\R x y:=by
 induction p generalizing k with
 |nil=>simp at h
 |cons a _ ih =>
  cases k with
  |zero=>simp at h;subst h;exact⟨_,rfl,a⟩
  |succ k=>exact ih (by simpa using h)
section
variable {X:Cx}{K:ay}{L:Str->Hp->Prop}{C:ae}{e0 e:Expr}{es:List Expr}{i:Nat}{t:WA}{te:WE}{m:Str}{apos pos p q:Pos}{f:ae}{fd:og}{ps:List Str}{k:Nat}{vw:List (List RI)->fk}
def vW{P:cq}(wf:Wf Hs H)(h:(rq K P w C o rs).is Hs H a As):(rq K P w C false rs).is H H a []:=by
 obtain⟨sm,dx,rp,pp,s,i,e⟩:=h;have n:PD (BU Hs As H) (BU H [] H):=λb u _ z=>by exact nP wf b u z
 exact⟨sm,dx,rp,pp,s.near n,n _ _ trivial i,rfl⟩
def wH(h0:PE X e0 (jI i))(c:uS X.K C)(hm:Meth X.K C m f)(F:kR X.prog X.w X.K X.mg X.base kP k f fd ps (nW K X.prog X.w C vw))(hr:gi k X.A)(hb:Binds X.K fd ps [])(ha:QA X K (e :: es) t)(hK:autoParam (X.K=K) bv) (hn:(m == ("rows" : Str))=false/\(m == ("places" : Str))=false:=by decide +kernel) (pT:autoParam (aT (e :: es) X.env=(false,b3 e X.env) :: aT es X.env) bv) (hU:autoParam ((gV pos (aT es X.env)).any (·.1)=false) bv) (ht:autoParam (b3 (.Call (.Attribute e0 m apos) (e :: es) [] pos) X.env=(do
   let ov ← eval e0 X.env
   standAt apos.atName
   let (f,first) ← holding [ov] (getMethod ov m pl)
   callWith pos f first (gV pos (aT (e :: es) X.env)) (A4 pos (A3 [] X.env)))) bv):QE X K (.Call (.Attribute e0 m apos) (e :: es) [] pos) (xU (rq K X.prog X.w C) i vw t):=by
 subst hK;refine PE.imp (bt' h0 c hm F hr hb (.nil) UA ha pT hU ht) λσ H Qv hx=>hV hx λHs ρ tot Q sr h f=>?_;obtain⟨a,o,rs,e1,h⟩:=h;obtain⟨v,e2,rfl,As,is,_⟩:=sr.sr.get e1;have P6:=vW sr.wf is;obtain⟨_,dx,rp,pp,s1,i1,_⟩:=id P6;refine⟨_,e2,a,dx,_,rfl,i1,?_,Hs,ρ,tot,_,sr,h,λvs H1 aI ps As1 g1 r1 f1 q1=>?_⟩
 ·simp[List.lookup,hn.1,hn.2]
 ·refine⟨a,rs,_,vs,_,by rw[kM],(rq X.K X.prog X.w C false rs).fS (iZ g1.all) (λb hb=>nomatch hb) P6,r1.reps g1.wf,q1,λv H' aw m d As s w r nd own q=>?_⟩;obtain⟨gy,r',fr⟩:=iM g1.wf s w r nd own;exact Fin.after f g1 v H' _ (vv m d) d gy (b7 g1.wf s w) r' fr q
def wg (h0:PE X e0 (jI i)) (hb:QE X K e te) (hK:autoParam (X.K=K) bv) (hba:autoParam (vS e0 "rows" X.env (b3 e0 X.env)=b3 e0 X.env) bv) (hs:Ul e:=by exact λ_ _=>rfl) (hu:X.A.units+64<iE:=by assumption) :
  QE X K (.Subscript (.Attribute e0 "rows" p) e q) (ym (rq K X.prog X.w C) i te):=by
 subst hK;refine PE.imp (WR (cY' hu rfl) (OB h0 hba) hb hs) λσ H Qv hx=>hV hx λHs ρ tot Q sr h f=>?_;obtain⟨a,o,rs,e1,h⟩:=h;obtain⟨v,e2,rfl,As,is,_⟩:=sr.sr.get e1;have P6:=vW sr.wf is;obtain⟨_,dx,rp,pp,s1,i1,_⟩:=id P6;obtain⟨C',i2,c,n1,_⟩:=s1.ins;refine⟨_,e2,a,C',dx,_,.ref rp,rfl,i2,c,n1,rfl,Hs,ρ,tot,_,sr,h,λu H2 aC m y i9 g2 r2 f2 q2=>?_⟩;obtain⟨k,r,rfl,hk,q⟩:=q2;have r2:=r2.rep g2.wf;cases r2;obtain⟨bs,b1,b2⟩:=s1.rows;obtain⟨b,hb,rb⟩:=DY b2 hk;refine .inl (.inl ⟨_,.ref b,.inl (.inl (g2.all _ _ b1)),JR ?_ (by rw[mz,hb];rfl),(Fin.after f g2).sh g2.wf (Gu (rb.mono λc ys z=>g2.wf.iF c ys (g2.all _ _ z)) (is.1 r (rV hk))) q⟩);have hl:k<bs.length:=(ng.mp hb).1;unfold x3;simp[hl]
def E_ (M:Mk X.K C lu') (c:uS X.K C) (n1:vb X.K C "rows") (n2:vb X.K C "places") (F:kR X.prog X.w X.K X.mg X.base kP k lu' fdi ["self"] (nQ X.K X.prog X.w)) (hr:gi (k+1) X.A) (hm:X.mg "Sheet" = some (.ref C)) (hb:Binds X.K fdi ["self"] []) (hg:Gl X "Sheet" := by rfl) (hK:autoParam (X.K=K) bv) (hs:autoParam (lP (.Call (.Name "Sheet" p) [] [] q) (some (.Name y pos')) pos.line X.env=pure false) bv) (hf:X.fn y=true\/X.env.scope.names.lookup y=some .local:=by first|exact .inl rfl|exact .inr rfl|assumption) (hN:X.N.Nodup:=by assumption) (hi:autoParam (X.N[i]? = some y) bv) (hy:Loc X.env.scope y:=by first|exact .inl rfl|exact .inr rfl) :
  QS X K L (.Assign [.Name y pos'] (.Call (.Name "Sheet" p) [] [] q) pos) (Hz (rq K X.prog X.w C) i):=by
 subst hK;refine PS.imp (Kj hN hi hy (gJ' M F hr hg hm hb .nil UA) hs hf) λD σ H hx=>bR hx λHs ρ tot E sr h k1 k2 k3 k4=>?_;intro x dx hx hd ne;refine⟨x,dx,C,rfl,eJ,by rw[df ne,eJ],c,n1,n2,λH' rp pp S om P7 P8 kp=>⟨rfl,?_⟩⟩;have px:pp≠x:=λz=>by rw[z,eJ] at P8;cases P8
 have rx:rp≠x:=λz=>by rw[z,eJ] at P7;cases P7
 rw[df px] at P8;rw[df rx] at P7;have pd:pp≠dx:=λz=>by rw[z,eJ] at P8;cases P8
 have rd:rp≠dx:=λz=>by rw[z,eJ] at P7;cases P7
 rw[df pd] at P8;rw[df rd] at P7;have fr:∀ b∈[x,dx,rp,pp],H b=none:=by intro b hb;simp only[eW,FI,or_false] at hb;rcases hb with rfl|rfl|rfl|rfl<;>assumption
 have rp':rp≠pp:=λz=>by obtain⟨bs,b1,_⟩:=S.rows;obtain⟨xs,_,a2,_⟩:=S.places;rw[z,a2] at b1;cases b1
 have keep:∀ b,b∉[x,dx,rp,pp]->H' b=H b:=λb hb=>by simp only[eW,FI,or_false,not_or] at hb;rw[kp b hb.1 hb.2.2.1 hb.2.2.2,df hb.1,df hb.2.1]
 have nt:∀ b o,H b=some o->b∉[x,dx,rp,pp]:=λb o z m=>by rw[fr b m] at z;cases z
 have wf:Wf Hs H':=⟨λb o z=>(keep b (nt b o (sr.wf.sub b o z))).trans (sr.wf.sub b o z),λb vs z=>by
  by_cases hb:b∈[x,dx,rp,pp]
  ·obtain⟨o,z2,_,n⟩:=S.at b hb;rw[z] at z2;cases z2;exact absurd rfl (n vs)
  ·rw[keep b hb] at z;exact sr.wf.iF b vs z⟩
 have nd:[x,dx,rp,pp].Nodup:=by simp[ne,Ne.symm ne,px,Ne.symm px,rx,Ne.symm rx,pd,Ne.symm pd,rd,Ne.symm rd,rp']
 have is:(rq X.K X.prog X.w C true []).is Hs H' x [x,dx,rp,pp]:=⟨(λr z=>nomatch z),dx,rp,pp,S.moves (λc ys z=>by
  by_cases hc:c∈[x,dx,rp,pp]
  ·rw[ie hc];exact z
  ·rw[lO hc];exact wf.iF c ys z) (λc hc=>ie hc),by rw[ie (by simp)];exact om,rfl⟩
 obtain⟨cf,t1,t2,t3⟩:=SR.dG' is nd i (sr.sr.fS (aS.refl _) λb hb=>keep b (nt b _ (V0.mp (sr.sr.own b hb).ne).choose_spec)) sr.nX (λb hb m=>(sr.sr.own b m).ne (fr b hb));exact k1 _ H' Hs _ cf (aS.refl _) ⟨t3,wf,t1,λb hb=>(t2 b hb).elim (sr.own b) λm=>sr.wf.sub.free (fr b m)⟩ (h x)
end
end L2.Q
namespace L2
def SK(lo c:Int)(n:Nat):It:=⟨λi _=>i<n,λi H x H'=>H'=H/\x=.int (lo+i*c),λi _=>n<=i⟩
def rY{P:cq}{K:ay}(it:ae)(lo c:Int)(n:Nat):Turn P w K tg (SK lo c n) [it] it (λi h=>IsRangeIter h it (lo+(i:Nat)*c) ((n:Int)-(i:Nat)) c) where
 mem:=by simp
 obj:=λi h st b hb=>by
  have e:b=it:=by simpa using hb
  subst e;exact⟨_,st,λv z=>by
   have z':Data.fields _=Data.cell v:=z;cases z'⟩
 keep:=λi h h' st k=>k it (by simp) _ st
 item:=by intro X hP hw hK hc i pins s σ H E I hf st hg;subst hP hw hK;obtain⟨f0,f1,f2,f3,f4,f5⟩:=hf it (by simp);have W:=Walks.range (prog:=X.prog) (w:=X.w) (I.ok.hd hc) it lo c n;refine W.item i s _ _ hg st λv h' tk hv av kk=>?_;obtain⟨t,rfl⟩:=hv;have I1:Inv X pins σ H { s with heap:=h',toks:=tk }:=I.turned (λb o hb e=>kk b o (by simpa using hb) e) f0 f1 f3 f4 f5;exact⟨_,rfl,N9 (s:={ s with heap:=h',toks:=tk }) (n := "range_iterator") av rfl rfl (by decide) ⟨.int (lo+i*c),H,I1,⟨t,rfl⟩,⟨rfl,rfl⟩,av,λb hb=>(hf b hb).1⟩⟩
 done:=by intro X hP hw hK hc i pins s σ H E I hf st hg;subst hP hw hK;obtain⟨f0,f1,f2,f3,f4,f5⟩:=hf it (by simp);exact wpAny_pyNext_range_end (I.ok.hd hc) st (by have:n<=i:=hg;lia) λh' eb=>⟨rfl,I.turned (t':=s.toks) (λb o hb e=>eb b o hb e) f0 f1 f3 f4 f5⟩
 self:=λ_ _ _ _ _ st h=>wpAny_pyIter_rangeiter st h
def zD(a b c:Int):Nat:=(Builtin.Range.rangeSize a b c).toNat
def M9(hc:c = -1\/c=2):((zD a b c:Nat):Int)=Builtin.Range.rangeSize a b c:=by
 unfold zD Builtin.Range.rangeSize;rcases hc with rfl|rfl
 ·rw[if_neg (by decide),show -(-1:Int)=1 from rfl];split<;>lia
 ·rw[if_pos (by decide)];split<;>lia
def Bj(hc:c = -1\/c=2)(h:-16777216<=a/\a<=16777216/\-16777216<=b/\b<=16777216):Builtin.Range.small a b c=true:=by
 unfold Builtin.Range.small Builtin.Range.rangeSize;rcases hc with rfl|rfl
 ·simp only[Builtin.Range.rangeFitsLong,nv,Bool.or_eq_true,decide_eq_true_eq,beq_iff_eq,show ¬ (-1:Int)>0 by decide,if_false,show -(-1:Int)=1 from rfl];split<;>lia
 ·simp only[Builtin.Range.rangeFitsLong,nv,Bool.or_eq_true,decide_eq_true_eq,beq_iff_eq,show(2:Int)>0 by decide,if_true];split<;>lia
section
variable {X:Cx}{tg:Expr}
def MJ(ta:TA):TI:=λσ H R=>ta σ H λvs H1=>∃ i j c:Int,vs=[.int i,.int j,.int c]/\(c = -1\/c=2)/\(-16777216<=i/\i<=16777216/\-16777216<=j/\j<=16777216)/\R (SK i c (zD i j c)) H1
def xV (hg:Gl X "range") (hm:X.mg "range" = none) (ha:PA X [a,b,c] ta) (hs:autoParam (aT [a,b,c] X.env=[(false,b3 a X.env),(false,b3 b X.env),(false,b3 c X.env)]) bv) (ny:autoParam (aT [b,c] X.env=[(false,b3 b X.env),(false,b3 c X.env)]) bv) :
  PI X tg (.Call (.Name "range" p) [a,b,c] [] pos) (MJ ta):=by
 intro pins s σ H R I h;refine Call_ (FU I hg hm boot_range (PyProof.Rows.callWith_type1 (cv (ha pos pins s σ H _ I h) λus s1 ck=>L2.eM ck λvs H1 I1 r1 q1=>?_) (by rw[hs,ny]) (by rw[ny];rfl)));obtain⟨i,j,c,e,hc,hb,q⟩:=q1;subst e
 cases r1 with
 |cons r rr =>
  cases rr with
  |cons r' rr =>
   cases rr with
   |cons r'' rr =>
    cases rr;obtain⟨t,rfl⟩:=r;obtain⟨u,rfl⟩:=r';obtain⟨v,rfl⟩:=r'';refine call_range_3 (by rcases hc with rfl|rfl<;>decide) ?_ (Or.inl (PyProof.noPylong_small (by lia)));refine wpAny_pyIter_range (IsRange.new ..) (Bj hc hb) ?_;have I2:Inv X pins σ H1 { s1 with heap:=s1.heap.push { cls:=.type "range",data:=.fields #[.int i t,.int j u,.int c v] } }:=I1.kept λb o e=>ki _ e;refine⟨_,[_],_,_,H1,rfl,I2.kept λb o e=>ki _ e,rY _ i c (zD i j c),?_,λb hb=>?_,q⟩
    ·show IsRangeIter _ _ (i+0*c) (((zD i j c:Nat):Int)-0) c;rw[M9 hc];simp only[Int.natCast_zero,Int.zero_mul,Int.add_zero,Int.sub_zero];exact oi _ rfl
    ·have e:=iP.mp hb;subst e;exact I2.FX (c9 _) (I2.bG.fresh (c9 _))
end
end L2
namespace L2.Q
def Vk(lo c:Int)(n:Nat):List D:=(List.range n).map λi=>.int (lo+(i:Nat)*c)
def Cq(ta tb tc:WE):WI:=λρ Q=>ta ρ λ_ x=>tb ρ λ_ y=>tc ρ λ_ z=>match x with
 |.int i=>match y with
  |.int j=>match z with
   |.int c=>(c = -1\/c=2)/\(-16777216<=i/\i<=16777216/\-16777216<=j/\j<=16777216)/\zD i j c<=16777216/\Q (Vk i c (zD i j c))
   |_=>False
  |_=>False
 |_=>False
def Ce(lo c:Int)(n:Nat):dW (SK lo c n) ((List.range n).map λi=>V.int (lo+(i:Nat)*c)) (λ_=>True) where
 go:=λi H _ h=>by simpa[SK] using h
 mG:=λi H x H' _ hi h=>by
  have hi:i<n:=by simpa using hi
  obtain⟨rfl,rfl⟩:=h;refine⟨rfl,?_⟩;simp[hi]
 stop:=λH _=>by simp[SK]
theorem sW{K:ay}(lo c:Int):∀ (l:List Nat),bS K H (l.map λi=>.int (lo+(i:Nat)*c)) (l.map λi=>V.int (lo+(i:Nat)*c))
 |[]=>.nil
 |_ :: l=>.cons (.int _) (sW lo c l)
section
variable {X:Cx}{K:ay}{e e2 e3 tg:Expr}{te HG te3:WE}{pos p:Pos}
def Fv (hm:X.mg "range" = none) (he:QE X K e te) (LM:QE X K e2 HG) (he3:QE X K e3 te3) (hg:Gl X "range" := by rfl) (hs:autoParam (aT (e :: [e2,e3]) X.env=(false,b3 e X.env) :: aT [e2,e3] X.env) bv) (ny:autoParam (aT (e2 :: [e3]) X.env=(false,b3 e2 X.env) :: aT [e3] X.env) bv) (W7:autoParam (aT (e3 :: []) X.env=(false,b3 e3 X.env) :: aT [] X.env) bv) (iN:autoParam (aT [e,e2,e3] X.env=[(false,b3 e X.env),(false,b3 e2 X.env),(false,b3 e3 X.env)]) bv) (ZM:autoParam (aT [e2,e3] X.env=[(false,b3 e2 X.env),(false,b3 e3 X.env)]) bv):QI X K tg (.Call (.Name "range" p) [e,e2,e3] [] pos) (Cq te HG te3):=by
 refine PI.imp (xV hg hm (i3 he (i3 LM (i3 he3 ly W7) ny) hs) iN ZM) λσ H R hx=>hV hx λHs ρ tot Q sr h k=>⟨Hs,ρ,tot,_,sr,h,λv H1 aI m d As g1 r1 f1 q1=>⟨aI,ρ,tot,_,sr.grow g1,q1,λu H2 aC n y Bs g2 r2 f2 q2=>⟨aC,ρ,tot,_,(sr.grow g1).grow g2,q2,λu3 H3 gv n3 y3 Bs3 g3 r3 f3 q3=>?_⟩⟩⟩
 have r:=((r1.grow g2).grow g3).rep g3.wf;have r':=(r2.grow g3).rep g3.wf;have r'':=r3.rep g3.wf
 cases r with
 |int i=>cases r' with
  |int j=>cases r'' with
   |int c =>obtain⟨h1,h2,h3,q3⟩:=q3;exact⟨i,j,c,rfl,h1,h2,k _ H3 gv _ ((g1.trans g2).trans g3) (.seq (sW i c _) (dW.imp (Ce _ _ _) λ_ _=>trivial)) (by rw[dz,Tr,nS];lia) q3⟩
   |_=>exact q3.elim
  |_=>exact q3.elim
 |_=>exact q3.elim
end
abbrev GE:=Str × Tok × Str × Tok
def Vl(w:cS)(e:GE):DictEntry:=⟨Ro w.params e.1,.str e.1 e.2.1,.str e.2.2.1 e.2.2.2⟩
structure GlD(w:cS)(K:ay)(mg:Str->Option ah)(x:Str)(ag:List (Str × Str)):Prop where
 ex:∃ (a:ae) (es:List GE) (n:Nat),mg x=some (.ref a)/\K.lookup a=some { cls:=.type "dict",data:=.dict (es.map (Vl w)).toArray n }/\es.map (fun e=>(e.1,e.2.2.1))=ag
def HP(ag:List (Str × Str))(te:WE):WE:=λρ Q=>te ρ λ_ d=>∃ y v,d=.str y/\ag.lookup y=some v/\v.length<=bE/\Q .sh (.str v)
def DQ{es:List GE}{y v:Str}(h:(es.map λe:GE=>(e.1,e.2.2.1)).lookup y=some v)(P:cq)(w:cS):∃ t,findBy (kG P w).is (es.map (Vl w)).toArray (.inr y)=some (.str v t):=by
 unfold findBy;rw[List.find?_toArray]
 induction es with
 |nil=>simp at h
 |cons e es ih =>
  rw[fR,Ts] at h;rw[fR,Ct];have hk:(kG P w).is (.inr y) (Vl w e).key=decide (y=e.1):=by refine(KeyKind.is_eq_decide (TX P w e.1 e.2.1) (.inr y)).trans ?_;by_cases z:y=e.1<;>simp[z]
  rw[hk];by_cases z:y=e.1
  ·rw[z,beq_self_eq_true] at h;cases h;rw[decide_eq_true z];exact⟨_,rfl⟩
  ·rw[beq_eq_false_iff_ne.mpr z] at h;rw[decide_eq_false z];exact ih h
section
variable {X:Cx}{K:ay}{e:Expr}{te:WE}{x:Str}{ag:List (Str × Str)}{p pos:Pos}
def Vm (h:GlD X.w X.K X.mg x ag) (he:QE X K e te) (hg:autoParam (Gl X x) bv) (ip:(x == ("__debug__" : Str))=false:=by decide) (hs:Uw e:=by exact λ_ _=>rfl):QE X K (.Subscript (.Name x p) e pos) (HP ag te):=by
 obtain⟨a,es,n,hm,hl,rfl⟩:=h.ex;intro pins s σ H Qv I hx;obtain⟨Hs,ρ,tot,Q,sr,h,f⟩:=hx;refine bR' PySem.F.slot_dict_getitem.lookup hs (JY I hg hm (cv (he pins s σ H (λy H2=>∃ aI m d As,fe Hs H aI H2/\RM K aI H2 m d y As/\∃ yy v,d=.str yy/\(es.map λe:GE=>(e.1,e.2.2.1)).lookup yy=some v/\v.length<=bE/\Q .sh (.str v)) I ⟨Hs,ρ,tot,_,sr,h,λv H1 aI m d As g1 r1 f1 q1=>⟨aI,m,d,As,g1,r1,q1⟩⟩) λiv s2 dA=>?_) ip);obtain⟨y,H2,I2,ry,aI,m,d,As,g1,r1,yy,v,ed,l,hz,q⟩:=dA;subst ed;have r:=r1.rep g1.wf;cases r;have ly':=I2.iA _ _ hl;obtain⟨t,ht⟩:=DQ l X.prog X.w;have mp:s2.heap.MapOf (kG X.prog X.w) a (findBy (kG X.prog X.w).is (es.map (Vl X.w)).toArray):=⟨_,_,n,ly',⟨rfl,rfl,rfl⟩,rfl,λen hen=>by
  obtain⟨ge,_,rfl⟩:=iX.mp (List.mem_toArray.mp hen);exact⟨.inr ge.1,TX _ _ _ _,rfl⟩,λ_=>rfl⟩
 obtain⟨tk,rfl⟩:=ry;exact⟨mp.typeIs,wpAny_getItem_of (TX _ _ _ _) mp ht ⟨.str v,H2,I2.tok _,⟨t,rfl⟩,(Fin.after f g1).sh g1.wf (.str hz) q⟩⟩
end
end L2.Q
namespace L2.Q
open PySem.W
def Ak(p:WP)(tx:AW):WS:=λE ρ=>p ρ λfl d up=>match d with
 |.list xs=>tx ρ (λn=>E.rt (.ow false) (.str n)) λm x=>xs.length<bE/\match ig fl m x with
  |some eA=>E.nx (up eA (.list (xs++[x])))
  |none=>False
 |_=>False
def xx(tc:WT)(i:Nat)(te:WE):WS:=λE ρ=>tc ρ λb=>if b=true then jt i E ρ else te ρ E.rt
def Ad(tx:AW)(g:WG)(b:WS):WS:=λE ρ=>tx ρ (λn=>E.rt (.ow false) (.str n)) λm d=>lM m/\match d with
 |.list xs=>dX g b E xs.reverse ρ
 |_=>False
section
variable {X:Cx}{K:ay}{L:Str->Hp->Prop}{e tg:Expr}{p:WP}{tx:AW}{pos apos eP pp:Pos}{g:WG}{b:WS}{body:List h8}
def Fz (ho:QP X K e p) {e2:Expr} (he:P5 X K L e2 tx) (hK:autoParam (X.K=K) bv) (hs:autoParam (lP (.Call (.Attribute e "append" apos) [e2] [] eP) none pos.line X.env=pure false) bv) (oI:autoParam (vS e "append" X.env (b3 e X.env)=b3 e X.env) bv) (wq:autoParam (((gV eP (aT [e2] X.env)).all (λx=>!x.1) && (A4 eP (A3 [] X.env)).all (λx=>x.1.isSome)
   && decide ([e2].length+([]:List uk).length+(if ([]:List uk).isEmpty then 0 else 1)<30))=true) bv)
  (hline:autoParam ((apos.endLine == eP.line)=true) bv) (qc:autoParam (aT (e2 :: []) X.env=(false,b3 e2 X.env) :: aT [] X.env) bv) (w8:autoParam ((gV eP (aT [] X.env)).any (·.1)=false) bv) :
  QS X K L (.Expr (.Call (.Attribute e "append" apos) [e2] [] eP) pos) (Ak p tx):=by
 subst hK;refine PS.imp (N0 (Lc PySem.F.plainAttrs_list PySem.F.slot_list_append PySem.F.type_list_append RV ho (i3 he ly qc) oI wq hline qc w8) hs) λD σ H hx=>cG hx λHs ρ tot E sr h k1 k2 k3 k4 kx=>?_;refine⟨Hs,ρ,tot,_,sr,h,λv H1 aI fl d up g1 p1 q1=>?_⟩
 cases d with
 |list xs =>
  obtain⟨a1,vs1,e1,s1⟩:=p1.ZR g1.wf;subst e1;refine⟨.inl ⟨rfl,_,s1⟩,aI,ρ,tot,_,_,sr.grow g1,q1,λy H2 aC m x As g2 r2 f2 q2=>?_,λn H' s y=>kx n H' (g1.sh.trans s) y⟩;obtain⟨hz,q2⟩:=q2;obtain⟨a,vs,A,ea,e2,_,rs,nd,hn,k⟩:=p1.put g2;cases ea;have hl:=rs.length;refine⟨a1,vs,y,rfl,rfl,e2,by lia,?_⟩
  cases hp:ig fl m x with
  |none=>rw[hp] at q2;exact q2.elim
  |some eA =>
   rw[hp] at q2;obtain⟨hf,B,sb,rb⟩:=t_ g2.wf r2 hp;obtain⟨na,nA⟩:=rX.mp nd;have fB:∀ x∈B,aC x=none/\H1 x=none:=λx hx=>f2.2 x (sb.subset hx);have c1:(A++(B++[])).Nodup:=by rw[kM];exact g7.mpr ⟨nA,sb.nodup f2.1,λx hx z hz e=>by subst e;exact(hn x (eI _ hx)).2 (fB x hz).2⟩
   have c2:a1∉A++(B++[]):=by
    rw[kM];intro m;rcases eR.mp m with m|m
    ·exact na m
    ·exact(hn _ fA).2 (fB _ m).2
   have c3:∀ x∈A++(B++[]),x∈A\/(aC x=none/\H1 x=none):=by rw[kM];intro x hx;exact(eR.mp hx).imp id λz=>fB x z
   obtain⟨eL,fP⟩:=k eA (xs++[x]) (vs++[y]) (A++(B++[])) hf ((rs.wk hf).append (.cons rb .nil)) (by rw[iq];simp;lia) c1 c2 c3;exact k1 σ _ aC _ eL (g1.sh.trans g2.sh) fP q2
 |_=>exact q1.elim
def qN(i:Nat){x:Str}{tg iter elt:Expr}{ifs:List Expr}{scope:Scope}{pos pos' OV:Pos}{wi:WI}{g:WG}{tc:WT}{te:WE}{tn cn:List Str}{ix:List Nat}(hi:L8 X K tg iter wi)(hg:∀ {C fp gp iL} {q:(tn++cn).Nodup},QG (aX X scope C (tn++cn) fp gp iL) K tg g) (xS:∀ {C fp gp iL},U7 (aX X scope C (tn++cn) fp gp iL) K ifs tc) (he:∀ {C fp gp iL},QE (aX X scope C (tn++cn) fp gp iL) K elt te)(R5:autoParam (lP (.ListComp elt [⟨tg,iter,ifs,0⟩] scope pos) (some (.Name x pos')) OV.line X.env=pure true) bv) (hs:∀ x,DU iter X.env x=pure x:=by intro _;rfl) (hf:X.fn x=true\/X.env.scope.names.lookup x=some .local:=by first|exact .inl rfl|exact .inr rfl|assumption) (hN:X.N.Nodup:=by assumption) (BG:autoParam (X.N[i]? = some x) bv) (hx:Loc X.env.scope x:=by first|exact .inl rfl|exact .inr rfl) (nd:(tn++cn).Nodup:=by decide +kernel) (O:cN X scope tn cn ix:=by exact cN.by (by assumption) (by decide +kernel)) (hc:autoParam (X.calm=true) bv) :
  QS X K L (.Assign [.Name x pos'] (.ListComp elt [⟨tg,iter,ifs,0⟩] scope pos) OV) (mD i (tH wi g tc te tn.length ix)) :=
 PS.imp (mQ hN BG hx hc hi O (λ_ _ _ _=>hg (q:=nd)) (λ_ _ _ _=>xS) (λ_ _ _ _=>he) R5 hs hf) λD σ H hx=>bR hx λHs ρ tot E sr h k1 k2 k3 k4=>by refine vC ⟨Hs,ρ,tot,_,sr,h,λv H1 aI m d As g1 r1 f1 q1=>?_⟩;obtain⟨a,q1⟩:=q1;obtain⟨cf,s'⟩:=((sr.grow g1).gw a).set i (m:=.sh) (As:=[]) ⟨rfl,r1.rep g1.wf⟩ kT (λ_ m=>nomatch m) rfl;exact k1 _ H1 H1 _ cf (g1.sh.trans g1.wf.sub) s' q1
def Bx{c e0 e:Expr}{i:Nat}{tc:WT}{te:WE}(hc:QT X K c tc)(h0:PE X e0 (jI i))(he:QE X K e te):QS X K L (.Return (some (.IfExp c e0 e eP)) pos) (xx tc i te) :=
 PS.imp (Ki (ft' hc h0 he)) λD σ H hx=>bR hx λHs ρ tot E sr h k1 k2 k3 k4=>⟨Hs,ρ,tot,_,sr,h,λb H1 aI g1 q1=>by
  have kK:=sr.grow g1
  cases b with
  |false=>exact⟨aI,ρ,tot,_,kK,q1,λv H2 aC m d As g2 r2 f2 q2=>k4 v H2 aC m d As (g1.sh.trans g2.sh) g2.wf r2 f2.1 (λa ha=>(f2.2 a ha).1) q2⟩
  |true =>
   have q1:jt i E ρ:=q1;unfold jt at q1;split at q1
   ·rename_i d e1;obtain⟨v,e2,r⟩:=kK.sr.get e1;exact⟨v,e2,k4 v H1 aI .sh d [] g1.sh kK.wf ⟨rfl,r⟩ kT (λa ha=>nomatch ha) q1⟩
   ·rename_i fl d e1;obtain⟨v,As,e2,ne,r,sb⟩:=kK.sr.at e1;exact⟨v,e2,k4 v H1 aI (.ow fl) d As g1.sh kK.wf ⟨r,ne⟩ (sb.nodup kK.nX) (λa ha=>kK.own a (sb.subset ha)) q1⟩
   ·exact q1.elim⟩
def D_ {e:Expr} (hm:X.mg "reversed" = none) (he:P5 X K L e tx) (hg:QG X K tg g) (hb:tm X K L body b) (hK:autoParam (X.K=K) bv) (hg2:Gl X "reversed" := by rfl) (hs1:autoParam (aT [e] X.env=(false,b3 e X.env) :: aT [] X.env) bv) (iN:autoParam (aT [e] X.env=[(false,b3 e X.env)]) bv) (hs:∀ x,DU (.Call (.Name "reversed" pp) [e] [] eP) X.env x=pure x:=by intro _;rfl) (hp:PassesOwn (bq X.prog X.w) X.A X.env X.xe:=by first|exact PassesOwn.never|exact PassesOwn.leaving) (hc:autoParam (X.calm=true) bv) :
  QS X K L (.For tg (.Call (.Name "reversed" pp) [e] [] eP) body [] pos) (Ad tx g b):=by
 subst hK;refine PS.imp (bc' hp hc (JF hg2 hm (i3 he ly hs1) iN) hg hb hs) λD σ H hx=>cG hx λHs ρ tot E sr h k1 k2 k3 k4 kx=>?_;rw[Gd];refine⟨Hs,ρ,tot,_,_,sr,h,λv H1 Hs0 m d As g0 r1 f1 q1=>?_,kx⟩;obtain⟨nb,q1⟩:=q1;obtain⟨aI,g1,r2⟩:=r1.pF g0 f1 nb
 cases r2 with
 |@list _ vs dl z s rs =>
  have S:uD X.K aI _ dl.reverse:=.seq rs.rev (dW.imp (Hg X.K _ _) λH' s'=>aS.seq s' s);have q1:dX g b E dl.reverse ρ:=q1;generalize dl.reverse=ds at q1 S;refine⟨_,_,rfl,aS.seq g1.wf.sub s,λi m σ H=>m=ds.length-i/\i<=ds.length/\∃ aw bt cf,aS aI aw/\dE X.K aw bt σ H cf/\dX g b E (ds.drop i) bt,⟨ds.length,by simp,gd _,aI,ρ,tot,aS.refl _,sr.grow g1,by simpa using q1⟩,?_⟩;rintro i m lh H2 ⟨rfl,hi,aC,fo,eL,s2,fP,q2⟩;by_cases i5:i<ds.length
  ·refine .inr ⟨S.go i aC H2 s2 fP.wf i5,λqB H3=>∃ aw bt cf,aS aI aw/\dE X.K aw bt qB H3 cf/\dX g b E (ds.drop (i+1)) bt,λqB H3 h3=>⟨ds.length-(i+1),by lia,rfl,i5,h3⟩,λx H3 y=>?_⟩;obtain⟨gv,g3,rd⟩:=S.mG i aC H2 x H3 ds[i] s2 fP.wf (by simp[i5]) y;rw[A6 i5] at q2;have s3:=s2.trans g3.sh;refine⟨gv,fo,eL,ds[i],_,fP.grow g3,rd,q2,λσ4 md L9 E2 _ q4=>?_⟩;refine⟨gv,md,L9,_,E2,q4,?_,?_,?_,?_,λn H5 s5=>kx n H5 ((g1.sh.trans s3).trans s5)⟩
   ·exact λBI H5 k8 tF tI s5 tJ q5=>⟨k8,tF,tI,s3.trans s5,tJ,q5⟩
   ·exact λBI H5 k8 tF tI s5 tJ q5=>k1 BI H5 k8 tF tI ((g1.sh.trans s3).trans s5) tJ q5
   ·exact λBI H5 k8 tF tI s5 tJ q5=>⟨k8,tF,tI,s3.trans s5,tJ,q5⟩
   ·exact λv H5 k8 m d As s5=>k4 v H5 k8 m d As ((g1.sh.trans s3).trans s5)
  ·have e:i=ds.length:=by lia
   subst e;refine .inl ⟨S.stop aC H2 s2 fP.wf,?_⟩;rw[NH] at q2;exact k1 lh H2 aC fo eL (g1.sh.trans s2) fP q2
 |_=>exact q1.elim
end
end L2.Q
end
namespace L2.Q.R
open L2.Q PySem
section
variable {ρ:L2.Q.Env}{E:dH}{p:WP}{tx:AW}{g:WG}{b:WS}
def NB:Ak p tx E ρ=p ρ λfl d up=>b9 d (f:=λd=>tN d λxs=>tx ρ (λn=>E.rt (.ow false) (.str n)) λm x=>xs.length<bE/\b9 (ig fl m x) (f:=λo=>Sw o λeA=>E.nx (up eA (.list (xs++[x])))) ⟨⟩) ⟨⟩:=by unfold Ak b9 tN Sw;rfl
def Kq{tc:WT}{i:Nat}{te:WE}:xx tc i te E ρ=tc ρ λb=>b9 b (f:=λb=>if b=true then jt i E ρ else te ρ E.rt) ⟨⟩:=rfl
def Nq:Ad tx g b E ρ=tx ρ (λn=>E.rt (.ow false) (.str n)) λm d=>lM m/\b9 d (f:=λd=>tN d λxs=>dX g b E xs.reverse ρ) ⟨⟩:=by unfold Ad b9 tN;rfl
end
end L2.Q.R
section
open PySem PySem.Spec PyProof.Rows
namespace L2.Q
open PySem.W
def lsP(xs:List Int):PF where
 is:=λ_ H a As=>As=[a]/\H a=some (.lst (xs.map V.int))/\xs.length<=bE
 fS:=λ_ k ⟨e,h,z⟩=>by subst e;exact⟨rfl,(k _ fA).trans h,z⟩
 own:=λ⟨e,h,_⟩ b hb=>by rw[e,iP] at hb;subst hb;exact⟨_,h,λ_ z=>nomatch z⟩
abbrev mP(a:ae)(xs:List Int):Option Sl:=some (.ob a (lsP xs))
section
variable {K:ay}{Hs H aC H2:Hp}{ρ:Env}{σ:St}{tot:List ae}{i:Nat}{a:ae}{xs ys:List Int}
def dE.ls(sr:dE K Hs ρ σ H tot)(e:ρ[i]? = some (mP a xs)):σ[i]? = some (some (.ref a))/\H a=some (.lst (xs.map V.int))/\xs.length<=bE/\a∈tot:=by obtain⟨_,e1,⟨rfl,e2,z⟩,sb,_⟩:=SR.Z_ i sr.sr e sr.nX;exact⟨e1,e2,z,sb.subset fA⟩
def dE.Es(sr:dE K Hs ρ σ H tot)(e:ρ[i]? = some (mP a xs))(s:aS Hs aC)(w:Wf aC H2)(e2:H2 a=some (.lst (ys.map V.int)))(z:ys.length<=bE)(kp:∀ b∈tot,b≠a->H2 b=H b)(own:∀ b∈tot,aC b=none):dE K aC (ρ.set i (mP a ys)) σ H2 tot:=by obtain⟨_,_,⟨rfl,_,_⟩,_,g⟩:=SR.Z_ i sr.sr e sr.nX;exact⟨g aC H2 _ s ⟨rfl,e2,z⟩ λb hb n=>kp b hb λq=>n (q ▸ fA),w,sr.nX,own⟩
end
def yq(i:Nat):WE:=λρ Q=>∃ a xs,ρ[i]? = some (mP a xs)/\Q .bo (.list (xs.map .int))
def Ep(i:Nat):WS:=λE ρ=>∀ a,E.nx (ρ.set i (mP a []))
abbrev AX:=Env->(Str->Prop)->(D->Env->Prop)->Prop
abbrev HV:=Env->(Str->Prop)->(List D->Env->Prop)->Prop
def lC'(K:ay)(L:Str->Hp->Prop)(t:AX):TE:=λσ H Qv=>∃ Hs ρ tot Y Q,dE K Hs ρ σ H tot/\t ρ Y Q /\ (∀ v H' aw d bt cf,aS Hs aw->dE K aw bt σ H' cf->d.flat=true->Rep K aw d v->Q d bt->Qv v H')/\∀ n H',aS Hs H'->Y n->L n H'
def LC(K:ay)(L:Str->Hp->Prop)(t:HV):TA:=λσ H Qv=>∃ Hs ρ tot Y Q,dE K Hs ρ σ H tot/\t ρ Y Q /\ (∀ vs H' aw ds bt cf,aS Hs aw->dE K aw bt σ H' cf->dn ds=true->bS K aw ds vs->Q ds bt->Qv vs H')/\∀ n H',aS Hs H'->Y n->L n H'
abbrev HZ(X:Cx)(K:ay)(L:Str->Hp->Prop)(e:Expr)(t:AX):Prop:=PE X e (lC' K L t)
abbrev Vn(X:Cx)(K:ay)(L:Str->Hp->Prop)(es:List Expr)(t:HV):Prop:=PA X es (LC K L t)
def MV(te:WE):AX:=λρ _ Q=>te ρ λ_ d=>d.flat=true/\Q d ρ
def Ah:HV:=λρ _ Q=>Q [] ρ
def lL(te:AX)(t:HV):HV:=λρ Y Q=>te ρ Y λd i7=>t i7 Y λds fo=>Q (d :: ds) fo
def BV(t:HV):AX:=λρ Y Q=>t ρ Y λds bt=>ds.length<=bE/\Q (.tup ds) bt
def Iu(i:Nat):AX:=λρ _ Q=>∃ a xs x,ρ[i]? = some (mP a (xs++[x]))/\Q (.int x) (ρ.set i (mP a xs))
def rQ(i:Nat)(t:AX):WS:=λE ρ=>t ρ (λn=>E.rt (.ow false) (.str n)) λd bt=>∃ a xs,bt[i]? = some (mP a xs)/\E.rt (.wl a (xs.map .int)) d
def zR(j:Nat)(t:AX):WS:=λE ρ=>t ρ (λn=>E.rt (.ow false) (.str n)) λd bt=>E.nx (bt.set j (some (.sh d)))
abbrev Ic:=List Int->List D->(List Int->D->Prop)->(Str->Prop)->Prop
abbrev Iq:=Env->(List D->Prop)->Prop
def rK:Iq:=λ_ Q=>Q []
def Dh(te:WE)(t:Iq):Iq:=λρ Q=>te ρ λ_ d=>d.flat=true/\t ρ λds=>Q (d :: ds)
def lD'(K:ay)(i:Nat)(t:Iq):TA:=λσ H Qv=>∃ Hs ρ tot Q a xs,dE K Hs ρ σ H tot/\ρ[i]? = some (mP a xs)/\t ρ Q/\∀ vs H' aw ds,fe Hs H aw H'->dn ds=true->bS K aw ds vs->Q ds->Qv (vs++[.ref a]) H'
abbrev Vo(X:Cx)(K:ay)(i:Nat)(es:List Expr)(t:Iq):Prop:=PA X es (lD' K i t)
def lq(i:Nat)(sp:Ic)(t:Iq):AX:=λρ Y Q=>∃ a xs,ρ[i]? = some (mP a xs)/\t ρ λds=>sp xs ds (λys d=>Q d (ρ.set i (mP a ys))) Y
def Hx(SP:DH)(iy ix:Nat)(t:AX):WS:=λE ρ=>(∃ l ys,ρ[iy]? = some (mP l ys))/\(∃ a rs,ρ[ix]? = some (some (.ob a (SP true rs))))/\t ρ (λn=>E.rt (.ow false) (.str n)) λd bt=>∃ a rs l xs r,bt[ix]? = some (some (.ob a (SP true rs)))/\bt[iy]? = some (mP l xs)/\rs.length<bE/\xs.length<bE /\
 d=oT r/\eK 12 (oT r)=true/\∀ ky k,(r∈rs/\ky=rs\/r∉rs/\ky=rs++[r])->ky[k]? = some r->E.nx ((bt.set ix (some (.ob a (SP true ky)))).set iy (mP l (xs++[((k:Nat):Int)])))
def Kp(a:ae)(H H':Hp):Prop:=∀ c o,c≠a->H c=some o->H' c=some o
def zj(K:ay)(rn:List Str)(mg:Str->Option ah)(sp:Ic):Sp:=λvs H Qv E=>∃ a xs ds us Q Y,vs=us++[.ref a]/\H a=some (.lst (xs.map V.int))/\xs.length<=bE/\dn ds=true/\bS K H ds us/\sp xs ds Q Y /\ (∀ v H' ys d,Kp a H H'->H' a=some (.lst (ys.map V.int))->ys.length<=bE->d.flat=true->Rep K H' d v->Q ys d->Qv v H')/\∀ n H',Kp a H H'->Y n->LX rn mg E n H'
def DI(a:ae)(Q:List Int->D->Prop)(Y:Str->Prop):Md->D->Prop
 |.wl b l,d=>d.flat=true/\∃ xs,b=a/\l=xs.map V.int/\xs.length<=bE/\Q xs d
 |.ow false,.str n=>Y n
 |_,_=>False
def jk(n:Nat)(a:ae)(xs:List Int)(ds:List D):Env:=ds.map (λd=>some (.sh d))++(mP a xs :: List.replicate (n-(ds.length+1)) none)
def SR.pre{K:ay}{Hs H:Hp}{ds:List D}{vs:List V}{ρ:Env}{σ:St}{tot:List ae}(s:SR K Hs H ρ σ tot)(r:bS K Hs ds vs):SR K Hs H (ds.map (λd=>some (.sh d))++ρ) (vs.map some++σ) tot :=
 bS.ind (m:=λds vs=>SR K Hs H (ds.map (λd=>some (.sh d))++ρ) (vs.map some++σ) tot) s (λ_ _ _ _ h _ ih=>.sh h ih) r
def Iy(a:ae)(H:Hp):Hp:=λc=>if c=a then none else H c
def CQ{a:ae}{H H':Hp}(s:aS (Iy a H) H'):Kp a H H':=λc o n e=>s c o (by unfold Iy;rw[if_neg n];exact e)
section
variable {P:cq}{w:cS}{K:ay}{mg:Str->Option ah}{base:dk}{N:List Str}{E:XK}{rn:List Str}{sp:Ic}{t:WS}{vs:List V}{H:Hp}{Qv:VK}
def vM(h:zj K rn mg sp vs H Qv E)(hp:∀ a xs ds Q Y,xs.length<=bE->sp xs ds Q Y->t { nx:=λ_=>False,rt:=DI a Q Y } (jk N.length a xs ds)) :
  y8 K (LX rn mg E) t { nx:=λ_ H'=>Qv .non H',rt:=Qv } (start N vs) H:=by
 obtain⟨a,xs,ds,us,Q,Y,rfl,e,z,f,rs,hs,fin,fx⟩:=h;have hl:=rs.length;have tp:∀ c ws,H c=some (.tup ws)->Iy a H c=some (.tup ws):=λc ws q=>by unfold Iy;rw[if_neg λn=>by rw[n,e] at q;cases q];exact q
 refine⟨Iy a H,jk N.length a xs ds,[a],{ nx:=λ_=>False,rt:=DI a Q Y },⟨?_,⟨λc o q=>?_,tp⟩,by simp,λc h=>?_⟩,hp a xs ds Q Y z hs,?_,?_,?_,?_,λn H' s y=>fx n H' (CQ s) y⟩
 ·unfold jk start;rw[nh,iq,hl,pE];exact SR.pre (.ob (As:=[a]) (tot:=[]) ⟨rfl,e,z⟩ (by have n:=SR.du' (K:=K) (Hs:=Iy a H) (H:=H) (List.replicate (N.length-(us.length+1)) none);rwa[Tj] at n)) (rs.dN tp f)
 ·unfold Iy at q;split at q
  ·cases q
  ·exact q
 ·rw[iP.mp h];unfold Iy;rw[if_pos rfl]
 ·exact λb4 H' aw bt cf s sr q=>q.elim
 ·exact λb4 H' aw bt cf s sr q=>q.elim
 ·exact λb4 H' aw bt cf s sr q=>q.elim
 ·intro v H' aw m d As s wf r nd own q;have q:DI a Q Y m d:=q;unfold DI at q;split at q
  ·obtain⟨fl,ys,rfl,rfl,z,q⟩:=q;exact fin v H' ys d (CQ (s.trans wf.sub)) r.2.2 z fl r.2.1 q
  ·obtain⟨r,ne⟩:=r;cases r;exact absurd rfl ne
  ·exact q.elim
structure dJ'(P:cq)(w:cS)(K:ay)(mg:Str->Option ah)(base:dk)(rn:List Str)(k:Nat)(x:Str)(ps:List Str)(sp:Ic):Prop where
 ex:∃ (g:ae) (fd:og),mg x=some (.ref g)/\ui K (.ref g)=true/\Binds K fd ps []/\kR P w K mg base (oS P w mg rn) k g fd ps (zj K rn mg sp)
def lE'.mk{x:Str}{st:h8}{f:ae}{fd:og}(m:mg x=some (.ref f))(F:oj K x x st f fd)(N:List Str)(n k:Nat)(len:∀ xs ds Q Y,sp xs ds Q Y->ds.length+1=n)(hp:∀ a xs ds Q Y,xs.length<=bE->sp xs ds Q Y->t { nx:=λ_=>False,rt:=DI a Q Y } (jk N.length a xs ds)) (hb:∀ {dc:ah} {A:ft} {outer:List PySem.Env} {s:aE} {H:Hp} {E:XK},{_:gi k (A.deeper (kN x (dS st) s.heap.objs.size f dc))}->{_:(A.deeper (kN x (dS st) s.heap.objs.size f dc)).units+64<iE}->{_:N.Nodup} -> {_:(mI (oS P w mg rn) P w K mg base N x (dS st) f dc A outer s H E).env.scope=dS st/\(mI (oS P w mg rn) P w K mg base N x (dS st) f dc A outer s H E).N=N}->tm (mI (oS P w mg rn) P w K mg base N x (dS st) f dc A outer s H E) K (LX rn mg E) (lT st) t) (S:xI N (N.take n) (dS st):=by exact⟨rfl,rfl,rfl,by decide +kernel,rfl,by decide +kernel,by decide +kernel⟩) (hl:autoParam ((N.take n).length=n) bv) (bi:∀ (kV doc pm:ah) (an:Option ae) (dc ct:ah) (us:List ah),us.length=(N.take n).length->bindArgs (qh x x (tf st) (lT st) (dS st) .none kV doc pm an dc ct) ⟨us,[]⟩=pure ((N.take n).zip us):=by
   intro _ _ _ _ _ _ us h;iterate 13 all_goals rcases us with _|⟨_,us⟩<;>first|rfl|(simp at h;done)|skip):dJ' P w K mg base rn (k+1) x (N.take n) sp:=by
 refine⟨f,fd,m,F.kp,F.binds bi,?_⟩;obtain⟨oc,od,kV,doc,pm,an,dc,ct,AQ,rfl,lk,qA⟩:=F.ex;exact WH lk qA S (λvs H Q E ⟨a,xs,ds,us,Q',Y,e,_,_,_,rs,hs,_⟩=>by rw[e,iq,<- rs.length,hl];exact len xs ds Q' Y hs) λA outer s H vs Q E hr AR=>⟨_,@hb _ _ _ _ _ _ hr hr.units S.nd ⟨rfl,rfl⟩,vM AR hp⟩
end
def IA(Hs H':Hp):Hp:=λc=>match H' c with
 |some (.tup vs)=>some (.tup vs)
 |_=>Hs c
def Dk{Hs H H':Hp}{a:ae}(w:Wf Hs H)(n:Hs a=none)(kp:Kp a H H'):aS Hs (IA Hs H')/\Wf (IA Hs H') H'/\∀ c,(∀ vs,H' c≠some (.tup vs))->IA Hs H' c=Hs c:=by
 have kk:∀ c o,Hs c=some o->H' c=some o:=λc o q=>kp c o (λz=>by rw[z,n] at q;cases q) (w.sub c o q);have nt:∀ c,(∀ vs,H' c≠some (.tup vs))->IA Hs H' c=Hs c:=λc h=>by
  unfold IA;split
  ·rename_i vs e;exact absurd e (h vs)
  ·rfl
 refine⟨λc o q=>?_,⟨λc o q=>?_,λc vs q=>by unfold IA;rw[q]⟩,nt⟩
 ·unfold IA;split
  ·rename_i vs e;rw[kk c o q] at e;exact e ▸ rfl
  ·exact q
 ·unfold IA at q;split at q
  ·rename_i vs e;rw[e];exact q
  ·exact kk c o q
section
variable {X:Cx}{K:ay}{rn:List Str}{E:XK}{e:Expr}{es:List Expr}{te:WE}{ty:AX}{ta:HV}{tl:Iq}{pos apos eP p:Pos}{L:Str->Hp->Prop}{i:Nat}
def xM(h0:PE X e (jI i)):QE X K e (yq i):=PE.imp h0 λσ H Qv hx=>hV hx λHs ρ tot Q sr h f=>by obtain⟨a,xs,e,q⟩:=h;obtain⟨e1,e2,z,_⟩:=sr.ls e;exact⟨_,e1,Fin.bo f sr.wf (.list (by rw[dz];exact z) (.inl (.inl e2)) (ints_rep xs)) q⟩
def GF(i:Nat){y:Str}{pos':Pos}(hK:autoParam (X.K=K) bv)(hs:autoParam (lP (.List [] p) (some (.Name y pos')) pos.line X.env=pure false) bv)(hf:X.fn y=true\/X.env.scope.names.lookup y=some .local:=by first|exact .inl rfl|exact .inr rfl|assumption)(hN:X.N.Nodup:=by assumption)(hi:autoParam (X.N[i]? = some y) bv)(hy:Loc X.env.scope y:=by first|exact .inl rfl|exact .inr rfl) :
  QS X K L (.Assign [.Name y pos'] (.List [] p) pos) (Ep i):=by
 refine PS.imp (Kj hN hi hy (Wx ly) hs hf) λD σ H hx=>bR hx λHs ρ tot E sr h k1 k2 k3 k4=>⟨gd _,λa ha=>?_⟩
 have g:=PK (o:=.lst []) sr.wf ha λ_ z=>nomatch z;obtain⟨cf,t1,t2,t3⟩:=SR.dG' (p:=lsP []) (As:=[a]) ⟨rfl,eJ,gd _⟩ (by simp) i (sr.grow g).sr sr.nX λb hb m=>by rw[iP.mp hb] at m;exact(sr.sr.own a m).ne ha
 exact k1 _ _ Hs _ cf (aS.refl _) ⟨t3,g.wf,t1,λb hb=>(t2 b hb).elim (sr.own b) λm=>by rw[iP.mp m];exact sr.wf.sub.free ha⟩ (h a)
def xm(h:QE X K e te):HZ X K L e (MV te):=PE.imp h λσ H Qv hx=>by obtain⟨Hs,ρ,tot,Y,Q,sr,h,f,fx⟩:=hx;exact⟨Hs,ρ,tot,_,sr,h,λv H1 aI m d As g1 r1 f1 q1=>f v H1 aI d ρ tot g1.sh (sr.grow g1) q1.1 (r1.flat g1.wf q1.1) q1.2⟩
def Ck:Vn X K L [] Ah:=PA.imp ly λσ H Qv hx=>by obtain⟨Hs,ρ,tot,Y,Q,sr,h,f,fx⟩:=hx;exact f [] H Hs [] ρ tot (aS.refl _) sr rfl .nil h
def kj(ha:HZ X K L e ty)(hr:Vn X K L es ta)(hs:autoParam (aT (e :: es) X.env=(false,b3 e X.env) :: aT es X.env) bv):Vn X K L (e :: es) (lL ty ta):=PA.imp (i3 ha hr hs) λσ H Qv hx=>by obtain⟨Hs,ρ,tot,Y,Q,sr,h,f,fx⟩:=hx;exact⟨Hs,ρ,tot,Y,_,sr,h,λv H1 aI d i7 ad' s1 kK f1 r1 q1=>⟨aI,i7,ad',Y,_,kK,q1,λvs H2 aC ds fo eL s2 fP f2 r2 q2=>f (v :: vs) H2 aC (d :: ds) fo eL (s1.trans s2) fP (by simp[dn,f1,f2]) (.cons (r1.same s2) r2) q2,λn H' s y=>fx n H' (s1.trans s) y⟩,fx⟩
def CK{x1}(h:Vn X K L es ta):HZ X K L (.Tuple es x1 pos) (BV ta):=PE.imp (RL h) λσ H Qv hx=>by obtain⟨Hs,ρ,tot,Y,Q,sr,h,f,fx⟩:=hx;refine⟨Hs,ρ,tot,Y,_,sr,h,λvs H1 aI ds i7 ad' s1 kK f1 r1 q1=>?_,fx⟩;have hl:=r1.length;refine⟨by lia,λp hp=>?_⟩;have g:=LZ (vs:=vs) kK.wf hp;exact f _ _ _ (.tup ds) i7 ad' (s1.trans g.sh) (kK.grow g) f1 (.tup (by lia) eJ (r1.same g.sh)) q1.2
def Jp (h0:PE X e (jI i)) (hK:autoParam (X.K=K) bv) (oI:autoParam (vS e "pop" X.env (b3 e X.env)=b3 e X.env) bv) (hline:autoParam ((apos.endLine == eP.line)=true) bv):HZ X K L (.Call (.Attribute e "pop" apos) [] [] eP) (Iu i):=by subst hK;refine PE.imp (bK' PySem.F.plainAttrs_list PySem.F.slot_list_pop PySem.F.type_list_pop bM' h0 oI hline) λσ H Qv hx=>?_;obtain⟨Hs,ρ,tot,Y,Q,sr,⟨a,xs,x,ea,q⟩,f,fx⟩:=hx;obtain⟨e1,e2,z,m⟩:=sr.ls ea;have hn:=sr.own a m;refine⟨_,e1,.inl ⟨rfl,_,.inl (.inl e2)⟩,a,_,.int x,rfl,rfl,e2,by simp,?_⟩;rw[nh,List.map_singleton,List.dropLast_concat];exact f _ _ Hs (.int x) _ tot (aS.refl _) (sr.Es ea (aS.refl _) (qI sr.wf hn λ_ z=>nomatch z) eJ (by rw[iq] at z;exact Nat.le_of_add_right_le z) (λb _ nb=>df nb) sr.own) rfl (.int x) q
def jY(i:Nat)(he:HZ X K L e ty):QS X K L (.Return (some e) pos) (rQ i ty) :=
 PS.imp (Ki he) λD σ H hx=>cG hx λHs ρ tot E' sr h k1 k2 k3 k4 kx=>⟨Hs,ρ,tot,_,_,sr,h,λv H1 aI d bt cf s1 kK fl r1 q=>by
  obtain⟨a,xs,e,q⟩:=q;exact k4 v H1 aI (.wl a _) d [] s1 kK.wf ⟨rfl,r1.same kK.wf.sub,(kK.ls e).2.1⟩ kT (λa h=>nomatch h) q,kx⟩
def xf(j:Nat){y:Str}{pos':Pos}(he:HZ X K L e ty)(hs:autoParam (lP e (some (.Name y pos')) pos.line X.env=pure false) bv)(hf:X.fn y=true\/X.env.scope.names.lookup y=some .local:=by first|exact .inl rfl|exact .inr rfl|assumption)(hN:X.N.Nodup:=by assumption)(hi:autoParam (X.N[j]? = some y) bv)(hy:Loc X.env.scope y:=by first|exact .inl rfl|exact .inr rfl) :
  QS X K L (.Assign [.Name y pos'] e pos) (zR j ty) :=
 PS.imp (Kj hN hi hy he hs hf) λD σ H hx=>cG hx λHs ρ tot E' sr h k1 k2 k3 k4 kx=>⟨Hs,ρ,tot,_,_,sr,h,λv H1 aI d bt cf s1 kK fl r1 q=>by
  obtain⟨t,s⟩:=kK.set j (m:=.sh) (As:=[]) ⟨rfl,r1⟩ kT (λa h=>nomatch h) rfl;exact k1 _ H1 aI _ t s1 s q,kx⟩
def kh(h0:PE X e (jI i))(hs:autoParam (aT (e :: []) X.env=(false,b3 e X.env) :: aT [] X.env) bv):Vo X K i [e] rK:=PA.imp (i3 h0 ly hs) λσ H Qv hx=>by obtain⟨Hs,ρ,tot,Q,a,xs,sr,ea,q,f⟩:=hx;exact⟨_,(sr.ls ea).1,f [] H Hs [] (fe.refl sr.wf) rfl .nil q⟩
def Cd(ha:QE X K e te)(hr:Vo X K i es tl)(hs:autoParam (aT (e :: es) X.env=(false,b3 e X.env) :: aT es X.env) bv):Vo X K i (e :: es) (Dh te tl):=PA.imp (i3 ha hr hs) λσ H Qv hx=>by obtain⟨Hs,ρ,tot,Q,a,xs,sr,ea,h,f⟩:=hx;exact⟨Hs,ρ,tot,_,sr,h,λv H1 aI m d As g1 r1 f1 q1=>⟨aI,ρ,tot,_,a,xs,sr.grow g1,ea,q1.2,λvs H2 aC ds g2 f2 r2 q2=>f (v :: vs) H2 aC (d :: ds) (g1.trans g2) (by simp[dn,q1.1,f2]) (.cons ((r1.flat g1.wf q1.1).same g2.sh) r2) q2⟩⟩
def lN {k:Nat} {x:Str} {ps:List Str} {sp:Ic} (C:dJ' X.prog X.w X.K X.mg X.base rn k x ps sp) (hr:gi k X.A) (hx:Passes (oS X.prog X.w X.mg rn) X E) (ha:Vo X K i (e :: es) tl) (hK:autoParam (X.K=K) bv) (hg:autoParam (Gl X x) bv) (ip:(x == ("__debug__" : Str))=false:=by decide) (he:autoParam (aT (e :: es) X.env=(false,b3 e X.env) :: aT es X.env) bv) (hU:autoParam ((gV pos (aT es X.env)).any (·.1)=false) bv):HZ X K (LX rn X.mg E) (.Call (.Name x p) (e :: es) [] pos) (lq i sp tl):=by
 subst hK;obtain⟨g,fd,hm,hk,hb,F⟩:=C.ex;refine PE.imp (WC F hr hg hm hk hb .nil hx ha ip he hU) λσ H Qv h=>?_;obtain⟨Hs,ρ,tot,Y,Q,sr,⟨a,xs,ea,h⟩,f,fx⟩:=h;refine⟨Hs,ρ,tot,_,a,xs,sr,ea,h,λvs H1 aI ds g1 fd r1 q1=>?_⟩;have kK:=sr.grow g1;obtain⟨_,e2,z,m⟩:=kK.ls ea;have hn:=kK.own a m;refine⟨a,xs,ds,vs,_,Y,by rw[kM],e2,z,fd,r1.same g1.wf.sub,q1,λv H' ys d kp e3 z3 fl r3 q3=>?_,λn H' kp y=>fx n H' (λc o q=>kp c o (λz=>by rw[z,sr.own a m] at q;cases q) (g1.all _ _ (sr.wf.sub c o q))) y⟩;obtain⟨s2,w2,nt⟩:=Dk g1.wf hn kp;have kb:∀ b∈tot,b≠a->H' b=H1 b:=λb hb nb=>by obtain⟨o,q,_⟩:=kK.sr.own b hb;rw[q];exact kp b o nb q
 refine f v H' _ d _ tot (g1.sh.trans s2) (kK.Es ea s2 w2 e3 z3 kb λb hb=>?_) fl (r3.dN w2.iF fl) q3;rw[nt b λvs z=>?_]
 ·exact kK.own b hb
 ·by_cases nb:b=a
  ·rw[nb,e3] at z;cases z
  ·rw[kb b hb nb] at z;exact(kK.sr.own b hb).tZ z
def Fl {C:ae} {iy ix k:Nat} {ey ex:Expr} {IB B1:Pos} {dK':ae} {fdp:og} {pl:Sem Bool} (hy:PE X ey (jI iy)) (hx:PE X ex (jI ix)) (c:uS X.K C) (hm:Meth X.K C "put" dK') (F:kR X.prog X.w X.K X.mg X.base kP k dK' fdp ["self", "row"] (uL X.K X.prog X.w)) (hr:gi k X.A) (hb:Binds X.K fdp ["self", "row"] [])(he:HZ X K L e ty) (lI:ix≠iy) (hK:autoParam (X.K=K) bv) (hs:autoParam (lP (.Call (.Attribute ey "append" apos) [.Call (.Attribute ex "put" IB) [e] [] B1] [] p) none pos.line X.env=pure false) bv) (oI:autoParam (vS ey "append" X.env (b3 ey X.env)=b3 ey X.env) bv) (wq:autoParam (((gV p (aT [.Call (.Attribute ex "put" IB) [e] [] B1] X.env)).all (λx=>!x.1) && (A4 p (A3 [] X.env)).all (λx=>x.1.isSome)
   && decide ([Expr.Call (.Attribute ex "put" IB) [e] [] B1].length+([]:List uk).length+(if ([]:List uk).isEmpty then 0 else 1)<30))=true) bv)
  (hline:autoParam ((apos.endLine == p.line)=true) bv) (qc:autoParam (aT [.Call (.Attribute ex "put" IB) [e] [] B1] X.env=(false,b3 (.Call (.Attribute ex "put" IB) [e] [] B1) X.env) :: aT [] X.env) bv) (w8:autoParam ((gV p (aT [] X.env)).any (·.1)=false) bv)
  (pT:autoParam (aT [e] X.env=(false,b3 e X.env) :: aT [] X.env) bv) (hU:autoParam ((gV B1 (aT [] X.env)).any (·.1)=false) bv)
  (ht:autoParam (b3 (.Call (.Attribute ex "put" IB) [e] [] B1) X.env=(do
   let ov ← eval ex X.env
   standAt IB.atName
   let (f,first) ← holding [ov] (getMethod ov "put" pl)
   callWith B1 f first (gV B1 (aT [e] X.env)) (A4 B1 (A3 [] X.env)))) bv) :
  QS X K L (.Expr (.Call (.Attribute ey "append" apos) [.Call (.Attribute ex "put" IB) [e] [] B1] [] p) pos) (Hx (rq K X.prog X.w C) iy ix ty):=by
 subst hK;refine PS.imp (N0 (Lc PySem.F.plainAttrs_list PySem.F.slot_list_append PySem.F.type_list_append RV hy (i3 (bt' (E:=E0) hx c hm F hr hb .nil UA (i3 he ly pT) pT hU ht) ly qc) oI wq hline qc w8) hs) λD σ H hx=>cG hx λHs ρ tot E sr h k1 k2 k3 k4 kx=>?_;obtain⟨⟨l,ys,ey⟩,⟨a,rz,ex⟩,h⟩:=h;obtain⟨ev,el,_,_⟩:=sr.ls ey;obtain⟨u,eu,rfl,Bs,isu,_⟩:=sr.sr.get ex;have P6:=vW sr.wf isu;obtain⟨_,dx0,rp0,pp0,s1,i1,_⟩:=id P6;rw[lO (by simp)] at i1;refine⟨_,ev,.inl ⟨rfl,_,.inl (.inl el)⟩,_,eu,a,dx0,_,rfl,i1,?_,Hs,ρ,tot,_,_,sr,h,λw1 H2 aC d fo eL s2 fP fl r2 q2=>?_,kx⟩
 ·have z1:(("put" : Str) == "rows")=false:=by decide +kernel
  have z2:(("put" : Str) == "places")=false:=by decide +kernel
  simp[List.lookup,z1,z2]
 obtain⟨a',rs,l',xs,rw1,eM,ey2,hrs,hxs,rfl,okr,q2⟩:=q2;obtain⟨b,rfl,rb,smb⟩:=Fj r2 okr;obtain⟨Cs,e3,is3,sb3,g3⟩:=SR.Z_ ix fP.sr eM fP.nX;have e3':=eu.symm.trans e3;cases e3';have ev2:=ev.symm.trans (fP.ls ey2).1;cases ev2;obtain⟨sm,dx,rp,pp,S,iS,eC⟩:=id is3;have eC:Cs=[a,dx,rp,pp]:=eC;have S2:dB X.K X.prog X.w H2 a dx rp pp rs:=S.near (iZ (nP fP.wf));refine⟨a,dx,rp,pp,b,rs,rw1,rfl,S2,rb.mono (λc ys z=>fP.wf.sub _ _ z),hrs,λH3 ky kk S3 dO' hk kp=>?_⟩;have nC:∀ c,c∉Cs->H3 c=H2 c:=λc hc=>kp c (λz=>hc (by rw[eC,z];simp)) (λz=>hc (by rw[eC,z];simp));have wf3:Wf aC H3:=⟨λc o z=>(nC c λm=>by rw[fP.own c (sb3.subset m)] at z;cases z).trans (fP.wf.sub c o z),λc ys z=>by
  by_cases hc:c∈Cs
  ·obtain⟨o,z2,_,n⟩:=S3.at c (eC ▸ hc);rw[z] at z2;cases z2;exact absurd rfl (n ys)
  ·rw[nC c hc] at z;exact fP.wf.iF c ys z⟩
 have iS3:H3 a=some (.ins C dx [("rows",.ref rp),("places",.ref pp)]):=by
  have e2:H2 a=some (.ins C dx [("rows",.ref rp),("places",.ref pp)]):=nP fP.wf _ _ iS;rw[kp a (λz=>?_) (λz=>?_)]
  ·exact e2
  ·obtain⟨bs,b1,_⟩:=S2.rows;rw[<- z,e2] at b1;cases b1
  ·obtain⟨xs,_,a2,_⟩:=S2.places;rw[<- z,e2] at a2;cases a2
 have is4:(rq X.K X.prog X.w C true ky).is aC H3 a Cs:=by
  refine⟨λr hr=>?_,dx,rp,pp,S3.moves (λc ys z=>?_) (λc hc=>ie (by rw[eC];exact hc)),by rw[ie (by rw[eC];simp)];exact iS3,eC⟩
  ·rcases dO' with⟨_,rfl⟩|⟨_,rfl⟩
   ·exact sm r hr
   ·rcases eR.mp hr with z|z
    ·exact sm r z
    ·rw[iP.mp z];exact smb
  ·by_cases hc:c∈Cs
   ·rw[ie hc];exact z
   ·rw[lO hc];exact wf3.iF c ys z
 have HC:dE X.K aC (fo.set ix (some (.ob a (rq X.K X.prog X.w C true ky)))) σ H3 eL:=⟨g3 aC H3 _ (aS.refl _) is4 (λc _ nc=>nC c nc),wf3,fP.nX,fP.own⟩
 have ey3:(fo.set ix (some (.ob a (rq X.K X.prog X.w C true ky))))[iy]? = some (mP l xs):=by rw[Tn lI];exact ey2
 obtain⟨_,el3,_,m3⟩:=HC.ls ey3;refine⟨l,_,.int kk,rfl,rfl,el3,by rw[dz];exact hxs,?_⟩;exact k1 σ _ aC _ eL s2 (HC.Es (ys:=xs++[(kk:Int)]) ey3 (aS.refl _) (qI wf3 (HC.own l m3) λ_ z=>nomatch z) (by rw[eJ,nh];rfl) (by rw[iq];exact hxs) (λb _ nb=>df nb) HC.own) (q2 ky kk dO' hk)
end
end L2.Q
end
namespace L2.Q.R
open L2.Q PySem
section
variable {Q:Md->L2.Q.D->Prop}{Qy:L2.Q.D->L2.Q.Env->Prop}{Qa:List L2.Q.D->L2.Q.Env->Prop}{Ql:List L2.Q.D->Prop}{Y:Str->Prop}{ρ:L2.Q.Env}{E:dH}{te:WE}{ty:AX}{ta:HV}{tl:Iq}{i j:Nat}{sp:Ic}
def Pj:yq i ρ Q=b9 ρ[i]? (f:=λo=>∃ a xs,o=some (mP a xs)/\Q .bo (.list (xs.map .int))) ⟨⟩:=rfl
def N6:Ep i E ρ = ∀ a,E.nx (ρ.set i (mP a [])):=rfl
def Qx:MV te ρ Y Qy=te ρ λ_ d=>b9 d (f:=λd=>d.flat=true/\Qy d ρ) ⟨⟩:=rfl
def Ni:Ah ρ Y Qa=Qa [] ρ:=rfl
def Lr:lL ty ta ρ Y Qa=ty ρ Y λd i7=>ta i7 Y λds fo=>Qa (d :: ds) fo:=rfl
def N_:BV ta ρ Y Qy=ta ρ Y λds bt=>ds.length<=bE/\Qy (.tup ds) bt:=rfl
def Ov:rQ i ty E ρ=ty ρ (λn=>E.rt (.ow false) (.str n)) λd bt=>∃ a xs,bt[i]? = some (mP a xs)/\E.rt (.wl a (xs.map .int)) d:=rfl
def O5:zR j ty E ρ=ty ρ (λn=>E.rt (.ow false) (.str n)) λd bt=>E.nx (bt.set j (some (.sh d))):=rfl
def O8:rK ρ Ql=Ql []:=rfl
def K3:lq i sp tl ρ Y Qy = ∃ a xs,ρ[i]? = some (mP a xs)/\tl ρ λds=>sp xs ds (λys d=>Qy d (ρ.set i (mP a ys))) Y:=rfl
end
end L2.Q.R
section
open PySem PySem.Spec PyProof.Rows
namespace L2
end L2
namespace L2.Q
end L2.Q
end
namespace L2.Q.R
open L2.Q PySem
end L2.Q.R
section
open PySem PySem.Spec PyProof.Rows
namespace L2.Q
def Vp(k1 v1 k2 v2:Str):WE:=λ_ Q=>Q (.ow true) (.dK [(.inr k1,.str v1),(.inr k2,.str v2)])
def tR{X:Cx}{K:ay}{k1 v1 k2 v2:Str}{j1 j2 j3 j4:Nat}{p1 p2 p3 p4 pos:Pos}(hk:k1≠k2)(hz:k1.length<=bE/\v1.length<=bE/\k2.length<=bE/\v2.length<=bE) :
  QE X K (.Dict [some (.Constant (.str k1) j1 p1),some (.Constant (.str k2) j2 p2)] [.Constant (.str v1) j3 p3,.Constant (.str v2) j4 p4] pos) (Vp k1 v1 k2 v2):=by
 refine PE.imp (bW' (W3 RA RA (W3 RA RA bT')) rfl rfl (by simp) (by simp)) λσ H Qv hx=>hV hx λHs ρ tot Q sr h fin=>λa ha=>?_;have e2:(upd H a (.dK [])) a=some (.dK []):=eJ;refine⟨e2,[(.inr k1,.str v1),(.inr k2,.str v2)],rfl,by simpa using hk,?_⟩;have em:LG [] [((.inr k1:Key),V.str v1),(.inr k2,.str v2)]=[(.inr k1,.str v1),(.inr k2,.str v2)]:=by simp[LG,putK,sA,hk]
 rw[em];have nH:Hs a=none:=sr.wf.sub.free ha;have g3:fe Hs H Hs (upd (upd H a (.dK [])) a (.dK [(.inr k1,.str v1),(.inr k2,.str v2)])):=⟨λb o hb=>by rw[df (sP hb ha),df (sP hb ha)];exact hb,aS.refl _,⟨λb o hb=>by rw[df (sP hb nH),df (sP hb nH)];exact sr.wf.sub b o hb,λb vs hb=>by
  by_cases z:b=a
  ·subst z;rw[eJ] at hb;cases hb
  ·rw[df z,df z] at hb;exact sr.wf.iF b vs hb⟩,λb hb=>.inl hb⟩
 exact fin (.ref a) _ Hs (.ow true) (.dK [(.inr k1,.str v1),(.inr k2,.str v2)]) [a] g3 ⟨.dK (vs:=[.str v1,.str v2]) (As:=[]) ⟨by rw[nS];simp,λp hp=>by
  simp only[eW,FI,or_false] at hp;rcases hp with rfl|rfl
  ·exact decide_eq_true hz.1
  ·exact decide_eq_true hz.2.2.1⟩ eJ (.cons (As:=[]) (.sh (λ_=>rfl) (.str hz.2.1)) (.cons (As:=[]) (.sh (λ_=>rfl) (.str hz.2.2.2)) .nil)),by simp⟩ ⟨by simp,λb hb=>by
  obtain rfl:b=a:=by simpa using hb
  exact⟨nH,ha⟩⟩ h
end L2.Q
end
namespace L2.Q.R
open L2.Q PySem
def lS'{k1 v1 k2 v2:Str}{ρ:L2.Q.Env}{Q:Md->L2.Q.D->Prop}:Vp k1 v1 k2 v2 ρ Q=Q (.ow true) (.dK [(.inr k1,.str v1),(.inr k2,.str v2)]):=rfl
end L2.Q.R
section
open PySem PySem.Spec PyProof.Rows
namespace L2
def lT'(K:ay)(te:TE)(tl th ts:TO):TE:=λσ H Q=>te σ H λx H1=>tl σ H1 λl H2=>th σ H2 λu H3=>ts σ H3 λk H4 =>
 ∃ a xs,x=.ref a/\l=none/\u=none/\k=some (-1)/\e7 K H4 a xs/\∀ p,H4 p=none->Q (.ref p) (upd H4 p (.lst xs.reverse))
section
variable {X:Cx}{e st:Expr}{te:TE}{lo hi:Option Expr}{tl th ts:TO}{pos p2:Pos}
def IV(he:PE X e te)(hl:PO X lo tl)(hu:PO X hi th)(ht:PO X (some st) ts):PE X (.Subscript e (.Slice lo hi (some st) p2) pos) (lT' X.K te tl th ts):=by intro pins s σ H Q I h;refine Subscript_ (cv (he pins s σ H _ I h) λv s1 ck=>L2.eM ck λx H1 I1 r1 q1=>?_);refine wpAny_Slice (cv (hl pins s1 σ H1 _ I1 q1) λvl s2 ck=>L2.eM ck λl H2 I2 pl q2=>cv (hu pins s2 σ H2 _ I2 q2) λvu s3 ck=>L2.eM ck λu H3 I3 pu q3=>cv (ht pins s3 σ H3 _ I3 q3) λvs s4 ck=>L2.eM ck λk H4 I4 ps q4=>?_);obtain⟨a,xs,rfl,rfl,rfl,rfl,hq,q⟩:=q4;cases r1;have I5:Inv X pins σ H4 { s4 with heap:=s4.heap.push { cls:=.type "slice",data:=.fields #[vl,vu,vs] } }:=I4.kept (t':=s4.toks) λb ob q=>ki _ q;obtain⟨its,r,pl',hz⟩:=I5.list hq;have hlen:its.length=xs.length:=r.length.symm;show b6 (bq X.prog X.w) X.A (subscriptTail e (.Slice lo hi (some st) p2) (.ref a) (.ref s4.heap.objs.size)) (EP X pins σ Q) X.xe { s4 with heap:=s4.heap.push { cls:=.type "slice",data:=.fields #[vl,vu,vs] } };refine tail_any (ops:=[.ref a,.ref s4.heap.objs.size]) pl'.isList.typeIs PySem.slot_list_getitem.lookup ?_ (by with_unfolding_all rfl);refine wpAny_getItem_list_slice pl'.isList (Heap.IsSliceOf.new ..) pl pu ps (by decide) ?_ (by rw[kB,hlen];exact hz);rw[PySem.W.krv_pick];have I6:=I5.RQ (its:=its.reverse) (t':=s4.toks) r.rev (by rw[A8];exact hz);refine⟨.ref _,_,?_,rfl,q _ (I5.bG.fresh (c9 _))⟩;simpa using I6
end
end L2
namespace L2.Q
theorem ur{K:ay}{H:Hp}:∀ {ds es:List D} {xs ys:List V},bS K H ds xs->bS K H es ys->bS K H (ds.reverse++es) (xs.reverse++ys)
 |[],_,[],_,_,r=>r
 |d :: ds,es,x :: xs,ys,.cons a b,r=>by rw[FH,FH,pE,pE];exact ur b (.cons a r)
section
variable {X:Cx}{K:ay}{e st:Expr}{te:WE}{lo hi:Option Expr}{tl th ts:WO}{pos p2:Pos}
def af'(te:WE)(tl th ts:WO):WE:=λρ Q=>te ρ λ_ x=>tl ρ λl=>th ρ λu=>ts ρ λk=>R.MQ x λxs=>l=none/\u=none/\k=some (-1)/\dn xs=true/\Q (.ow true) (.list xs.reverse)
def Kw(he:QE X K e te)(hl:QO X K lo tl)(hh:QO X K hi th)(ht:QO X K (some st) ts)(hK:autoParam (X.K=K) bv):QE X K (.Subscript e (.Slice lo hi (some st) p2) pos) (af' te tl th ts):=by
 subst hK;refine PE.imp (IV he hl hh ht) λσ H Qv hx=>hV hx λHs ρ tot Q sr h f=>?_;refine⟨Hs,ρ,tot,_,sr,h,λv H1 aI m x As g1 r1 f1 q1=>⟨aI,ρ,tot,_,sr.grow g1,q1,λl H2 aC g2 q2=>⟨aC,ρ,tot,_,(sr.grow g1).grow g2,q2,λu H3 gv g3 q3=>⟨gv,ρ,tot,_,((sr.grow g1).grow g2).grow g3,q3,λk H4 zh g4 q4=>?_⟩⟩⟩⟩;have r4:=((r1.grow g2).grow g3).grow g4;have fin:Fin X.K zh H4 Q Qv:=Fin.after f (((g1.trans g2).trans g3).trans g4);have rr:=r4.rep g4.wf
 cases rr with
 |list z s q =>obtain⟨hl,hu,hk,fl,q4⟩:=q4;refine⟨_,_,rfl,hl,hu,hk,s,λp hp=>?_⟩;have re:=ur q .nil;rw[kM,kM] at re;exact fin.lst g4.wf (by have:=q.length;rw[A8];lia) re (gW.mpr λx hx=>gW.mp fl x (List.mem_reverse.mp hx)) q4 p hp
 |_=>exact q4.elim
end
end L2.Q
end
namespace L2.Q.R
open L2.Q PySem
def Qe{te:WE}{tl th ts:WO}{ρ:L2.Q.Env}{Q:Md->L2.Q.D->Prop}:af' te tl th ts ρ Q=te ρ λ_ x=>tl ρ λl=>th ρ λu=>ts ρ λk=>b9 x (f:=λx=>MQ x λxs=>l=none/\u=none/\k=some (-1)/\dn xs=true/\Q (.ow true) (.list xs.reverse)) ⟨⟩:=rfl
end L2.Q.R
section
open PySem PySem.Spec PyProof.Rows
namespace L2.Q
def ZI.mk{P:cq}{w:cS}{K:ay}{mg:Str->Option ah}{base:dk}{x:Str}{st:h8}{f:ae}{fd:og}{sp:fk}{t:WS}(m:mg x=some (.ref f))(F:oj K x x st f fd)(N:List Str)(n k:Nat)(len:∀ ds Q,sp ds Q->ds.length=n)(hp:∀ ds Q,sp ds Q->t { nx:=λ_=>Q .sh .non,rt:=Q } (aM N.length ds)) (hb:∀ {dc:ah} {A:ft} {outer:List PySem.Env} {s:aE} {H:Hp} {E:XK},{_:gi k (A.deeper (kN x (dS st) s.heap.objs.size f dc))}->{_:(A.deeper (kN x (dS st) s.heap.objs.size f dc)).units+64<iE}->{_:N.Nodup} -> {_:(mI kP P w K mg base N x (dS st) f dc A outer s H E).xE.env.scope=dS st/\(mI kP P w K mg base N x (dS st) f dc A outer s H E).xE.N=N}->tm (mI kP P w K mg base N x (dS st) f dc A outer s H E).xE K L0 (lT st) t) (S:xI N (N.take n) (dS st):=by exact⟨rfl,rfl,rfl,by decide +kernel,rfl,by decide +kernel,by decide +kernel⟩) (hl:autoParam ((N.take n).length=n) bv) (bi:∀ (kV doc pm:ah) (an:Option ae) (dc ct:ah) (us:List ah),us.length=(N.take n).length->bindArgs (qh x x (tf st) (lT st) (dS st) .none kV doc pm an dc ct) ⟨us,[]⟩=pure ((N.take n).zip us):=by
   intro _ _ _ _ _ _ us h;iterate 13 all_goals rcases us with _|⟨_,us⟩<;>first|rfl|(simp at h;done)|skip):UK P w K mg base (k+1) x (N.take n) (fW K sp)/\kR P w K mg base kP (k+1) f fd (N.take n) (fW K sp) :=
 have G:=ZI.ok F S (λds Q h=>(len ds Q h).trans hl.symm) (λ_ _ _ _ _ _ hr=>@hb _ _ _ _ _ _ hr hr.units S.nd ⟨rfl,rfl⟩) hp
 ⟨F.cal m G bi,G⟩
def ZU.mk{P:cq}{w:cS}{K:ay}{mg:Str->Option ah}{base:dk}{rn:List Str}{x:Str}{st:h8}{f:ae}{fd:og}{sp:fk}{t:WS}(m:mg x=some (.ref f))(F:oj K x x st f fd)(N:List Str)(n k:Nat)(len:∀ ds Q,sp ds Q->ds.length=n)(hp:∀ ds Q,sp ds Q->t { nx:=λ_=>Q .sh .non,rt:=Q } (aM N.length ds)) (hb:∀ {dc:ah} {A:ft} {outer:List PySem.Env} {s:aE} {H:Hp} {E:XK},{_:gi k (A.deeper (kN x (dS st) s.heap.objs.size f dc))}->{_:(A.deeper (kN x (dS st) s.heap.objs.size f dc)).units+64<iE}->{_:N.Nodup} -> {_:(mI (oS P w mg rn) P w K mg base N x (dS st) f dc A outer s H E).env.scope=dS st/\(mI (oS P w mg rn) P w K mg base N x (dS st) f dc A outer s H E).N=N}->tm (mI (oS P w mg rn) P w K mg base N x (dS st) f dc A outer s H E) K (LX rn mg E) (lT st) t) (S:xI N (N.take n) (dS st):=by exact⟨rfl,rfl,rfl,by decide +kernel,rfl,by decide +kernel,by decide +kernel⟩) (hl:autoParam ((N.take n).length=n) bv) (bi:∀ (kV doc pm:ah) (an:Option ae) (dc ct:ah) (us:List ah),us.length=(N.take n).length->bindArgs (qh x x (tf st) (lT st) (dS st) .none kV doc pm an dc ct) ⟨us,[]⟩=pure ((N.take n).zip us):=by
   intro _ _ _ _ _ _ us h;iterate 13 all_goals rcases us with _|⟨_,us⟩<;>first|rfl|(simp at h;done)|skip):MG P w K mg base rn (k+1) x (N.take n) sp :=
 oj.kN' F m (ZU.ok F S (λds Q h=>(len ds Q h).trans hl.symm) (λ_ _ _ _ _ _ hr=>@hb _ _ _ _ _ _ hr hr.units S.nd ⟨rfl,rfl⟩) hp) bi
def aa'.mk{P:cq}{w:cS}{K:ay}{mg:Str->Option ah}{base:dk}{C:ae}{x qual:Str}{st:h8}{f:ae}{fd:og}{vw:List (List RI)->fk}{t:WS}(F:oj K x qual st f fd)(N:List Str)(n k:Nat)(len:∀ rs ds Q,vw rs ds Q->ds.length+1=n)(hp:∀ a rs ds Q,vw rs ds Q->t { nx:=λ_=>Q .sh .non,rt:=Q } (iu N.length a (rq K P w C false rs) ds)) (hb:∀ {dc:ah} {A:ft} {outer:List PySem.Env} {s:aE} {H:Hp} {E:XK},{_:gi k (A.deeper (kN qual (dS st) s.heap.objs.size f dc))}->{_:(A.deeper (kN qual (dS st) s.heap.objs.size f dc)).units+64<iE}->{_:N.Nodup} -> {_:(mI kP P w K mg base N qual (dS st) f dc A outer s H E).xE.env.scope=dS st/\(mI kP P w K mg base N qual (dS st) f dc A outer s H E).xE.N=N}->tm (mI kP P w K mg base N qual (dS st) f dc A outer s H E).xE K L0 (lT st) t) (S:xI N (N.take n) (dS st):=by exact⟨rfl,rfl,rfl,by decide +kernel,rfl,by decide +kernel,by decide +kernel⟩) (hl:autoParam ((N.take n).length=n) bv):kR P w K mg base kP (k+1) f fd (N.take n) (nW K P w C vw) :=
 aa'.ok F S (λrs ds Q h=>(len rs ds Q h).trans hl.symm) (λ_ _ _ _ _ _ hr=>@hb _ _ _ _ _ _ hr hr.units S.nd ⟨rfl,rfl⟩) hp
end L2.Q
end
local macro_rules | `(tactic| walk_at "q") => do
 let nm (s:String):Lean.Ident:=Lean.mkIdent ((s.splitOn ".").foldl Lean.Name.mkStr .anonymous)
 let ds ← ("lS' Qe Kq NB Nq Pj N6 Qx Ni Lr N_ Ov O5 O8 K3 ln' Lb Oz Ln Pa O7 QX Ny NQ Lp Oc QR Qn MT Ke NT Ng Om Od Ow Qj O4 OD Pr Nt Ot QQ PL P0 Qq O2 Pn Qc Q4 Pk Pq JQ Mz Kf K8 Qz Pg wB_ QL kx' Qs PX M6 KN wC_ kz' kA' LK O6 Qk Ls O_ Oa Oe PJ Qg Pz Np Kv Mu Mf Ly K4 Lq Ku O1 Nu Ob NZ Nx Px Qw Qp Nz QF Q3 QJ K6 Pb O3 N7 Mj O9 Py N5 QK PN Qh Qo Qm QD QV Pu Nj Nk NK Ou Oj Q5 Lz La kB' Kc Nm Og QB QH Qi Oi Ld Mm kC' Kg QC Lj P_ Oq PB Ks NP Ph Ox K9 KD Kh Kl gN_ gT_ OJ Qt Nv kG' QZ Mx MK Nh L_ MP Lf PQ Qf Oo Q0 N8 Nb K_ Mp Ol kU' Nr".splitOn " ").toArray.mapM fun s=>`(Lean.Parser.Tactic.simpLemma| ↓$(nm ("L2.Q.R." ++ s)):ident)
 let us ← ("L2.Q.R.KC L2.Q.R.K5 L2.Q.R.Kr L2.Q.Va L2.Q.SD L2.Q.uX L2.Q.Du L2.Q.zl L2.Q.L6 L2.Q.Sq L2.Q.vv L2.Q.iW L2.Q.Sv L2.Q.Ss L2.Q.ZH L2.Q.ig L2.Q.vz L2.Q.asg L2.Q.ya L2.Q.aM L2.Q.D.flat L2.Q.dn L2.Q.D.PZ L2.Q.D.ty L2.Q.ke' L2.Q.D.key1 L2.Q.gF L2.Q.Oh L2.Q.wV List.length_map List.map_cons List.map_nil List.length_cons List.length_nil List.replicate_succ List.replicate_zero List.cons_append List.nil_append List.append_nil List.getElem?_cons_zero List.getElem?_cons_succ List.getElem?_nil List.set_cons_zero List.set_cons_succ List.all_cons List.all_nil Option.some.injEq Option.join_some Option.map_some Option.map_none Nat.reduceAdd Nat.reduceSub true_and and_true Bool.and_true Bool.true_and Bool.and_false Bool.false_and Bool.not_true Bool.not_false Bool.false_eq_true if_true if_false decide_true decide_false reduceIte cond_true cond_false PySem.sizeLine_eq L2.Q.kt' L2.Q.ku' L2.Q.kv' L2.Q.aV L2.Q.Ij L2.Q.empty_app Nat.zero_add exists_eq_left' Int.reduceLT Int.reduceLE Int.reducePow Int.reduceNeg Int.reduceToNat Int.reduceAdd Int.reduceMul Int.reduceSub Nat.reduceLeDiff Nat.reduceLT false_or or_false and_self L2.Qu".splitOn " ").toArray.mapM fun s=>`(Lean.Parser.Tactic.simpLemma| $(nm s):ident)
 let as:Lean.TSyntaxArray [`Lean.Parser.Tactic.simpStar,`Lean.Parser.Tactic.simpErase,`Lean.Parser.Tactic.simpLemma]:=(ds++us).map fun x=>⟨x.raw⟩
 `(tactic| simp -dsimp only [$as,*])
section
open PySem PySem.Spec PyProof.Rows
namespace L2.Q.Vq
def isLet(c:Nat):Bool:=decide (97<=c/\c<=122)
abbrev abc:Str := "abcdefghijklmnopqrstuvwxyz"
def o7:sg abc=(List.range 26).map (97 + ·):=by decide +kernel
def Ib{i:Int}(h0:0<=i)(h1:i<26):∃ c,e8 (sg abc) i=some c/\isLet c=true:=by
 refine⟨97+i.toNat,?_,?_⟩
 ·have:e8 (sg abc) ((i.toNat:Nat):Int)=some (97+i.toNat):=wo (by
   rw[o7];have:i.toNat<26:=by lia
   simp[this])
  rwa[kF h0] at this
 ·simp[isLet];lia
def Dn(x:Int):∃ c,e8 (sg abc) (x % 26)=some c/\isLet c=true:=Ib (oC _ (by decide)) (oB _ (by decide))
def lets(x:Str):Prop:=∀ c∈sg x,isLet c=true
def Open(x:Str):Prop:=1<=x.length/\x.length<=6/\lets x
def yv (x:Str):Prop:=x = "*"\/Open x
def uF{x y:Str}(hx:lets x)(hy:lets y):lets (x++y):=λc hc=>by rw[ji] at hc;exact(eR.mp hc).elim (hx c) (hy c)
def BX{c:Nat}(h:isLet c=true):lets ⟨#[c]⟩:=λd hd=>by
 have:d=c:=by simpa[sg] using hd
 rw[this];exact h
def ph{x:Str}(h:lets x)(lo hi:Option Int):lets (nV x lo hi):=λc hc=>by unfold nV sg at hc;rw[List.toList_toArray] at hc;exact h c (Tq (Q_ hc))
def fG(c:Nat):(⟨#[c]⟩:Str).length=1:=rfl
def yv.len{x:Str}(h:yv x):x.length<=6:=by
 rcases h with rfl|h
 ·decide
 ·exact h.2.1
def yv.ok{x:Str}(h:yv x):PyData.strOk x=true:=by
 rw[G9];rcases h with rfl|h
 ·have:sg "*" = [42]:=by decide +kernel
  intro c hc;rw[this] at hc;have:c=42:=by simpa using hc
  lia
 ·intro c hc;have:=h.2.2 c hc;simp[isLet] at this;lia
theorem bw:∀ (l:List Str),dn (l.map D.str)=true
 |[]=>rfl
 |x :: l=>by simp[dn,bw l,D.flat]
theorem bf:∀ (l:List Int),dn (l.map D.int)=true
 |[]=>rfl
 |x :: l=>by simp[dn,bf l,D.flat]
def Ay(l:List Str)(x:Str):l.map D.str++[D.str x]=(l++[x]).map D.str:=by simp
def ints_app(l:List Int)(x:Int):l.map D.int++[D.int x]=(l++[x]).map D.int:=by simp
def jb{n i:Nat}{lo:Int}{x:D}(h:(iV lo n)[i]? = some x):i<n/\x=.int (lo+(i:Nat)):=by
 unfold iV at h;rw[mz] at h;by_cases hi:i<n
 ·rw[VQ hi] at h;exact⟨hi,(Option.some.inj h).symm⟩
 ·rw[IU (by simpa using hi)] at h;cases h
def gM(lo:Int)(n:Nat):(iV lo n).length=n:=by simp[iV]
def BP{lo:Int}{n:Nat}{x:D}(h:x∈iV lo n):∃ i:Nat,i<n/\x=.int (lo+i):=by obtain⟨i,hi⟩:=A7.mp h;exact⟨i,jb hi⟩
inductive Rw where
 |st (w d:Str) (j:Int)
 |nt (j:Int)
 |jn (w:Str) (ps:List Int)
def de:Rw->D
 |.st w d j=>.tup [.str w,.str d,.int j]
 |.nt j=>.tup [.str "not",.int j]
 |.jn w ps=>.tup [.str w,.tup (ps.map .int)]
def kQ(k:Int):Rw->Prop
 |.st w d j=>(w = "some"\/w = "all")/\yv d/\0<=j/\j<k
 |.nt j=>0<=j/\j<k
 |.jn w ps=>(w = "and"\/w = "or")/\ps.length<=200/\∀ p∈ps,0<=p/\p<k
def eB(l:List Rw):Prop:=∀ (i:Nat) (r:Rw),l[i]? = some r->kQ i r
def ja:Rw->List Int
 |.st _ _ j=>[j]
 |.nt j=>[j]
 |.jn _ ps=>ps
theorem oV:∀ r:Rw,(de r).flat=true
 |.st _ _ _=>rfl
 |.nt _=>rfl
 |.jn _ ps=>by simp[de,D.flat,dn,bf]
theorem bV:∀ l:List Rw,dn (l.map de)=true
 |[]=>rfl
 |r :: l=>by simp[dn,oV r,bV l]
def zc(l:List Rw)(r:Rw):l.map de++[de r]=(l++[r]).map de:=by simp
theorem kQ.mono{k k':Int}(hk:k<=k'):∀ {r:Rw},kQ k r->kQ k' r
 |.st _ _ _,⟨a,b,c,d⟩=>⟨a,b,c,by lia⟩
 |.nt _,⟨c,d⟩=>⟨c,by lia⟩
 |.jn _ _,⟨a,b,c⟩=>⟨a,b,λp hp=>⟨(c p hp).1,by have:=(c p hp).2;lia⟩⟩
def eB.app{l:List Rw}{r:Rw}(h:eB l)(hr:kQ l.length r):eB (l++[r]):=λi x hx=>by
 by_cases hi:i<l.length
 ·rw[IQ hi] at hx;exact h i x hx
 ·rw[D1 (by lia)] at hx;by_cases h0:i=l.length
  ·subst h0;rw[Nat.sub_self] at hx;cases hx;exact hr
  ·rw[IU (by simp;lia)] at hx;cases hx
def eB.nil:eB []:=λi r h=>by simp at h
def xk:∀ {w:Str},(w = "and"\/w = "or")->w ≠ "some"/\w ≠ "all"/\w ≠ "not" := by rintro w (rfl|rfl)<;>decide +kernel
def DJ:("not" : Str) ≠ "some"/\("not" : Str) ≠ "all" := by decide +kernel
def gj{α:Type}(l:List α):l.filter (λ_=>true)=l:=List.filter_eq_self.mpr λ_ _=>rfl
def cO (x:Str):Bool:=(decide (1<=x.length/\x.length<=6) && (sg x).all isLet) || decide (x = "*")
def cV{x:Str}:cO x=true↔yv x:=by
 unfold cO yv Open lets;simp only[Bool.or_eq_true,nv,decide_eq_true_eq,Au];constructor
 ·rintro(⟨⟨h1,h2⟩,h3⟩|h)
  ·exact .inr ⟨h1,h2,h3⟩
  ·exact .inl h
 ·rintro(h|⟨h1,h2,h3⟩)
  ·exact .inr h
  ·exact .inl ⟨⟨h1,h2⟩,h3⟩
def ag':D->Bool
 |.str x=>decide (1<=x.length/\x.length<=6) && (sg x).all isLet
 |_=>false
def MX:D->Bool
 |.str x=>cO x
 |_=>false
def yA(k:Int):D->Bool
 |.int j=>decide (0<=j/\j<k)
 |_=>false
def prt(k:Int):D->Bool
 |.tup xs=>decide (xs.length<=200) && xs.all (yA k)
 |_=>false
def tS(k:Int)(w:Str)(r:List D):Bool :=
 if w = "some"\/w = "all" then (match r with
  |[d,j]=>MX d && yA k j
  |_=>false)
 else if w = "not" then (match r with
  |[j]=>yA k j
  |_=>false)
 else if w = "and"\/w = "or" then (match r with
  |[p]=>prt k p
  |_=>false)
 else false
def MY(k:Int):D->Bool
 |.tup (.str w :: r)=>tS k w r
 |_=>false
def DL:D->Bool
 |.list xs=>decide (1<=xs.length/\xs.length<=2000) && xs.zipIdx.all λp=>MY (p.2:Int) p.1
 |_=>false
def wI {k:Int} {w:Str} {r:List D} (h:w = "some"\/w = "all"):tS k w r=(match r with
  |[d,j]=>MX d && yA k j
  |_=>false):=if_pos h
def Eg {k:Int} {r:List D}:tS k "not" r=(match r with
  |[j]=>yA k j
  |_=>false):=(if_neg (by decide +kernel)).trans (if_pos rfl)
def wJ {k:Int} {w:Str} {r:List D} (h:w = "and"\/w = "or"):tS k w r=(match r with
  |[p]=>prt k p
  |_=>false):=(if_neg (by rcases h with rfl|rfl<;>decide +kernel)).trans ((if_neg (by rcases h with rfl|rfl<;>decide +kernel)).trans (if_pos h))
theorem rw_true{k:Int}:∀ {r:Rw},kQ k r->MY k (de r)=true
 |.st w d j,⟨hw,hd,h0,h1⟩=>by show tS k w [.str d,.int j]=true;rw[wI hw];show(cO d && decide (0<=j/\j<k))=true;rw[cV.mpr hd,decide_eq_true ⟨h0,h1⟩];rfl
 |.nt j,⟨h0,h1⟩=>by show tS k "not" [.int j]=true;rw[Eg];exact decide_eq_true ⟨h0,h1⟩
 |.jn w ps,⟨hw,hl,hp⟩=>by show tS k w [.tup (ps.map .int)]=true;rw[wJ hw];show(decide ((ps.map D.int).length<=200) && (ps.map D.int).all (yA k))=true;rw[dz,decide_eq_true hl,FL,I0];exact Au.mpr λp h=>decide_eq_true (hp p h)
def GJ{l:List Rw}(h:eB l)(h1:1<=l.length)(h2:l.length<=2000):DL (.list (l.map de))=true:=by show(decide (1<=(l.map de).length/\(l.map de).length<=2000) && _)=true;rw[dz,decide_eq_true ⟨h1,h2⟩,I0];refine Au.mpr λp hp=>?_;obtain⟨x,i⟩:=p;have:=FE.mp hp;rw[mz] at this;obtain⟨r,hr,rfl⟩:=kr.mp this;exact rw_true (h i r hr)
theorem rw_ok{k:Int}:∀ {r:Rw} (n:Nat),kQ k r->eK (n+2) (de r)=true
 |.st w d j,n,h=>by
  have h1:=h.2.1.ok;have h2:PyData.strOk w=true:=by rcases h.1 with rfl|rfl<;>decide +kernel
  simp[de,eK,h1,h2]
 |.nt j,n,h=>by
  have h2:PyData.strOk "not" = true:=by decide +kernel
  simp[de,eK,h2]
 |.jn w ps,n,h=>by
  have h2:PyData.strOk w=true:=by rcases h.1 with rfl|rfl<;>decide +kernel
  simp[de,eK,h2]
def HN{l:List Rw}(h:eB l)(n:Nat):eK (n+3) (.list (l.map de))=true:=by simp only[eK,FL,Au];intro r hr;obtain⟨i,hi⟩:=A7.mp hr;exact rw_ok n (h i r hi)
theorem vV:∀ l:List Int,oQ (l.map D.int)=true
 |[]=>rfl
 |x :: l=>by simp[oQ,vV l,D.nb]
theorem tQ:∀ l:List Rw,oQ (l.map de)=true
 |[]=>rfl
 |.st _ _ _ :: l=>by simp[oQ,tQ l,de,D.nb]
 |.nt _ :: l=>by simp[oQ,tQ l,de,D.nb]
 |.jn _ ps :: l=>by simp[oQ,tQ l,de,D.nb,vV]
def IC(f:Int->Int):Rw->Rw
 |.st w d j=>.st w d (f j)
 |.nt j=>.nt (f j)
 |.jn w ps=>.jn w (ps.map f)
def fv:Rw->List RI
 |.st w d j=>[.inl (.inr w),.inl (.inr d),.inl (.inl j)]
 |.nt j=>[.inl (.inr "not"),.inl (.inl j)]
 |.jn w ps=>[.inl (.inr w),.inr (ps.map Sum.inl)]
theorem A_:∀ r:Rw,oT (fv r)=de r
 |.st _ _ _=>rfl
 |.nt _=>rfl
 |.jn _ ps=>by simp[oT,fv,de,DF,n5,Function.comp_def]
theorem wQ:∀ {x y:Rw},fv x=fv y->x=y
 |.st _ _ _,.st _ _ _,h=>by simp[fv] at h;obtain⟨rfl,rfl,rfl⟩:=h;rfl
 |.nt _,.nt _,h=>by simp[fv] at h;rw[h]
 |.jn _ ps,.jn _ qs,h=>by simp[fv] at h;obtain⟨rfl,h⟩:=h;have:ps=qs:=map_inj (f:=(Sum.inl:Int->Key)) (λ_ _ z=>Sum.inl.inj z) h;rw[this]
 |.st _ _ _,.nt _,h=>by simp[fv] at h
 |.st _ _ _,.jn _ _,h=>by simp[fv] at h
 |.nt _,.st _ _ _,h=>by simp[fv] at h
 |.nt _,.jn _ _,h=>by simp[fv] at h
 |.jn _ _,.st _ _ _,h=>by simp[fv] at h
 |.jn _ _,.nt _,h=>by simp[fv] at h
theorem bW{k:Int}:∀ {r:Rw},kQ k r->∀ j∈ja r,0<=j/\j<k
 |.st _ _ _,h,j,hj=>by rw[iP.mp hj];exact h.2.2
 |.nt _,h,j,hj=>by rw[iP.mp hj];exact h
 |.jn _ _,h,j,hj=>h.2.2 j hj
theorem yQ(f:Int->Int):∀ r:Rw,ja (IC f r)=(ja r).map f
 |.st _ _ _=>rfl
 |.nt _=>rfl
 |.jn _ _=>rfl
theorem Im{k k':Int}{f:Int->Int}:∀ {r:Rw},kQ k r->(∀ j∈ja r,0<=f j/\f j<k')->kQ k' (IC f r)
 |.st _ _ _,h,g=>⟨h.1,h.2.1,g _ (iP.mpr rfl)⟩
 |.nt _,h,g=>g _ (iP.mpr rfl)
 |.jn _ _,h,g=>⟨h.1,by simpa[IC] using h.2.1,λp hp=>by
  obtain⟨j,hj,rfl⟩:=iX.mp hp;exact g j hj⟩
def JG(num:D)(f:Int->Int)(j:Int):Prop:=(∃ ns:List Int,num=.list (ns.map .int)/\0<=j/\ns[j.toNat]? = some (f j))\/∃ ag:List (Key × D),num=.dK ag/\mM ag (Sum.inl j:Key)=some (.int (f j))
def zI(W:List Int)(j:Int):List Int:=if j∈W then W else W++[j]
def mq(l:List Rw)(W:List Int)(k:Int):List Int:=if k∈W then (match l[k.toNat]? with
 |some r=>(ja r).foldl zI W
 |none=>W) else W
def eU(last:Nat):List Int:=(List.range (last+1)).map λi:Nat=>(last:Int)-(i:Int)
def vI(l:List Rw)(last:Nat):List Int:=(eU last).foldl (mq l) [(last:Int)]
def bj(l:List Rw)(last:Nat):List Int:=((List.range (last+1)).map λi:Nat=>(i:Int)).filter λk=>decide (k∈vI l last)
def Hb{W:List Int}{j x:Int}:x∈zI W j↔x∈W\/x=j:=by
 unfold zI;split
 ·rename_i h;exact⟨.inl,λz=>z.elim id λe=>e ▸ h⟩
 ·simp
theorem dI{x:Int}:∀ (js W:List Int),x∈js.foldl zI W↔x∈W\/x∈js
 |[],W=>by simp
 |j :: js,W=>by rw[NJ,dI js,Hb,eW,or_assoc]
def JH{W:List Int}{j:Int}(h:W.Nodup):(zI W j).Nodup:=by
 unfold zI;split
 ·exact h
 ·rename_i n;exact g7.mpr ⟨h,by simp,λa ha b hb e=>n (by rw[<- iP.mp hb,<- e];exact ha)⟩
theorem qW:∀ (js W:List Int),W.Nodup->(js.foldl zI W).Nodup
 |[],_,h=>h
 |j :: js,W,h=>qW js _ (JH h)
def yK{W:List Int}(nd:W.Nodup){n:Nat}(h:∀ x∈W,0<=x/\x<n):W.length<=n:=by
 have:(W.map Int.toNat).Nodup:=List.nodup_iff_pairwise_ne.mpr (Rb.mpr (List.Pairwise.imp_of_mem (λ{a b} ha hb e z=>e (by have:=h a ha;have:=h b hb;lia)) (List.nodup_iff_pairwise_ne.mp nd)));have:=this.length_le_of_subset (l₂:=List.range n) λx hx=>by obtain⟨y,hy,rfl⟩:=iX.mp hx;have:=h y hy;exact IX.mpr (by lia)
 simpa using this
structure vB(l:List Rw)(last:Nat)(m:Int)(W:List Int):Prop where
 nd:W.Nodup
 lst:(last:Int)∈W
 bd:∀ k∈W,0<=k/\k<=last
 cl:∀ k∈W,m<=k->∀ r,l[k.toNat]? = some r->∀ j∈ja r,j∈W
def vB.step{l:List Rw}{last:Nat}{k:Int}{W:List Int}(sc:eB l)(k0:0<=k)(h:vB l last (k+1) W):vB l last k (mq l W k):=by
 unfold mq;by_cases hk:k∈W
 ·rw[if_pos hk]
  cases e:l[k.toNat]? with
  |none =>
   refine⟨h.nd,h.lst,h.bd,λx hx hm r hr j hj=>?_⟩;by_cases z:x=k
   ·rw[z,e] at hr;cases hr
   ·exact h.cl x hx (by lia) r hr j hj
  |some r0 =>
   have ok:=sc _ _ e;have dl:=bW ok;refine⟨qW _ _ h.nd,(dI _ _).mpr (.inl h.lst),λx hx=>?_,λx hx hm r hr j hj=>?_⟩
   ·rcases (dI _ _).mp hx with z|z
    ·exact h.bd x z
    ·have:=dl x z;have:=h.bd k hk;lia
   ·rcases (dI _ _).mp hx with z|z
    ·by_cases q:x=k
     ·rw[q,e] at hr;cases hr;exact(dI _ _).mpr (.inr hj)
     ·exact(dI _ _).mpr (.inl (h.cl x z (by lia) r hr j hj))
    ·have:=dl x z;lia
 ·rw[if_neg hk];refine⟨h.nd,h.lst,h.bd,λx hx hm r hr j hj=>?_⟩;by_cases z:x=k
  ·exact absurd (z ▸ hx) hk
  ·exact h.cl x hx (by lia) r hr j hj
theorem lE{l:List Rw}{last:Nat}(sc:eB l):∀ i,i<=last+1->vB l last ((last:Int)+1-i) (((eU last).take i).foldl (mq l) [(last:Int)])
 |0,_=>⟨by simp,by simp,λk hk=>by rw[iP.mp hk];lia,λk hk hm=>by rw[iP.mp hk] at hm;lia⟩
 |i+1,hi=>by
  have ih:=lE (l:=l) (last:=last) sc i (by lia);have e:(eU last).take (i+1)=(eU last).take i++[(last:Int)-i]:=by rw[Ap];unfold eU;rw[mz,VQ (show i<last+1 by lia)];rfl
  rw[e,Rc,NJ,List.foldl_nil];have:=vB.step (k:=(last:Int)-i) sc (by lia) (by rw[show(last:Int)-i+1=(last:Int)+1-i by lia];exact ih);rw[show(last:Int)+1-((i+1:Nat):Int)=(last:Int)-i by lia];exact this
def gO{l:List Rw}{last:Nat}(sc:eB l):vB l last 0 (vI l last):=by have:=lE (l:=l) (last:=last) sc (last+1) (c9 _);rw[NF (by simp[eU]),show(last:Int)+1-((last+1:Nat):Int)=0 by lia] at this;exact this
def g8{l:List Rw}{last:Nat}(sc:eB l){k:Int}:k∈bj l last↔k∈vI l last:=by unfold bj;rw[List.mem_filter,decide_eq_true_iff];refine⟨λh=>h.2,λh=>⟨?_,h⟩⟩;have:=(gO (last:=last) sc).bd k h;exact iX.mpr ⟨k.toNat,IX.mpr (by lia),by lia⟩
def iH{l:List Rw}{last:Nat}:(bj l last).Pairwise (· < ·):=by unfold bj;refine List.Pairwise.filter _ (Rb.mpr ?_);exact List.pairwise_lt_range.imp λh=>by lia
def MZ(l:List Rw)(last:Nat)(k:Int):Int:=((bj l last).idxOf k:Nat)
def Vr(l:List Rw)(k:Int):Rw:=(l[k.toNat]?).getD (.nt 0)
def pf(l:List Rw)(last:Nat):List Rw:=(bj l last).map λk=>IC (MZ l last) (Vr l k)
def bY{l:List Int}(nd:l.Nodup){i:Nat}{k:Int}(h:l[i]? = some k):l.idxOf k=i:=by obtain⟨hi,e⟩:=ng.mp h;rw[<- e];exact nd.idxOf_getElem i hi
def eV(l:List Rw)(last:Nat):(bj l last).Nodup:=(iH (l:=l) (last:=last)).imp λh=>by lia
def gk{l:List Rw}{last:Nat}(sc:eB l){k:Int}(h:k∈bj l last):0<=k/\k<=last:=(gO sc).bd k ((g8 sc).mp h)
def yZ{l:List Rw}{last:Nat}(sc:eB l){k:Int}(h:k∈bj l last){r:Rw}(hr:l[k.toNat]? = some r):∀ j∈ja r,j∈bj l last:=λj hj=>(g8 sc).mpr ((gO sc).cl k ((g8 sc).mp h) (gk sc h).1 r hr j hj)
def CJ{l:List Int}(pw:l.Pairwise (· < ·)){i:Nat}{j k:Int}(hk:l[i]? = some k)(hj:j∈l)(h:j<k):l.idxOf j<i:=by
 obtain⟨m,hm⟩:=A7.mp hj;have nd:l.Nodup:=pw.imp λh=>by lia
 rw[bY nd hm];by_cases z:m<i
 ·exact z
 ·obtain⟨hi,ei⟩:=ng.mp hk;obtain⟨Vs,em⟩:=ng.mp hm;by_cases q:m=i
  ·subst q;lia
  ·have:=NC.mp pw i m hi Vs (by lia);lia
structure Sm(α:Type) where
 H:Rw->(Int->α)->α
 z:α
 cg:∀ {r:Rw} {g g':Int->α},(∀ j∈ja r,g j=g' j)->H r g=H r g'
 rn:∀ (f:Int->Int) (r:Rw) (g:Int->α),H (IC f r) g=H r fun j=>g (f j)
section
variable {α:Type}(S:Sm α)
def Sm.vals(l:List Rw):List α:=l.foldl (λv r=>v++[S.H r λj=>v.getD j.toNat S.z]) []
def Sm.at(l:List Rw)(k:Int):α:=(S.vals l).getD k.toNat S.z
def jJ(l:List Rw)(r:Rw):S.vals (l++[r])=S.vals l++[S.H r (S.at l)]:=by unfold Sm.vals;rw[Rc];rfl
def BL(l:List Rw):∀ m:List Rw,∃ w,S.vals (l++m)=S.vals l++w:=by
 intro m;unfold Sm.vals;rw[Rc];generalize l.foldl (λv r=>v++[S.H r λj=>v.getD j.toNat S.z]) []=v
 induction m generalizing v with
 |nil=>exact⟨[],by simp⟩
 |cons r m ih =>obtain⟨w,e⟩:=ih (v++[S.H r λj=>v.getD j.toNat S.z]);exact⟨_ :: w,by rw[NJ,e,pE];rfl⟩
def cz(l:List Rw):(S.vals l).length=l.length:=by
 unfold Sm.vals;suffices h:∀ (l:List Rw) (v:List α),(l.foldl (λv r=>v++[S.H r λj=>v.getD j.toNat S.z]) v).length=v.length+l.length by simpa using h l []
 intro l
 induction l with
 |nil=>intro v;rfl
 |cons r l ih=>intro v;rw[NJ,ih];simp;lia
def wz{l m:List Rw}{k:Int}(h:k.toNat<l.length):S.at (l++m) k=S.at l k:=by obtain⟨w,e⟩:=BL S l m;unfold Sm.at;rw[e,xA,xA,IQ (by rw[cz];exact h)]
def kJ{l:List Rw}(sc:eB l){k:Nat}{r:Rw}(h:l[k]? = some r):S.at l k=S.H r (S.at l):=by
 obtain⟨hk,e⟩:=ng.mp h;have el:l=(l.take k++[r])++l.drop (k+1):=by have:=A6 hk;rw[e] at this;rw[pE,List.singleton_append,<- this,Q9]
 have tl:(l.take k).length=k:=by rw[mB];lia
 have e1:S.at l k=S.at (l.take k++[r]) k:=by
  conv=>lhs;rw[el]
  exact wz S (by simp;lia)
 rw[e1];unfold Sm.at;rw[jJ,xA,D1 (by rw[cz];simp;lia)];rw[cz,tl];simp only[CB,Nat.sub_self];show S.H r (S.at (l.take k))=S.H r (S.at l);refine S.cg λj hj=>?_;have:=bW (sc k r h) j hj;conv=>rhs;rw[el,pE]
 exact(wz S (by rw[tl];lia)).symm
end
def ql{l:List Rw}{last:Nat}(sc:eB l):(last:Int)∈bj l last:=(g8 sc).mpr (gO sc).lst
def HX{l:List Rw}{last i:Nat}{k:Int}(h:(bj l last)[i]? = some k):MZ l last k=i:=by unfold MZ;rw[bY (eV l last) h]
def Dg{l:List Rw}{last:Nat}(sc:eB l)(hl:last<l.length){i:Nat}{r:Rw}(h:(pf l last)[i]? = some r):∃ k r0,(bj l last)[i]? = some k/\l[k.toNat]? = some r0/\kQ k r0/\r=IC (MZ l last) r0/\∀ j∈ja r0,∃ m:Nat,m<i/\(bj l last)[m]? = some j:=by
 unfold pf at h;rw[mz] at h
 cases e:(bj l last)[i]? with
 |none=>rw[e] at h;cases h
 |some k =>
  rw[e] at h;cases h;have hk:=rV e;obtain⟨k0,k1⟩:=gk sc hk;have SN:k.toNat<l.length:=by lia
  have hr:l[k.toNat]? = some (Vr l k):=by unfold Vr;rw[qk SN];rfl
  have ok:=sc _ _ hr;rw[kF k0] at ok;refine⟨k,_,rfl,hr,ok,rfl,λj hj=>?_⟩;have SQ:=yZ sc hk hr j hj;have lt:=CJ iH e SQ (bW ok j hj).2;obtain⟨m,hm⟩:=A7.mp SQ;rw[bY (eV l last) hm] at lt;exact⟨m,lt,hm⟩
def Df{l:List Rw}{last:Nat}(sc:eB l)(hl:last<l.length):eB (pf l last):=λi r h=>by obtain⟨k,r0,_,_,ok,rfl,hd⟩:=Dg sc hl h;refine Im ok λj hj=>?_;obtain⟨m,hm,e⟩:=hd j hj;rw[HX e];lia
def oZ(l:List Rw)(last:Nat):(pf l last).length=(bj l last).length:=by unfold pf;rw[dz]
def FQ{α:Type}(S:Sm α){l:List Rw}{last:Nat}(sc:eB l)(hl:last<l.length):∀ (i:Nat) (k:Int),(bj l last)[i]? = some k->S.at (pf l last) i=S.at l k:=by
 intro i
 induction i using Nat.strongRecOn with
 |ind i ih =>
  intro k h;have hi:i<(pf l last).length:=by rw[oZ];exact(ng.mp h).1
  obtain⟨k',r0,e1,e2,ok,er,hd⟩:=Dg sc hl (qk hi);rw[h] at e1;cases e1;have k0:=(gk sc (rV h)).1;rw[kJ S (Df sc hl) (qk hi),er,S.rn];have:S.at l k=S.H r0 (S.at l):=by have:=kJ S sc e2;rwa[kF k0] at this
  rw[this];refine S.cg λj hj=>?_;obtain⟨m,hm,e⟩:=hd j hj;rw[HX e];exact ih m hm j e
def Bp{l:List Rw}{last:Nat}(sc:eB l):(bj l last)[(bj l last).length-1]? = some (last:Int):=by
 obtain⟨m,hm⟩:=A7.mp (ql (last:=last) sc);obtain⟨h1,h2⟩:=ng.mp hm;by_cases z:m=(bj l last).length-1
 ·rw[<- z];exact hm
 ·have h3:(bj l last).length-1<(bj l last).length:=by lia
  have:=NC.mp (iH (l:=l) (last:=last)) m _ h1 h3 (by lia);have:=(gk sc (Tt h3)).2;lia
def Ag{l:List Rw}{last:Nat}(sc:eB l):1<=(bj l last).length:=List.length_pos_of_mem (ql sc)
def Aa{α:Type}(S:Sm α){l:List Rw}{last:Nat}(sc:eB l)(hl:last<l.length):S.at (pf l last) (((pf l last).length-1:Nat):Int)=S.at l last:=by have:=FQ S sc hl _ _ (Bp sc);rw[oZ];exact this
def B3(x y:Rw):Bool:=decide (fv y=fv x)
def hJ(rs:List Rw)(x:Rw):List Rw × Int:=if rs.any (B3 x)=true then (rs,(rs.findIdx (B3 x):Nat)) else (rs++[x],(rs.length:Nat))
def sU{rs:List Rw}{x:Rw}:rs.any (B3 x)=true↔fv x∈rs.map fv:=by rw[Rg,iX];exact⟨λ⟨y,hy,e⟩=>⟨y,hy,of_decide_eq_true e⟩,λ⟨y,hy,e⟩=>⟨y,hy,decide_eq_true e⟩⟩
def Jz{rs:List Rw}{x:Rw}(nd:(rs.map fv).Nodup)(sc:eB rs)(ok:kQ rs.length x):((hJ rs x).1.map fv).Nodup/\eB (hJ rs x).1/\(hJ rs x).1[(hJ rs x).2.toNat]? = some x/\0<=(hJ rs x).2/\(hJ rs x).2<(hJ rs x).1.length/\(∃ m,(hJ rs x).1=rs++m/\∀ r∈m,r=x)/\(hJ rs x).1.length<=rs.length+1:=by
 unfold hJ;by_cases h:rs.any (B3 x)=true
 ·rw[if_pos h];have hl:rs.findIdx (B3 x)<rs.length:=List.findIdx_lt_length.mpr (Rg.mp h);have e:B3 x rs[rs.findIdx (B3 x)]=true:=List.findIdx_getElem;refine⟨nd,sc,?_,Int.natCast_nonneg _,by simpa using hl,⟨[],by simp,λ_ z=>nomatch z⟩,by simp⟩;simp only[CB];rw[qk hl,wQ (of_decide_eq_true e)]
 ·rw[if_neg h];refine⟨?_,sc.app ok,by simp,Int.natCast_nonneg _,by simp;lia,⟨[x],rfl,λr z=>iP.mp z⟩,by simp⟩;rw[nh];exact g7.mpr ⟨nd,by simp,λa ha b hb e=>h (sU.mpr (by
   have hb:b=fv x:=by simpa using hb
   rw[<- hb,<- e];exact ha))⟩
def Jq{rs:List Rw}{x:Rw}{ky:List (List RI)}{k:Nat}(nd:(rs.map fv).Nodup)(h:fv x∈rs.map fv/\ky=rs.map fv\/fv x∉rs.map fv/\ky=rs.map fv++[fv x])(hk:ky[k]? = some (fv x)):ky=(hJ rs x).1.map fv/\(k:Int)=(hJ rs x).2:=by
 unfold hJ;rcases h with⟨m,rfl⟩|⟨m,rfl⟩
 ·rw[if_pos (sU.mpr m)];refine⟨rfl,?_⟩;obtain⟨h1,h2⟩:=ng.mp hk;have hl:rs.findIdx (B3 x)<rs.length:=List.findIdx_lt_length.mpr (Rg.mp (sU.mpr m));have e:B3 x rs[rs.findIdx (B3 x)]=true:=List.findIdx_getElem;have e2:(rs.map fv)[rs.findIdx (B3 x)]'(by rw[dz];exact hl)=(rs.map fv)[k]:=by rw[h2,List.getElem_map];exact of_decide_eq_true e
  have:=(VX nd).mp e2;simp only;lia
 ·rw[if_neg (λz=>m (sU.mp z))];refine⟨by simp,?_⟩;simp only;by_cases z:k<(rs.map fv).length
  ·rw[IQ z] at hk;exact absurd (rV hk) m
  ·rw[D1 (by lia)] at hk;have:k-(rs.map fv).length<1:=by have:=(ng.mp hk).1;simpa using this
   rw[dz] at this z;lia
inductive Hd where
 |st (w d:Str)
 |ot (w:Str)
def BE:Hd->D
 |.st w d=>.tup [.str w,.str d]
 |.ot w=>.tup [.str w]
abbrev pj (w:Str):Prop:=w = "some"\/w = "all"
def mw:List Str->Option (List Hd)
 |[]=>some []
 |[w]=>if pj w then none else some [.ot w]
 |w :: d :: ws=>if pj w then (if cO d=true then (mw ws).map (Hd.st w d :: ·) else none) else (mw (d :: ws)).map (Hd.ot w :: ·)
def hw:Hd->List Str
 |.st w d=>[w,d]
 |.ot w=>[w]
def ai':Hd->Prop
 |.st w d=>pj w/\yv d
 |.ot w=>¬ pj w
theorem sV:∀ (ws:List Str) (hs:List Hd),mw ws=some hs->hs.flatMap hw=ws/\∀ h∈hs,ai' h
 |[],hs,h=>by cases h;exact⟨rfl,λ_ z=>nomatch z⟩
 |[w],hs,h=>by
  unfold mw at h;split at h
  ·cases h
  ·rename_i n;cases h;exact⟨rfl,λx hx=>by rw[iP.mp hx];exact n⟩
 |w :: d :: ws,hs,h=>by
  unfold mw at h;split at h
  ·rename_i n;split at h
   ·rename_i dd;obtain⟨t,e,rfl⟩:=kr.mp h;obtain⟨i1,i2⟩:=sV ws t e;exact⟨by rw[Rf,i1];rfl,λx hx=>(eW.mp hx).elim (λz=>z ▸ ⟨n,cV.mp dd⟩) (i2 x)⟩
   ·cases h
  ·rename_i n;obtain⟨t,e,rfl⟩:=kr.mp h;obtain⟨i1,i2⟩:=sV (d :: ws) t e;exact⟨by rw[Rf,i1];rfl,λx hx=>(eW.mp hx).elim (λz=>z ▸ n) (i2 x)⟩
def Hc{ws:List Str}{hs:List Hd}(h:mw ws=some hs):hs.length<=ws.length:=by
 rw[<- (sV ws hs h).1];clear h
 induction hs with
 |nil=>exact c9 _
 |cons x hs ih=>cases x<;>(simp only[Rf,iq,jv,hw,Tx];lia)
def AY:Hd->Option Nat
 |.st _ _=>some 1
 |.ot w=>if w = "not" then some 1 else if w = "yes" then some 0 else if w = "both" then some 2 else if w = "no" then some 0 else if w = "either" then some 2 else none
def si:Nat->List Hd->Bool
 |0,hs=>hs.isEmpty
 |_+1,[]=>false
 |n+1,h :: hs=>match AY h with
  |some a=>si (n+a) hs
  |none=>false
def rL:Nat->List Str->Bool
 |0,ws=>ws.isEmpty
 |_+1,[]=>false
 |n+1,[w]=>if pj w then false else match AY (.ot w) with
  |some a=>rL (n+a) []
  |none=>false
 |n+1,w :: d :: ws=>if pj w then cO d && rL (n+1) ws else match AY (.ot w) with
  |some a=>rL (n+a) (d :: ws)
  |none=>false
def zy(n:Nat):rL n []=decide (n=0):=by cases n<;>rfl
def rE(n:Nat):si n []=decide (n=0):=by cases n<;>rfl
def i_:∀ (ws:List Str) (n:Nat),rL n ws=match mw ws with
  |some hs=>si n hs
  |none=>false
 |[],n=>by rw[zy];exact(rE n).symm
 |[w],n=>by
  unfold mw
  cases n with
  |zero =>
   by_cases h:pj w
   ·rw[if_pos h];rfl
   ·rw[if_neg h];rfl
  |succ n =>
   unfold rL;by_cases h:pj w
   ·rw[if_pos h,if_pos h]
   ·rw[if_neg h,if_neg h];show _=si (n+1) [.ot w];unfold si
    cases AY (.ot w) with
    |none=>rfl
    |some a=>show rL (n+a) []=si (n+a) [];rw[zy,rE]
 |w :: d :: ws,n=>by
  unfold mw
  cases n with
  |zero =>
   split
   ·rename_i hs e
    cases hs with
    |nil =>
     split at e
     ·split at e
      ·obtain⟨_,_,z⟩:=kr.mp e;cases z
      ·cases e
     ·obtain⟨_,_,z⟩:=kr.mp e;cases z
    |cons _ _=>rfl
   ·rfl
  |succ n =>
   unfold rL;by_cases h:pj w
   ·rw[if_pos h,if_pos h,i_ ws (n+1)]
    cases cO d with
    |false=>rfl
    |true =>
     rw[if_pos rfl,I0]
     cases mw ws with
     |none=>rfl
     |some hs=>rfl
   ·rw[if_neg h,if_neg h]
    cases e:AY (.ot w) with
    |none =>
     cases mw (d :: ws) with
     |none=>rfl
     |some hs=>show false=si (n+1) (.ot w :: hs);unfold si;rw[e]
    |some a =>
     show rL (n+a) (d :: ws)=_;rw[i_ (d :: ws) (n+a)]
     cases mw (d :: ws) with
     |none=>rfl
     |some hs=>show si (n+a) hs=si (n+1) (.ot w :: hs);conv=>rhs;unfold si;rw[e]
def E8(w:Str):List Int->Option (Rw × List Int)
 |x :: y :: t=>some (.jn w [x,y],t)
 |_=>none
def P9(f:Int->Rw):List Int->Option (Rw × List Int)
 |x :: t=>some (f x,t)
 |[]=>none
def rS(h:Hd)(st:List Int):Option (Rw × List Int):=match h with
 |.st w d=>P9 (.st w d) st
 |.ot w=>if w = "not" then P9 .nt st else if w = "yes" then some (.jn "and" [],st) else if w = "both" then E8 "and" st else if w = "no" then some (.jn "or" [],st) else if w = "either" then E8 "or" st else none
def SV(h:Hd)(o:Option (List Rw × List Int)):Option (List Rw × List Int):=o.bind λp=>(rS h p.2).map λq=>((hJ p.1 q.1).1,(hJ p.1 q.1).2 :: q.2)
def B4(hs:List Hd):Option (List Rw × List Int):=hs.foldr SV (some ([],[]))
def CP(h:Hd)(st:List Int):match rS h st with
  |some (_,t)=>AY h=some (st.length-t.length)/\t.length<=st.length
  |none=>∀ a,AY h=some a->st.length<a:=by
 have one:∀ f:Int->Rw,match P9 f st with
  |some (_,t)=>some 1=some (st.length-t.length)/\t.length<=st.length
  |none=>∀ a,some 1=some a->st.length<a:=λf=>by
  cases st with
  |nil=>intro a e;cases e;exact Nat.one_pos
  |cons x t=>exact⟨by simp,by simp⟩
 have two:∀ w:Str,match E8 w st with
  |some (_,t)=>some 2=some (st.length-t.length)/\t.length<=st.length
  |none=>∀ a,some 2=some a->st.length<a:=λw=>by
  rcases st with _|⟨x,_|⟨y,t⟩⟩
  ·intro a e;cases e;exact Nat.two_pos
  ·intro a e;cases e;exact Nat.one_lt_two
  ·exact⟨by simp;lia,by simp;lia⟩
 cases h with
 |st w d=>exact one _
 |ot w =>
  unfold rS AY;dsimp only;by_cases h1:w = "not"
  ·rw[if_pos h1,if_pos h1];exact one _
  rw[if_neg h1,if_neg h1];by_cases h2:w = "yes"
  ·rw[if_pos h2,if_pos h2];exact⟨by simp,c9 _⟩
  rw[if_neg h2,if_neg h2];by_cases h3:w = "both"
  ·rw[if_pos h3,if_pos h3];exact two _
  rw[if_neg h3,if_neg h3];by_cases h4:w = "no"
  ·rw[if_pos h4,if_pos h4];exact⟨by simp,c9 _⟩
  rw[if_neg h4,if_neg h4];by_cases h5:w = "either"
  ·rw[if_pos h5,if_pos h5];exact two _
  rw[if_neg h5,if_neg h5];exact λa e=>nomatch e
def oE(h:Hd)(hs:List Hd):B4 (h :: hs)=SV h (B4 hs):=rfl
def rF(hs:List Hd):∀ n,si n hs=true↔∃ p,B4 hs=some p/\p.2.length=n:=by
 induction hs with
 |nil =>
  intro n;rw[rE,decide_eq_true_eq];constructor
  ·intro e;exact⟨_,rfl,e.symm⟩
  ·rintro⟨p,e,l⟩;cases e;exact l.symm
 |cons h hs ih =>
  intro n;rw[oE];unfold SV
  cases n with
  |zero =>refine⟨λe=>(nomatch e),λ⟨p,e,l⟩=>?_⟩;obtain⟨q,_,e⟩:=TK.mp e;obtain⟨r,_,rfl⟩:=kr.mp e;simp at l
  |succ n =>
   constructor
   ·intro e;unfold si at e;split at e
    ·rename_i a ea;obtain⟨p,hp,l⟩:=(ih _).mp e;rw[hp];have R:=CP h p.2
     cases hr:rS h p.2 with
     |none=>rw[hr] at R;have:=R a ea;lia
     |some q =>rw[hr] at R;obtain⟨R1,R2⟩:=R;rw[ea] at R1;have R1:=Option.some.inj R1;refine⟨_,by rw[TN,hr];rfl,?_⟩;simp only[jv];lia
    ·cases e
   ·rintro⟨p,e,l⟩;obtain⟨q,hq,e⟩:=TK.mp e;obtain⟨⟨r,t⟩,hr,rfl⟩:=kr.mp e;have R:=CP h q.2;rw[hr] at R;obtain⟨R1,R2⟩:=R;unfold si;rw[R1];refine(ih _).mpr ⟨q,hq,?_⟩;simp only[jv] at l;lia
def kz(o:Option (List Str)):Option (List Str):=o.bind λws=>if ws.length<=200 then some ws else none
def fI:List (Option (List Str))->Option (List (List Str))
 |[]=>some []
 |none :: _=>none
 |some w :: l=>(fI l).map (w :: ·)
def bu (w:Str):Str:=if w = "and" then "yes" else "no"
def nR:bu "or" = "no" := by decide +kernel
def aK (w:Str):Str:=if w = "and" then "both" else "either"
def qf(j:Str):List (List Str)->List Str
 |[]=>[]
 |[p]=>p
 |p :: q :: l=>j :: (p++qf j (q :: l))
def E9(w:Str):List (List Str)->List Str
 |[]=>[bu w]
 |p :: l=>qf (aK w) (p :: l)
def tT(r:Rw)(g:Int->Option (List Str)):Option (List Str):=kz (match r with
 |.st w d j=>(g j).map λws=>w :: d :: ws
 |.nt j=>(g j).map λws => "not" :: ws
 |.jn w ps=>(fI (ps.map g)).map (E9 w))
def WA:Sm (Option (List Str)) where
 H:=tT
 z:=none
 cg:=λ{r g g'} h=>by
  cases r with
  |st w d j=>show kz ((g j).map _)=kz ((g' j).map _);rw[h j (iP.mpr rfl)]
  |nt j=>show kz ((g j).map _)=kz ((g' j).map _);rw[h j (iP.mpr rfl)]
  |jn w ps =>have h:∀ j∈ps,g j=g' j:=h;show kz ((fI (ps.map g)).map _)=kz ((fI (ps.map g')).map _);rw[D3 h]
 rn:=λf r g=>by
  cases r with
  |st w d j=>rfl
  |nt j=>rfl
  |jn w ps=>show kz ((fI ((ps.map f).map g)).map _)=kz ((fI (ps.map λj=>g (f j))).map _);rw[mh];rfl
structure RIv(hs:List Hd)(rs:List Rw)(st:List Int):Prop where
 nd:(rs.map fv).Nodup
 sc:eB rs
 ln:rs.length<=hs.length
 sl:st.length<=hs.length
 bd:∀ x∈st,0<=x/\x<rs.length
 ws:∃ B5:List (List Str),st.map (WA.at rs)=B5.map some/\B5.flatten=hs.flatMap hw
def tX{ws:List Str}(h:ws.length<=200):kz (some ws)=some ws:=by unfold kz;rw[TN,if_pos h]
def Gq(hs:List Hd):(∀ h∈hs,ai' h)->(hs.flatMap hw).length<=200->∀ rs st,B4 hs=some (rs,st)->RIv hs rs st:=by
 induction hs with
 |nil =>intro _ _ rs st e;cases e;exact⟨kT,eB.nil,c9 _,c9 _,λx z=>(nomatch z),[],rfl,rfl⟩
 |cons h hs ih =>
  intro ok z rs st e;have zf:(hs.flatMap hw).length<=200:=by rw[Rf,iq] at z;lia
  rw[oE] at e;obtain⟨⟨rz,B6⟩,e0,e⟩:=TK.mp e;obtain⟨⟨r,t⟩,hr,e⟩:=kr.mp e;cases e;obtain⟨nd,sc,ln,sl,bd,B5,ew,ef⟩:=ih (λx hx=>ok x (eI _ hx)) zf rz B6 e0;have hr:rS h B6=some (r,t):=hr;have okh:=ok h fA
  -- what the row is,and what it takes
  have key:kQ rz.length r/\(∀ x∈t,x∈B6)/\t.length<=B6.length/\∃ (w0:List Str) (wt:List (List Str)),t.map (WA.at rz)=wt.map some/\w0++wt.flatten=(h :: hs).flatMap hw/\(w0.length<=200->WA.H r (WA.at rz)=some w0):=by
   have fl:∀ a:List Str,hw h=a->(h :: hs).flatMap hw=a++B5.flatten:=λa ea=>by rw[Rf,ea,ef]
   have one:∀ f:Int->Rw,P9 f B6=some (r,t)->∃ x,B6=x :: t/\r=f x:=λf e=>by
    cases B6 with
    |nil=>cases e
    |cons x t'=>cases e;exact⟨x,rfl,rfl⟩
   have two:∀ w:Str,(w = "and"\/w = "or")->hw h=[aK w]->E8 w B6=some (r,t)->kQ rz.length r/\(∀ x∈t,x∈B6)/\t.length<=B6.length/\∃ (w0:List Str) (wt:List (List Str)),t.map (WA.at rz)=wt.map some/\w0++wt.flatten=(h :: hs).flatMap hw/\(w0.length<=200->WA.H r (WA.at rz)=some w0):=λw hw' ea e=>by
    rcases B6 with _|⟨x,_|⟨y,t'⟩⟩
    ·cases e
    ·cases e
    ·cases e;rcases B5 with _|⟨w1,_|⟨w2,wt⟩⟩
     ·simp at ew
     ·simp at ew
     ·simp only[fR,List.cons.injEq] at ew;obtain⟨e1,e2,e3⟩:=ew;refine⟨⟨hw',by simp,λp hp=>?_⟩,λx hx=>eI _ (eI _ hx),by simp;lia,aK w :: (w1++w2),wt,e3,?_,λzz=>?_⟩
      ·simp only[eW,FI,or_false] at hp;rcases hp with rfl|rfl
       ·exact bd _ (by simp)
       ·exact bd _ (by simp)
      ·rw[fl _ ea];simp
      ·show kz ((fI [WA.at rz x,WA.at rz y]).map (E9 w))=_;rw[e1,e2];exact tX zz
   cases h with
   |st w d =>
    obtain⟨x,rfl,rfl⟩:=one _ hr
    cases B5 with
    |nil=>cases ew
    |cons w1 wt =>simp only[fR,List.cons.injEq] at ew;refine⟨⟨okh.1,okh.2,bd x (by simp)⟩,λy hy=>eI _ hy,by simp,w :: d :: w1,wt,ew.2,by rw[fl _ rfl];simp[hw],λzz=>?_⟩;show kz ((WA.at rz x).map _)=_;rw[ew.1];exact tX zz
   |ot w =>
    unfold rS at hr;dsimp only at hr;by_cases h1:w = "not"
    ·rw[if_pos h1] at hr;obtain⟨x,rfl,rfl⟩:=one _ hr
     cases B5 with
     |nil=>cases ew
     |cons w1 wt =>simp only[fR,List.cons.injEq] at ew;refine⟨bd x (by simp),λy hy=>eI _ hy,by simp,w :: w1,wt,ew.2,by rw[fl _ rfl];simp[hw],λzz=>?_⟩;show kz ((WA.at rz x).map _)=_;rw[ew.1,h1];exact tX (h1 ▸ zz)
    rw[if_neg h1] at hr;by_cases h2:w = "yes"
    ·rw[if_pos h2] at hr;cases hr;exact⟨⟨.inl rfl,by simp,λp hp=>nomatch hp⟩,λx hx=>hx,c9 _,[w],B5,ew,by rw[fl _ rfl];rfl,λzz=>by rw[h2];rfl⟩
    rw[if_neg h2] at hr;by_cases h3:w = "both"
    ·rw[if_pos h3] at hr;exact two "and" (.inl rfl) (by rw[h3];rfl) hr
    rw[if_neg h3] at hr;by_cases h4:w = "no"
    ·rw[if_pos h4] at hr;cases hr;exact⟨⟨.inr rfl,by simp,λp hp=>nomatch hp⟩,λx hx=>hx,c9 _,[w],B5,ew,by rw[fl _ rfl];rfl,λzz=>by rw[h4];show kz (some [bu "or"])=_;rw[nR];rfl⟩
    rw[if_neg h4] at hr;by_cases h5:w = "either"
    ·rw[if_pos h5] at hr;exact two "or" (.inr rfl) (by rw[h5];decide +kernel) hr
    rw[if_neg h5] at hr;cases hr
  obtain⟨Fc,lU',tl,w0,wt,e1,e2,e3⟩:=key;obtain⟨p1,p2,p3,p4,p5,⟨m,p6,p7⟩,p8⟩:=Jz nd sc Fc;have up:∀ x:Int,0<=x/\x<rz.length->WA.at (hJ rz r).1 x=WA.at rz x:=λx hx=>by rw[p6];exact wz WA (by lia)
  have w0l:w0.length<=200:=by have:=congrArg List.length e2;rw[iq] at this;lia
  have top:WA.at (hJ rz r).1 (hJ rz r).2=some w0:=by have:=kJ WA p2 p3;rw[kF p4] at this;rw[this,<- e3 w0l];exact WA.cg λj hj=>up j (bW Fc j hj)
  have tb:∀ x∈t,0<=x/\x<rz.length:=λx hx=>bd x (lU' x hx);refine⟨p1,p2,by show(hJ rz r).1.length<=_;rw[jv];lia,by simp only[jv];lia,λx hx=>?_,w0 :: wt,?_,e2⟩
  ·rcases eW.mp hx with rfl|hx
   ·exact⟨p4,p5⟩
   ·have:=tb x hx;rw[p6,iq];exact⟨this.1,by lia⟩
  ·rw[fR,fR,top,<- e1];congr 1;exact D3 λx hx=>up x (tb x hx)
def slK(ρ:L2.Q.Env):Nat:=match ρ.getD 2 none with
 |some (.sh (.int k))=>k.toNat
 |_=>0
def yP{w:Str}(hw:¬ pj w)(n:Nat)(l:List Str):rL (n+1) (w :: l)=match AY (.ot w) with
  |some a=>rL (n+a) l
  |none=>false:=by
 cases l with
 |nil=>show(if pj w then false else _)=_;rw[if_neg hw]
 |cons d l=>show(if pj w then _ else _)=_;rw[if_neg hw]
def Jm {w:Str} (h:w = "yes"\/w = "no"):¬ pj w/\AY (.ot w)=some 0:=by rcases h with rfl|rfl<;>decide +kernel
def JM {w:Str} (h:w = "both"\/w = "either"):¬ pj w/\AY (.ot w)=some 2:=by rcases h with rfl|rfl<;>decide +kernel
def J2:¬ pj "not"/\AY (.ot "not")=some 1:=by decide +kernel
def Di(x:Str)(l:List Str):inD (.str x) (l.map D.str)=decide (x∈l):=by
 unfold inD;rw[D7,Rg,decide_eq_true_iff];constructor
 ·rintro⟨y,hy,e⟩;obtain⟨c,hc,rfl⟩:=iX.mp hy;have:=(d_ (.str c) (.str x) rfl rfl).mp e;cases this;exact hc
 ·intro hx;exact⟨.str x,iX.mpr ⟨x,hx,rfl⟩,(d_ (.str x) (.str x) rfl rfl).mpr rfl⟩
def nq(w x y:Str):inD (.str w) [.str x,.str y]=decide (w=x\/w=y):=by rw[show[D.str x,D.str y]=[x,y].map D.str from rfl,Di];congr 1;simp
theorem oY(j:Str)(p:List Str):∀ l:List (List Str),qf j (l++[p])=(l.map (j :: ·)).flatten++p
 |[]=>rfl
 |[q]=>by simp[qf]
 |q :: r :: l=>by have:=oY j p (r :: l);show j :: (q++qf j ((r :: l)++[p]))=_;rw[this];simp
def zS(o:Option (List Str)):Prop:=∀ ws,o=some ws->ws.length<=200/\∀ w∈ws,PyData.strOk w=true/\w.length<=6
def zT(w:Str):PyData.strOk (bu w)=true/\(bu w).length<=6/\PyData.strOk (aK w)=true/\(aK w).length<=6:=by unfold bu aK;split<;>decide +kernel
def KZ{k:Int}{r:Rw}{g:Int->Option (List Str)}(ok:kQ k r)(AZ:∀ j,zS (g j)):zS (tT r g):=by
 intro ws e;obtain⟨X,eX,e⟩:=TK.mp e;split at e
 ·rename_i hX;cases e;refine⟨hX,?_⟩
  cases r with
  |st w d j =>
   obtain⟨p,ep,rfl⟩:=kr.mp (show(g j).map _=some ws from eX);have cw:PyData.strOk w=true/\w.length<=6:=by rcases ok.1 with rfl|rfl<;>decide +kernel
   intro x hx;rcases eW.mp hx with rfl|hx
   ·exact cw
   rcases eW.mp hx with rfl|hx
   ·exact⟨ok.2.1.ok,ok.2.1.len⟩
   ·exact(AZ j p ep).2 x hx
  |nt j =>
   obtain⟨p,ep,rfl⟩:=kr.mp (show(g j).map _=some ws from eX);intro x hx;rcases eW.mp hx with rfl|hx
   ·decide +kernel
   ·exact(AZ j p ep).2 x hx
  |jn w ps =>
   obtain⟨l,el,rfl⟩:=kr.mp (show(fI (ps.map g)).map _=some ws from eX);have lok:∀ (qs:List Int) (m:List (List Str)),fI (qs.map g)=some m->∀ p∈m,∀ x∈p,PyData.strOk x=true/\x.length<=6:=λqs=>by
    induction qs with
    |nil=>intro m e;cases e;exact λ_ z=>nomatch z
    |cons q qs ih =>
     intro m e;rw[fR] at e
     cases eg:g q with
     |none=>rw[eg] at e;cases e
     |some p =>rw[eg] at e;obtain⟨m',e',rfl⟩:=kr.mp (show(fI (qs.map g)).map (p :: ·)=some m from e);exact λy hy=>(eW.mp hy).elim (λz=>z ▸ (AZ q p eg).2) (ih m' e' y)
   have lok:=lok ps l el;have jw:∀ m:List (List Str),(∀ p∈m,∀ x∈p,PyData.strOk x=true/\x.length<=6)->∀ x∈qf (aK w) m,PyData.strOk x=true/\x.length<=6:=λm=>by
    rcases m.eq_nil_or_concat with rfl|⟨n,p,rfl⟩
    ·exact λ_ x hx=>nomatch hx
    ·intro hm x hx;rw[List.concat_eq_append] at hx hm;rw[oY] at hx;rcases eR.mp hx with hx|hx
     ·obtain⟨y,hy,hx⟩:=List.mem_flatten.mp hx;obtain⟨q,hq,rfl⟩:=iX.mp hy;rcases eW.mp hx with rfl|hx
      ·exact⟨(zT w).2.2.1,(zT w).2.2.2⟩
      ·exact hm q (kg _ hq) x hx
     ·exact hm p (by simp) x hx
   cases l with
   |nil =>intro x hx;rw[iP.mp hx];exact⟨(zT w).1,(zT w).2.1⟩
   |cons p l=>exact jw _ lok
 ·cases e
def pD{l:List Rw}(sc:eB l):∀ i,i<=l.length->∀ o∈WA.vals (l.take i),zS o:=by
 intro i
 induction i with
 |zero=>intro _ o ho;rw[List.take_zero] at ho;exact nomatch ho
 |succ i ih =>
  intro hi o ho;have hl:i<l.length:=by lia
  rw[List.take_succ_eq_append_getElem hl,jJ] at ho;rcases eR.mp ho with ho|ho
  ·exact ih (by lia) o ho
  ·rw[iP.mp ho];refine KZ (sc i _ (qk hl)) λj=>?_;show zS ((WA.vals (l.take i)).getD j.toNat none);rw[xA]
   cases e:(WA.vals (l.take i))[j.toNat]? with
   |none=>exact λws z=>nomatch z
   |some o=>exact ih (by lia) o (rV e)
def Gx{names:List Str}{i:Int}(h0:0<=i)(h1:i<names.length):∃ n,n∈names/\e8 (names.map D.str) i=some (.str n):=by
 have hn:i.toNat<names.length:=by lia
 refine⟨names[i.toNat],Tt hn,?_⟩;have:=wo (xs:=names.map D.str) (j:=i.toNat) (v:=.str names[i.toNat]) (by simp[hn]);rwa[kF h0] at this
def name_mod{names:List Str}(x:Int)(h:1<=names.length):∃ n,n∈names/\e8 (names.map D.str) (x % (names.length:Int))=some (.str n) :=
 Gx (oC _ (by lia)) (oB _ (by lia))
def wD:WS :=
 (b5 (fm (vt (wB (ax fE (ax cp (ai 0) (wC (.int 0))) (wC (.str "some")))) (wB (ax fE (ax cp (ai 0) (wC (.int 0))) (wC (.str "all")))))
 (fF (fT (ak (ax cp (ai 0) (wC (.int 2))) bP)))
 aP)
 (b5 (fm (wB (ax fE (ax cp (ai 0) (wC (.int 0))) (wC (.str "not"))))
 (fF (fT (ak (ax cp (ai 0) (wC (.int 1))) bP)))
 aP)
 (fF (dQ xK (ax cp (ai 0) (wC (.int 1)))))))
def jD:fk:=λds Q=>∃ (r:Rw) (k:Int),ds=[de r]/\kQ k r/\Q (.ow true) (.list ((ja r).map D.int))
def vZ (ds Q) (h:jD ds Q):ds.length=["row"].length:=by obtain⟨_,_,rfl,_⟩:=h;rfl
def Gj:∀ ds Q,jD ds Q->wD { nx:=λ_=>Q .sh .non,rt:=Q } (aM 1 ds):=by
 rintro ds Q ⟨r,k,rfl,hr,h⟩;unfold wD
 cases r with
 |st w d j =>
  obtain⟨hw,_⟩:=hr;rw[show de (.st w d j)=.tup [.str w,.str d,.int j] from rfl];walk_at "q";refine R.D (λe=>?_) λe=>?_
  ·walk_at "q";exact h
  ·walk_at "q";refine R.D (λe=>?_) λe2=>?_
   ·walk_at "q";exact h
   ·exact absurd hw (by simp[e,e2])
 |nt j =>rw[show de (.nt j)=.tup [.str "not",.int j] from rfl];walk_at "q";refine R.F (decide_eq_false DJ.1) ?_;walk_at "q";refine R.F (decide_eq_false DJ.2) ?_;walk_at "q";exact h
 |jn w ps =>obtain⟨hw,hl,_⟩:=hr;rw[show de (.jn w ps)=.tup [.str w,.tup (ps.map .int)] from rfl];walk_at "q";refine R.F (decide_eq_false (xk hw).1) ?_;walk_at "q";refine R.F (decide_eq_false (xk hw).2.1) ?_;walk_at "q";refine R.F (decide_eq_false (xk hw).2.2) ?_;walk_at "q";exact .inl ⟨bf ps,h⟩
def jf:WS :=
 (b5 (fm (vt (wB (ax fE (ax cp (ai 0) (wC (.int 0))) (wC (.str "some")))) (wB (ax fE (ax cp (ai 0) (wC (.int 0))) (wC (.str "all")))))
 (fF (fq (ak (ax cp (ai 0) (wC (.int 0))) (ak (ax cp (ai 0) (wC (.int 1))) (ak (ax cp (ai 1) (ax cp (ai 0) (wC (.int 2)))) bP)))))
 aP)
 (b5 (fm (wB (ax fE (ax cp (ai 0) (wC (.int 0))) (wC (.str "not"))))
 (fF (fq (ak (ax cp (ai 0) (wC (.int 0))) (ak (ax cp (ai 1) (ax cp (ai 0) (wC (.int 1)))) bP))))
 aP)
 (fF (fq (ak (ax cp (ai 0) (wC (.int 0))) (ak (dQ mR (jr (xJ (ax cp (ai 0) (wC (.int 1)))) (gN 0) BM (ax cp (ai 1) (ai 0)) 1 [1])) bP))))))
def du:fk:=λds Q=>∃ (k:Int) (r:Rw) (num:D) (f:Int->Int),ds=[de r,num]/\kQ k r/\(∀ j∈ja r,JG num f j)/\Q .sh (de (IC f r))
def l_ (ds Q) (h:du ds Q):ds.length=["row", "numbers"].length:=by obtain⟨_,_,_,_,rfl,_⟩:=h;rfl
def za{num:D}{f:Int->Int}{j:Int}{m':Md}{Q:Md->D->Prop}(h:JG num f j)(q:Q .sh (.int (f j))):cp .sh num m' (.int j) Q:=by
 rcases h with⟨ns,rfl,j0,e⟩|⟨ag,rfl,e⟩
 ·have a:e8 (ns.map D.int) j=some (.int (f j)):=by have:=wo (xs:=ns.map D.int) (j:=j.toNat) (v:=.int (f j)) (by rw[mz,e];rfl);rwa[kF j0] at this
  exact⟨_,a,q⟩
 ·exact⟨.inl j,.int (f j),rfl,e,q⟩
def onJ(f:Int->Int):D->D
 |.int j=>.int (f j)
 |d=>d
def qi:∀ ds Q,du ds Q->jf { nx:=λ_=>Q .sh .non,rt:=Q } (aM 2 ds):=by
 rintro ds Q ⟨k,r,num,f,rfl,ok,hn,h⟩;unfold jf
 cases r with
 |st w d j =>
  obtain⟨hw,hd,j0,j1⟩:=ok;have fin:∀ Q':Md->D->Prop,Q' .sh (.int (f j))->cp .sh num .sh (.int j) Q':=λQ' q=>za (hn j (iP.mpr rfl)) q;rw[show de (.st w d j)=.tup [.str w,.str d,.int j] from rfl];walk_at "q";refine R.D (λe=>?_) λe=>?_
  ·walk_at "q";refine fin _ ?_;walk_at "q";exact h
  ·walk_at "q";refine R.D (λe=>?_) λe2=>?_
   ·walk_at "q";refine fin _ ?_;walk_at "q";exact h
   ·exact absurd hw (by simp[e,e2])
 |nt j =>rw[show de (.nt j)=.tup [.str "not",.int j] from rfl];walk_at "q";refine R.F (decide_eq_false DJ.1) ?_;walk_at "q";refine R.F (decide_eq_false DJ.2) ?_;walk_at "q";refine za (hn j (iP.mpr rfl)) ?_;walk_at "q";exact h
 |jn w ps =>
  obtain⟨hw,hl,hp⟩:=ok;rw[show de (.jn w ps)=.tup [.str w,.tup (ps.map .int)] from rfl];walk_at "q";refine R.F (decide_eq_false (xk hw).1) ?_;walk_at "q";refine R.F (decide_eq_false (xk hw).2.1) ?_;walk_at "q";refine R.F (decide_eq_false (xk hw).2.2) ?_;walk_at "q";refine cB (λ_=>true) (onJ f) (λρ=>∃ o,ρ=[o,some (.sh num)]) _ _ _ ⟨_,rfl⟩ ?_ ?_
  ·rintro x hx ρ ⟨o,rfl⟩ N1 N2 h1 h2;obtain⟨j,hj,rfl⟩:=iX.mp hx;walk_at "q";refine za (hn j hj) ?_;exact⟨.inl rfl,h2 _ ⟨_,rfl⟩ rfl⟩
  ·have e:((ps.map D.int).filter λ_=>true).map (onJ f)=(ps.map f).map D.int:=by rw[List.filter_eq_self.mpr (λ_ _=>rfl),mh,mh];rfl
   rw[e];exact⟨bf _,h⟩
def lD:WS :=
 (b5 (fm (vt (yb (wB (dQ (zo "str") (ai 0)))) (yb (wB (jU GY GY (wC (.int 1)) (dQ i6 (ai 0)) (wC (.int 6))))))
 (fF (wC (.bl false)))
 aP)
 (fF (dQ Sx (jr (Aq (ai 0)) (gN 0) BM (ax (G0 false) (ai 0) (wC (.str "abcdefghijklmnopqrstuvwxyz"))) 1 []))))
def Fo{c:Nat}:Dx ⟨#[c]⟩ abc=isLet c:=by
 rw[Fe];have:abc.cps.toList=(List.range 26).map (97 + ·):=o7;rw[this];apply D7.mpr;simp only[decide_eq_true_eq,isLet,iX,IX];constructor
 ·rintro⟨i,hi,rfl⟩;lia
 ·intro h;exact⟨c-97,by lia,by lia⟩
def iK:fk:=λds Q=>∃ d:D,ds=[d]/\Q .sh (.bl (ag' d))
def sG (ds Q) (h:iK ds Q):ds.length=["thing"].length:=by obtain⟨_,rfl,_⟩:=h;rfl
def xW:∀ ds Q,iK ds Q->lD { nx:=λ_=>Q .sh .non,rt:=Q } (aM 1 ds):=by
 rintro ds Q ⟨d,rfl,h⟩
 cases d with
 |str x =>
  have h:Q .sh (.bl (decide (1<=x.length/\x.length<=6) && (sg x).all isLet)):=h;unfold lD;walk_at "q";refine R.F rfl ?_;walk_at "q";refine R.D (λh1=>?_) λh1=>?_
  ·walk_at "q";refine R.B (λh2=>?_) λh2=>?_;rotate_left
   ·have h2:x.length<=6:=by simp at h2;lia
    walk_at "q"
    refine cB (λ_=>true) (λd=>match d with
     |.str z=>.bl (Dx z abc)
     |d=>d) (λρ=>∃ o,ρ=[o]) _ _ _ ⟨_,rfl⟩ ?_ ?_
    ·rintro y hy ρ ⟨o,rfl⟩ N1 N2 _ h2;obtain⟨c,hc,rfl⟩:=iX.mp hy;walk_at "q";exact⟨.inl rfl,h2 _ ⟨_,rfl⟩ rfl⟩
    ·rw[gj];refine⟨(sg x).map isLet,?_,?_⟩
     ·unfold ZL;rw[mh,mh];refine D3 λc _=>?_;show D.bl (Dx ⟨#[c]⟩ abc)=_;rw[Fo];rfl
     ·rw[decide_eq_true (by lia),I0] at h;rw[FL];exact h
   ·have h2:¬ x.length<=6:=by simp at h2;lia
    walk_at "q";rw[decide_eq_false (by lia),Bool.false_and] at h;exact h
  ·walk_at "q";rw[decide_eq_false (by lia),Bool.false_and] at h;exact h
 |_ =>unfold lD;walk_at "q";refine R.T rfl ?_;walk_at "q";exact h
def mU:WS :=
 (fF (kO (dQ (zo "int") (ai 0)) (zV (dQ (zo "bool") (ai 0)))))
def gC:fk:=λds Q=>∃ d:D,ds=[d]/\Q .sh (.bl (decide (d.ty = "int")))
def qL (ds Q) (h:gC ds Q):ds.length=["thing"].length:=by obtain⟨_,rfl,_⟩:=h;rfl
def vd:∀ ds Q,gC ds Q->mU { nx:=λ_=>Q .sh .non,rt:=Q } (aM 1 ds):=by
 rintro ds Q ⟨d,rfl,h⟩;unfold mU;walk_at "q";cases d<;>first
  | (refine R.F rfl ?_;walk_at "q";exact h)
  | (refine R.T rfl ?_;walk_at "q";first|exact h|(refine R.T rfl ?_;walk_at "q";exact h)|(refine R.F rfl ?_;walk_at "q";exact h))
def jd:WS :=
 (fm (yb (wB (dQ (zo "str") (ai 0))))
 (e_ "NoText" (wC (.str "this is no text")))
 aP)
def dC:fk:=λds Q=>∃ d:D,ds=[d]/\((∃ t,d=.str t)->Q .sh .non)/\((¬ ∃ t,d=.str t)->Q (.ow false) (.str "NoText"))
def lU (ds Q) (h:dC ds Q):ds.length=["thing"].length:=by obtain⟨_,rfl,_⟩:=h;rfl
def qJ:∀ ds Q,dC ds Q->jd { nx:=λ_=>Q .sh .non,rt:=Q } (aM 1 ds):=by
 rintro ds Q ⟨d,rfl,h1,h2⟩;unfold jd
 cases d with
 |str t =>walk_at "q";refine R.F rfl ?_;walk_at "q";exact h1 ⟨t,rfl⟩
 |_ =>walk_at "q";refine R.T rfl ?_;walk_at "q";exact h2 (λ⟨t,z⟩=>nomatch z)
def vY:WS :=
 (b5 (fm (wB (ax fE (dQ i6 (yq 0)) (wC (.int 0))))
 (e_ "NoText" (wC (.str "a sentence is lacking")))
 aP)
 (rQ 0 (Iu 0)))
def fj:Ic:=λxs ds Q Y=>ds=[]/\(xs=[]->Y "NoText")/\∀ ys x,xs=ys++[x]->Q ys (.int x)
def xj(xs ds Q Y)(h:fj xs ds Q Y):ds.length+1=1:=by rw[h.1];rfl
def Fx:∀ a xs ds Q Y,xs.length<=bE->fj xs ds Q Y->vY { nx:=λ_=>False,rt:=DI a Q Y } (jk 1 a xs ds):=by
 rintro a xs ds Q Y hz ⟨rfl,h1,h2⟩;unfold vY jk;walk_at "q";refine⟨_,_,rfl,?_⟩;walk_at "q";refine R.D (λe=>?_) λe=>?_
 ·walk_at "q";exact h1 (Tg.mp (by lia))
 ·walk_at "q";have lI:xs≠[]:=λz=>e (by rw[z];rfl);have ex:=(Tf lI).symm;refine⟨a,xs.dropLast,xs.getLast lI,by rw[<- ex];rfl,a,xs.dropLast,rfl,rfl,_,rfl,rfl,?_,h2 _ _ ex⟩;rw[To];lia
def fV:WS :=
 (b5 (fm (wB (ax fE (dQ i6 (ai 1)) (wC (.int 0))))
 (fF (fT (ak (HP [("and", "yes"),("or", "no")] (ai 0)) bP)))
 aP)
 (b5 (eS 2 (fT bP))
 (b5 (zv 1 (yi (jo (EZ (ai 1) dM (iT (dQ zk (wC (.int 1)))))) (gN 3)
 (ZZ (qa 2) (ax iO (fT (ak (HP [("and", "both"),("or", "either")] (ai 0)) bP)) (ai 3)))))
 (fF (ax iO (ai 2) (ax cp (ai 1) (dQ zk (wC (.int 1)))))))))
def sC(p:List Str):D:=.list (p.map .str)
def cD:fk:=λds Q=>∃ (w:Str) (l:List (List Str)),ds=[.str w,.list (l.map sC)]/\(w = "and"\/w = "or")/\l.length<=200/\(∀ p∈l,p.length<=200)/\Q (.ow true) (.list ((E9 w l).map .str))
def jA (ds Q) (h:cD ds Q):ds.length=["word", "parts"].length:=by obtain⟨_,_,rfl,_⟩:=h;rfl
def zK{α:Type}(l:List α):ox l none (some (-1))=l.dropLast:=by unfold ox;rw[List.dropLast_eq_take];simp only[HT.cE];rw[if_pos (by decide)];show List.take (((l.length:Int) + -1).toNat-0) (l.drop 0)=_;rw[List.drop_zero,Nat.sub_zero];congr 1;lia
def lY:∀ ds Q,cD ds Q->fV { nx:=λ_=>Q .sh .non,rt:=Q } (aM 4 ds):=by
 rintro ds Q ⟨w,l,rfl,hw,hl,hp,h⟩;have g1:List.lookup w [(("and" : Str),("yes" : Str)),("or", "no")]=some (bu w)/\(bu w).length<=16777216:=by rcases hw with rfl|rfl<;>decide +kernel
 have g2:List.lookup w [(("and" : Str),("both" : Str)),("or", "either")]=some (aK w)/\(aK w).length<=16777216:=by rcases hw with rfl|rfl<;>decide +kernel
 unfold fV;walk_at "q";refine R.D (λe=>?_) λe=>?_
 ·have:l=[]:=Tg.mp (by lia);subst this;walk_at "q";unfold HP;walk_at "q";exact⟨w,_,rfl,g1.1,g1.2,h⟩
 walk_at "q";refine .inr ?_;rw[zK,<- List.map_dropLast];have dl:l.dropLast.length<=200:=by rw[To];lia
 have fl:∀ m:List (List Str),m.length<=200->(∀ p∈m,p.length<=200)->((m.map (aK w :: ·)).flatten).length<=m.length*201:=λm=>by
  induction m with
  |nil=>intro _ _;simp
  |cons p m ih =>intro h1 h2;have:=ih (by simp at h1;lia) λq hq=>h2 q (eI _ hq);have:=h2 p fA;simp only[fR,An,iq,jv];lia
 have hpd:∀ i,∀ p∈l.dropLast.take i,p.length<=200:=λi p h=>hp p (VP _ (Q_ h));refine b8 _ (λi ρ=>∃ o3,ρ=[some (.sh (.str w)),some (.sh (.list (l.map sC))),some (.ow true (.list (((l.dropLast.take i).map (aK w :: ·)).flatten.map .str))),o3]) ⟨none,rfl⟩ ?_ ?_
 ·rintro i x ρ hx ⟨o3,rfl⟩ N hN;rw[mz] at hx;obtain⟨p,hq,rfl⟩:=kr.mp hx;have pl:=hp p (VP _ (rV hq));have ll:=fl (l.dropLast.take i) (by rw[mB];lia) (hpd i);rw[mB] at ll;have tk:((l.dropLast.take (i+1)).map (aK w :: ·)).flatten=((l.dropLast.take i).map (aK w :: ·)).flatten++(aK w :: p):=by rw[Ap,hq];simp
  have nx:=hN _ ⟨some (.sh (sC p)),by rw[tk]⟩;rw[show sC p=.list (p.map .str) from rfl] at *
  walk_at "q";unfold HP;walk_at "q";rw[nh,fR] at nx;exact⟨w,_,rfl,g2.1,g2.2,by lia,.inl ⟨bw p,bw p,by lia,nx⟩⟩
 ·rintro ρ ⟨o3,rfl⟩;have lI:l≠[]:=λz=>e (by rw[z];rfl);have el:=(Tf lI).symm;have jl:E9 w l=qf (aK w) l:=by
   cases l with
   |nil=>exact absurd rfl lI
   |cons _ _=>rfl
  have z5:e8 (l.map sC) (-1)=some (sC (l.getLast lI)):=by
   conv=>lhs;rw[el,nh]
   exact WQ _ _
  have pl:=hp _ (List.getLast_mem lI);have ll:=fl l.dropLast dl λq hq=>hp q (VP _ hq);rw[jl,el,oY,nh] at h;generalize l.getLast lI=q at *
  rw[dz,A9];walk_at "q";refine⟨_,z5,?_⟩;rw[show sC q=.list (q.map .str) from rfl];walk_at "q";exact⟨by lia,.inl ⟨bw _,bw _,h⟩⟩
def fU:WS :=
 (b5 (fm (wB (ax PY (ai 1) (dQ i6 (ai 0))))
 (fF (ax cp (ai 0) (ai 1)))
 aP)
 (fF (wC (.int 0))))
def aN:fk:=λds Q=>∃ (ns:List Int) (k:Int),ds=[.list (ns.map .int),.int k]/\0<=k/\Q .sh (.int (ns.getD k.toNat 0))
def jB (ds Q) (h:aN ds Q):ds.length=["_law_script", "_law_k"].length:=by obtain⟨_,_,rfl,_⟩:=h;rfl
def lV:∀ ds Q,aN ds Q->fU { nx:=λ_=>Q .sh .non,rt:=Q } (aM 2 ds):=by
 rintro ds Q ⟨ns,k,rfl,hk,h⟩;unfold fU;walk_at "q";refine R.D (λhl=>?_) λhl=>?_
 ·walk_at "q";have hn:k.toNat<ns.length:=by lia
  refine⟨.int ns[k.toNat],?_,?_⟩
  ·have:=wo (xs:=ns.map D.int) (j:=k.toNat) (v:=.int ns[k.toNat]) (by simp[hn]);rwa[kF hk] at this
  ·show Q .sh _;simpa[List.getD,hn] using h
 ·walk_at "q";have:ns.getD k.toNat 0=0:=by
   have:ns.length<=k.toNat:=by lia
   simp[List.getD,IU this]
  rwa[this] at h
def jm:WS :=
 (b5 (eS 2 (wC (.str "abcdefghijklmnopqrstuvwxyz")))
 (b5 (eS 3 (ax iO (wC (.int 1)) (ax kH (ai 0) (wC (.int 6)))))
 (b5 (eS 0 (ax rj (ai 0) (wC (.int 6))))
 (b5 (eS 4 (fT bP))
 (b5 (yi (iz (ai 3)) (gN 5)
 (b5 (yk (qa 4) (ax kH (ai 0) (wC (.int 26))))
 (eS 0 (ax rj (ai 0) (wC (.int 26))))))
 (b5 (eS 6 (qC (wC (.str "")) (jr (qg (ai 4)) (gN 0) BM (ax cp (ai 1) (ai 0)) 1 [2])))
 (b5 (fm (wB (ax fE (ax kH (ax rj (ai 1) (wC (.int 6))) (wC (.int 3))) (wC (.int 1))))
 (fF (jr (uH (wC (.int 1)) (wC (.int 7))) (gN 0) BM (EZ (ax B_ (wC (.int 6)) (ai 1)) dM (iT (ai 0))) 1 [6]))
 aP)
 (b5 (eS 7 (ax kH (ai 1) (ai 3)))
 (b5 (eS 8 (fT bP))
 (b5 (yi (iz (wC (.int 6))) (gN 5)
 (b5 (eS 9 (ax cp (ai 2) (ax kH (ax iO (ax cp (ai 4) (ai 7)) (ax DE (wC (.int 5)) (ai 5))) (wC (.int 26)))))
 (yk (qa 8) (ax iO (ax iO (EZ (ai 6) dM (iT (ai 7))) (ai 9)) (EZ (ai 6) (iT (ax iO (ai 7) (wC (.int 1)))) dM)))))
 (jt 8)))))))))))
def jG{n d:Nat}{k:Int}(h0:0<=k)(h1:k<=n):HT.cE n d (some k)=k.toNat:=by simp only[HT.cE];rw[if_neg (by lia)];lia
def xH{x:Str}{k:Int}(h0:0<=k)(h1:k<=x.length):(nV x none (some k)).length=k.toNat:=by
 unfold nV Str.length at *
 simp only[kB,mB,Cb,Bi];rw[jG h0 (by simpa using h1)];simp[HT.cE];lia
def Dz{x:Str}{k:Int}(h0:0<=k)(h1:k<=x.length):(nV x (some k) none).length=x.length-k.toNat:=by
 unfold nV Str.length at *
 simp only[kB,mB,Cb,Bi];rw[jG h0 (by simpa using h1)];simp[HT.cE]
def Bu{n:Int}{z:Str}(h:lets z):lets (yn n z):=λc hc=>by unfold yn sg at hc;rw[List.toList_toArray] at hc;obtain⟨l,hl,sf⟩:=List.mem_flatten.mp hc;rw[List.eq_of_mem_replicate hl] at sf;exact h c sf
theorem mL:∀ (l:List Str),iW (l.map D.str)=some l
 |[]=>rfl
 |x :: l=>by simp[iW,mL l]
def Dy{p:Int}(h0:0<=p)(h1:p<26):e8 (sg abc) p=some (97+p.toNat):=by
 have:e8 (sg abc) ((p.toNat:Nat):Int)=some (97+p.toNat):=wo (by
  rw[o7];have:p.toNat<26:=by lia
  simp[this])
 rwa[kF h0] at this
theorem je:∀ l:List Nat,sg (Str.join "" (l.map λc=>(⟨#[c]⟩:Str)))=l
 |[]=>by decide +kernel
 |[c]=>rfl
 |c :: d :: l=>by have ih:=je (d :: l);show sg ((⟨#[c]⟩:Str) ++ "" ++ Str.join "" ((d :: l).map λc=>(⟨#[c]⟩:Str)))=_;rw[ji,ji,ih,show sg ("" : Str)=[] by decide +kernel];rfl
theorem tU:∀ l:List Nat,(l.map λ_=>1).sum=l.length
 |[]=>rfl
 |x :: l=>by simp[tU l];lia
def dw:fk:=λds Q=>∃ c t:Int,ds=[.int c,.int t]/\∀ names:List Str,names.length=6->(∀ n∈names,Open n)->Q (.ow true) (.list (names.map .str))
def mj (ds Q) (h:dw ds Q):ds.length=["_law_cell", "_law_turn"].length:=by obtain⟨_,_,rfl,_⟩:=h;rfl
def pQ:∀ ds Q,dw ds Q->jm { nx:=λ_=>Q .sh .non,rt:=Q } (aM 10 ds):=by
 rintro ds Q ⟨c,t,rfl,h⟩;unfold jm;walk_at "q";have s0:=oC c (show(6:Int)≠0 by decide);have s1:=oB c (show(0:Int)<6 by decide);generalize jS:1+c % 6=size at *
 refine⟨by lia,by lia,?_⟩;refine b8 _ (λi ρ=>∃ (cc:Int) (ps:List Int) (o:Option Sl),ps.length=i/\(∀ p∈ps,0<=p/\p<26)/\ρ=[some (.sh (.int cc)),some (.sh (.int t)),some (.sh (.str abc)),some (.sh (.int size)),some (.ow true (.list (ps.map .int))),o,none,none,none,none]) ⟨_,[],_,rfl,(λp hp=>nomatch hp),rfl⟩ ?_ ?_
 ·rintro i x ρ hx ⟨cc,ps,o,hl,hp,rfl⟩ N hN;obtain⟨hi,rfl⟩:=jb hx;walk_at "q";refine⟨by lia,?_⟩;rw[ints_app];refine hN _ ⟨_,ps++[cc % 26],_,by simp[hl],λp rh=>?_,rfl⟩;rcases eR.mp rh with h'|h'
  ·exact hp p h'
  ·rw[iP.mp h'];exact⟨oC _ (by decide),oB _ (by decide)⟩
 rintro ρ ⟨cc,ps,o,hl,hp,rfl⟩;rw[gM] at hl;walk_at "q";have e0:(Str.ofString "").length=0:=by decide
 refine cB (λ_=>true) (λd=>match d with
  |.int p=>.str ⟨#[97+p.toNat]⟩
  |d=>d) (λρ=>∃ o,ρ=[o,some (.sh (.str abc))]) _ _ _ ⟨_,rfl⟩ ?_ ?_
 ·rintro y hy ρ ⟨o,rfl⟩ N1 N2 _ h2;obtain⟨p,rh,rfl⟩:=iX.mp hy;walk_at "q";exact⟨_,Dy (hp p rh).1 (hp p rh).2,.inl rfl,h2 _ ⟨_,rfl⟩ rfl⟩
 rw[gj];refine⟨(ps.map λp=>97+p.toNat).map λc=>⟨#[c]⟩,?_,?_,?_⟩
 ·rw[mh,<- mL,mh,mh];rfl
 ·rw[e0,mh,Nat.mul_zero,TF];show((ps.map λp=>97+p.toNat).map λ_=>1).sum<=_;rw[tU,dz];lia
 have hw:=je (ps.map λp=>97+p.toNat);generalize Str.join "" ((ps.map λp=>97+p.toNat).map λc=>(⟨#[c]⟩:Str))=word at hw ⊢;have wl:word.length=size.toNat:=by
  have:(sg word).length=size.toNat:=by rw[hw,dz,hl]
  rw[<- this];unfold sg Str.length;simp
 have am':lets word:=λch hc=>by rw[hw] at hc;obtain⟨p,rh,rfl⟩:=iX.mp hc;have:=hp p rh;simp[isLet];lia
 refine R.D (λ_=>?_) λ_=>?_
 ·walk_at "q"
  refine cB (λ_=>true) (λd=>match d with
   |.int k=>.str (nV (yn 6 word) none (some k))
   |d=>d) (λρ=>∃ o,ρ=[o,some (.sh (.str word))]) _ _ _ ⟨_,rfl⟩ ?_ ?_
  ·rintro y hy ρ ⟨o,rfl⟩ N1 N2 _ h2;obtain⟨i,hi,rfl⟩:=BP hy;walk_at "q";exact⟨by lia,.inl rfl,h2 _ ⟨_,rfl⟩ rfl⟩
  ·rw[gj]
   have e6:(List.map (λd=>match d with
    |.int k=>D.str (nV (yn 6 word) none (some k))
    |d=>d) (iV 1 6))=((List.range 6).map λi=>nV (yn 6 word) none (some (1+(i:Nat):Int))).map D.str:=by
    unfold iV;rw[mh,mh];rfl
   rw[e6];refine h _ (by simp) λn hn=>?_;obtain⟨i,hi,rfl⟩:=iX.mp hn;have hi:i<6:=by simpa using hi
   have l1:(nV (yn 6 word) none (some (1+(i:Nat):Int))).length=(1+(i:Int)).toNat:=xH (by lia) (by rw[uM,wl];simp;lia);exact⟨by rw[l1];lia,by rw[l1];lia,ph (Bu am') _ _⟩
 ·walk_at "q";refine⟨by lia,?_⟩;have a0:=oC t (show size≠0 by lia);have a1:=oB t (show 0<size by lia);generalize t % size=at' at *
  have l1:(nV word none (some at')).length=at'.toNat:=xH a0 (by lia);have l2:(nV word (some (at'+1)) none).length=word.length-(at'+1).toNat:=Dz (by lia) (by lia);refine b8 _ (λi ρ=>∃ (names:List Str) (o5 o9:Option Sl),names.length=i/\(∀ n∈names,Open n)/\ρ=[some (.sh (.int cc)),some (.sh (.int t)),some (.sh (.str abc)),some (.sh (.int size)),some (.ow true (.list (ps.map .int))),o5,some (.sh (.str word)),some (.sh (.int at')),some (.ow true (.list (names.map .str))),o9]) ⟨[],_,_,rfl,(λn hn=>nomatch hn),rfl⟩ ?_ ?_
  ·rintro i x ρ hx ⟨names,o5,o9,hn,hd,rfl⟩ N hN;obtain⟨hi,rfl⟩:=jb hx;have hi:i<6:=hi;walk_at "q";have hat:at'.toNat<ps.length:=by lia
   refine⟨.int ps[at'.toNat],?_,?_⟩
   ·have:=wo (xs:=ps.map D.int) (j:=at'.toNat) (v:=.int ps[at'.toNat]) (by simp[hat]);rwa[kF a0] at this
   walk_at "q";obtain⟨ch,ec,lc⟩:=Dn (ps[at'.toNat]+5*(0+(i:Int)));refine⟨.inl ⟨by lia,by lia⟩,ch,ec,?_⟩;refine⟨by rw[l1,fG];lia,by rw[l1,l2,fG];lia,by lia,?_⟩;rw[Ay];refine hN _ ⟨names++[_],_,_,by simp[hn],λn FT=>?_,rfl⟩;rcases eR.mp FT with h'|h'
   ·exact hd n h'
   ·obtain rfl:n=_:=by simpa using h'
    refine⟨?_,?_,uF (uF (ph am' _ _) (BX lc)) (ph am' _ _)⟩
    ·rw[aV,aV,l1,l2,fG];lia
    ·rw[aV,aV,l1,l2,fG];lia
  ·rintro ρ ⟨names,o5,o9,hn,hd,rfl⟩;rw[gM] at hn;walk_at "q";exact h names hn hd
def eY:WS :=
 (b5 (eS 6 (ax kH (ai 3) (wC (.int 8))))
 (b5 (fm (wB (ax PY (ai 6) (wC (.int 5))))
 (yF [.inl (ax cp (fT (ak (wC (.str "some")) (ak (wC (.str "all")) bP))) (ax rj (ai 6) (wC (.int 3)))),.inl (ax cp (ai 2) (ax kH (ax rj (ai 3) (wC (.int 16))) (dQ i6 (ai 2)))),.inr 5])
 aP)
 (b5 (fm (wB (ax fE (ai 6) (wC (.int 5))))
 (yF [.inl (wC (.str "not")),.inr 5])
 aP)
 (b5 (eS 7 (fT bP))
 (b5 (yi (iz (ax kH (ax rj (ai 3) (wC (.int 16))) (wC (.int 4)))) (gN 8)
 (b5 (zv 5 (yk (qa 7) (ai 5)))
 (eS 5 (ax kH (ax iO (ax DE (wC (.int 7)) (ai 5)) (ax rj (ai 4) (ax iO (ai 8) (wC (.int 1))))) (ai 1)))))
 (fF (fq (ak (ax cp (fT (ak (wC (.str "and")) (ak (wC (.str "or")) bP))) (ax GW (ai 6) (wC (.int 6)))) (ak (dQ mR (ai 7)) bP)))))))))
def mH:WS :=
 (b5 (eS 3 (ax kH (ax DE (ax iO (ax kH (ai 0) (wC (.int 2147483647))) (wC (.int 1))) (ax iO (wC (.int 48271)) (ax DE (wC (.int 7)) (ai 1)))) (wC (.int 2147483647))))
 (b5 (eS 4 (ax kH (ax DE (ai 3) (wC (.int 69621))) (wC (.int 2147483629))))
 (b5 (fm (wB (ax fE (ai 1) (wC (.int 0))))
 (fF (ax cp (fT (ak (fq (ak (wC (.str "and")) (ak (fq bP) bP))) (ak (fq (ak (wC (.str "or")) (ak (fq bP) bP))) bP))) (ax kH (ai 3) (wC (.int 2)))))
 aP)
 (b5 (eS 5 (ax kH (ai 4) (ai 1)))
 (b5 (fm (wB (ax fE (ax kH (ax rj (ai 3) (wC (.int 8))) (wC (.int 2))) (wC (.int 1))))
 (eS 5 (ax GW (ax GW (ai 1) (wC (.int 1))) (ax kH (ai 4) (ax sE (ai 1) (wC (.int 3))))))
 aP)
 eY)))))
def gq:fk:=λds Q=>∃ (c k:Int) (names:List Str),ds=[.int c,.int k,.list (names.map .str)]/\0<=k/\k<=1000/\1<=names.length/\names.length<=100/\(∀ n∈names,yv n)/\∀ r:Rw,kQ k r->Q .sh (de r)
def pY (ds Q) (h:gq ds Q):ds.length=["_law_cell", "_law_k", "_law_names"].length:=by obtain⟨_,_,_,rfl,_⟩:=h;rfl
def dU'{Q:Md->D->Prop}{c k num more j:Int}{names:List Str}(k0:0<=k)(k1:k<=1000)(n1:1<=names.length)(n2:names.length<=100)(hd:∀ n∈names,yv n)(h:∀ r:Rw,kQ k r->Q .sh (de r))(h0:0<=j)(h1:j<k) :
  eY { nx:=λ_=>Q .sh .non,rt:=Q } [some (.sh (.int c)),some (.sh (.int k)),some (.sh (.list (names.map .str))),some (.sh (.int num)),some (.sh (.int more)),some (.sh (.int j)),none,none,none]:=by
 unfold eY;have nb:=oC num (show(8:Int)≠0 by decide);have nb1:=oB num (show(0:Int)<8 by decide);walk_at "q";have w0:num % 8 / 3=0\/num % 8 / 3=1\/num % 8 / 3=2:=by lia
 refine R.D (λh5=>?_) λh5=>?_
 ·walk_at "q";obtain⟨w,ew,hw⟩:∃ w:Str,e8 [D.str (Str.ofString "some"),D.str (Str.ofString "all")] (num % 8 / 3)=some (.str w)/\(w = "some"\/w = "all"):=by
   rcases w0 with e|e|e
   ·rw[e];exact⟨_,rfl,.inl rfl⟩
   ·rw[e];exact⟨_,rfl,.inr rfl⟩
   ·lia
  refine⟨_,ew,?_⟩;walk_at "q";obtain⟨n,hn,en⟩:=name_mod (names:=names) (num / 16) n1;refine⟨by lia,_,en,?_⟩;walk_at "q";exact h (.st w n j) ⟨hw,hd n hn,h0,h1⟩
 ·walk_at "q";refine R.D (λh6=>?_) λh6=>?_
  ·walk_at "q";exact h (.nt j) ⟨h0,h1⟩
  ·walk_at "q";have f0:=oC (num / 16) (show(4:Int)≠0 by decide);have f1:=oB (num / 16) (show(0:Int)<4 by decide);generalize num / 16 % 4=cnt at *
   refine⟨by lia,by lia,?_⟩;refine b8 _ (λi ρ=>∃ (ps:List Int) (j:Int) (o8:Option Sl),ps.length=i/\(∀ p∈ps,0<=p/\p<k)/\0<=j/\j<k/\ρ=[some (.sh (.int c)),some (.sh (.int k)),some (.sh (.list (names.map .str))),some (.sh (.int num)),some (.sh (.int more)),some (.sh (.int j)),some (.sh (.int (num % 8))),some (.ow true (.list (ps.map .int))),o8]) ⟨[],j,_,rfl,(λp hp=>nomatch hp),h0,h1,rfl⟩ ?_ ?_
   ·rintro i x ρ hx ⟨ps,j,o8,hl,hp,h0,h1,rfl⟩ N hN;obtain⟨hi,rfl⟩:=jb hx;walk_at "q";refine⟨by lia,.inl ⟨by lia,by lia⟩,by lia,by lia,?_⟩;rw[ints_app];refine hN _ ⟨ps++[j],_,_,by simp[hl],λp rh=>?_,oC _ (by lia),oB _ (by lia),rfl⟩;rcases eR.mp rh with h'|h'
    ·exact hp p h'
    ·rw[iP.mp h'];exact⟨h0,h1⟩
   ·rintro ρ ⟨ps,j,o8,hl,hp,h0,h1,rfl⟩;rw[gM] at hl;walk_at "q";obtain⟨w,ew,hw⟩:∃ w:Str,e8 [D.str (Str.ofString "and"),D.str (Str.ofString "or")] (num % 8-6)=some (.str w)/\(w = "and"\/w = "or"):=by
     have:num % 8-6=0\/num % 8-6=1:=by lia
     rcases this with e|e
     ·rw[e];exact⟨_,rfl,.inl rfl⟩
     ·rw[e];exact⟨_,rfl,.inr rfl⟩
    refine⟨_,ew,?_⟩;walk_at "q";refine⟨bf ps,?_⟩;exact h (.jn w ps) ⟨hw,by lia,hp⟩
def vq:∀ ds Q,gq ds Q->mH { nx:=λ_=>Q .sh .non,rt:=Q } (aM 9 ds):=by
 rintro ds Q ⟨c,k,names,rfl,k0,k1,n1,n2,hd,h⟩;unfold mH;walk_at "q";have m0:=oC c (show(2147483647:Int)≠0 by decide);have m1:=oB c (show(0:Int)<2147483647 by decide);refine⟨.inl ⟨by lia,by lia⟩,.inl ⟨by lia,by lia⟩,.inr ⟨by lia,by lia⟩,?_⟩;generalize qN':(c % 2147483647+1)*(48271+7*k) % 2147483647=num;generalize num*69621 % 2147483629=more;refine R.D (λhk=>?_) λhk=>?_
 ·subst hk;walk_at "q";have z0:=oC num (show(2:Int)≠0 by decide);have z1:=oB num (show(0:Int)<2 by decide);generalize num % 2=b at *
  have hb:b=0\/b=1:=by lia
  have q1:=h (.jn "and" []) ⟨.inl rfl,by decide,λp hp=>nomatch hp⟩;have q2:=h (.jn "or" []) ⟨.inr rfl,by decide,λp hp=>nomatch hp⟩;rcases hb with rfl|rfl
  ·exact⟨_,rfl,q1⟩
  ·exact⟨_,rfl,q2⟩
 ·walk_at "q";refine⟨by lia,?_⟩;have j0:=oC more (show k≠0 by lia);have j1:=oB more (show 0<k by lia);have jj:∀ mm:Int,mm=(if (3:Int)<k then 3 else k)->0<mm/\0<=k-1-more % mm/\k-1-more % mm<k:=λmm hm=>by
   have q0:0<mm:=by rw[hm];split<;>lia
   have q1:mm<=k:=by rw[hm];split<;>lia
   have q2:=oC more (show mm≠0 by lia);have q3:=oB more q0;lia
  refine R.D (λ_=>?_) λ_=>?_
  ·walk_at "q";exact⟨(jj _ rfl).1,dU' k0 k1 n1 n2 hd h (jj _ rfl).2.1 (jj _ rfl).2.2⟩
  ·walk_at "q";exact dU' k0 k1 n1 n2 hd h j0 j1
def bD:WS :=
 (fm (wB (ax (G0 false) (ax cp (ai 2) (wC (.int 0))) (fq (ak (wC (.str "some")) (ak (wC (.str "all")) bP)))))
 (yk (qa 1) (ax sE (wC (.int 201)) (ax iO (wC (.int 2)) (ax cp (ai 1) (ax cp (ai 2) (wC (.int 2)))))))
 (fm (wB (ax fE (ax cp (ai 2) (wC (.int 0))) (wC (.str "not"))))
 (yk (qa 1) (ax sE (wC (.int 201)) (ax iO (wC (.int 1)) (ax cp (ai 1) (ax cp (ai 2) (wC (.int 1)))))))
 (b5 (eS 3 (wC (.int 1)))
 (b5 (fm (wB (ax L5 (dQ i6 (ax cp (ai 2) (wC (.int 1)))) (wC (.int 0))))
 (eS 3 (ax GW (dQ i6 (ax cp (ai 2) (wC (.int 1)))) (wC (.int 1))))
 aP)
 (b5 (zv 2 (yi (zx (ax cp (ai 2) (wC (.int 1)))) (gN 4)
 (eS 3 (ax iO (ai 3) (ax cp (ai 1) (ai 4))))))
 (yk (qa 1) (ax sE (wC (.int 201)) (ai 3))))))))
def gD:WS :=
 (b5 (eS 1 (fT bP))
 (b5 (zv 0 (yi (jo (ai 0)) (gN 2)
 bD))
 (fF (ax cp (ai 1) (dQ zk (wC (.int 1)))))))
def kf(o:Option (List Str)):Int:=match o with
 |some ws=>ws.length
 |none=>201
def cR:fk:=λds Q=>∃ l:List Rw,ds=[.list (l.map de)]/\eB l/\1<=l.length/\l.length<=2000/\Q .sh (.int (kf (WA.at l ((l.length-1:Nat):Int))))
def k_ (ds Q) (h:cR ds Q):ds.length=["_law_scroll_here"].length:=by obtain⟨_,rfl,_⟩:=h;rfl
def C_{o:Option (List Str)}(h:∀ ws,o=some ws->ws.length<=200):0<=kf o/\kf o<=201:=by
 cases o with
 |none=>exact⟨by decide,by decide⟩
 |some ws=>have:=h ws rfl;exact⟨by show(0:Int)<=ws.length;lia,by show(ws.length:Int)<=201;lia⟩
def q_(X:List Str):kf (kz (some X))=if (X.length:Int)<201 then (X.length:Int) else 201:=by
 unfold kz;rw[TN];split
 ·rw[if_pos (by lia)];rfl
 ·rw[if_neg (by lia)];rfl
theorem vQ(j:Str):∀ l:List (List Str),l≠[]->(qf j l).length+1=l.length+(l.map (·.length)).sum
 |[],h=>absurd rfl h
 |[p],_=>by simp[qf];lia
 |p :: q :: l,_=>by have ih:=vQ j (q :: l) (by simp);show(j :: (p++qf j (q :: l))).length+1=_;simp only[jv,iq,fR,NM] at ih ⊢;lia
def vx(g:Int->Option (List Str))(ps:List Int):Int:=(ps.map λp=>kf (g p)).sum
theorem CT{g:Int->Option (List Str)}(hg:∀ j,0<=kf (g j)):∀ ps,0<=vx g ps
 |[]=>by simp[vx]
 |p :: ps=>by
  have:=CT hg ps;have:=hg p;simp only[vx,fR,NM] at *
  lia
theorem ye{g:Int->Option (List Str)}(hg:∀ j,0<=kf (g j)):∀ ps:List Int,(fI (ps.map g)=none->201<=vx g ps)/\∀ l,fI (ps.map g)=some l->l.length=ps.length/\vx g ps=((l.map (·.length)).sum:Nat)
 |[]=>⟨λz=>(nomatch z),λl z=>by cases z;exact⟨rfl,rfl⟩⟩
 |p :: ps=>by
  obtain⟨i1,i2⟩:=ye hg ps;have nn:=CT hg ps;have n1:=hg p;have es:vx g (p :: ps)=kf (g p)+vx g ps:=by simp[vx]
  rw[es]
  cases e:g p with
  |none =>rw[fR,e];exact⟨λ_=>(by show(201:Int)<=201+_;lia),λl z=>(nomatch z)⟩
  |some w =>
   rw[fR,e];rw[e] at n1;refine⟨λz=>?_,λl z=>?_⟩
   ·have:=i1 (V2.mp (show(fI (ps.map g)).map (w :: ·)=none from z));lia
   ·obtain⟨m,em,rfl⟩:=kr.mp (show(fI (ps.map g)).map (w :: ·)=some l from z);obtain⟨a,b⟩:=i2 m em;refine⟨by simp[a],?_⟩;rw[b];show(w.length:Int)+_=_;simp
def A0(ps:List Int):Int:=if ps.length=0 then 1 else (ps.length:Int)-1
def J_{g:Int->Option (List Str)}(hg:∀ j,0<=kf (g j))(w:Str)(ps:List Int):kf (tT (.jn w ps) g)=if A0 ps+vx g ps<201 then A0 ps+vx g ps else 201:=by
 obtain⟨i1,i2⟩:=ye hg ps;have m0:0<=A0 ps:=by unfold A0;split<;>lia
 show kf (kz ((fI (ps.map g)).map (E9 w)))=_
 cases e:fI (ps.map g) with
 |none =>have:=i1 e;rw[if_neg (by lia)];rfl
 |some l =>
  obtain⟨a,b⟩:=i2 l e;have eq:((E9 w l).length:Int)=A0 ps+vx g ps:=by
   rw[b];unfold A0;rw[<- a]
   cases l with
   |nil=>rfl
   |cons p l =>have:=vQ (aK w) (p :: l) (by simp);rw[if_neg (by simp)];show((qf (aK w) (p :: l)).length:Int)=_;lia
  rw[NS,q_,eq]
def yU{vs:List (Option (List Str))}{k:Int}{r:Rw}{E:dH}{o0 o3 o4:Option Sl}(ok:kQ k r)(hk:k<=vs.length)(vl:vs.length<=2000)(hv:∀ o∈vs,zS o)(hx:∀ o3 o4,E.nx [o0,some (.ow true (.list (vs.map (λo=>D.int (kf o))++[.int (kf (tT r λj=>vs.getD j.toNat none))]))),some (.sh (de r)),o3,o4]) :
  bD E [o0,some (.ow true (.list (vs.map λo=>D.int (kf o)))),some (.sh (de r)),o3,o4]:=by
 have AZ:∀ j:Int,zS (vs.getD j.toNat none):=λj=>by
  rw[xA]
  cases e:vs[j.toNat]? with
  |none=>exact λws z=>nomatch z
  |some o=>exact hv o (rV e)
 have atj:∀ j,0<=j->j<k->e8 (vs.map λo=>D.int (kf o)) j=some (.int (kf (vs.getD j.toNat none))):=λj j0 j1=>by
  have:=wo (xs:=vs.map λo=>D.int (kf o)) (j:=j.toNat) (v:=.int (kf (vs.getD j.toNat none))) (by
   rw[mz,xA,qk (by lia)];rfl)
  rwa[kF j0] at this
 unfold bD
 cases r with
 |st w d j =>
  rw[show de (.st w d j)=.tup [.str w,.str d,.int j] from rfl] at *
  walk_at "q";refine⟨rfl,rfl,?_⟩;rw[nq];refine R.T (decide_eq_true ok.1) ?_;walk_at "q";refine⟨_,atj j ok.2.2.1 ok.2.2.2,?_⟩;have ec:kf (tT (.st w d j) λj=>vs.getD j.toNat none)=if 2+kf (vs.getD j.toNat none)<201 then 2+kf (vs.getD j.toNat none) else 201:=by
   show kf (kz ((vs.getD j.toNat none).map _))=_
   cases vs.getD j.toNat none with
   |none=>rfl
   |some p=>rw[NS,q_];show(if ((p.length+1+1:Nat):Int)<201 then ((p.length+1+1:Nat):Int) else 201)=if 2+(p.length:Int)<201 then 2+(p.length:Int) else 201;rw[show((p.length+1+1:Nat):Int)=2+(p.length:Int) by lia]
  rw[ec] at hx;walk_at "q";exact⟨by lia,hx _ _⟩
 |nt j =>
  rw[show de (.nt j)=.tup [.str "not",.int j] from rfl] at *
  walk_at "q";refine⟨rfl,rfl,?_⟩;rw[nq];refine R.F (decide_eq_false λz=>z.elim DJ.1 DJ.2) ?_;have ec:kf (tT (.nt j) λj=>vs.getD j.toNat none)=if 1+kf (vs.getD j.toNat none)<201 then 1+kf (vs.getD j.toNat none) else 201:=by
   show kf (kz ((vs.getD j.toNat none).map _))=_
   cases vs.getD j.toNat none with
   |none=>rfl
   |some p=>rw[NS,q_];show(if ((p.length+1:Nat):Int)<201 then ((p.length+1:Nat):Int) else 201)=if 1+(p.length:Int)<201 then 1+(p.length:Int) else 201;rw[show((p.length+1:Nat):Int)=1+(p.length:Int) by lia]
  rw[ec] at hx;walk_at "q";refine⟨_,atj j ok.1 ok.2,?_⟩;walk_at "q";exact⟨by lia,hx _ _⟩
 |jn w ps =>
  rw[show de (.jn w ps)=.tup [.str w,.tup (ps.map .int)] from rfl] at *
  walk_at "q";refine⟨rfl,rfl,?_⟩;rw[nq];refine R.F (decide_eq_false λz=>z.elim (xk ok.1).1 (xk ok.1).2.1) ?_;walk_at "q";refine R.F (decide_eq_false (xk ok.1).2.2) ?_;have hg:∀ j:Int,0<=kf (vs.getD j.toNat none):=λj=>(C_ λws z=>(AZ j ws z).1).1;rw[J_ hg] at hx;have qO':∀ j:Int,kf (vs.getD j.toNat none)<=201:=λj=>(C_ λws z=>(AZ j ws z).1).2;have rest:dX (gN 4) (eS 3 (ax iO (ai 3) (ax cp (ai 1) (ai 4)))) { nx:=yk (qa 1) (ax sE (wC (D.int 201)) (ai 3)) E,rt:=E.rt,bk:=E.bk,ct:=E.ct } (ps.map D.int) [o0,some (.ow true (.list (vs.map λo=>D.int (kf o)))),some (.sh (.tup [.str w,.tup (ps.map .int)])),some (.sh (.int (A0 ps))),o4]:=by
   refine b8 _ (λi ρ=>∃ o4,ρ=[o0,some (.ow true (.list (vs.map λo=>D.int (kf o)))),some (.sh (.tup [.str w,.tup (ps.map .int)])),some (.sh (.int (A0 ps+vx (λj=>vs.getD j.toNat none) (ps.take i)))),o4]) ⟨_,by rw[List.take_zero,show vx (λj=>vs.getD j.toNat none) []=0 from rfl,Int.add_zero]⟩ ?_ ?_
   ·rintro i x ρ hx' ⟨o4,rfl⟩ N hN;rw[mz] at hx';obtain⟨p,hp,rfl⟩:=kr.1 hx';have pm:p∈ps:=rV hp;obtain⟨p0,p1⟩:=ok.2.2 p pm;have et:vx (λj=>vs.getD j.toNat none) (ps.take (i+1))=vx (λj=>vs.getD j.toNat none) (ps.take i)+kf (vs.getD p.toNat none):=by rw[Ap,hp];simp[vx]
    walk_at "q";refine⟨_,atj p p0 p1,?_⟩;walk_at "q";exact hN _ ⟨_,by rw[et,Int.add_assoc]⟩
   ·rintro ρ ⟨o4,rfl⟩;rw[dz,A9];walk_at "q";exact⟨by lia,hx _ _⟩
  walk_at "q";refine R.D (λe=>?_) λe=>?_
  ·walk_at "q";rw[show(ps.length:Int)-1=A0 ps by unfold A0;rw[if_neg (by lia)]];exact rest
  ·walk_at "q";rw[show(1:Int)=A0 ps by unfold A0;rw[if_pos (by lia)]];exact rest
def oH:∀ ds Q,cR ds Q->gD { nx:=λ_=>Q .sh .non,rt:=Q } (aM 5 ds):=by
 rintro ds Q ⟨l,rfl,sc,h1,h2,h⟩;obtain⟨w0,e0⟩:∃ w,w=bD:=⟨_,rfl⟩
 unfold gD;rw[<- e0];walk_at "q";refine b8 _ (λi ρ=>∃ o2 o3 o4,ρ=[some (.sh (.list (l.map de))),some (.ow true (.list ((WA.vals (l.take i)).map λo=>D.int (kf o)))),o2,o3,o4]) ⟨none,none,none,rfl⟩ ?_ ?_
 ·rintro i x ρ hx ⟨o2,o3,o4,rfl⟩ N hN;rw[mz] at hx;obtain⟨r,hr,rfl⟩:=kr.mp hx;have hi:=(ng.mp hr).1;have tk:WA.vals (l.take (i+1))=WA.vals (l.take i)++[WA.H r (WA.at (l.take i))]:=by rw[Ap,hr];exact jJ WA _ _
  have vl:(WA.vals (l.take i)).length=i:=by rw[cz,mB];lia
  have Fh:=pD sc i (by lia);walk_at "q";rw[e0];refine yU (sc i r hr) (by lia) (by lia) Fh λo3 o4=>?_;refine hN _ ⟨some (.sh (de r)),o3,o4,?_⟩;rw[tk,nh];rfl
 ·rintro ρ ⟨o2,o3,o4,rfl⟩;rw[dz,A9];have z5:e8 ((WA.vals l).map λo=>D.int (kf o)) (-1)=some (.int (kf (WA.at l ((l.length-1:Nat):Int)))):=by
   have vl:=cz WA l;have lI:WA.vals l≠[]:=λz=>by rw[z] at vl;simp at vl;lia
   have el:=(Tf lI).symm;have eg:(WA.vals l).getLast lI=WA.at l ((l.length-1:Nat):Int):=by unfold Sm.at;rw[CB,<- vl,xA,<- List.getLast?_eq_getElem?,xdB lI];rfl
   conv=>lhs;rw[el,nh,eg]
   exact WQ _ _
  walk_at "q";refine⟨_,z5,?_⟩;walk_at "q";exact h
def jW:WS :=
 (b5 (eS 1 (Vp "and" "yes" "or" "no"))
 (b5 (eS 2 (Vp "and" "both" "or" "either"))
 (b5 (fm (wB (ax (G0 false) (ax cp (ai 0) (wC (.int 0))) (fq (ak (wC (.str "some")) (ak (wC (.str "all")) bP)))))
 (fF (fq (ak (fT (ak (ax cp (ai 0) (wC (.int 0))) (ak (ax cp (ai 0) (wC (.int 1))) bP))) (ak (fT (ak (ax cp (ai 0) (wC (.int 2))) bP)) bP))))
 aP)
 (b5 (fm (wB (ax fE (ax cp (ai 0) (wC (.int 0))) (wC (.str "not"))))
 (fF (fq (ak (fT (ak (wC (.str "not")) bP)) (ak (fT (ak (ax cp (ai 0) (wC (.int 1))) bP)) bP))))
 aP)
 (b5 (fm (wB (ax fE (dQ i6 (ax cp (ai 0) (wC (.int 1)))) (wC (.int 0))))
 (fF (fq (ak (fT (ak (ax cp (ai 1) (ax cp (ai 0) (wC (.int 0)))) bP)) (ak (fT bP) bP))))
 aP)
 (b5 (fm (wB (ax fE (dQ i6 (ax cp (ai 0) (wC (.int 1)))) (wC (.int 1))))
 (fF (fq (ak (fT bP) (ak (fT (ak (ax cp (ax cp (ai 0) (wC (.int 1))) (wC (.int 0))) bP)) bP))))
 aP)
 (fF (fq (ak (fT (ak (ax cp (ai 2) (ax cp (ai 0) (wC (.int 0)))) bP)) (ak (fT (ak (ax cp (ax cp (ai 0) (wC (.int 1))) (wC (.int 0))) (ak (fq (ak (ax cp (ai 0) (wC (.int 0))) (ak (EZ (ax cp (ai 0) (wC (.int 1))) (iT (wC (.int 1))) dM) bP))) bP))) bP))))))))))
inductive Itm where
 |num (k:Nat)
 |rst (w:Str) (ps:List Int)
def mS:Itm->D
 |.num k=>.int k
 |.rst w ps=>.tup [.str w,.tup (ps.map .int)]
def kA:Rw->List Str × List Itm
 |.st w d j=>([w,d],[.num j.toNat])
 |.nt j=>(["not"],[.num j.toNat])
 |.jn w []=>([bu w],[])
 |.jn _ [p]=>([],[.num p.toNat])
 |.jn w (p :: q :: ps)=>([aK w],[.num p.toNat,.rst w (q :: ps)])
def eN:fk:=λds Q=>∃ (k:Int) (r:Rw),ds=[de r]/\kQ k r/\Q (.ow true) (.tup [.list ((kA r).1.map .str),.list ((kA r).2.map mS)])
def nZ (ds Q) (h:eN ds Q):ds.length=["_law_row_here"].length:=by obtain⟨_,_,rfl,_⟩:=h;rfl
def qO:∀ ds Q,eN ds Q->jW { nx:=λ_=>Q .sh .non,rt:=Q } (aM 3 ds):=by
 rintro ds Q ⟨k,r,rfl,ok,h⟩;unfold jW
 cases r with
 |st w d j =>rw[show de (.st w d j)=.tup [.str w,.str d,.int j] from rfl];have hn:((j.toNat:Nat):Int)=j:=kF ok.2.2.1;have h:Q (.ow true) (.tup [.list [.str w,.str d],.list [.int ((j.toNat:Nat):Int)]]):=h;rw[hn] at h;walk_at "q";refine⟨rfl,rfl,?_⟩;rw[nq];refine R.T (decide_eq_true ok.1) ?_;walk_at "q";exact h
 |nt j =>rw[show de (.nt j)=.tup [.str "not",.int j] from rfl];have hn:((j.toNat:Nat):Int)=j:=kF ok.1;have h:Q (.ow true) (.tup [.list [.str "not"],.list [.int ((j.toNat:Nat):Int)]]):=h;rw[hn] at h;walk_at "q";refine⟨rfl,rfl,?_⟩;rw[nq];refine R.F (decide_eq_false λz=>z.elim DJ.1 DJ.2) ?_;walk_at "q";exact h
 |jn w ps =>
  have ne:((.inr "and" : Key)=.inr "or")=False:=by rw[eq_iff_iff];exact⟨λz=>absurd z (by decide +kernel),False.elim⟩
  have lY':aK "or" = "either" := by decide +kernel
  have g1:mM [((.inr "and" : Key),D.str "yes"),(.inr "or",D.str "no")] (.inr w)=some (.str (bu w)):=by
   rcases ok.1 with rfl|rfl
   ·rfl
   ·rw[nR];simp only[mM,List.find?,ne,decide_false,decide_true,NS]
  have g2:mM [((.inr "and" : Key),D.str "both"),(.inr "or",D.str "either")] (.inr w)=some (.str (aK w)):=by
   rcases ok.1 with rfl|rfl
   ·rfl
   ·rw[lY'];simp only[mM,List.find?,ne,decide_false,decide_true,NS]
  have pb:=ok.2.2;rw[show de (.jn w ps)=.tup [.str w,.tup (ps.map .int)] from rfl];walk_at "q";refine⟨rfl,rfl,?_⟩;rw[nq];refine R.F (decide_eq_false λz=>z.elim (xk ok.1).1 (xk ok.1).2.1) ?_;walk_at "q";refine R.F (decide_eq_false (xk ok.1).2.2) ?_;walk_at "q";rcases ps with _|⟨p,_|⟨q,ps⟩⟩
  ·refine R.T (decide_eq_true rfl) ?_;walk_at "q";refine⟨_,_,rfl,g1,?_⟩;walk_at "q";exact h
  ·have hn:((p.toNat:Nat):Int)=p:=kF (pb p (by simp)).1;have h:Q (.ow true) (.tup [.list [],.list [.int ((p.toNat:Nat):Int)]]):=h;rw[hn] at h;refine R.F (decide_eq_false (by simp)) ?_;walk_at "q";refine R.T (decide_eq_true rfl) ?_;walk_at "q";exact h
  ·have hn:((p.toNat:Nat):Int)=p:=kF (pb p (by simp)).1;have h:Q (.ow true) (.tup [.list [.str (aK w)],.list [.int ((p.toNat:Nat):Int),.tup [.str w,.tup ((q :: ps).map .int)]]]):=h;rw[hn] at h;refine R.F (decide_eq_false (by simp;lia)) ?_;walk_at "q";refine R.F (decide_eq_false (by simp;lia)) ?_;walk_at "q";refine⟨_,_,rfl,g2,?_⟩;walk_at "q";have ce:ox (D.int p :: D.int q :: ps.map D.int) (some 1) none=D.int q :: ps.map D.int:=by unfold ox;simp only[HT.cE,jv,dz];rw[if_neg (by decide),show min (Int.toNat 1) (ps.length+1+1)=1 by lia,Nat.add_sub_cancel];exact NF (by simp)
   have fc:dn (D.int q :: ps.map D.int)=true:=by have:=bf (q :: ps);rwa[fR] at this
   rw[ce];simp only[fc];refine⟨bf _,λz=>?_,?_⟩
   ·have:=z.1;simp[HT.cE] at this
   ·exact h
def xo(g:Int->Option (List Str)):Itm->Option (List Str)
 |.num k=>g k
 |.rst w ps=>tT (.jn w ps) g
def oW{o:Option (List Str)}{ws:List Str}(h:kz o=some ws):o=some ws/\ws.length<=200:=by
 cases o with
 |none=>exact nomatch h
 |some p =>
  have h:(if p.length<=200 then some p else none)=some ws:=h;split at h
  ·cases h;exact⟨rfl,by assumption⟩
  ·exact nomatch h
def bZ{o:Option (List Str)}{l:List (Option (List Str))}{x:List (List Str)}(h:fI (o :: l)=some x):∃ a y,o=some a/\fI l=some y/\x=a :: y:=by
 cases o with
 |none=>exact nomatch h
 |some a =>have h:(fI l).map (a :: ·)=some x:=h;obtain⟨y,hy,e⟩:=kr.1 h;exact⟨a,y,rfl,hy,e.symm⟩
def Bb{g:Int->Option (List Str)}{k:Int}{r:Rw}{ws:List Str}(ok:kQ k r)(h:tT r g=some ws):∃ rs,fI ((kA r).2.map (xo g))=some rs/\ws=(kA r).1++rs.flatten:=by
 obtain⟨h,hl⟩:=oW h
 cases r with
 |st w d j =>
  obtain⟨a,ha,rfl⟩:=kr.1 h;have e:xo g (.num j.toNat)=some a:=by show g ((j.toNat:Nat):Int)=_;rw[kF ok.2.2.1];exact ha
  refine⟨[a],?_,?_⟩
  ·show fI [xo g (.num j.toNat)]=_;rw[e];rfl
  ·simp[kA]
 |nt j =>
  obtain⟨a,ha,rfl⟩:=kr.1 h;have e:xo g (.num j.toNat)=some a:=by show g ((j.toNat:Nat):Int)=_;rw[kF ok.1];exact ha
  refine⟨[a],?_,?_⟩
  ·show fI [xo g (.num j.toNat)]=_;rw[e];rfl
  ·simp[kA]
 |jn w ps =>
  obtain⟨x,hx,e⟩:=kr.1 h;have pb:=ok.2.2;rcases ps with _|⟨p,_|⟨q,ps⟩⟩
  ·cases hx;cases e;exact⟨[],rfl,rfl⟩
  ·obtain⟨a,y,ha,hy,rfl⟩:=bZ hx;cases hy;cases e;have e:xo g (.num p.toNat)=some a:=by show g ((p.toNat:Nat):Int)=_;rw[kF (pb p (by simp)).1];exact ha
   refine⟨[a],?_,?_⟩
   ·show fI [xo g (.num p.toNat)]=_;rw[e];rfl
   ·simp[kA,E9,qf]
  ·obtain⟨a,y,ha,hy,rfl⟩:=bZ hx;obtain⟨b,z,hb,hz,rfl⟩:=bZ hy;have e:aK w :: (a++qf (aK w) (b :: z))=ws:=e;subst e;have e1:xo g (.num p.toNat)=some a:=by show g ((p.toNat:Nat):Int)=_;rw[kF (pb p (by simp)).1];exact ha
   have e2:xo g (.rst w (q :: ps))=some (qf (aK w) (b :: z)):=by show kz ((fI ((q :: ps).map g)).map (E9 w))=_;rw[hy];show(if (qf (aK w) (b :: z)).length<=200 then some (qf (aK w) (b :: z)) else none)=_;rw[if_pos (by simp only[jv,iq] at hl;lia)]
   refine⟨[a,qf (aK w) (b :: z)],?_,?_⟩
   ·show fI [xo g (.num p.toNat),xo g (.rst w (q :: ps))]=_;rw[e1,e2];rfl
   ·simp[kA]
def jh:WS :=
 (b5 (eS 2 (dQ i6 (ai 0)))
 (b5 (zv 2 (eS 3 (fT (ak (fq (ak (wC (.str "not")) (ak (ai 2) bP))) (ak (fq (ak (wC (.str "not")) (ak (ax iO (ai 2) (wC (.int 1))) bP))) (ak (fq (ak (wC (.str "xor")) (ak (fq bP) bP))) (ak (fq (ak (wC (.str "and")) (ak (fq (ak (wC (.int 0)) (ak (dQ zk (wC (.int 1))) bP))) bP))) (ak (fq (ak (wC (.str "all")) (ak (wC (.str "*")) (ak (dQ zk (wC (.int 1))) bP)))) (ak (fq (ak (wC (.str "or")) (ak (fT (ak (wC (.int 0)) bP)) bP))) (ak (fq (ak (wC (.str "some")) bP)) bP))))))))))
 (b5 (eS 4 (fT (ak (wC .non) (ak (fT bP) (ak (dQ mR (ai 0)) (ak (ax vp (fT (ak (fq (ak (wC (.str "and")) (ak (fq bP) bP))) bP)) (wC (.int 2001))) (ak (wC (.str "yes")) (ak (wC (.int 7)) (ak uN bP)))))))))
 (b5 (fm (wB (ax fE (ax kH (ai 1) (wC (.int 3))) (wC (.int 0))))
 (uP 4 (ax kH (ax rj (ai 1) (wC (.int 3))) (wC (.int 7))))
 aP)
 (zv 3 (fF (ax iO (ai 0) (ZV (fT (ak (ax cp (ai 3) (ax kH (ax rj (ai 1) (wC (.int 3))) (wC (.int 7)))) bP))))))))))
def dF:fk:=λds Q=>∃ (l:List Rw) (c:Int),ds=[.list (l.map de),.int c]/\eB l/\1<=l.length/\l.length<=1000/\∀ m d,DL d=false->Q m d
def lX (ds Q) (h:dF ds Q):ds.length=["_law_scroll_here", "_law_cell"].length:=by obtain⟨_,_,rfl,_⟩:=h;rfl
def Ig {n:Int} (h0:0<=n) (h1:n<=4000) {ρ:L2.Q.Env} {Q:Md->D->Prop} (h:∀ X:List D,X.length=n.toNat->dn X=true->Q (.ow true) (.list X)):(ax vp (fT (ak (fq (ak (wC (.str "and")) (ak (fq bP) bP))) bP)) (wC (.int n))) ρ Q:=by
 have fl:∀ k,dn (List.replicate k [D.tup [.str "and",.tup []]]).flatten=true:=λk=>by
  induction k with
  |zero=>rfl
  |succ k ih=>rw[B9,An,List.singleton_append];simp only[dn,ih];rfl
 have:=h (List.replicate n.toNat [D.tup [.str "and",.tup []]]).flatten (by simp) (fl _);walk_at "q";exact⟨⟨h0,h1⟩,this⟩
def j5{l:List Rw}{x:D}(h:MY l.length x=false):DL (.list (l.map de++[x]))=false:=by show(decide _ && List.all _ _)=false;rw[Bool.and_eq_false_iff];refine .inr (List.all_eq_false.mpr ⟨(x,l.length),FE.mpr (by simp),by rw[h];simp⟩)
def Cg{P:D->Prop}{a b c d e f g:D}{i:Int}(h0:0<=i)(h1:i<7)(ha:P a)(hb:P b)(hc:P c)(hd:P d)(he:P e)(hf:P f)(hg:P g):∃ x,e8 [a,b,c,d,e,f,g] i=some x/\P x:=by
 have hi:i=0\/i=1\/i=2\/i=3\/i=4\/i=5\/i=6:=by lia
 rcases hi with rfl|rfl|rfl|rfl|rfl|rfl|rfl<;>exact⟨_,rfl,by assumption⟩
def qd:∀ ds Q,dF ds Q->jh { nx:=λ_=>Q .sh .non,rt:=Q } (aM 5 ds):=by
 rintro ds Q ⟨l,c,rfl,sc,l1,l2,h⟩;obtain⟨wm,em⟩:∃ w,w=ax vp (fT (ak (fq (ak (wC (.str "and")) (ak (fq bP) bP))) bP)) (wC (.int 2001)):=⟨_,rfl⟩
 unfold jh;rw[<- em];have c0:=oC (c / 3) (show(7:Int)≠0 by decide);have c1:=oB (c / 3) (show(0:Int)<7 by decide);walk_at "q";refine⟨bV l,?_⟩;rw[em];refine Ig (by decide) (by decide) λX hX fX=>?_;walk_at "q";refine R.D (λe=>?_) λe=>?_
 ·walk_at "q";rw[bV];obtain⟨d,e1,e2⟩:=Cg (P:=λd=>DL d=false) (a:=.non) (b:=.list []) (c:=.tup (l.map de)) (d:=.list X) (e:=.str "yes") (f:=.int 7) (g:=.dK []) c0 c1 rfl rfl rfl (by show(decide _ && _)=false;rw[decide_eq_false (by lia)];rfl) rfl rfl rfl;refine⟨d,e1,?_⟩;exact h _ _ e2
 ·walk_at "q";have hi:c / 3 % 7=0\/c / 3 % 7=1\/c / 3 % 7=2\/c / 3 % 7=3\/c / 3 % 7=4\/c / 3 % 7=5\/c / 3 % 7=6:=by lia
  rcases hi with hi|hi|hi|hi|hi|hi|hi<;>rw[hi]<;>refine⟨_,rfl,?_⟩<;>walk_at "q"
  ·exact⟨by lia,.inl ⟨bV l,h _ _ (j5 (by show tS _ "not" [.int _]=false;rw[Eg];exact decide_eq_false (by lia)))⟩⟩
  ·exact⟨by lia,.inl ⟨bV l,h _ _ (j5 (by show tS _ "not" [.int _]=false;rw[Eg];exact decide_eq_false (by lia)))⟩⟩
  ·exact⟨by lia,.inl ⟨bV l,h _ _ (j5 (by
    have e:¬ (("xor" : Str) = "some"\/("xor" : Str) = "all")/\("xor" : Str) ≠ "not"/\¬ (("xor" : Str) = "and"\/("xor" : Str) = "or"):=by decide +kernel
    show tS _ "xor" [.tup []]=false;unfold tS;rw[if_neg e.1,if_neg e.2.1,if_neg e.2.2]))⟩⟩
  ·exact⟨by lia,.inl ⟨bV l,h _ _ (j5 (by show tS _ "and" [.tup [.int 0,.int (-1)]]=false;rw[wJ (.inl rfl)];show(true && ([D.int 0,.int (-1)].all (yA _)))=false;simp[yA]))⟩⟩
  ·exact⟨by lia,.inl ⟨bV l,h _ _ (j5 (by show tS _ "all" [.str "*",.int (-1)]=false;rw[wI (.inr rfl)];show(MX (.str "*") && decide ((0:Int)<=-1/\(-1:Int)<l.length))=false;rw[decide_eq_false (by lia),Bool.and_false]))⟩⟩
  ·exact⟨by lia,.inr (h _ _ (j5 (by show tS _ "or" [.list [.int 0]]=false;rw[wJ (.inr rfl)];rfl)))⟩
  ·exact⟨by lia,.inl ⟨bV l,h _ _ (j5 (show tS l.length "some" []=false from wI (.inl rfl)))⟩⟩
def a_:WS :=
 (b5 (eS 3 (fT (ak (fq (ak (wC (.str "and")) (ak (fq bP) bP))) (ak (fq (ak (wC (.str "or")) (ak (fq bP) bP))) (ak (fq (ak (wC (.str "and")) (ak (fq (ak (wC (.int 1)) bP)) bP))) (ak (fq (ak (wC (.str "not")) (ak (wC (.int 0)) bP))) (ak (fq (ak (ax cp (fT (ak (wC (.str "and")) (ak (wC (.str "or")) bP))) (ax kH (ai 0) (wC (.int 2)))) (ak (dQ mR (ai 2)) bP))) bP)))))))
 (b5 (yi (iz (ax cp (fT (ak (wC (.int 0)) (ak (wC (.int 1)) (ak (wC (.int 0)) (ak (wC (.int 2)) bP))))) (ax kH (ax rj (ai 0) (wC (.int 24))) (wC (.int 4))))) (gN 4)
 (yk (qa 3) (ax cp (fT (ak (fq (ak (wC (.str "not")) (ak (ax iO (wC (.int 4)) (ai 4)) bP))) (ak (fq (ak (wC (.str "some")) (ak (ax cp (ai 1) (ai 4)) (ak (ax iO (wC (.int 4)) (ai 4)) bP)))) bP))) (ax kH (ax rj (ai 0) (wC (.int 96))) (wC (.int 2))))))
 (jt 3)))
def cJ:WS :=
 (b5 (eS 2 (jr (iz (ax iO (wC (.int 99)) (ax kH (ax rj (ai 0) (wC (.int 2))) (wC (.int 3))))) (gN 0) BM (ax kH (ax DE (ax DE (ai 0) (ai 0)) (ax kH (ai 1) (wC (.int 97)))) (wC (.int 3))) 1 [0]))
 (b5 (fm (wB (ax fE (ax kH (ax rj (ai 0) (wC (.int 12))) (wC (.int 2))) (wC (.int 1))))
 (Ds (qa 2) (ax kH (ax rj (ai 0) (wC (.int 24))) (dQ i6 (ai 2))) (wC (.int 3)))
 aP)
 a_))
def bJ:fk:=λds Q=>∃ (t:Int) (ns:List Str),ds=[.int t,.list (ns.map .str)]/\ns.length=6/\(∀ n∈ns,Open n)/\∀ l:List Rw,eB l->5<=l.length->l.length<=7->Q (.ow true) (.list (l.map de))
def fK (ds Q) (h:bJ ds Q):ds.length=["_law_turn", "_law_pool"].length:=by obtain⟨_,_,rfl,_⟩:=h;rfl
def De{Q:Md->D->Prop}{t:Int}{ns:List Str}{ps:List Int}(nl:ns.length=6)(no:∀ n∈ns,Open n)(pl:ps.length<=200)(pb:∀ p∈ps,0<=p/\p<4)(h:∀ l:List Rw,eB l->5<=l.length->l.length<=7->Q (.ow true) (.list (l.map de))) :
  a_ { nx:=λ_=>Q .sh .non,rt:=Q } [some (.sh (.int t)),some (.sh (.list (ns.map .str))),some (.ow true (.list (ps.map .int))),none,none]:=by
 have t0:=oC t (show(2:Int)≠0 by decide);have t1:=oB t (show(0:Int)<2 by decide);have u0:=oC (t / 24) (show(4:Int)≠0 by decide);have u1:=oB (t / 24) (show(0:Int)<4 by decide);have v0:=oC (t / 96) (show(2:Int)≠0 by decide);have v1:=oB (t / 96) (show(0:Int)<2 by decide);obtain⟨w,ew,hw⟩:∃ w:Str,e8 [D.str "and",D.str "or"] (t % 2)=some (.str w)/\(w = "and"\/w = "or"):=by
  have:t % 2=0\/t % 2=1:=by lia
  rcases this with e|e<;>rw[e]
  ·exact⟨_,rfl,.inl rfl⟩
  ·exact⟨_,rfl,.inr rfl⟩
 obtain⟨n,en,hn⟩:∃ n:Nat,e8 [D.int 0,D.int 1,D.int 0,D.int 2] (t / 24 % 4)=some (.int n)/\n<=2:=by
  have:t / 24 % 4=0\/t / 24 % 4=1\/t / 24 % 4=2\/t / 24 % 4=3:=by lia
  rcases this with e|e|e|e<;>rw[e]
  ·exact⟨0,rfl,by decide⟩
  ·exact⟨1,rfl,by decide⟩
  ·exact⟨0,rfl,by decide⟩
  ·exact⟨2,rfl,by decide⟩
 unfold a_;walk_at "q";refine⟨_,ew,?_⟩;walk_at "q";refine⟨bf ps,_,en,?_⟩;have s0:eB [.jn "and" [],.jn "or" [],.jn "and" [1],.nt 0,.jn w ps]:=by
  refine eB.app (l:=[.jn "and" [],.jn "or" [],.jn "and" [1],.nt 0]) (eB.app (l:=[.jn "and" [],.jn "or" [],.jn "and" [1]]) (eB.app (l:=[.jn "and" [],.jn "or" []]) (eB.app (l:=[.jn "and" []]) (eB.app eB.nil ?_) ?_) ?_) ?_) ?_
  ·exact⟨.inl rfl,by simp,λp hp=>nomatch hp⟩
  ·exact⟨.inr rfl,by simp,λp hp=>nomatch hp⟩
  ·exact⟨.inl rfl,by simp,λp hp=>by rw[iP.mp hp];exact⟨by decide,by decide⟩⟩
  ·exact⟨by decide,by decide⟩
  ·exact⟨hw,pl,pb⟩
 walk_at "q";refine⟨by lia,by lia,?_⟩;rw[bf,CB];refine b8 _ (λi ρ=>∃ (l:List Rw) (o4:Option Sl),ρ=[some (.sh (.int t)),some (.sh (.list (ns.map .str))),some (.ow true (.list (ps.map .int))),some (.ow true (.list (l.map de))),o4]/\eB l/\l.length=5+i) ⟨_,_,rfl,s0,rfl⟩ ?_ ?_
 ·rintro i x ρ hx ⟨l,o4,rfl,sl,ll⟩ N hN;obtain⟨hi,rfl⟩:=jb hx;have om:i<ns.length:=by lia
  have ea:=wo (xs:=ns.map D.str) (j:=i) (v:=.str ns[i]) (by simp[om]);have on:=no _ (Tt om);rw[show((i:Nat):Int)=0+(i:Int) by lia] at ea;generalize ns[i]=d at *
  walk_at "q";refine⟨_,ea,?_⟩;walk_at "q";have:t / 96 % 2=0\/t / 96 % 2=1:=by lia
  rcases this with e|e<;>rw[e]
  ·refine⟨_,rfl,?_⟩;walk_at "q";refine⟨by lia,?_⟩;exact hN _ ⟨l++[.nt (4+(0+(i:Int)))],_,by rw[<- zc];rfl,eB.app (r:=.nt (4+(0+(i:Int)))) sl ⟨by lia,by lia⟩,by rw[iq,ll];rfl⟩
  ·refine⟨_,rfl,?_⟩;walk_at "q";refine⟨by lia,?_⟩;exact hN _ ⟨l++[.st "some" d (4+(0+(i:Int)))],_,by rw[<- zc];rfl,eB.app (r:=.st "some" d (4+(0+(i:Int)))) sl ⟨.inl rfl,.inr on,by lia,by lia⟩,by rw[iq,ll];rfl⟩
 ·rintro ρ ⟨l,o4,rfl,sl,ll⟩;rw[gM] at ll;walk_at "q";exact h l sl (by lia) (by lia)
def gH:∀ ds Q,bJ ds Q->cJ { nx:=λ_=>Q .sh .non,rt:=Q } (aM 5 ds):=by
 rintro ds Q ⟨t,ns,rfl,nl,no,h⟩;obtain⟨w2,e2⟩:∃ w,w=a_:=⟨_,rfl⟩
 unfold cJ;rw[<- e2];have t0:=oC (t / 2) (show(3:Int)≠0 by decide);have t1:=oB (t / 2) (show(0:Int)<3 by decide);walk_at "q";refine⟨by lia,by lia,?_⟩
 refine cB (λ_=>true) (λd=>match d with
  |.int k=>.int (k*k*(t % 97) % 3)
  |d=>d) (λρ=>∃ o,ρ=[o,some (.sh (.int t))]) _ _ _ ⟨_,rfl⟩ ?_ ?_
 ·rintro y hy ρ ⟨o,rfl⟩ N1 N2 _ h2;obtain⟨i,hi,rfl⟩:=iX.mp hy;have hi:=IX.mp hi;have m0:=oC t (show(97:Int)≠0 by decide);have m1:=oB t (show(0:Int)<97 by decide);walk_at "q";exact⟨.inl ⟨by lia,by lia⟩,.inr ⟨by lia,by lia⟩,.inl rfl,h2 _ ⟨_,rfl⟩ rfl⟩
 rw[gj]
 obtain⟨ps,ep,pl,pb⟩:∃ ps:List Int,(iV 0 (99+t / 2 % 3).toNat).map (λd=>match d with
  |.int k=>D.int (k*k*(t % 97) % 3)
  |d=>d)=ps.map D.int/\ps.length=(99+t / 2 % 3).toNat/\∀ p∈ps,0<=p/\p<4:=by
  refine⟨(List.range (99+t / 2 % 3).toNat).map λi:Nat=>(0+(i:Int))*(0+(i:Int))*(t % 97) % 3,?_,by simp,λp hp=>?_⟩
  ·unfold iV;rw[mh,mh];rfl
  ·obtain⟨i,_,rfl⟩:=iX.mp hp;have a0:=oC ((0+(i:Int))*(0+(i:Int))*(t % 97)) (show(3:Int)≠0 by decide);have a1:=oB ((0+(i:Int))*(0+(i:Int))*(t % 97)) (show(0:Int)<3 by decide);exact⟨a0,by lia⟩
 rw[ep];refine R.D (λe=>?_) λe=>?_
 ·walk_at "q";refine⟨by lia,oC _ (by lia),oB _ (by lia),?_⟩;rw[e2,<- List.map_set];refine De nl no (by rw[List.length_set];lia) (λp hp=>?_) h;rcases List.mem_or_eq_of_mem_set hp with hp|rfl
  ·exact pb p hp
  ·exact⟨by decide,by decide⟩
 ·walk_at "q";rw[e2];exact De nl no (by lia) pb h
def j8:WS :=
 (fF (U4 (bx iK (ak (ai 0) bP)) (kO (dQ (zo "str") (ai 0)) (ax fE (ai 0) (wC (.str "*"))))))
def fC:fk:=λds Q=>∃ d:D,ds=[d]/\Q .sh (.bl (MX d))
def rG (ds Q) (h:fC ds Q):ds.length=["thing"].length:=by obtain⟨_,rfl,_⟩:=h;rfl
def xN:∀ ds Q,fC ds Q->j8 { nx:=λ_=>Q .sh .non,rt:=Q } (aM 1 ds):=by
 rintro ds Q ⟨d,rfl,h⟩
 cases d with
 |str x =>
  have h:Q .sh (.bl (cO x)):=h;unfold j8;walk_at "q";refine⟨_,rfl,?_⟩;unfold cO at h;unfold ag';walk_at "q";refine R.B (λe=>?_) λe=>?_
  ·walk_at "q";rw[e] at h;exact h
  ·walk_at "q";refine R.T rfl ?_;walk_at "q";rw[e] at h;exact h
 |_ =>unfold j8;walk_at "q";refine⟨_,rfl,?_⟩;unfold ag';walk_at "q";refine R.F rfl ?_;walk_at "q";exact h
def mO:WS :=
 (fF (kO (bx gC (ak (ai 1) bP)) (jU GY PY (wC (.int 0)) (ai 1) (ai 0))))
def cI:fk:=λds Q=>∃ (k:Int) (d:D),ds=[.int k,d]/\Q .sh (.bl (yA k d))
def pW (ds Q) (h:cI ds Q):ds.length=["k", "thing"].length:=by obtain⟨_,_,rfl,_⟩:=h;rfl
def vg:∀ ds Q,cI ds Q->mO { nx:=λ_=>Q .sh .non,rt:=Q } (aM 2 ds):=by
 rintro ds Q ⟨k,d,rfl,h⟩;unfold mO
 cases d with
 |int j =>
  have h:Q .sh (.bl (decide (0<=j/\j<k))):=h;walk_at "q";refine⟨_,rfl,?_⟩;walk_at "q";refine R.D (λh1=>?_) λh1=>?_
  ·walk_at "q";rwa[show decide (0<=j/\j<k)=decide (j<k) by simp[h1]] at h
  ·walk_at "q";rwa[decide_eq_false (by lia)] at h
 |_ =>walk_at "q";refine⟨_,rfl,?_⟩;walk_at "q";refine R.F rfl ?_;walk_at "q";exact h
def dG:WS :=
 (b5 (fm (wB (ax fE (ax cp (ai 0) (wC (.int 0))) (HP [("and", "yes"),("or", "no")] (ai 2))))
 (rQ 1 (MV (fq (ak (ai 2) (ak (fq bP) bP)))))
 aP)
 (fm (wB (ax fE (ax cp (ai 0) (wC (.int 0))) (HP [("and", "both"),("or", "either")] (ai 2))))
 (b5 (zR 3 (lq 1 fj rK))
 (b5 (zR 4 (lq 1 fj rK))
 (zv 4 (zv 3 (rQ 1 (MV (fq (ak (ai 2) (ak (fq (ak (ai 3) (ak (ai 4) bP))) bP)))))))))
 aP))
def fJ:WS :=
 (b5 (yi (zx (fq (ak (wC (.str "and")) (ak (wC (.str "or")) bP)))) (gN 2)
 dG)
 (e_ "NoText" (wC (.str "a word begins no sentence"))))
def iY:WS :=
 (b5 (fm (wB (ax fE (ax cp (ai 0) (wC (.int 0))) (wC (.str "not"))))
 (rQ 1 (BV (lL (MV (wC (.str "not"))) (lL (lq 1 fj rK) Ah))))
 aP)
 fJ)
def t7:WS :=
 (b5 (fm (vt (wB (ax fE (ax cp (ai 0) (wC (.int 0))) (wC (.str "some")))) (wB (ax fE (ax cp (ai 0) (wC (.int 0))) (wC (.str "all")))))
 (rQ 1 (BV (lL (MV (ax cp (ai 0) (wC (.int 0)))) (lL (MV (ax cp (ai 0) (wC (.int 1)))) (lL (lq 1 fj rK) Ah)))))
 aP)
 iY)
def km:Ic:=λxs ds Q Y=>∃ (h:Hd) (st:List Int),ds=[BE h]/\ai' h/\xs=st.reverse/\(rS h st=none->Y "NoText")/\∀ r t,rS h st=some (r,t)->Q t.reverse (de r)
def vH(xs ds Q Y)(h:km xs ds Q Y):ds.length+1=2:=by obtain⟨_,_,rfl,_⟩:=h;rfl
def jE{st ys:List Int}{x:Int}(z:st.reverse=ys++[x]):st=x :: ys.reverse:=by rw[<- D2 st,z];simp
def Cz {a:ae} {w wd:Str} {st:List Int} {E:dH} {o3 o4:Option Sl} (hwd:wd = "and"\/wd = "or") (hn:w≠bu wd->w≠aK wd->E.nx [some (.sh (.tup [.str w])),mP a st.reverse,some (.sh (.str wd)),o3,o4]) (ha:w=bu wd->E.rt (.wl a (st.reverse.map V.int)) (de (.jn wd [])))(h1:w=aK wd->E8 wd st=none->E.rt (.ow false) (.str "NoText")) (h2:w=aK wd->∀ x y t,st=x :: y :: t->E.rt (.wl a (t.reverse.map V.int)) (de (.jn wd [x,y]))):dG E [some (.sh (.tup [.str w])),mP a st.reverse,some (.sh (.str wd)),o3,o4]:=by
 have g1:List.lookup wd [(("and" : Str),("yes" : Str)),("or", "no")]=some (bu wd)/\(bu wd).length<=16777216:=by rcases hwd with rfl|rfl<;>decide +kernel
 have g2:List.lookup wd [(("and" : Str),("both" : Str)),("or", "either")]=some (aK wd)/\(aK wd).length<=16777216:=by rcases hwd with rfl|rfl<;>decide +kernel
 unfold dG;walk_at "q";unfold HP;walk_at "q";refine⟨wd,_,rfl,g1.1,g1.2,?_⟩;refine R.D (λe=>?_) λe=>?_
 ·walk_at "q";exact⟨a,st.reverse,rfl,ha e⟩
 walk_at "q";refine⟨wd,_,rfl,g2.1,g2.2,?_⟩;refine R.D (λe2=>?_) λe2=>?_
 ·walk_at "q";refine⟨a,_,rfl,rfl,λz=>?_,λys x z=>?_⟩
  ·exact h1 e2 (by rw[Ti.mp z];rfl)
  have e':=jE z;walk_at "q";refine⟨a,_,rfl,rfl,λz2=>?_,λzs y z2=>?_⟩
  ·exact h1 e2 (by rw[e',z2];rfl)
  ·subst z2;have h2:=h2 e2 x y zs.reverse (by rw[e',VR];rfl);rw[D2] at h2;walk_at "q";exact⟨a,zs,rfl,h2⟩
 ·walk_at "q";exact hn e e2
def G4 {w:Str} (h:w ≠ "not") (st:List Int):(w=bu "and"->rS (.ot w) st=some (.jn "and" [],st))/\(w=aK "and"->rS (.ot w) st=E8 "and" st)/\(w=bu "or"->rS (.ot w) st=some (.jn "or" [],st))/\(w=aK "or"->rS (.ot w) st=E8 "or" st)/\(w≠bu "and"->w≠aK "and"->w≠bu "or"->w≠aK "or"->rS (.ot w) st=none):=by
 have a1:bu "and" = "yes" := if_pos rfl;have a2:aK "and" = "both" := if_pos rfl;have a3:bu "or" = "no" := nR;have a4:aK "or" = "either" := by decide +kernel
 rw[a1,a2,a3,a4];have un:rS (.ot w) st=if w = "not" then P9 .nt st else if w = "yes" then some (.jn "and" [],st) else if w = "both" then E8 "and" st else if w = "no" then some (.jn "or" [],st) else if w = "either" then E8 "or" st else none:=rfl;rw[un,if_neg h];have n1:("both" : Str) ≠ "yes" := by decide +kernel
 have n2:("no" : Str) ≠ "yes"/\("no" : Str) ≠ "both" := by decide +kernel
 have n3:("either" : Str) ≠ "yes"/\("either" : Str) ≠ "both"/\("either" : Str) ≠ "no" := by decide +kernel
 refine⟨λe=>if_pos e,λe=>?_,λe=>?_,λe=>?_,λe1 e2 e3 e4=>?_⟩
 ·rw[e,if_neg n1,if_pos rfl]
 ·rw[e,if_neg n2.1,if_neg n2.2,if_pos rfl]
 ·rw[e,if_neg n3.1,if_neg n3.2.1,if_neg n3.2.2,if_pos rfl]
 ·rw[if_neg e1,if_neg e2,if_neg e3,if_neg e4]
def LR {a:ae} {w:Str} {st:List Int} {Q:List Int->D->Prop} {Y:Str->Prop} (hn:w ≠ "not") (hz:st.length<=bE) (h1:rS (.ot w) st=none->Y "NoText") (h2:∀ (r:Rw) (t:List Int),rS (.ot w) st=some (r,t)->t.length<=st.length->DI a Q Y (.wl a (t.reverse.map V.int)) (de r)) :
  fJ { nx:=λ_=>False,rt:=DI a Q Y } [some (.sh (.tup [.str w])),mP a st.reverse,none,none,none]:=by
 obtain⟨w0,e0⟩:∃ w,w=dG:=⟨_,rfl⟩
 obtain⟨r1,r2,r3,r4,r5⟩:=G4 hn st;unfold fJ;rw[<- e0];walk_at "q";unfold dX;walk_at "q";rw[e0];refine Cz (.inl rfl) (λn1 n2=>?_) (λe=>h2 _ _ (r1 e) (c9 _)) (λe z=>h1 (by rw[r2 e,z])) λe x y t z=>h2 _ _ (by rw[r2 e,z];rfl) (by rw[z];simp;lia);rw[<- e0];unfold dX;walk_at "q";rw[e0];refine Cz (.inr rfl) (λn3 n4=>?_) (λe=>h2 _ _ (r3 e) (c9 _)) (λe z=>h1 (by rw[r4 e,z])) λe x y t z=>h2 _ _ (by rw[r4 e,z];rfl) (by rw[z];simp;lia);unfold dX;walk_at "q";exact h1 (r5 n1 n2 n3 n4)
def zJ:∀ a xs ds Q Y,xs.length<=bE->km xs ds Q Y->t7 { nx:=λ_=>False,rt:=DI a Q Y } (jk 5 a xs ds):=by
 rintro a xs ds Q Y hz ⟨h,st,rfl,ok,rfl,h1,h2⟩;obtain⟨w1,e1⟩:∃ w,w=iY:=⟨_,rfl⟩
 unfold t7 jk;rw[<- e1];rw[A8] at hz;have ret:∀ (r:Rw) (t:List Int),rS h st=some (r,t)->t.length<=st.length->DI a Q Y (.wl a (t.reverse.map V.int)) (de r):=λr t e z=>⟨oV r,_,rfl,rfl,by rw[A8];lia,h2 r t e⟩
 cases h with
 |st w d =>
  rw[show BE (.st w d)=.tup [.str w,.str d] from rfl];walk_at "q";refine R.D (λe=>?_) λe=>?_
  ·walk_at "q";refine⟨_,_,rfl,rfl,λz=>?_,λys x z=>?_⟩
   ·exact h1 (by rw[Ti.mp z];rfl)
   ·have e:=jE z;subst e;exact⟨a,ys,rfl,by have:=ret (.st w d x) ys.reverse rfl (by simp);rwa[D2] at this⟩
  ·walk_at "q";refine R.T (decide_eq_true (ok.1.resolve_left e)) ?_;walk_at "q";refine⟨_,_,rfl,rfl,λz=>?_,λys x z=>?_⟩
   ·exact h1 (by rw[Ti.mp z];rfl)
   ·have e:=jE z;subst e;exact⟨a,ys,rfl,by have:=ret (.st w d x) ys.reverse rfl (by simp);rwa[D2] at this⟩
 |ot w =>
  have ok:¬ pj w:=ok;rw[show BE (.ot w)=.tup [.str w] from rfl];walk_at "q";refine R.F (decide_eq_false λz=>ok (.inl z)) ?_;walk_at "q";refine R.F (decide_eq_false λz=>ok (.inr z)) ?_;walk_at "q";rw[e1];obtain⟨w2,e2⟩:∃ w,w=fJ:=⟨_,rfl⟩
  unfold iY;rw[<- e2];walk_at "q";refine R.D (λe=>?_) λe=>?_
  ·walk_at "q";have en:rS (.ot w) st=P9 .nt st:=if_pos e;rw[en] at h1;simp only[en] at ret;refine⟨_,_,rfl,rfl,λz=>?_,λys x z=>?_⟩
   ·exact h1 (by rw[Ti.mp z];rfl)
   ·have e':=jE z;subst e';exact⟨a,ys,rfl,by have:=ret (.nt x) ys.reverse rfl (by simp);rwa[D2] at this⟩
  ·walk_at "q";rw[e2];exact LR e hz h1 ret
def cP:WS :=
 (xx (wB (ax GY (dQ i6 (ai 3)) (wC (.int 200)))) 3 (wC .non))
def cL:WS :=
 (b5 (fm (vt (wB (ax fE (ax cp (ai 0) (wC (.int 0))) (wC (.str "some")))) (wB (ax fE (ax cp (ai 0) (wC (.int 0))) (wC (.str "all")))))
 (eS 3 (ax iO (fT (ak (ax cp (ai 0) (wC (.int 0))) (ak (ax cp (ai 0) (wC (.int 1))) bP))) (ax cp (ai 2) (wC (.int 0)))))
 (fm (wB (ax fE (ax cp (ai 0) (wC (.int 0))) (wC (.str "not"))))
 (eS 3 (ax iO (fT (ak (wC (.str "not")) bP)) (ax cp (ai 2) (wC (.int 0)))))
 (eS 3 (bx cD (ak (ax cp (ai 0) (wC (.int 0))) (ak (ai 2) bP))))))
 cP)
def mZ:WS :=
 (b5 (mD 2 (tH (qg (bx jD (ak (ai 0) bP))) (gN 0) BM (ax cp (ai 1) (ai 0)) 1 [1]))
 (b5 (fm (wB (ax (ZW false) (wC .non) (ai 2)))
 (fF (wC .non))
 aP)
 cL))
def pz:Option (List Str)->D
 |none=>.non
 |some ws=>.list (ws.map .str)
def gB:fk:=λds Q=>∃ (k:Int) (r:Rw) (vs:List (Option (List Str))),ds=[de r,.list (vs.map pz)]/\kQ k r/\k<=vs.length/\(∀ o∈vs,zS o)/\(tT r (λj=>vs.getD j.toNat none)=none->Q .sh .non)/\∀ ws,tT r (λj=>vs.getD j.toNat none)=some ws->Q (.ow true) (.list (ws.map .str))
def qz (ds Q) (h:gB ds Q):ds.length=["row", "told"].length:=by obtain⟨_,_,_,rfl,_⟩:=h;rfl
theorem wX:∀ os:List (Option (List Str)),(fI os=none->BQ (os.map pz) .non=true)/\∀ l,fI os=some l->os.map pz=l.map sC/\BQ (os.map pz) .non=false
 |[]=>⟨λz=>(nomatch z),λl z=>by cases z;exact⟨rfl,rfl⟩⟩
 |none :: os=>⟨λ_=>rfl,λl z=>(nomatch z)⟩
 |some w :: os=>by
  obtain⟨i1,i2⟩:=wX os;have nn:nK (.list (w.map .str)) .non=false:=rfl;refine⟨λz=>?_,λl z=>?_⟩
  ·have z:(fI os).map (w :: ·)=none:=z;show(nK (.list (w.map .str)) .non || BQ (os.map pz) .non)=true;rw[i1 (V2.mp z),Bool.or_true]
  ·have z:(fI os).map (w :: ·)=some l:=z;obtain⟨m,e,rfl⟩:=kr.mp z;obtain⟨a,b⟩:=i2 m e;refine⟨by rw[fR,a];rfl,?_⟩;show(nK (.list (w.map .str)) .non || BQ (os.map pz) .non)=false;rw[nn,b];rfl
def Mh{o:Option (List Str)}(h:zS o)(n:Nat):eK (n+1) (pz o)=true:=by
 cases o with
 |none=>rfl
 |some ws =>show(ws.map D.str).all (eK n)=true;rw[FL,Au];intro w hw;have:=((h ws rfl).2 w hw).1;cases n<;>exact this
def okB{d:D}:yc .sh d:=by unfold yc;simp
def rM{Q:Md->D->Prop}{X:List Str}{o0 o1 o2:Option Sl}(h1:kz (some X)=none->Q .sh .non)(h2:∀ ws,kz (some X)=some ws->Q (.ow true) (.list (ws.map .str))):cP { nx:=λ_=>Q .sh .non,rt:=Q } [o0,o1,o2,some (.ow true (.list (X.map .str)))]:=by
 unfold cP;walk_at "q";refine R.D (λe=>?_) λe=>?_
 ·walk_at "q";exact h2 X (tX (by lia))
 ·walk_at "q";refine h1 ?_;unfold kz;rw[TN,if_neg (by lia)]
def FZ{Q:Md->D->Prop}{k:Int}{r:Rw}{g:Int->Option (List Str)}{l:List (List Str)}{o1:Option Sl}(ok:kQ k r)(AZ:∀ j,zS (g j))(es:fI ((ja r).map g)=some l)(h1:tT r g=none->Q .sh .non)(h2:∀ ws,tT r g=some ws->Q (.ow true) (.list (ws.map .str))) :
  cL { nx:=λ_=>Q .sh .non,rt:=Q } [some (.sh (de r)),o1,some (.sh (.list (l.map sC))),none]:=by
 obtain⟨w3,e3⟩:∃ w,w=cP:=⟨_,rfl⟩
 unfold cL;rw[<- e3];have one:∀ j,fI [g j]=some l->∃ p,g j=some p/\l=[p]/\p.length<=200:=λj e=>by
  cases eg:g j with
  |none=>rw[eg] at e;cases e
  |some p=>rw[eg] at e;cases e;exact⟨p,rfl,rfl,(AZ j p eg).1⟩
 cases r with
 |st w d j =>
  obtain⟨p,eg,rfl,pl⟩:=one j es;have fin:=rM (Q:=Q) (X:=w :: d :: p) (o0:=some (.sh (.tup [.str w,.str d,.int j]))) (o1:=o1) (o2:=some (.sh (.list [sC p]))) (λz=>h1 (by show kz ((g j).map _)=none;rw[eg];exact z)) λws z=>h2 ws (by show kz ((g j).map _)=some ws;rw[eg];exact z);rw[<- e3] at fin;rw[show de (.st w d j)=.tup [.str w,.str d,.int j] from rfl,show[p].map sC=[sC p] from rfl,show sC p=.list (p.map .str) from rfl] at *
  walk_at "q";refine R.D (λe=>?_) λe=>?_
  ·walk_at "q";exact⟨by lia,.inl ⟨bw p,fin⟩⟩
  ·walk_at "q";refine R.T (decide_eq_true (ok.1.resolve_left e)) ?_;walk_at "q";exact⟨by lia,.inl ⟨bw p,fin⟩⟩
 |nt j =>
  obtain⟨p,eg,rfl,pl⟩:=one j es;have fin:=rM (Q:=Q) (X := "not" :: p) (o0:=some (.sh (.tup [.str "not",.int j]))) (o1:=o1) (o2:=some (.sh (.list [sC p]))) (λz=>h1 (by show kz ((g j).map _)=none;rw[eg];exact z)) λws z=>h2 ws (by show kz ((g j).map _)=some ws;rw[eg];exact z);rw[<- e3] at fin;rw[show de (.nt j)=.tup [.str "not",.int j] from rfl,show[p].map sC=[sC p] from rfl,show sC p=.list (p.map .str) from rfl] at *
  walk_at "q";refine R.F (decide_eq_false DJ.1) ?_;walk_at "q";refine R.F (decide_eq_false DJ.2) ?_;walk_at "q";exact⟨by lia,.inl ⟨bw p,fin⟩⟩
 |jn w ps =>
  have es:fI (ps.map g)=some l:=es;have sl:∀ (qs:List Int) (m:List (List Str)),fI (qs.map g)=some m->m.length=qs.length/\∀ p∈m,p.length<=200:=λqs=>by
   induction qs with
   |nil=>intro m e;cases e;exact⟨rfl,λ_ z=>nomatch z⟩
   |cons q qs ih =>
    intro m e;rw[fR] at e
    cases eg:g q with
    |none=>rw[eg] at e;cases e
    |some p =>rw[eg] at e;obtain⟨m',e',rfl⟩:=kr.mp (show(fI (qs.map g)).map (p :: ·)=some m from e);obtain⟨i1,i2⟩:=ih m' e';exact⟨by rw[jv,jv,i1],λx hx=>(eW.mp hx).elim (λz=>z ▸ (AZ q p eg).1) (i2 x)⟩
  obtain⟨ll,lp⟩:=sl ps l es;have p2:=ok.2.1;have fin:=rM (Q:=Q) (X:=E9 w l) (o0:=some (.sh (.tup [.str w,.tup (ps.map .int)]))) (o1:=o1) (o2:=some (.sh (.list (l.map sC)))) (λz=>h1 (by show kz ((fI (ps.map g)).map _)=none;rw[es];exact z)) λws z=>h2 ws (by show kz ((fI (ps.map g)).map _)=some ws;rw[es];exact z);rw[<- e3] at fin;rw[show de (.jn w ps)=.tup [.str w,.tup (ps.map .int)] from rfl];walk_at "q";refine R.F (decide_eq_false (xk ok.1).1) ?_;walk_at "q";refine R.F (decide_eq_false (xk ok.1).2.1) ?_;walk_at "q";refine R.F (decide_eq_false (xk ok.1).2.2) ?_;walk_at "q";exact⟨w,l,rfl,ok.1,by lia,lp,fin⟩
def Bd{r:Rw}{g:Int->Option (List Str)}(h:fI ((ja r).map g)=none):tT r g=none:=by
 have one:∀ j,fI [g j]=none->g j=none:=λj e=>by
  cases eg:g j with
  |none=>rfl
  |some p=>rw[eg] at e;cases e
 cases r with
 |st w d j=>show kz ((g j).map _)=none;rw[one j h];rfl
 |nt j=>show kz ((g j).map _)=none;rw[one j h];rfl
 |jn w ps=>show kz ((fI (ps.map g)).map _)=none;rw[show fI (ps.map g)=none from h];rfl
def vO:∀ ds Q,gB ds Q->mZ { nx:=λ_=>Q .sh .non,rt:=Q } (aM 4 ds):=by
 rintro ds Q ⟨k,r,vs,rfl,ok,hk,hv,h1,h2⟩;obtain⟨w1,e1⟩:∃ w,w=cL:=⟨_,rfl⟩
 unfold mZ;rw[<- e1];walk_at "q";refine⟨r,k,rfl,ok,?_⟩;walk_at "q";have dl:=bW ok;have AZ:∀ j:Int,zS (vs.getD j.toNat none):=λj=>by
  rw[xA]
  cases e:vs[j.toNat]? with
  |none=>exact λws z=>nomatch z
  |some o=>exact hv o (rV e)
 refine jO (λ_=>true) (λd=>match d with
  |.int j=>pz (vs.getD j.toNat none)
  |d=>d) (λρ=>∃ o,ρ=[o,some (.sh (.list (vs.map pz)))]) _ _ _ ⟨none,rfl⟩ ?_ ?_
 ·rintro y hy ρ ⟨o,rfl⟩ N1 N2 _ n2;obtain⟨j,hj,rfl⟩:=iX.mp hy;obtain⟨j0,j1⟩:=dl j hj;have ea:=wo (xs:=vs.map pz) (j:=j.toNat) (v:=pz (vs.getD j.toNat none)) (by
   rw[mz,xA,qk (by lia)];rfl)
  rw[kF j0] at ea;walk_at "q";refine⟨_,ea,?_⟩;have n2:N2 [some (.sh (.int j)),some (.sh (.list (vs.map pz)))] (pz (vs.getD j.toNat none)):=n2 _ ⟨_,rfl⟩ rfl
  cases eo:vs.getD j.toNat none with
  |none =>rw[eo] at n2;show b9 D.non _;walk_at "q";exact⟨okB,n2⟩
  |some o =>rw[eo] at n2;show b9 (D.list (o.map .str)) _;walk_at "q";exact⟨okB,n2⟩
 rw[gj,mh];obtain⟨a1,a2⟩:=wX ((ja r).map λj=>vs.getD j.toNat none);rw[mh] at a1 a2;refine⟨rfl,?_,?_⟩
 ·show(List.map _ _).all (eK 11)=true;rw[FL,Au];exact λj _=>Mh (AZ j) 10
 cases es:fI ((ja r).map λj=>vs.getD j.toNat none) with
 |none =>have ea:=a1 es;show b9 (BQ (List.map (pz ∘ λj=>vs.getD j.toNat none) (ja r)) D.non) _;rw[ea];walk_at "q";exact h1 (Bd es)
 |some l =>obtain⟨b1,b2⟩:=a2 l es;show b9 (BQ (List.map (pz ∘ λj=>vs.getD j.toNat none) (ja r)) D.non) _;rw[b2];walk_at "q";rw[e1];have fin:=FZ (Q:=Q) (l:=l) (o1:=some (.sh (.list (vs.map pz)))) ok AZ es h1 h2;rw[<- b1] at fin;exact fin
def iw:WS :=
 (fF (jr (iz (dQ i6 (ai 0))) (gN 0) BM (bx gq (ak (ax cp (ai 1) (ai 0)) (ak (ai 0) (ak (ai 2) bP)))) 1 [0,1]))
def cU:fk:=λds Q=>∃ (cs:List Int) (names:List Str),ds=[.list (cs.map .int),.list (names.map .str)]/\cs.length<=1000/\1<=names.length/\names.length<=100/\(∀ n∈names,yv n)/\∀ l:List Rw,l.length=cs.length->eB l->Q (.ow true) (.list (l.map de))
def jK (ds Q) (h:cU ds Q):ds.length=["_law_cells", "_law_names"].length:=by obtain⟨_,_,rfl,_⟩:=h;rfl
def pA:∀ ds Q,cU ds Q->iw { nx:=λ_=>Q .sh .non,rt:=Q } (aM 2 ds):=by
 rintro ds Q ⟨cs,names,rfl,hc,n1,n2,hd,h⟩;unfold iw;walk_at "q";refine⟨by lia,by lia,?_⟩;refine pG (λi out=>∃ l:List Rw,out=l.map de/\l.length=i/\eB l) (λρ=>∃ o,ρ=[o,some (.sh (.list (cs.map .int))),some (.sh (.list (names.map .str)))]) _ 0 [] _ _ ⟨_,rfl⟩ ⟨[],rfl,rfl,eB.nil⟩ ?_ ?_
 ·rintro i x hx ρ ⟨o,rfl⟩ out ⟨l,rfl,hl,hs⟩ N1 N2 h2;obtain⟨hi,rfl⟩:=jb hx;have hi:i<cs.length:=by simpa using hi
  walk_at "q";refine⟨.int cs[i],?_,?_⟩
  ·have:=wo (xs:=cs.map D.int) (j:=i) (v:=.int cs[i]) (by simp[hi]);rwa[show((i:Nat):Int)=0+(i:Int) by lia] at this
  walk_at "q";refine⟨_,_,_,rfl,by lia,by lia,n1,n2,hd,λr hr=>?_⟩;walk_at "q";refine⟨.inl (oV r),h2 _ _ ⟨_,rfl⟩ ⟨l++[r],by simp,by simp[hl],hs.app ?_⟩⟩;rw[hl];simpa using hr
 ·rintro out ⟨l,e,hl,hs⟩;rw[List.nil_append] at e;subst e;rw[gM] at hl;exact h l (by simpa using hl) hs
def cW:WS :=
 (b5 (eS 2 (fT (ak (ax GW (dQ i6 (ai 0)) (wC (.int 1))) bP)))
 (b5 (eS 3 (wC (.int 0)))
 (b5 (yO (wB (ax L5 (dQ i6 (ai 2)) (wC (.int 0))))
 (b5 (Vc 4 (qa 2))
 (b5 (fm (wB (dQ (zo "int") (ai 4)))
 (eS 4 (ax cp (ai 0) (ai 4)))
 aP)
 (b5 (zL 5 6 (bx eN (ak (ai 4) bP)))
 (b5 (fm (wB (ax EX (EZ (ai 1) (iT (ai 3)) (iT (ax iO (ai 3) (dQ i6 (ai 5))))) (ai 5)))
 (fF (wC (.bl false)))
 aP)
 (b5 (eS 3 (ax iO (ai 3) (dQ i6 (ai 5))))
 (eS 2 (ax iO (ai 2) (af' (ai 6) dM dM (iT (dQ zk (wC (.int 1)))))))))))))
 (fF (ax fE (ai 3) (dQ i6 (ai 1)))))))
def bN:fk:=λds Q=>∃ (l:List Rw) (ws:List Str),ds=[.list (l.map de),.list (ws.map .str)]/\eB l/\1<=l.length/\l.length<=2000/\WA.at l ((l.length-1:Nat):Int)=some ws/\Q .sh (.bl true)
def gh (ds Q) (h:bN ds Q):ds.length=["_law_scroll_here", "_law_words"].length:=by obtain⟨_,_,rfl,_⟩:=h;rfl
def MA:Sm Nat where
 H:=λr g=>2+((ja r).map λp=>g p+2).sum
 z:=0
 cg:=λ{r g g'} h=>by
  have:(ja r).map (λp=>g p+2)=(ja r).map λp=>g' p+2:=D3 λj hj=>by rw[h j hj]
  rw[this]
 rn:=λf r g=>by rw[yQ,mh];rfl
def IE(g:Int->Nat):Itm->Nat
 |.num k=>g k
 |.rst _ ps=>1+(ps.map λp=>g p+2).sum
def SW(g:Int->Nat):D->Nat
 |.int k=>g k
 |.tup [_,.tup ps]=>1+(ps.map λp=>match p with
  |.int j=>g j+2
  |_=>0).sum
 |_=>0
def Jg(g:Int->Nat)(x:Itm):SW g (mS x)=IE g x:=by
 cases x with
 |num k=>rfl
 |rst w ps=>show 1+((ps.map D.int).map _).sum=_;rw[mh];rfl
def slS(g:Int->Nat)(ρ:L2.Q.Env):Nat:=match ρ.getD 2 none with
 |some (.ow _ (.list ds))=>(ds.map (SW g)).sum
 |_=>0
theorem yw:∀ l:List Nat,l.reverse.sum=l.sum
 |[]=>rfl
 |x :: l=>by rw[FH,List.sum_append,yw l];simp;lia
def xn(g:Int->Nat)(st:List Itm):((st.reverse.map mS).map (SW g)).sum=(st.map (IE g)).sum:=by rw[mh,Tw,yw];congr 1;exact D3 λx _=>Jg g x
def F_(g:Int->Nat){k:Int}{r:Rw}(ok:kQ k r):((kA r).2.map (IE g)).sum<1+((ja r).map λp=>g p+2).sum:=by
 cases r with
 |st w d j=>have e:=kF ok.2.2.1;simp[kA,ja,IE,e];lia
 |nt j=>have e:=kF ok.1;simp[kA,ja,IE,e];lia
 |jn w ps =>
  have pb:=ok.2.2;rcases ps with _|⟨p,_|⟨q,ps⟩⟩
  ·simp[kA,ja]
  ·have e:=kF (pb p (by simp)).1;simp[kA,ja,IE,e];lia
  ·have e:=kF (pb p (by simp)).1;simp[kA,ja,IE,e];lia
def Qb(l:List Rw):Itm->Prop
 |.num k=>k<l.length
 |.rst w ps=>kQ l.length (.jn w ps)
def Hq{r:Rw}{g:Int->Option (List Str)}{ws:List Str}(h:tT r g=some ws)(hg:∀ j∈ja r,∀ w,g j=some w->w≠[]):ws≠[]:=by
 obtain⟨h,_⟩:=oW h
 cases r with
 |st w d j=>obtain⟨a,_,rfl⟩:=kr.1 h;exact FK _ _
 |nt j=>obtain⟨a,_,rfl⟩:=kr.1 h;exact FK _ _
 |jn w ps =>
  obtain⟨x,hx,e⟩:=kr.1 h;rcases ps with _|⟨p,_|⟨q,ps⟩⟩
  ·cases hx;cases e;exact FK _ _
  ·obtain⟨a,y,ha,hy,rfl⟩:=bZ hx;cases hy;cases e;exact hg p (iP.mpr rfl) a ha
  ·obtain⟨a,y,ha,hy,rfl⟩:=bZ hx;obtain⟨b,z,hb,hz,rfl⟩:=bZ hy;cases e;exact FK _ _
def Gk{l:List Rw}(sc:eB l):∀ (k:Nat) (ws:List Str),WA.at l k=some ws->ws≠[]:=by
 intro k
 induction k using Nat.strongRecOn with
 |ind k ih =>
  intro ws h;by_cases hk:k<l.length
  ·rw[kJ WA sc (qk hk)] at h;refine Hq h λj hj w hw=>?_;have:=bW (sc k _ (qk hk)) j hj;exact ih j.toNat (by lia) w (by rw[kF this.1];exact hw)
  ·have:WA.at l k=none:=by unfold Sm.at;rw[CB,xA,IU (by rw[cz];lia)];rfl
   rw[this] at h;exact nomatch h
def KJ{l:List Rw}(sc:eB l){x:Itm}(ok:Qb l x){ws:List Str}(h:xo (WA.at l) x=some ws):ws≠[]:=by
 cases x with
 |num k=>exact Gk sc k ws h
 |rst w ps=>exact Hq (r:=.jn w ps) (g:=WA.at l) h λj hj v hv=>Gk sc j.toNat v (by rw[kF (bW (show kQ l.length (.jn w ps) from ok) j hj).1];exact hv)
def wy{a b:List (Option (List Str))}{x y:List (List Str)}(ha:fI a=some x)(hb:fI b=some y):fI (a++b)=some (x++y):=by
 induction a generalizing x with
 |nil=>cases ha;exact hb
 |cons o a ih =>obtain⟨u,z,rfl,hz,rfl⟩:=bZ ha;show(fI (a++b)).map (u :: ·)=_;rw[ih hz];rfl
theorem yH{l:List Rw}(sc:eB l):∀ (st:List Itm) (es:List (List Str)),(∀ x∈st,Qb l x)->fI (st.map (xo (WA.at l)))=some es->st.length<=es.flatten.length
 |[],_,_,_=>gd _
 |x :: st,es,ok,h=>by obtain⟨u,z,hu,hz,rfl⟩:=bZ h;have:=yH sc st z (λy hy=>ok y (eI _ hy)) hz;have:=List.length_pos_iff.mpr (KJ sc (ok x fA) hu);rw[An,iq,jv];lia
def Jk{l:List Rw}{k:Int}{r:Rw}(hk:k<=l.length)(ok:kQ k r):∀ x∈(kA r).2,Qb l x:=by
 cases r with
 |st w d j=>intro x hx;rw[iP.mp hx];have:=ok.2.2;show j.toNat<l.length;lia
 |nt j=>intro x hx;rw[iP.mp hx];have:=ok.1;have:=ok.2;show j.toNat<l.length;lia
 |jn w ps =>
  have GN:=kQ.mono hk ok;have pb:=GN.2.2;rcases ps with _|⟨p,_|⟨q,ps⟩⟩
  ·exact λx hx=>nomatch hx
  ·intro x hx;rw[iP.mp hx];have:=pb p (by simp);show p.toNat<l.length;lia
  ·intro x hx;rcases eW.mp hx with rfl|hx
   ·have:=pb p (by simp);show p.toNat<l.length;lia
   ·rw[iP.mp hx];exact⟨GN.1,by have:=GN.2.1;simp only[jv] at this ⊢;lia,λy hy=>pb y (eI _ hy)⟩
theorem dq:∀ l:List Itm,dn (l.map mS)=true
 |[]=>rfl
 |.num k :: l=>by simp[dn,mS,D.flat,dq l]
 |.rst w ps :: l=>by simp[dn,mS,D.flat,bf,dq l]
def CW{l:List Rw}(sc:eB l)(k:Int):zS (WA.at l k):=by
 have Fh:=pD sc l.length (c9 _);rw[A9] at Fh;unfold Sm.at;rw[xA]
 cases e:(WA.vals l)[k.toNat]? with
 |none=>exact λws z=>nomatch z
 |some o=>exact Fh o (rV e)
def IK{l:List Rw}(sc:eB l){x:Itm}(ok:Qb l x):∃ (k:Int) (r:Rw),k<=l.length/\kQ k r/\xo (WA.at l) x=tT r (WA.at l)/\1+((ja r).map λp=>MA.at l p+2).sum<=IE (MA.at l) x/\((∃ j:Nat,mS x=.int j/\e8 (l.map de) j=some (de r))\/∃ w ps,de r=.tup [.str w,.tup ps]/\mS x=de r):=by
 cases x with
 |num j =>have hj:j<l.length:=ok;have e:=qk hj;refine⟨j,l[j],by lia,sc j _ e,kJ WA sc e,?_,.inl ⟨j,rfl,wo (by rw[mz,e];rfl)⟩⟩;show _<=MA.at l j;rw[kJ MA sc e];show _<=2+_;lia
 |rst w ps=>exact⟨l.length,.jn w ps,AG _,ok,rfl,c9 _,.inr ⟨w,_,rfl,rfl⟩⟩
theorem uc:∀ l:List Str,oQ (l.map D.str)=true
 |[]=>rfl
 |x :: l=>by simp[oQ,uc l,D.nb]
abbrev GIv(l:List Rw)(ws:List Str)(ρ:L2.Q.Env):Prop:=∃ (st:List Itm) (a:Nat) (es:List (List Str)) (o4 o5 o6:Option Sl),ρ=[some (.sh (.list (l.map de))),some (.sh (.list (ws.map .str))),some (.ow true (.list (st.reverse.map mS))),some (.sh (.int a)),o4,o5,o6]/\a<=ws.length/\fI (st.map (xo (WA.at l)))=some es/\ws.drop a=es.flatten/\∀ x∈st,Qb l x
def iR:∀ ds Q,bN ds Q->cW { nx:=λ_=>Q .sh .non,rt:=Q } (aM 7 ds):=by
 rintro ds Q ⟨l,ws,rfl,sc,h1,h2,hw,h⟩;obtain⟨wl,wk⟩:=CW sc _ ws hw;unfold cW;walk_at "q";refine⟨GIv l ws,slS (MA.at l),⟨[.num (l.length-1)],0,[ws],none,none,none,?_,gd _,?_,by simp,?_⟩,?_⟩
 ·rw[show(l.length:Int)-1=((l.length-1:Nat):Int) by lia];rfl
 ·show fI [WA.at l ((l.length-1:Nat):Int)]=_;rw[hw];rfl
 ·intro x hx;rw[iP.mp hx];show l.length-1<l.length;lia
 rintro ρ ⟨st,a,es,o4,o5,o6,rfl,ha,hs,hd,ok⟩;walk_at "q"
 cases st with
 |nil =>
  cases hs;have al:a=ws.length:=by have:=congrArg List.length hd;simp at this;lia
  subst al;rw[if_neg (by simp),decide_eq_true rfl];exact h
 |cons x st =>
  obtain⟨u,z,hu,hz,rfl⟩:=bZ hs;obtain⟨k,r,hk,Fc,ew,em,ei⟩:=IK sc (ok x fA);rw[ew] at hu;obtain⟨rs,hr,rfl⟩:=Bb Fc hu;have sl:=yH sc _ _ ok hs;rw[<- hd] at sl;rw[if_pos (decide_eq_true (by simp)),FH,nh,List.map_singleton];refine⟨mS x,by simp,by cases x<;>simp[mS,D.flat,dn,bf],?_⟩;rw[List.dropLast_concat];obtain⟨ts,et⟩:∃ ts,de r=.tup ts:=by cases r<;>exact⟨_,rfl⟩
  have ok1:=ok x fA;have ok2:∀ y∈st,Qb l y:=λy hy=>ok y (eI _ hy);have OL:=yH sc ((kA r).2++st) (rs++z) (λy hy=>(eR.mp hy).elim (Jk hk Fc y) (ok2 y)) (by rw[nh];exact wy hr hz);rw[iq,List.flatten_append,iq] at OL;rw[An,pE] at hd;have ln:=congrArg List.length hd;rw[Cb,iq,iq] at ln;have hc:ox (ws.map D.str) (some (a:Int)) (some ((a:Int)+((kA r).1.length:Int)))=(kA r).1.map D.str:=by unfold ox;rw[jG (by lia) (by rw[dz];lia),jG (by lia) (by rw[dz];lia),<- List.map_drop,CB,hd,<- List.map_take,show((a:Int)+((kA r).1.length:Int)).toNat-a=(kA r).1.length by lia,List.take_left]
  have Vt:eK 12 (D.list ((kA r).1.map .str))=true:=by show((kA r).1.map D.str).all (eK 11)=true;rw[FL,Au];intro w hw';exact(wk w (Tq (hd ▸ kg _ hw'))).1
  have Vu:(D.list ((kA r).1.map .str)).nb=true:=uc _;have Vv:∀ p4 p5 p6,GIv l ws [some (.sh (.list (l.map de))),some (.sh (.list (ws.map .str))),some (.ow true (.list (st.reverse.map mS++((kA r).2.map mS).reverse))),some (.sh (.int ((a:Int)+((kA r).1.length:Int)))),p4,p5,p6]/\slS (MA.at l) [some (.sh (.list (l.map de))),some (.sh (.list (ws.map .str))),some (.ow true (.list (st.reverse.map mS++((kA r).2.map mS).reverse))),some (.sh (.int ((a:Int)+((kA r).1.length:Int)))),p4,p5,p6]<slS (MA.at l) [some (.sh (.list (l.map de))),some (.sh (.list (ws.map .str))),some (.ow true (.list (st.reverse.map mS++[mS x]))),some (.sh (.int (a))),o4,o5,o6]:=λp4 p5 p6=>by
   have e:st.reverse.map mS++((kA r).2.map mS).reverse=((kA r).2++st).reverse.map mS:=by rw[VR,nh,Tw (l:=(kA r).2)]
   rw[e,show st.reverse.map mS++[mS x]=(x :: st).reverse.map mS by simp];refine⟨⟨(kA r).2++st,a+(kA r).1.length,rs++z,p4,p5,p6,by rw[Int.natCast_add],by lia,by rw[nh];exact wy hr hz,?_,λy hy=>(eR.mp hy).elim (Jk hk Fc y) (ok2 y)⟩,?_⟩
   ·rw[<- List.drop_drop,hd,List.drop_left,List.flatten_append]
   ·show((((kA r).2++st).reverse.map mS).map (SW (MA.at l))).sum<(((x :: st).reverse.map mS).map (SW (MA.at l))).sum;rw[xn,xn,nh,List.sum_append,fR,NM];have:=F_ (MA.at l) Fc;lia
  have e5:=dq ((kA r).2.reverse);rw[Tw] at e5;rcases ei with⟨j,ej,ea⟩|⟨w,ps,er,ej⟩
  ·rw[ej];walk_at "q";refine R.T rfl ?_;walk_at "q";refine⟨_,ea,?_⟩;rw[et];walk_at "q";rw[<- et];refine⟨k,r,rfl,Fc,?_⟩;walk_at "q";rw[hc];refine .inl ⟨bw _,Vt,Vt,?_⟩;refine R.F (by rw[(d_ _ _ Vu Vu).mpr rfl];rfl) ?_;walk_at "q";refine⟨dq _,by simp only[A8,dz];lia,.inl ⟨dq _,e5,?_⟩⟩;simp only[ej] at Vv;exact Vv _ _ _
  simp only[ej] at Vv;rw[ej,er];walk_at "q";refine R.F rfl ?_;rw[<- er];walk_at "q";refine⟨k,r,rfl,Fc,?_⟩;walk_at "q";rw[hc];refine .inl ⟨bw _,Vt,Vt,?_⟩;refine R.F (by rw[(d_ _ _ Vu Vu).mpr rfl];rfl) ?_;walk_at "q";refine⟨dq _,by simp only[A8,dz];lia,.inl ⟨dq _,e5,?_⟩⟩;exact Vv _ _ _
def j9:WS :=
 (b5 (fm (vt (yb (wB (dQ (zo "tuple") (ai 1)))) (wB (ax L5 (dQ i6 (ai 1)) (wC (.int 200)))))
 (fF (wC (.bl false)))
 aP)
 (fF (dQ Sx (jr (xJ (ai 1)) (gN 0) BM (bx cI (ak (ai 1) (ak (ai 0) bP))) 1 [0]))))
def d7:fk:=λds Q=>∃ (k:Int) (d:D),ds=[.int k,d]/\Q .sh (.bl (prt k d))
def pC (ds Q) (h:d7 ds Q):ds.length=["k", "thing"].length:=by obtain⟨_,_,rfl,_⟩:=h;rfl
def sH:∀ ds Q,d7 ds Q->j9 { nx:=λ_=>Q .sh .non,rt:=Q } (aM 2 ds):=by
 rintro ds Q ⟨k,d,rfl,h⟩;unfold j9
 cases d with
 |tup xs =>
  have h:Q .sh (.bl (decide (xs.length<=200) && xs.all (yA k))):=h;walk_at "q";refine R.F rfl ?_;walk_at "q";refine R.D (λh1=>?_) λh1=>?_
  ·walk_at "q";rw[decide_eq_false (by lia)] at h;exact h
  rw[decide_eq_true (by lia)] at h;walk_at "q";refine cB (λ_=>true) (λd=>.bl (yA k d)) (λρ=>∃ o,ρ=[o,some (.sh (.int k))]) _ _ _ ⟨_,rfl⟩ ?_ ?_
  ·rintro y hy ρ ⟨o,rfl⟩ N1 N2 _ h2;walk_at "q";exact⟨_,_,rfl,.inl rfl,h2 _ ⟨_,rfl⟩ rfl⟩
  ·rw[gj];refine⟨xs.map (yA k),by rw[mh];rfl,?_⟩;rw[FL];exact h
 |_ =>walk_at "q";refine R.T rfl ?_;walk_at "q";exact h
def jP:WS :=
 (b5 (fm (yb (wB (bx fC (ak (ai 0) bP))))
 (e_ "NoText" (wC (.str "a word that is no deed stands where a deed ought to stand")))
 aP)
 (jt 0))
def eE:fk:=λds Q=>∃ x:Str,ds=[.str x]/\(cO x=true->Q .sh (.str x))/\(cO x=false->Q (.ow false) (.str "NoText"))
def nT (ds Q) (h:eE ds Q):ds.length=["word"].length:=by obtain⟨_,rfl,_⟩:=h;rfl
def qQ:∀ ds Q,eE ds Q->jP { nx:=λ_=>Q .sh .non,rt:=Q } (aM 1 ds):=by
 rintro ds Q ⟨x,rfl,h1,h2⟩;unfold jP;walk_at "q";refine⟨_,rfl,?_⟩;try rw[show MX (.str x)=cO x from rfl]
 cases e:cO x with
 |true =>walk_at "q";exact h1 e
 |false =>walk_at "q";exact h2 e
def dg(SP:DH):WS :=
 (b5 (eS 2 (ZT (ai 1) (wC (.bl true))))
 (b5 (yi (Cq (ai 1) (dQ zk (wC (.int 1))) (dQ zk (wC (.int 1)))) (gN 3)
 (fm (wB (ax (G0 false) (ai 3) (ai 2)))
 (yi (jo (bx jD (ak (ym SP 0 (ai 3)) bP))) (gN 4)
 (Bv (qa 2) (ai 4) (wC (.bl true))))
 aP))
 (fF (dQ wV (ai 2)))))
def bK:List (List RI)->fk:=λrs ds Q=>∃ (l:List Rw) (last:Nat),rs=l.map fv/\eB l/\ds=[.int last]/\last<l.length/\l.length<=10000/\Q (.ow true) (.list ((bj l last).map .int))
def gf (rs ds Q) (h:bK rs ds Q):ds.length+1=["self", "last"].length:=by obtain⟨_,_,_,_,rfl,_⟩:=h;rfl
def Gs(last:Nat):Vk (last:Int) (-1) (zD (last:Int) (-1) (-1))=(eU last).map D.int:=by
 have e:zD (last:Int) (-1) (-1)=last+1:=by unfold zD Builtin.Range.rangeSize;rw[if_neg (by decide),if_pos (by lia),show -(-1:Int)=1 from rfl];lia
 rw[e];unfold Vk eU;rw[mh];refine D3 λi _=>?_;simp only[Function.comp];congr 1;lia
def vE(W:List Int):List (Key × D):=W.map λj=>(.inl j,.bl true)
def M7(W:List Int)(k:Int):(mM (vE W) (.inl k:Key)).isSome=decide (k∈W):=by
 unfold mM vE
 induction W with
 |nil=>rfl
 |cons x W ih =>
  rw[fR,Ct];by_cases z:x=k
  ·subst z;simp
  ·have:decide ((Sum.inl x:Key)=Sum.inl k)=false:=by simpa using z
   rw[this];rw[show(decide (k∈x :: W))=decide (k∈W) from by simp[Ne.symm z]];exact ih
def Mq(W:List Int)(j:Int):sA (vE W) (.inl j:Key) (.bl true)=vE (zI W j):=by
 unfold sA zI;have e:((vE W).any λkv=>decide (kv.1=(.inl j:Key)))=decide (j∈W):=by rw[D7];simp[vE]
 rw[e];by_cases h:j∈W
 ·rw[if_pos (decide_eq_true h),if_pos h];unfold vE;rw[mh];refine D3 λx _=>?_;simp only[Function.comp];split<;>rfl
 ·rw[if_neg (by simpa using h),if_neg h];simp[vE]
def Ho{l:List Rw}{last:Nat}(sc:eB l){Q:Md->D->Prop}(h:Q (.ow true) (.list ((bj l last).map .int))):wV .bo (.dK (vE (vI l last))) Q:=by
 have I:=gO (last:=last) sc;refine⟨true,λp hp=>?_,λms pm pw=>?_⟩
 ·obtain⟨j,_,rfl⟩:=iX.mp hp;rfl
 ·have ek:(vE (vI l last)).map (·.1)=(vI l last).map λx=>(Sum.inl x:Key):=by simp[vE,Function.comp_def]
  rw[ek] at pm;have hk:∀ k∈ms,∃ x,k=(Sum.inl x:Key):=λk hk=>by obtain⟨x,_,e⟩:=iX.mp (pm.mem_iff.mp hk);exact⟨x,e.symm⟩
  have hms:ms=(bj l last).map λx=>(Sum.inl x:Key):=by
   refine List.Perm.eq_of_pairwise (le:=λa b=>ti b a=false) (λa b ha hb h1 h2=>?_) pw ?_ (pm.trans ?_)
   ·obtain⟨x,rfl⟩:=hk a ha;obtain⟨y,hy,rfl⟩:=iX.mp hb;simp only[ti,decide_eq_false_iff_not] at h1 h2;congr 1;lia
   ·refine Rb.mpr (iH.imp λh=>?_);simp only[ti,decide_eq_false_iff_not];lia
   ·refine List.Perm.map _ ((List.perm_ext_iff_of_nodup I.nd ?_).mpr λx=>(g8 sc).symm);exact iH.imp λh=>by lia
  rw[hms,mh];exact h
def wj{l:List Rw}{k:Nat}{r:Rw}(h:l[k]? = some r):(l.map fv)[k]? = some (fv r):=by rw[mz,h];rfl
def z9{last i:Nat}{x:D}(h:((eU last).map D.int)[i]? = some x):i<=last/\x=.int ((last:Int)-i)/\(eU last).take (i+1)=(eU last).take i++[(last:Int)-i]:=by
 rw[mz] at h;have hi:i<last+1:=by
  by_cases z:i<last+1
  ·exact z
  ·rw[IU (by simp[eU];lia)] at h;cases h
 have e:(eU last)[i]? = some ((last:Int)-i):=by unfold eU;rw[mz,VQ hi];rfl
 rw[e] at h;cases h;exact⟨by lia,rfl,by rw[Ap,e];rfl⟩
def iU(SP:DH):∀ a rs ds Q,bK rs ds Q->dg SP { nx:=λ_=>Q .sh .non,rt:=Q } (iu 5 a (SP false rs) ds):=by
 rintro a rs ds Q ⟨l,last,rfl,sc,rfl,hl,hz,h⟩;unfold dg iu;walk_at "q";refine And.intro (.inl rfl) (And.intro ⟨by lia,by lia,by lia,by lia⟩ (And.intro ?_ ?_))
 ·have:zD (last:Int) (-1) (-1)=last+1:=by unfold zD Builtin.Range.rangeSize;rw[if_neg (by decide),if_pos (by lia),show -(-1:Int)=1 from rfl];lia
  exact kD (Rj this) (by lia)
 ·show dX _ _ _ (Vk (last:Int) (-1) (zD (last:Int) (-1) (-1))) _;rw[Gs];refine b8 _ (λi ρ=>∃ o3 o4,ρ=[some (.ob a (SP false (l.map fv))),some (.sh (.int last)),some (.ow true (.dK (vE (((eU last).take i).foldl (mq l) [(last:Int)])))),o3,o4]) ⟨_,_,rfl⟩ ?_ ?_
  ·rintro i x ρ hx ⟨o3,o4,rfl⟩ N hN;obtain⟨hi,rfl,et⟩:=z9 hx;have I:=lE (l:=l) (last:=last) sc i (by lia);have nx:∀ o3 o4,N [some (.ob a (SP false (l.map fv))),some (.sh (.int last)),some (.ow true (.dK (vE (mq l (((eU last).take i).foldl (mq l) [(last:Int)]) ((last:Int)-i))))),o3,o4]:=λo3 o4=>hN _ ⟨o3,o4,by rw[et,Rc];rfl⟩;generalize ((eU last).take i).foldl (mq l) [(last:Int)]=W at *
   generalize hk:(last:Int)-i=k at *
   walk_at "q"
   have st:mq l W k=if k∈W then (match l[k.toNat]? with
    |some r=>(ja r).foldl zI W
    |none=>W) else W:=rfl
   rw[M7];refine R.D (λx5=>?_) λx5=>?_
   ·obtain⟨k0,k1⟩:=I.bd k x5;have SN:k.toNat<l.length:=by lia
    obtain⟨r,hr⟩:∃ r,l[k.toNat]? = some r:=⟨_,qk SN⟩
    rw[if_pos x5,hr] at st;have ok:=sc _ _ hr;rw[kF k0] at ok;walk_at "q";refine⟨a,false,l.map fv,rfl,k.toNat,fv r,by rw[kF k0],wj hr,?_⟩;rw[A_];refine⟨r,k,rfl,ok,?_⟩;walk_at "q";have dl:=bW ok;refine b8 _ (λi ρ=>∃ o4,ρ=[some (.ob a (SP false (l.map fv))),some (.sh (.int last)),some (.ow true (.dK (vE (((ja r).take i).foldl zI W)))),some (.sh (.int k)),o4]) ⟨_,rfl⟩ ?_ ?_
    ·rintro i x ρ hx ⟨o4,rfl⟩ N' hN';rw[mz] at hx
     cases e:(ja r)[i]? with
     |none=>rw[e] at hx;cases hx
     |some j =>
      rw[e] at hx;cases hx;have tk:(ja r).take (i+1)=(ja r).take i++[j]:=by rw[Ap,e];rfl
      have hln:(vE (((ja r).take i).foldl zI W)).length<=10001:=by
       unfold vE;rw[dz];refine kD (yK (qW _ _ I.nd) (n:=last+1) λx hx=>?_) (by lia);rcases (dI _ _).mp hx with z|z
       ·have:=I.bd x z;lia
       ·have:=dl x (Q_ z);lia
      walk_at "q";refine⟨by lia,?_⟩;rw[Mq];exact hN' _ ⟨_,by rw[tk,Rc];rfl⟩
    ·rintro ρ ⟨o4,rfl⟩;rw[dz,A9];have st:mq l W k=(ja r).foldl zI W:=st;rw[<- st];exact nx _ _
   ·rw[if_neg x5] at st;rw[st] at nx;walk_at "q";exact nx _ _
  ·rintro ρ ⟨o3,o4,rfl⟩;rw[dz,A9];walk_at "q";exact Ho sc h
def tE:WS :=
 (b5 (fm (vt (yb (wB (dQ (zo "tuple") (ai 1)))) (vt (wB (ax fE (dQ i6 (ai 1)) (wC (.int 0)))) (yb (wB (dQ (zo "str") (ax cp (ai 1) (wC (.int 0))))))))
 (fF (wC (.bl false)))
 aP)
 (b5 (fm (vt (wB (ax fE (ax cp (ai 1) (wC (.int 0))) (wC (.str "some")))) (wB (ax fE (ax cp (ai 1) (wC (.int 0))) (wC (.str "all")))))
 (fF (kO (ax fE (dQ i6 (ai 1)) (wC (.int 3))) (kO (bx fC (ak (ax cp (ai 1) (wC (.int 1))) bP)) (bx cI (ak (ai 0) (ak (ax cp (ai 1) (wC (.int 2))) bP))))))
 aP)
 (b5 (fm (wB (ax fE (ax cp (ai 1) (wC (.int 0))) (wC (.str "not"))))
 (fF (kO (ax fE (dQ i6 (ai 1)) (wC (.int 2))) (bx cI (ak (ai 0) (ak (ax cp (ai 1) (wC (.int 1))) bP)))))
 aP)
 (b5 (fm (vt (wB (ax fE (ax cp (ai 1) (wC (.int 0))) (wC (.str "and")))) (wB (ax fE (ax cp (ai 1) (wC (.int 0))) (wC (.str "or")))))
 (fF (kO (ax fE (dQ i6 (ai 1)) (wC (.int 2))) (bx d7 (ak (ai 0) (ak (ax cp (ai 1) (wC (.int 1))) bP)))))
 aP)
 (fF (wC (.bl false)))))))
def jX:fk:=λds Q=>∃ (k:Int) (d:D),ds=[.int k,d]/\Q .sh (.bl (MY k d))
def vm (ds Q) (h:jX ds Q):ds.length=["k", "thing"].length:=by obtain⟨_,_,rfl,_⟩:=h;rfl
def zW:∀ ds Q,jX ds Q->tE { nx:=λ_=>Q .sh .non,rt:=Q } (aM 2 ds):=by
 rintro ds Q ⟨k,d,rfl,h⟩;unfold tE
 cases d with
 |tup xs =>
  cases xs with
  |nil =>walk_at "q";refine R.F rfl ?_;walk_at "q";refine R.T rfl ?_;walk_at "q";exact h
  |cons a r =>
   walk_at "q";refine R.F rfl ?_;walk_at "q";refine R.F (decide_eq_false (by simp;lia)) ?_;walk_at "q"
   cases a with
   |str w =>
    have h:Q .sh (.bl (tS k w r)):=h;unfold tS at h;walk_at "q";refine R.F rfl ?_;walk_at "q";refine R.D (λe1=>?_) λe1=>?_
    ·rw[if_pos (.inl e1)] at h;walk_at "q";rcases r with _|⟨x,_|⟨y,_|⟨z,r⟩⟩⟩
     ·refine R.F rfl ?_;walk_at "q";exact h
     ·refine R.F rfl ?_;walk_at "q";exact h
     ·refine R.T rfl ?_;walk_at "q";refine⟨_,rfl,?_⟩;have h:Q .sh (.bl (MX x && yA k y)):=h;walk_at "q";refine R.B (λe=>?_) λe=>?_
      ·walk_at "q";refine⟨_,_,rfl,?_⟩;rw[e] at h;exact h
      ·walk_at "q";rw[e] at h;exact h
     ·refine R.F (decide_eq_false (by simp;lia)) ?_;walk_at "q";exact h
    walk_at "q";refine R.D (λe2=>?_) λe2=>?_
    ·rw[if_pos (.inr e2)] at h;walk_at "q";rcases r with _|⟨x,_|⟨y,_|⟨z,r⟩⟩⟩
     ·refine R.F rfl ?_;walk_at "q";exact h
     ·refine R.F rfl ?_;walk_at "q";exact h
     ·refine R.T rfl ?_;walk_at "q";refine⟨_,rfl,?_⟩;have h:Q .sh (.bl (MX x && yA k y)):=h;walk_at "q";refine R.B (λe=>?_) λe=>?_
      ·walk_at "q";refine⟨_,_,rfl,?_⟩;rw[e] at h;exact h
      ·walk_at "q";rw[e] at h;exact h
     ·refine R.F (decide_eq_false (by simp;lia)) ?_;walk_at "q";exact h
    rw[if_neg (λz=>z.elim e1 e2)] at h;walk_at "q";refine R.D (λe3=>?_) λe3=>?_
    ·rw[if_pos e3] at h;walk_at "q";rcases r with _|⟨x,_|⟨y,r⟩⟩
     ·refine R.F rfl ?_;walk_at "q";exact h
     ·refine R.T rfl ?_;walk_at "q";exact⟨_,_,rfl,h⟩
     ·refine R.F (decide_eq_false (by simp;lia)) ?_;walk_at "q";exact h
    rw[if_neg e3] at h;walk_at "q";refine R.D (λe4=>?_) λe4=>?_
    ·rw[if_pos (.inl e4)] at h;walk_at "q";rcases r with _|⟨x,_|⟨y,r⟩⟩
     ·refine R.F rfl ?_;walk_at "q";exact h
     ·refine R.T rfl ?_;walk_at "q";exact⟨_,_,rfl,h⟩
     ·refine R.F (decide_eq_false (by simp;lia)) ?_;walk_at "q";exact h
    walk_at "q";refine R.D (λe5=>?_) λe5=>?_
    ·rw[if_pos (.inr e5)] at h;walk_at "q";rcases r with _|⟨x,_|⟨y,r⟩⟩
     ·refine R.F rfl ?_;walk_at "q";exact h
     ·refine R.T rfl ?_;walk_at "q";exact⟨_,_,rfl,h⟩
     ·refine R.F (decide_eq_false (by simp;lia)) ?_;walk_at "q";exact h
    rw[if_neg (λz=>z.elim e4 e5)] at h;walk_at "q";exact h
   |_ =>walk_at "q";refine R.T rfl ?_;walk_at "q";exact h
 |_ =>walk_at "q";refine R.T rfl ?_;walk_at "q";exact h
def cA:WS :=
 (b5 (fm (wB (ax fE (ax iO (ai 2) (wC (.int 1))) (dQ i6 (ai 0))))
 (e_ "NoText" (wC (.str "no deed stands behind the last word")))
 aP)
 (b5 (Ak (qa 1) (Gn (sI (Z8 (ax cp (ai 0) (ai 2))) (sI (uK eE (ak (ax cp (ai 0) (ax iO (ai 2) (wC (.int 1)))) bP)) Ey))))
 (eS 2 (ax iO (ai 2) (wC (.int 2))))))
def mX:WS :=
 (b5 (eS 1 (fT bP))
 (b5 (eS 2 (wC (.int 0)))
 (b5 (yO (wB (ax PY (ai 2) (dQ i6 (ai 0))))
 (fm (vt (wB (ax fE (ax cp (ai 0) (ai 2)) (wC (.str "some")))) (wB (ax fE (ax cp (ai 0) (ai 2)) (wC (.str "all")))))
 cA
 (b5 (yk (qa 1) (fq (ak (ax cp (ai 0) (ai 2)) bP)))
 (eS 2 (ax iO (ai 2) (wC (.int 1)))))))
 (jt 1))))
def gn:fk:=λds Q=>∃ ws:List Str,ds=[.list (ws.map .str)]/\ws.length<=10000/\(∀ hs,mw ws=some hs->Q (.ow true) (.list (hs.map BE)))/\(mw ws=none->Q (.ow false) (.str "NoText"))
def qy (ds Q) (h:gn ds Q):ds.length=["words"].length:=by obtain⟨_,rfl,_⟩:=h;rfl
abbrev HIv (ws:List Str) (Q:Md->D->Prop) (ρ:L2.Q.Env):Prop:=∃ (k:Nat) (t:List Hd),ρ=[some (.sh (.list (ws.map .str))),some (.ow true (.list (t.map BE))),some (.sh (.int k))]/\k<=ws.length/\t.length<=k/\(∀ hs,mw (ws.drop k)=some hs->Q (.ow true) (.list ((t++hs).map BE)))/\(mw (ws.drop k)=none->Q (.ow false) (.str "NoText"))
def vf:∀ ds Q,gn ds Q->mX { nx:=λ_=>Q .sh .non,rt:=Q } (aM 3 ds):=by
 rintro ds Q ⟨ws,rfl,hz,h1,h2⟩;obtain⟨w0,e0⟩:∃ w,w=cA:=⟨_,rfl⟩
 unfold mX;rw[<- e0];walk_at "q";refine⟨HIv ws Q,λρ=>ws.length-slK ρ,⟨0,[],rfl,gd _,c9 _,h1,h2⟩,?_⟩;rintro ρ ⟨k,t,rfl,hk,tl,g1,g2⟩;walk_at "q";by_cases hl:k<ws.length;rotate_left
 ·have:k=ws.length:=by lia
  subst this;rw[NH] at g1;have:=g1 [] rfl;rw[kM] at this;rw[if_neg (by simp)];exact this
 rw[if_pos (decide_eq_true (by lia))];have ed:=A6 hl;have ea:=wo (xs:=ws.map D.str) (j:=k) (v:=.str ws[k]) (by simp[hl]);rw[ed] at g1 g2;generalize ws[k]=w at *
 refine⟨_,ea,?_⟩;have sa:pj w->∀ E:dH,E.rt=Q->(∀ bt,HIv ws Q bt->ws.length-slK bt<ws.length-k->E.nx bt)->cA E [some (.sh (.list (ws.map .str))),some (.ow true (.list (t.map BE))),some (.sh (.int k))]:=λhw E er en=>by
  unfold cA;walk_at "q";refine R.D (λe3=>?_) λe3=>?_
  ·walk_at "q";rw[er];refine g2 ?_;rw[List.drop_eq_nil_of_le (by lia)];unfold mw;rw[if_pos hw]
  have Dp:k+1<ws.length:=by lia
  have ea2:=wo (xs:=ws.map D.str) (j:=k+1) (v:=.str ws[k+1]) (by simp[Dp]);have ed2:=A6 Dp;rw[ed2] at g1 g2;generalize ws[k+1]=d at *
  walk_at "q";refine⟨_,ea,?_⟩;walk_at "q";refine⟨_,ea2,?_⟩;walk_at "q";refine⟨d,rfl,λe=>?_,λe=>?_⟩
  ·have hd:∀ hs,mw (ws.drop (k+1+1))=some hs->mw (w :: d :: ws.drop (k+1+1))=some (.st w d :: hs):=λhs q=>by unfold mw;rw[if_pos hw,if_pos e,q];rfl
   have hn:mw (ws.drop (k+1+1))=none->mw (w :: d :: ws.drop (k+1+1))=none:=λq=>by unfold mw;rw[if_pos hw,if_pos e,q];rfl
   walk_at "q";refine⟨by lia,?_⟩;refine en _ ⟨k+2,t++[.st w d],?_,by lia,by simp;lia,λhs q=>?_,λq=>g2 (hn q)⟩ ?_
   ·rw[nh];rfl
   ·have:=g1 _ (hd hs q);rwa[pE]
   ·show ws.length-(((k:Int)+2).toNat)<_;lia
  ·walk_at "q";rw[er];refine g2 ?_;unfold mw;rw[if_pos hw,if_neg (by rw[e];simp)]
 walk_at "q";refine R.D (λe1=>?_) λe1=>?_
 ·rw[e0];exact sa (.inl e1) _ rfl λbt a b=>⟨a,b⟩
 ·walk_at "q";refine⟨_,ea,?_⟩;walk_at "q";refine R.D (λe2=>?_) λe2=>?_
  ·rw[e0];exact sa (.inr e2) _ rfl λbt a b=>⟨a,b⟩
  ·walk_at "q";refine⟨_,ea,?_⟩;have hw:¬ pj w:=λz=>z.elim e1 e2;have hc:∀ l:List Str,mw (w :: l)=(mw l).map (Hd.ot w :: ·):=λl=>by
    cases l with
    |nil=>show(if pj w then none else some [Hd.ot w])=_;rw[if_neg hw];rfl
    |cons d l=>show(if pj w then _ else _)=_;rw[if_neg hw]
   rw[hc] at g2;simp only[hc] at g1;walk_at "q";refine⟨by lia,⟨k+1,t++[.ot w],?_,by lia,by simp;lia,λhs q=>?_,λq=>g2 (by rw[q];rfl)⟩,?_⟩
   ·rw[nh];rfl
   ·have:=g1 _ (by rw[q];rfl);rwa[pE]
   ·show ws.length-(((k:Int)+1).toNat)<ws.length-k;lia
def cX(SP:DH):WS :=
 (b5 (eS 2 uN)
 (b5 (eS 3 (fT bP))
 (b5 (yi (jo (xU SP 0 bK (ak (ai 1) bP))) (gN 4)
 (b5 (Bv (qa 2) (ai 4) (dQ i6 (ai 3)))
 (yk (qa 3) (bx du (ak (ym SP 0 (ai 4)) (ak (ai 2) bP))))))
 (jt 3))))
def bO:List (List RI)->fk:=λrs ds Q=>∃ (l:List Rw) (last:Nat),rs=l.map fv/\eB l/\ds=[.int last]/\last<l.length/\l.length<=10000/\Q (.ow true) (.list ((pf l last).map de))
def gA (rs ds Q) (h:bO rs ds Q):ds.length+1=["self", "last"].length:=by obtain⟨_,_,_,_,rfl,_⟩:=h;rfl
def Fm(ks:List Int):List (Key × D):=ks.zipIdx.map λq=>(.inl q.1,.int (q.2:Nat))
def JS{ks:List Int}(nd:ks.Nodup){j:Int}(h:j∈ks):mM (Fm ks) (.inl j:Key)=some (.int (ks.idxOf j:Nat)):=by
 obtain⟨m,hm⟩:=A7.mp h;rw[bY nd hm];unfold mM Fm;rw[kr];have:∃ q,(ks.zipIdx.map λq=>((.inl q.1:Key),D.int (q.2:Nat))).find? (λkv=>decide (kv.1=(.inl j:Key)))=some q:=by rw[<- V1,List.find?_isSome];exact⟨(.inl j,.int (m:Nat)),iX.mpr ⟨(j,m),FE.mpr hm,rfl⟩,by simp⟩
 obtain⟨q,hq⟩:=this;refine⟨q,hq,?_⟩;obtain⟨⟨y,n⟩,hn,rfl⟩:=iX.mp (List.mem_of_find?_eq_some hq);have e:y=j:=by have:=List.find?_some hq;simpa using this
 subst e;have FT:ks[n]? = some y:=FE.mp hn;rw[<- bY nd hm,bY nd FT]
def Jf{ks:List Int}{k:Int}(h:k∉ks):sA (Fm ks) (.inl k:Key) (.int (ks.length:Nat))=Fm (ks++[k]):=by
 unfold sA;have e:((Fm ks).any λkv=>decide (kv.1=(.inl k:Key)))=false:=by rw[List.any_eq_false];intro q hq;obtain⟨⟨y,n⟩,hn,rfl⟩:=iX.mp hq;have FT:ks[n]? = some y:=FE.mp hn;simp only[decide_eq_true_eq];intro z;exact h (Sum.inl.inj z ▸ rV FT)
 rw[e];unfold Fm;simp[List.zipIdx_append]
def iG(SP:DH):∀ a rs ds Q,bO rs ds Q->cX SP { nx:=λ_=>Q .sh .non,rt:=Q } (iu 5 a (SP false rs) ds):=by
 rintro a rs ds Q ⟨l,last,rfl,sc,rfl,hl,hz,h⟩;unfold cX iu;walk_at "q";refine⟨a,false,l.map fv,rfl,l,last,rfl,sc,rfl,hl,hz,?_⟩;walk_at "q";have rl:(bj l last).length<=10001:=kD (yK (eV l last) (n:=last+1) λx hx=>by have:=gk sc hx;lia) (by lia);refine b8 _ (λi ρ=>∃ o4,ρ=[some (.ob a (SP false (l.map fv))),some (.sh (.int last)),some (.ow true (.dK (Fm ((bj l last).take i)))),some (.ow true (.list (((pf l last).take i).map de))),o4]) ⟨_,rfl⟩ ?_ ?_
 ·rintro i x ρ hx ⟨o4,rfl⟩ N hN;rw[mz] at hx
  cases e:(bj l last)[i]? with
  |none=>rw[e] at hx;cases hx
  |some k =>
   rw[e] at hx;cases hx;have hk:=rV e;obtain⟨k0,k1⟩:=gk sc hk;have hi:=(ng.mp e).1;have SN:k.toNat<l.length:=by lia
   obtain⟨r,hr⟩:∃ r,l[k.toNat]? = some r:=⟨_,qk SN⟩
   have ok:=sc _ _ hr;rw[kF k0] at ok;have tk:(bj l last).take (i+1)=(bj l last).take i++[k]:=by rw[Ap,e];rfl
   have ts:(pf l last).take (i+1)=(pf l last).take i++[IC (MZ l last) r]:=by rw[Ap];unfold pf;rw[mz,e];simp[Vr,hr]
   have sl:(((pf l last).take i).map de).length=i:=by rw[dz,mB];unfold pf;rw[dz];lia
   have tl:((bj l last).take i).length=i:=by rw[mB];lia
   have nk:k∉(bj l last).take i:=λz=>by
    obtain⟨m,hm⟩:=A7.mp z;rw[List.getElem?_take] at hm;split at hm
    ·have:=bY (eV l last) hm;rw[bY (eV l last) e] at this;lia
    ·cases hm
   have nml:(Fm ((bj l last).take i)).length=i:=by unfold Fm;rw[dz,List.length_zipIdx,tl]
   walk_at "q";have T4:((pf l last).take i).length=i:=by rw[dz] at sl;exact sl
   rw[T4];have pe:=Jf nk;rw[tl,<- tk] at pe;rw[pe];refine⟨by lia,a,false,l.map fv,rfl,k.toNat,fv r,by rw[kF k0],wj hr,?_⟩;rw[A_];have ndt:((bj l last).take (i+1)).Nodup:=(List.take_sublist _ _).nodup (eV l last);refine⟨k,r,_,MZ l last,rfl,ok,λj hj=>.inr ⟨_,rfl,?_⟩,?_⟩
   ·have SQ:=yZ sc hk hr j hj;have lt:=CJ iH e SQ (bW ok j hj).2;obtain⟨m,hm⟩:=A7.mp SQ;have em:=bY (eV l last) hm;have Vs:((bj l last).take (i+1))[m]? = some j:=by rw[List.getElem?_take,if_pos (by lia)];exact hm
    rw[JS ndt (rV Vs),bY ndt Vs];unfold MZ;rw[em]
   ·walk_at "q";refine⟨by lia,?_⟩;rw[oV];have z:=hN _ ⟨some (.sh (.int k)),rfl⟩;rw[ts,nh] at z;simp only[cond_true,b9];rw[dz,T4,pe];exact z
 ·rintro ρ ⟨o4,rfl⟩;rw[dz];have e:(pf l last).take (bj l last).length=pf l last:=NF (by unfold pf;rw[dz];exact c9 _);rw[e];walk_at "q";exact h
def lG:WS :=
 (b5 (fm (vt (yb (wB (dQ (zo "list") (ai 0)))) (yb (wB (jU GY GY (wC (.int 1)) (dQ i6 (ai 0)) (wC (.int 2000))))))
 (fF (wC (.bl false)))
 aP)
 (fF (dQ Sx (jr (uq (ai 0)) (gT 2 (tL (gN 0) (tL (gN 1) Ba))) BM (bx jX (ak (ai 0) (ak (ai 1) bP))) 2 []))))
def eZ:fk:=λds Q=>∃ d:D,ds=[d]/\Q .sh (.bl (DL d))
def oJ (ds Q) (h:eZ ds Q):ds.length=["thing"].length:=by obtain⟨_,rfl,_⟩:=h;rfl
def rH:∀ ds Q,eZ ds Q->lG { nx:=λ_=>Q .sh .non,rt:=Q } (aM 1 ds):=by
 rintro ds Q ⟨d,rfl,h⟩;unfold lG
 cases d with
 |list xs =>
  have h:Q .sh (.bl (decide (1<=xs.length/\xs.length<=2000) && xs.zipIdx.all λp=>MY (p.2:Int) p.1)):=h;walk_at "q";refine R.F rfl ?_;walk_at "q";refine R.D (λh1=>?_) λh1=>?_;rotate_left
  ·walk_at "q";rw[decide_eq_false (by lia)] at h;exact h
  walk_at "q";refine R.B (λh2=>?_) λh2=>?_
  ·have h2:¬ (xs.length:Int)<=2000:=by simpa using h2
   walk_at "q";rw[decide_eq_false (by lia)] at h;exact h
  have h2:(xs.length:Int)<=2000:=by simpa using h2
  rw[decide_eq_true (by lia),I0] at h;walk_at "q"
  refine cB (λ_=>true) (λd=>match d with
   |.tup [.int i,x]=>.bl (MY i x)
   |d=>d) (λρ=>∃ o o',ρ=[o,o']) _ _ _ ⟨_,_,rfl⟩ ?_ ?_
  ·rintro y hy ρ ⟨o,o',rfl⟩ N1 N2 _ h2;obtain⟨i,hi⟩:=A7.mp hy;unfold nM at hi;rw[List.getElem?_mapIdx] at hi
   cases e:xs[i]? with
   |none=>rw[e] at hi;cases hi
   |some r =>rw[e] at hi;cases hi;walk_at "q";exact⟨_,_,rfl,.inl rfl,h2 _ ⟨_,_,rfl⟩ rfl⟩
  ·rw[gj];refine⟨xs.zipIdx.map λp=>MY (p.2:Int) p.1,?_,?_⟩
   ·unfold nM;rw[List.mapIdx_eq_zipIdx_map,mh,mh];rfl
   ·rw[FL];exact h
 |_ =>walk_at "q";refine R.T rfl ?_;walk_at "q";exact h
def eF(SP:DH):WS :=
 (b5 (uw dC (ak (ai 0) bP))
 (b5 (eS 1 (tG (ai 0) (wC (.str " "))))
 (b5 (fm (wB (ax L5 (dQ i6 (ai 1)) (wC (.int 200))))
 (e_ "NoText" (wC (.str "the sentence has too many words")))
 aP)
 (b5 (Hz SP 2)
 (b5 (Ep 3)
 (b5 (Ad (uK gn (ak (ai 1) bP)) (gN 4)
 (Hx SP 3 2 (lq 3 km (Dh (ai 4) rK))))
 (b5 (fm (wB (ax EX (dQ i6 (yq 3)) (wC (.int 1))))
 (e_ "NoText" (wC (.str "more than one sentence")))
 aP)
 (fF (xU SP 2 bO (ak (ax cp (yq 3) (wC (.int 0))) bP))))))))))
def SX(ws:List Str):Prop:=rL 1 ws=true/\ws.length<=200
def b_:fk:=λds Q=>∃ d:D,ds=[d]/\((¬ ∃ t,d=.str t)->Q (.ow false) (.str "NoText"))/\∀ t:Str,d=.str t->t.length<=1000000/\(¬ SX (Txt.split t " ")->Q (.ow false) (.str "NoText"))/\(SX (Txt.split t " ")->∀ l:List Rw,eB l->1<=l.length->l.length<=2000->WA.at l ((l.length-1:Nat):Int)=some (Txt.split t " ")->Q (.ow true) (.list (l.map de)))
def iB (ds Q) (h:b_ ds Q):ds.length=["text"].length:=by obtain⟨_,rfl,_⟩:=h;rfl
def Dm(rs:List Rw)(r:Rw):r∈(hJ rs r).1:=by
 unfold hJ;split
 ·rename_i h;obtain⟨y,hy,e⟩:=Rg.mp h;rw[<- wQ (of_decide_eq_true e)];exact hy
 ·simp
def zU(pre:List Hd):pre.foldr SV none=none:=by
 induction pre with
 |nil=>rfl
 |cons h pre ih=>rw[List.foldr_cons,ih];rfl
def DW(pre suf:List Hd):B4 (pre++suf)=pre.foldr SV (B4 suf):=by unfold B4;rw[List.foldr_append]
def jZ(SP:DH):∀ ds Q,b_ ds Q->eF SP { nx:=λ_=>Q .sh .non,rt:=Q } (aM 5 ds):=by
 rintro ds Q ⟨d,rfl,h1,h2⟩;unfold eF;walk_at "q";refine⟨d,rfl,λ⟨t,e⟩=>?_,λne=>?_⟩;rotate_left
 ·walk_at "q";exact h1 ne
 subst e;obtain⟨tl,hb,hg⟩:=h2 t rfl;walk_at "q";refine⟨by decide +kernel,tl,?_⟩;generalize Txt.split t " " = ws at *
 refine R.D (λhl=>?_) λhl=>?_
 ·walk_at "q";exact hb λz=>by have:=z.2;lia
 walk_at "q";intro a;walk_at "q";intro b;have wl:ws.length<=200:=by lia
 refine⟨ws,rfl,by lia,λhs eh=>?_,λen=>?_⟩;rotate_left
 ·walk_at "q";refine hb λz=>?_;have z1:=z.1;rw[i_,en] at z1;cases z1
 obtain⟨ef,bG⟩:=sV ws hs eh;have bad:B4 hs=none->Q (.ow false) (.str "NoText"):=λe=>hb λz=>by have z1:=z.1;rw[i_,eh] at z1;obtain⟨p,e2,_⟩:=(rF hs 1).mp z1;rw[e] at e2;cases e2
 have parts:∀ i,hs=(hs.reverse.drop i).reverse++(hs.reverse.take i).reverse:=λi=>by rw[<- VR,Q9,D2]
 have inv:∀ i rs st,B4 (hs.reverse.take i).reverse=some (rs,st)->RIv (hs.reverse.take i).reverse rs st:=λi rs st e=>by
  have p:=parts i;refine Gq _ (λh hh=>bG h (by rw[p];exact eT _ hh)) ?_ rs st e;have:(hs.flatMap hw).length<=200:=by rw[ef];exact wl
  rw[p,List.flatMap_append,iq] at this;lia
 have hlen:hs.length<=200:=kD (Hc eh) wl;walk_at "q";rw[<- Tw];refine b8 _ (λi ρ=>∃ rs st o4,B4 (hs.reverse.take i).reverse=some (rs,st)/\ρ=[some (.sh (.str t)),some (.ow true (.list (ws.map .str))),some (.ob a (SP true (rs.map fv))),mP b st.reverse,o4]) ⟨[],[],none,rfl,rfl⟩ ?_ ?_
 ·rintro i x ρ hx ⟨rs,st,o4,er,rfl⟩ N hN;rw[mz] at hx;obtain⟨h,hh,rfl⟩:=kr.mp hx;have tk:(hs.reverse.take (i+1)).reverse=h :: (hs.reverse.take i).reverse:=by rw[Ap,hh];simp
  have rn:B4 (hs.reverse.take (i+1)).reverse=(rS h st).map λq=>((hJ rs q.1).1,(hJ rs q.1).2 :: q.2):=by rw[tk,oE,er];rfl
  have I:=inv i rs st er;have hm:h∈hs:=List.mem_reverse.mp (rV hh);have il:((hs.reverse.take i).reverse).length<=200:=by rw[A8,mB,A8];lia
  have ln:=I.ln;have sl:=I.sl;refine⟨⟨b,_,rfl⟩,⟨a,_,rfl⟩,?_⟩;refine⟨b,st.reverse,rfl,?_⟩;have fh:(BE h).flat=true:=by cases h<;>rfl
  refine⟨fh,h,st,rfl,bG h hm,rfl,λz=>?_,λr tt z=>?_⟩
  ·refine bad ?_;rw[z] at rn;rw[parts (i+1),DW,rn];exact zU _
  ·rw[z] at rn;have I2:=inv (i+1) _ _ rn;obtain⟨j,hj⟩:=A7.mp (Dm rs r);have ok:=I2.sc j r hj;have s2:=I2.sl;rw[tk,jv,jv] at s2;have s2:tt.length+1<=(hs.reverse.take i).reverse.length+1:=s2;refine⟨a,rs.map fv,b,tt.reverse,fv r,rfl,rfl,?_,?_,(A_ r).symm,by rw[A_];exact rw_ok 10 ok,λky k hr hk=>?_⟩
   ·rw[dz,nS];lia
   ·rw[A8,nS];lia
   ·obtain⟨rfl,ek⟩:=Jq I.nd hr hk;refine hN _ ⟨_,_,some (.sh (BE h)),rn,?_⟩;rw[ek];simp
 ·rintro ρ ⟨rs,st,o4,er,rfl⟩;rw[dz,A9,D2] at er;have I:RIv hs rs st:=by have:=inv hs.reverse.length rs st (by rw[A9,D2];exact er);rwa[A9,D2] at this
  walk_at "q";refine⟨b,_,rfl,?_⟩;walk_at "q";rw[A8];refine R.B (λe=>?_) λe=>?_
  ·have e:¬ (st.length:Int)=1:=by simpa using e
   walk_at "q";refine hb λz=>?_;have z1:=z.1;rw[i_,eh] at z1;obtain⟨p,e2,l2⟩:=(rF hs 1).mp z1;rw[er] at e2;cases e2;have l2:st.length=1:=l2;lia
  ·have e:(st.length:Int)=1:=by simpa using e
   have l1:st.length=1:=by lia
   obtain⟨x,rfl⟩:=List.length_eq_one_iff.mp l1;obtain⟨x0,x1⟩:=I.bd x fA;obtain⟨B5,ew,efl⟩:=I.ws;have rk:SX ws:=⟨by rw[i_,eh];exact(rF hs 1).mpr ⟨_,er,rfl⟩,wl⟩
   have top:WA.at rs ((x.toNat:Nat):Int)=some ws:=by
    rw[kF x0]
    cases B5 with
    |nil=>simp at ew
    |cons w1 wt =>
     simp only[fR,List.map_nil,List.cons.injEq] at ew;have:wt=[]:=by
      cases wt with
      |nil=>rfl
      |cons _ _=>simp at ew
     subst this;rw[ew.1,<- ef,<- efl];simp
   have ln:=I.ln;have rl:(bj rs x.toNat).length<=x.toNat+1:=yK (eV rs x.toNat) (n:=x.toNat+1) λy hy=>by have:=gk I.sc hy;lia
   have fin:=hg rk (pf rs x.toNat) (Df I.sc (by lia)) (by rw[oZ];exact Ag I.sc) (by rw[oZ];lia) (by rw[Aa WA I.sc (by lia)];exact top);walk_at "q";refine⟨a,true,rs.map fv,rfl,?_⟩;walk_at "q";refine⟨b,_,rfl,?_⟩;walk_at "q";refine⟨.int x,rfl,?_⟩;walk_at "q";exact⟨rs,x.toNat,rfl,I.sc,by rw[kF x0],by lia,by lia,fin⟩
def fO:WS :=
 (fm (yb (wB (bx eZ (ak (ai 0) bP))))
 (e_ "NoScroll" (wC (.str "this is no scroll")))
 aP)
def cF:fk:=λds Q=>∃ d:D,ds=[d]/\(DL d=true->Q .sh .non)/\(DL d=false->Q (.ow false) (.str "NoScroll"))
def jy (ds Q) (h:cF ds Q):ds.length=["thing"].length:=by obtain⟨_,rfl,_⟩:=h;rfl
def mC:∀ ds Q,cF ds Q->fO { nx:=λ_=>Q .sh .non,rt:=Q } (aM 1 ds):=by
 rintro ds Q ⟨d,rfl,h1,h2⟩;unfold fO;walk_at "q";refine⟨_,rfl,?_⟩
 cases e:DL d with
 |true =>walk_at "q";exact h1 e
 |false =>walk_at "q";exact h2 e
def Cv:WS :=
 (b5 (uw cF (ak (ai 0) bP))
 (b5 (eS 1 (fT bP))
 (b5 (zv 0 (yi (jo (ai 0)) (gN 2)
 (yk (qa 1) (bx gB (ak (ai 2) (ak (ai 1) bP))))))
 (b5 (fm (wB (ax ZE (ax cp (ai 1) (dQ zk (wC (.int 1)))) (wC .non)))
 (e_ "TooBig" (wC (.str "the sentence would have too many words")))
 aP)
 (fF (qC (wC (.str " ")) (ax cp (ai 1) (dQ zk (wC (.int 1))))))))))
def kY:fk:=λds Q=>∃ d:D,ds=[d]/\((DL d=false/\Q (.ow false) (.str "NoScroll"))\/∃ l:List Rw,d=.list (l.map de)/\eB l/\1<=l.length/\l.length<=2000/\(WA.at l ((l.length-1:Nat):Int)=none->Q (.ow false) (.str "TooBig"))/\∀ ws,WA.at l ((l.length-1:Nat):Int)=some ws->Q .sh (.str (Str.join " " ws)))
def Aj (ds Q) (h:kY ds Q):ds.length=["scroll"].length:=by obtain⟨_,rfl,_⟩:=h;rfl
theorem qG:∀ (l:List Str),iW (l.map D.str)=some l
 |[]=>rfl
 |x :: l=>by rw[fR];unfold iW;rw[qG l];rfl
theorem wF(k:Nat):∀ (l:List Str),(∀ w∈l,w.length<=k)->(l.map (·.length)).sum<=l.length*k
 |[],_=>by simp
 |w :: l,h=>by have:=wF k l λx hx=>h x (eI _ hx);have:=h w fA;simp only[fR,NM,jv,Nat.succ_mul];lia
def Ka:∀ ds Q,kY ds Q->Cv { nx:=λ_=>Q .sh .non,rt:=Q } (aM 3 ds):=by
 rintro ds Q ⟨d,rfl,h⟩;unfold Cv;walk_at "q";rcases h with⟨hb,h⟩|⟨l,rfl,sc,h1,h2,hn,h⟩
 ·refine⟨d,rfl,λe=>(by rw[hb] at e;cases e),λ_=>?_⟩;walk_at "q";exact h
 refine⟨_,rfl,λ_=>?_,λe=>(by rw[GJ sc h1 h2] at e;cases e)⟩;walk_at "q";refine b8 _ (λi ρ=>∃ o2,ρ=[some (.sh (.list (l.map de))),some (.ow true (.list ((WA.vals (l.take i)).map pz))),o2]) ⟨none,rfl⟩ ?_ ?_
 ·rintro i x ρ hx ⟨o2,rfl⟩ N hN;rw[mz] at hx;obtain⟨r,hr,rfl⟩:=kr.mp hx;have hi:=(ng.mp hr).1;have tk:WA.vals (l.take (i+1))=WA.vals (l.take i)++[WA.H r (WA.at (l.take i))]:=by rw[Ap,hr];exact jJ WA _ _
  have vl:(WA.vals (l.take i)).length=i:=by rw[cz,mB];lia
  have nx:=hN _ ⟨some (.sh (de r)),rfl⟩;rw[tk,nh] at nx;generalize hv:WA.vals (l.take i)=vs at *
  have Fh:∀ o∈vs,zS o:=hv ▸ pD sc i (by lia);have eH:WA.H r (WA.at (l.take i))=tT r λj=>vs.getD j.toNat none:=by rw[<- hv];rfl
  rw[eH] at nx;walk_at "q";refine⟨i,r,vs,rfl,sc i r hr,by lia,Fh,λz=>?_,λws z=>?_⟩
  ·rw[z] at nx;walk_at "q";exact⟨by lia,nx⟩
  ·rw[z] at nx;walk_at "q";exact⟨by lia,nx⟩
 ·rintro ρ ⟨o2,rfl⟩;rw[dz,A9];have Fh:=pD sc l.length (c9 _);rw[A9] at Fh;have z5:e8 ((WA.vals l).map pz) (-1)=some (pz (WA.at l ((l.length-1:Nat):Int))):=by
   have vl:=cz WA l;have lI:WA.vals l≠[]:=λz=>by rw[z] at vl;simp at vl;lia
   have el:=(Tf lI).symm;have eg:(WA.vals l).getLast lI=WA.at l ((l.length-1:Nat):Int):=by unfold Sm.at;rw[CB,<- vl,xA,<- List.getLast?_eq_getElem?,xdB lI];rfl
   conv=>lhs;rw[el,nh,eg]
   exact WQ _ _
  have wk:zS (WA.at l ((l.length-1:Nat):Int)):=by
   unfold Sm.at;rw[xA]
   cases e:(WA.vals l)[((l.length-1:Nat):Int).toNat]? with
   |none=>exact λws z=>nomatch z
   |some o=>exact Fh o (rV e)
  cases ea:WA.at l ((l.length-1:Nat):Int) with
  |none =>rw[ea] at z5;have z5:e8 ((WA.vals l).map pz) (-1)=some .non:=z5;walk_at "q";refine⟨_,z5,?_⟩;walk_at "q";exact hn ea
  |some ws =>rw[ea] at z5 wk;have z5:e8 ((WA.vals l).map pz) (-1)=some (.list (ws.map .str)):=z5;obtain⟨w1,w2⟩:=wk ws rfl;have sm:=wF 6 ws λx hx=>(w2 x hx).2;walk_at "q";refine⟨_,z5,?_⟩;walk_at "q";refine⟨_,z5,?_⟩;walk_at "q";exact⟨ws,qG ws,by rw[show(Str.ofString " ").length=1 by decide +kernel,Nat.mul_one];lia,h ws ea⟩
def lA:WS :=
 (b5 (eS 1 (wC .non))
 (b5 (eS 2 (wC .non))
 (b5 (Ga 3 (Dt 2 (yW kY (ak (ai 0) bP))) (λa n=>(b5 (eS 4 (ML 3 a (decide (n = "NoDeed") || (decide (n = "NoText") || false))))
 (zv 4 (eS 1 (fq (ak (ML 3 a (decide (n = "TooBig"))) (ak (ML 3 a (decide (n = "NoScroll"))) (ak (ML 3 a true) (ak (ai 4) bP))))))))))
 (yF [.inr 1,.inr 2]))))
abbrev kdD(a b:Bool):D:=.tup [.bl a,.bl b,.bl true,.bl false]
def cM:fk:=λds Q=>∃ d:D,ds=[d]/\((DL d=false/\Q .sh (.tup [kdD false true,.non]))\/∃ l:List Rw,d=.list (l.map de)/\eB l/\1<=l.length/\l.length<=2000/\(WA.at l ((l.length-1:Nat):Int)=none->Q .sh (.tup [kdD true false,.non]))/\∀ ws,WA.at l ((l.length-1:Nat):Int)=some ws->Q .sh (.tup [.non,.str (Str.join " " ws)]))
def nF (ds Q) (h:cM ds Q):ds.length=["_law_scroll_here"].length:=by obtain⟨_,rfl,_⟩:=h;rfl
def rT:∀ ds Q,cM ds Q->lA { nx:=λ_=>Q .sh .non,rt:=Q } (aM 5 ds):=by
 rintro ds Q ⟨d,rfl,h⟩;unfold lA;walk_at "q";rcases h with⟨hb,h⟩|⟨l,rfl,sc,h1,h2,hn,h⟩
 ·refine⟨d,rfl,.inl ⟨hb,?_⟩⟩;walk_at "q";have e1:decide (Str.ofString "NoScroll" = Str.ofString "TooBig")=false/\(decide (Str.ofString "NoScroll" = Str.ofString "NoDeed") || (decide (Str.ofString "NoScroll" = Str.ofString "NoText") || false))=false:=by decide +kernel
  rw[e1.1,e1.2];exact λ_=>h
 refine⟨_,rfl,.inr ⟨l,rfl,sc,h1,h2,λe=>?_,λws e=>?_⟩⟩
 ·walk_at "q";have e1:decide (Str.ofString "TooBig" = Str.ofString "NoScroll")=false/\(decide (Str.ofString "TooBig" = Str.ofString "NoDeed") || (decide (Str.ofString "TooBig" = Str.ofString "NoText") || false))=false:=by decide +kernel
  rw[e1.1,e1.2];exact λ_=>hn e
 ·walk_at "q";exact h ws e
def jF:WS :=
 (b5 (eS 10 (bx cR (ak (ai 5) bP)))
 (b5 (fm (wB (ax L5 (ai 10) (wC (.int 200))))
 (fF (ax fE (ai 7) (fq (ak (wC (.bl true)) (ak (wC (.bl false)) (ak (wC (.bl true)) (ak (wC (.bl false)) bP)))))))
 aP)
 (b5 (fm (vt (wB (ax Gr (ai 7) (wC .non))) (yb (wB (dQ (zo "str") (ai 8)))))
 (fF (wC (.bl false)))
 aP)
 (b5 (eS 11 (tG (ai 8) (wC (.str " "))))
 (b5 (fm (vt (wB (ax EX (dQ i6 (ai 11)) (ai 10))) (yb (wB (bx bN (ak (ai 5) (ak (ai 11) bP))))))
 (fF (wC (.bl false)))
 aP)
 (fF (kO (ax fE (pO kY (ak (pO b_ (ak (ai 8) bP)) bP)) (ai 8)) (ax fE (pO kY (ak (ai 5) bP)) (ai 8)))))))))
def oN:WS :=
 (b5 (mD 9 (bx dF (ak (ai 5) (ak (bx aN (ak (ai 0) (ak (wC (.int 5)) bP))) bP))))
 (b5 (fm (wB (ax EX (bx cM (ak (ai 9) bP)) (fq (ak (fq (ak (wC (.bl false)) (ak (wC (.bl true)) (ak (wC (.bl true)) (ak (wC (.bl false)) bP))))) (ak (wC .non) bP)))))
 (fF (wC (.bl false)))
 aP)
 jF))
def nY:WS :=
 (b5 (mD 6 (dQ xK (ai 5)))
 (b5 (zL 7 8 (bx cM (ak (ai 6) bP)))
 (b5 (fm (wB (ax EX (ai 6) (ai 5)))
 (fF (wC (.bl false)))
 aP)
 oN)))
def n8:WS :=
 (b5 (fm (wB (ax fE (ax kH (ax rj (ai 1) (wC (.int 4))) (wC (.int 4))) (wC (.int 3))))
 (mD 5 (bx bJ (ak (ai 3) (ak (ai 2) bP))))
 aP)
 nY)
def o_:WS :=
 (b5 (mD 5 (bx cU (ak (ax iO (ai 4) (fT (ak (bx aN (ak (ai 0) (ak (wC (.int 3)) bP))) bP))) (ak (ax iO (fT (ak (wC (.str "*")) (ak (wC (.str "yes")) (ak (wC (.str "some")) bP)))) (ai 2)) bP))))
 n8)
def oX:WS :=
 (b5 (mD 4 (EZ (ai 0) (iT (wC (.int 6))) (iT (ax iO (wC (.int 6)) (ax cp (fT (ak (wC (.int 4)) (ak (wC (.int 8)) (ak (wC (.int 14)) (ak (wC (.int 30)) bP))))) (ax kH (ai 1) (wC (.int 4))))))))
 o_)
def Js:WS :=
 (b5 (eS 1 (bx aN (ak (ai 0) (ak (wC (.int 0)) bP))))
 (b5 (mD 2 (bx dw (ak (bx aN (ak (ai 0) (ak (wC (.int 1)) bP))) (ak (bx aN (ak (ai 0) (ak (wC (.int 2)) bP))) bP))))
 (b5 (eS 3 (bx aN (ak (ai 0) (ak (wC (.int 4)) bP))))
 oX)))
abbrev SY:fk:=di'
def DK (ds Q) (h:SY ds Q):ds.length=["_law_script"].length:=by obtain⟨_,rfl,_⟩:=h;rfl
def MF:(" " : Str)=⟨#[32]⟩:=by decide +kernel
def Cj:(" " : Str).length=1:=by decide +kernel
def join_cons (a:Str) {r:List Str} (h:r≠[]):Str.join " " (a :: r)=a++(" " ++ Str.join " " r):=by
 cases r with
 |nil=>exact absurd rfl h
 |cons b r =>refine lQ ?_;have:=gQ " " a b r;unfold sg at this;rw[this];have e1:=ji a (" " ++ Str.join " " (b :: r));have e2:=ji " " (Str.join " " (b :: r));unfold sg at e1 e2;rw[e1,e2]
theorem gR:∀ (zs:List Str),zs≠[]->(Str.join " " zs).length+1=(zs.map (·.length)).sum+zs.length
 |[],h=>absurd rfl h
 |[a],_=>by simp[show Str.join " " [a]=a from rfl]
 |a :: b :: r,_=>by have ih:=gR (b :: r) (by simp);rw[join_cons a (by simp),aV,aV,Cj];simp only[fR,NM,jv] at ih ⊢;lia
def Ae {ps:List Str} (h:ps≠[]) (hc:∀ p∈ps,32∉sg p):Txt.split (Str.join " " ps) " " = ps:=by rw[MF];exact vN h hc
def S0(ws:List Str):Prop:=(∀ n rest,rL (n+1) (ws++rest)=rL n rest)/\∀ w∈ws,32∉sg w
def G_{w:Str}(h:yv w):32∉sg w:=λz=>by
 rcases h with rfl|h
 ·exact absurd z (by decide +kernel)
 ·have:=h.2.2 32 z;cases this
theorem Ja {j:Str} (hj:j = "both"\/j = "either"):∀ l:List (List Str),l≠[]->(∀ p∈l,S0 p)->S0 (qf j l)
 |[],h,_=>absurd rfl h
 |[p],_,h=>h p (iP.mpr rfl)
 |p :: q :: l,_,h=>by
  obtain⟨i1,i2⟩:=Ja hj (q :: l) (by simp) λx hx=>h x (eI _ hx);obtain⟨p1,p2⟩:=h p fA;refine⟨λn rest=>?_,λw hw=>?_⟩
  ·show rL (n+1) (j :: ((p++qf j (q :: l))++rest))=_;rw[yP (JM hj).1,(JM hj).2,pE];show rL (n+2) _=_;rw[p1,i1]
  ·rcases eW.mp (show w∈j :: (p++qf j (q :: l)) from hw) with rfl|hw
   ·rcases hj with rfl|rfl<;>decide +kernel
   ·exact(eR.mp hw).elim (p2 w) (i2 w)
theorem wu{g:Int->Option (List Str)}:∀ {ps:List Int} {x:List (List Str)},fI (ps.map g)=some x->∀ p∈x,∃ j∈ps,g j=some p
 |[],_,h=>by cases h;exact λ_ z=>nomatch z
 |q :: ps,_,h=>by
  obtain⟨a,y,ha,hy,rfl⟩:=bZ h;intro p hp;rcases eW.mp hp with rfl|hp
  ·exact⟨q,fA,ha⟩
  ·obtain⟨j,hj,e⟩:=wu hy p hp;exact⟨j,eI _ hj,e⟩
def Nf{k:Int}{r:Rw}(ok:kQ k r){g:Int->Option (List Str)}{ws:List Str}(h:tT r g=some ws)(hg:∀ j∈ja r,∀ w,g j=some w->S0 w):S0 ws:=by
 obtain⟨h,_⟩:=oW h
 cases r with
 |st w d j =>
  obtain⟨a,ha,rfl⟩:=kr.1 h;obtain⟨g1,g2⟩:=hg j (iP.mpr rfl) a ha;refine⟨λn rest=>?_,λx hx=>?_⟩
  ·show(if pj w then cO d && rL (n+1) (a++rest) else _)=_;rw[if_pos ok.1,cV.mpr ok.2.1,I0,g1]
  ·rcases eW.mp hx with rfl|hx
   ·rcases ok.1 with rfl|rfl<;>decide +kernel
   rcases eW.mp hx with rfl|hx
   ·exact G_ ok.2.1
   ·exact g2 x hx
 |nt j =>
  obtain⟨a,ha,rfl⟩:=kr.1 h;obtain⟨g1,g2⟩:=hg j (iP.mpr rfl) a ha;refine⟨λn rest=>?_,λx hx=>?_⟩
  ·show rL (n+1) ("not" :: (a++rest))=_;rw[yP J2.1,J2.2];exact g1 n rest
  ·rcases eW.mp hx with rfl|hx
   ·decide +kernel
   ·exact g2 x hx
 |jn w ps =>
  obtain⟨x,hx,e⟩:=kr.1 h;have hm:=wu hx
  cases x with
  |nil =>
   cases e;have ha:bu w = "yes"\/bu w = "no" := by unfold bu;split;exact .inl rfl;exact .inr rfl
   refine⟨λn rest=>?_,λy hy=>?_⟩
   ·show rL (n+1) (bu w :: rest)=_;rw[yP (Jm ha).1,(Jm ha).2];rfl
   ·rw[iP.mp hy];rcases ha with ha|ha<;>rw[ha]<;>decide +kernel
  |cons p x =>cases e;exact Ja (by unfold aK;split;exact .inl rfl;exact .inr rfl) (p :: x) (by simp) λq hq=>by obtain⟨j,hj,e⟩:=hm q hq;exact hg j hj q e
def M_{l:List Rw}(sc:eB l):∀ (k:Nat) (ws:List Str),WA.at l k=some ws->S0 ws:=by
 intro k
 induction k using Nat.strongRecOn with
 |ind k ih =>
  intro ws h;by_cases hk:k<l.length
  ·rw[kJ WA sc (qk hk)] at h;have ok:=sc k _ (qk hk);refine Nf ok h λj hj w hw=>?_;have:=bW ok j hj;exact ih j.toNat (by lia) w (by rw[kF this.1];exact hw)
  ·have:WA.at l k=none:=by unfold Sm.at;rw[CB,xA,IU (by rw[cz];lia)];rfl
   rw[this] at h;exact nomatch h
def told {l:List Rw} (sc:eB l) {k:Nat} {ws:List Str} (h:WA.at l k=some ws):Txt.split (Str.join " " ws) " " = ws/\SX ws/\(Str.join " " ws).length<=1000000:=by
 obtain⟨g1,g2⟩:=M_ sc k ws h;obtain⟨wl,wk⟩:=CW sc k ws h;have ne:=Gk sc k ws h;refine⟨Ae ne g2,⟨?_,wl⟩,?_⟩
 ·have:=g1 0 [];rw[kM] at this;rw[this];rfl
 ·have:=gR ws ne;have:=wF 6 ws λw hw=>(wk w hw).2;lia
def Kd (l:List Rw) (k f:D):Prop:=(WA.at l ((l.length-1:Nat):Int)=none/\k=kdD true false/\f=.non)\/∃ ws,WA.at l ((l.length-1:Nat):Int)=some ws/\k=.non/\f=.str (Str.join " " ws)
def Il{Q:Md->D->Prop}{l:List Rw}{k f:D}{d0 d1 d2 d3 d4 d6 d9:D}(sc:eB l)(l1:1<=l.length)(l2:l.length<=1000)(kd:Kd l k f)(h:∀ m,Q m (.bl true)):jF { nx:=λ_=>Q .sh .non,rt:=Q } [some (.sh d0),some (.sh d1),some (.sh d2),some (.sh d3),some (.sh d4),some (.sh (.list (l.map de))),some (.sh d6),some (.sh k),some (.sh f),some (.sh d9),none,none]:=by
 unfold jF;walk_at "q";refine⟨l,rfl,sc,l1,by lia,?_⟩;rcases kd with⟨ea,rfl,rfl⟩|⟨ws,ea,rfl,rfl⟩
 ·rw[ea];walk_at "q";refine R.T (decide_eq_true (by decide)) ?_;walk_at "q";exact⟨rfl,rfl,h _⟩
 ·obtain⟨t1,t2,t3⟩:=told sc ea;have wl:=t2.2;rw[ea];walk_at "q";refine R.F (decide_eq_false (by show ¬ (200:Int)<ws.length;lia)) ?_;walk_at "q";refine R.F rfl ?_;walk_at "q";rw[t1];refine⟨by rw[Cj];decide,t3,R.F (by rw[decide_eq_true (show(ws.length:Int)=kf (some ws) from rfl)];rfl) ?_⟩;walk_at "q";refine⟨l,ws,rfl,sc,l1,by lia,ea,?_⟩;walk_at "q";have rd:SX (Txt.split (Str.join " " ws) " "):=t1.symm ▸ t2;refine⟨_,rfl,λz=>absurd ⟨_,rfl⟩ z,λt et=>?_⟩;cases et;refine⟨t3,λz=>absurd rd z,λ_ l' sc' l1' l2' ea'=>?_⟩;rw[t1] at ea';walk_at "q";refine⟨_,rfl,.inr ⟨l',rfl,sc',l1',l2',λz=>(by rw[ea'] at z;cases z),λvs z=>?_⟩⟩;rw[ea'] at z;cases z;walk_at "q";refine⟨_,rfl,.inr ⟨l,rfl,sc,l1,by lia,λz=>(by rw[ea] at z;cases z),λvs z=>?_⟩⟩;rw[ea] at z;cases z;walk_at "q";exact h _
def KY{Q:Md->D->Prop}{ns:List Int}{l:List Rw}{k f:D}{d1 d2 d3 d4 d6:D}(sc:eB l)(l1:1<=l.length)(l2:l.length<=1000)(kd:Kd l k f)(h:∀ m,Q m (.bl true)):oN { nx:=λ_=>Q .sh .non,rt:=Q } [some (.sh (.list (ns.map .int))),some (.sh d1),some (.sh d2),some (.sh d3),some (.sh d4),some (.sh (.list (l.map de))),some (.sh d6),some (.sh k),some (.sh f),none,none,none]:=by
 obtain⟨w11,e11⟩:∃ w,w=jF:=⟨_,rfl⟩
 unfold oN;rw[<- e11];walk_at "q";refine⟨ns,5,rfl,by decide,?_⟩;generalize ns.getD _ 0=c5;walk_at "q";refine⟨l,c5,rfl,sc,l1,l2,λm d hd=>?_⟩;refine⟨rfl,?_⟩;walk_at "q";refine⟨d,rfl,.inl ⟨hd,?_⟩⟩;walk_at "q";refine⟨rfl,rfl,R.F rfl ?_⟩;walk_at "q";rw[e11];exact Il sc l1 l2 kd h
def Hu{Q:Md->D->Prop}{ns:List Int}{l:List Rw}{d1 d2 d3 d4:D}(sc:eB l)(l1:1<=l.length)(l2:l.length<=1000)(h:∀ m,Q m (.bl true)):nY { nx:=λ_=>Q .sh .non,rt:=Q } [some (.sh (.list (ns.map .int))),some (.sh d1),some (.sh d2),some (.sh d3),some (.sh d4),some (.sh (.list (l.map de))),none,none,none,none,none,none]:=by
 obtain⟨w9,e9⟩:∃ w,w=oN:=⟨_,rfl⟩
 unfold nY;rw[<- e9];have ok:=HN sc 9;have nb:(D.list (l.map de)).nb=true:=tQ l;have go:∀ k f,Kd l k f->_:=λk f kd=>KY (Q:=Q) (ns:=ns) (k:=k) (f:=f) (d1:=d1) (d2:=d2) (d3:=d3) (d4:=d4) (d6:=.list (l.map de)) sc l1 l2 kd h;rw[<- e9] at go;walk_at "q";refine .inl ⟨bV l,_,rfl,.inr ⟨l,rfl,sc,l1,by lia,λea=>?_,λws ea=>?_⟩⟩
 ·have go:=go _ _ (.inl ⟨ea,rfl,rfl⟩);walk_at "q";refine⟨ok,ok,R.F (by rw[(d_ _ _ nb nb).mpr rfl];rfl) ?_⟩;walk_at "q";exact go
 ·have go:=go _ _ (.inr ⟨ws,ea,rfl,rfl⟩);walk_at "q";refine⟨ok,ok,R.F (by rw[(d_ _ _ nb nb).mpr rfl];rfl) ?_⟩;walk_at "q";exact go
def Ml{Q:Md->D->Prop}{ns:List Int}{l:List Rw}{pool:List Str}{c0 c4:Int}{d4:D}(sc:eB l)(l1:1<=l.length)(l2:l.length<=1000)(pl:pool.length=6)(po:∀ n∈pool,Open n)(h:∀ m,Q m (.bl true)):n8 { nx:=λ_=>Q .sh .non,rt:=Q } [some (.sh (.list (ns.map .int))),some (.sh (.int c0)),some (.sh (.list (pool.map .str))),some (.sh (.int c4)),some (.sh d4),some (.sh (.list (l.map de))),none,none,none,none,none,none]:=by
 obtain⟨w6,e6⟩:∃ w,w=nY:=⟨_,rfl⟩
 unfold n8;rw[<- e6];walk_at "q";refine R.D (λe=>?_) λe=>?_
 ·walk_at "q";refine⟨c4,pool,rfl,pl,po,λl' sc' l1' l2'=>?_⟩;walk_at "q";rw[e6];exact Hu sc' (by lia) (by lia) h
 ·walk_at "q";rw[e6];exact Hu sc l1 l2 h
def KH{Q:Md->D->Prop}{ns cs:List Int}{pool:List Str}{c0 c4:Int}(cl:cs.length<=30)(pl:pool.length=6)(po:∀ n∈pool,Open n)(h:∀ m,Q m (.bl true)):o_ { nx:=λ_=>Q .sh .non,rt:=Q } [some (.sh (.list (ns.map .int))),some (.sh (.int c0)),some (.sh (.list (pool.map .str))),some (.sh (.int c4)),some (.sh (.list (cs.map .int))),none,none,none,none,none,none,none]:=by
 obtain⟨w5,e5⟩:∃ w,w=n8:=⟨_,rfl⟩
 unfold o_;rw[<- e5];walk_at "q";refine⟨ns,3,rfl,by decide,?_⟩;generalize ns.getD _ 0=c3;walk_at "q";have dy:yv "yes"/\yv "some" := ⟨cV.mp (by decide +kernel),cV.mp (by decide +kernel)⟩
 refine⟨by lia,.inl ⟨bf cs,by lia,.inl ⟨bw _,cs++[c3], "*" :: "yes" :: "some" :: pool,by rw[nh];rfl,by rw[iq];simp;lia,by simp,by simp;lia,λn hn=>?_,λl ll sc=>?_⟩⟩⟩
 ·simp only[eW] at hn;rcases hn with rfl|rfl|rfl|hn
  ·exact .inl rfl
  ·exact dy.1
  ·exact dy.2
  ·exact .inr (po n hn)
 rw[iq,VM] at ll;walk_at "q";rw[e5];exact Ml sc (by lia) (by lia) pl po h
def Li{Q:Md->D->Prop}{ns:List Int}{pool:List Str}{c0 c4:Int}(pl:pool.length=6)(po:∀ n∈pool,Open n)(h:∀ m,Q m (.bl true)):oX { nx:=λ_=>Q .sh .non,rt:=Q } [some (.sh (.list (ns.map .int))),some (.sh (.int c0)),some (.sh (.list (pool.map .str))),some (.sh (.int c4)),none,none,none,none,none,none,none,none]:=by
 obtain⟨w4,e4⟩:∃ w,w=o_:=⟨_,rfl⟩
 have t0:=oC c0 (show(4:Int)≠0 by decide);have t1:=oB c0 (show(0:Int)<4 by decide);obtain⟨n,en,hn⟩:∃ n:Nat,e8 [D.int 4,D.int 8,D.int 14,D.int 30] (c0 % 4)=some (.int n)/\n<=30:=by
  have:c0 % 4=0\/c0 % 4=1\/c0 % 4=2\/c0 % 4=3:=by lia
  rcases this with e|e|e|e<;>rw[e]
  ·exact⟨4,rfl,by decide⟩
  ·exact⟨8,rfl,by decide⟩
  ·exact⟨14,rfl,by decide⟩
  ·exact⟨30,rfl,by decide⟩
 have cl:(ox ns (some 6) (some (6+(n:Int)))).length<=30:=by
  unfold ox;rw[mB];have:HT.cE ns.length ns.length (some (6+(n:Int)))-HT.cE ns.length 0 (some 6)<=30:=by simp only[HT.cE];rw[if_neg (by lia),if_neg (by decide)];lia
  lia
 unfold oX;rw[<- e4];walk_at "q";refine⟨_,en,?_⟩;walk_at "q";rw[show ox (ns.map D.int) (some 6) (some (6+(n:Int)))=(ox ns (some 6) (some (6+(n:Int)))).map D.int by unfold ox;rw[dz,List.map_take,List.map_drop],e4];exact .inl ⟨bf ns,KH cl pl po h⟩
def Mr:∀ ds Q,SY ds Q->Js { nx:=λ_=>Q .sh .non,rt:=Q } (aM 12 ds):=by
 rintro ds Q ⟨ns,rfl,hl,h⟩;obtain⟨w3,e3⟩:∃ w,w=oX:=⟨_,rfl⟩
 unfold Js;rw[<- e3];walk_at "q";refine⟨ns,0,rfl,by decide,?_⟩;generalize ns.getD _ 0=c0;walk_at "q";refine⟨ns,1,rfl,by decide,?_⟩;generalize ns.getD _ 0=c1;walk_at "q";refine⟨ns,2,rfl,by decide,?_⟩;generalize ns.getD _ 0=c2;walk_at "q";refine⟨c1,c2,rfl,λpool pl po=>?_⟩;walk_at "q";refine⟨ns,4,rfl,by decide,?_⟩;generalize ns.getD _ 0=c4;walk_at "q";rw[e3];exact Li pl po h
def top(i:Nat):h8:=PySem.Challenge.pw_kinlook_k28_told_in_words.main.body.getD i (.Pass ⟨0,0,0,0⟩)
def Gh:h8->List h8
 |.ClassDef _ _ _ b .. => b
 |_=>[]
abbrev DM(i j:Nat):h8:=(Gh (top i)).getD j (.Pass ⟨0,0,0,0⟩)
abbrev j6:h8:=DM 10 1
abbrev iJ:h8:=DM 10 0
abbrev rB:h8:=top 52
abbrev rn:List Str:=["NoScroll", "NoText", "TooBig"]
structure Txt(w:cS)(K:ay)(mg:Str->Option ah):Prop where
 au':mg "ValueError" = none
 S4:mg "all" = none
 av':mg "bool" = none
 aw':mg "enumerate" = none
 Vw:mg "int" = none
 t5:mg "isinstance" = none
 kC:mg "len" = none
 S5:mg "list" = none
 Qr:mg "min" = none
 DS:mg "range" = none
 ax':mg "reversed" = none
 ay':mg "sorted" = none
 M0:mg "str" = none
 IG:mg "tuple" = none
 az':UL mg "HIDDEN" "*"
 aA':UL mg "LETTERS" "abcdefghijklmnopqrstuvwxyz"
 aB':OX mg "MOST_LETTERS" 6
 aC':OX mg "MOST_ROWS" 2000
 aD':OX mg "MOST_PARTS" 200
 Vx:OX mg "MOST_WORDS" 200
 eh':GlD w K mg "ALONE" [("and", "yes"),("or", "no")]
 ei':GlD w K mg "JOINTS" [("and", "both"),("or", "either")]
 me':Vd K mg "NoScroll"
 Nc:Vd K mg "NoText"
 mf':Vd K mg "TooBig"
 mg':JN K mg rn "KinError"
 mh':∀ n C,n∈rn->mg n=some (.ref C)->∃ c,mg "NoDeed" = some (.ref c)/\oa K (.ref C) (.ref c)=some (decide (n = "NoDeed"))
 mi':∀ n C,n∈rn->mg n=some (.ref C)->∃ c,mg "NoText" = some (.ref c)/\oa K (.ref C) (.ref c)=some (decide (n = "NoText"))
 mj':∀ n C,n∈rn->mg n=some (.ref C)->oa K (.ref C) (.type "ValueError")=some true
 ml':∀ n C,n∈rn->mg n=some (.ref C)->∃ c,mg "NoScroll" = some (.ref c)/\oa K (.ref C) (.ref c)=some (decide (n = "NoScroll"))
 mm':∀ n C,n∈rn->mg n=some (.ref C)->∃ c,mg "TooBig" = some (.ref c)/\oa K (.ref C) (.ref c)=some (decide (n = "TooBig"))
section
variable {P:cq}{w:cS}{K:ay}{mg:Str->Option ah}{base:dk}
structure ShT(P:cq)(w:cS)(K:ay)(mg:Str->Option ah)(base:dk)(C fi fp:ae)(di dp:og)(Nn:ae)(mo':og)(Nw:ae)(mp':og):Prop where
 gl:mg "Sheet" = some (.ref C)
 mkk:Mk K C fi
 cls:uS K C
 n1:vb K C "rows"
 n2:vb K C "places"
 init:kR P w K mg base kP 1 fi di ["self"] (nQ K P w)
 bi:Binds K di ["self"] []
 mr':Meth K C "put" fp
 put:kR P w K mg base kP 1 fp dp ["self", "row"] (uL K P w)
 bp:Binds K dp ["self", "row"] []
 ms':Meth K C "rows_read" Nn
 mt':Binds K mo' ["self", "last"] []
 mu':Meth K C "scroll_to" Nw
 mv':Binds K mp' ["self", "last"] []
def GK:xI ["self", "row"] ["self", "row"] (dS j6):=⟨rfl,rfl,rfl,by decide +kernel,rfl,by decide +kernel,by decide +kernel⟩
def Hi {f:ae} {fd:og} (F:oj K "put" "Sheet.put" j6 f fd) (hl:mg "len" = none):kR P w K mg base kP 1 f fd ["self", "row"] (uL K P w) :=
 Gb F GK λdc A outer s H E hr=>Eb (by have h:=hr.units;show(A.deeper (kN "Sheet.put" (dS j6) s.heap.objs.size f dc)).units+14<iE;lia) rfl hl (λ_=>Rz rfl (.inl rfl)) (λ_=>Rz rfl (.inl rfl)) (λ_ _=>rfl) rfl (λ_ _ _=>rfl)
def By:xI ["self"] ["self"] (dS iJ):=⟨rfl,rfl,rfl,by decide +kernel,rfl,by decide +kernel,by decide +kernel⟩
def Bc {f:ae} {fd:og} (F:oj K "__init__" "Sheet.__init__" iJ f fd):kR P w K mg base kP 1 f fd ["self"] (nQ K P w) :=
 Bl F By λdc A outer s H E hr=>Bw (λ_=>Rz rfl (.inl rfl))
end
def us1{us:List ah}(h:us.length=1):∃ a0,us=[a0]:=by
 cases us with
 |nil=>simp at h
 |cons a0 us =>
 cases us with
 |nil=>exact⟨_,rfl⟩
 |cons b us=>simp at h
def us2{us:List ah}(h:us.length=2):∃ a0 a1,us=[a0,a1]:=by
 cases us with
 |nil=>simp at h
 |cons a0 us =>
 cases us with
 |nil=>simp at h
 |cons a1 us =>
 cases us with
 |nil=>exact⟨_,_,rfl⟩
 |cons b us=>simp at h
abbrev FA(K:ay)(x:Str)(s:h8):Prop:=∃ (f:ae) (oc:ah) (od an:Option ae) (AQ:Array (Option ah)) (kV doc pm dc ct:ah),kL K gE x=some (some (.ref f))/\K.lookup f=some ⟨oc,od,.func (qh x x (tf s) (lT s) (dS s) .none kV doc pm an dc ct),AQ⟩/\B7 K dc x=true/\ui K (.ref f)=true
def bQ{K:ay}{h:dk}{mg:Str->Option ah}{x:Str}{s:h8}(X:K.In h)(G:h.Ns gE mg)(a:FA K x s):∃ f fd,mg x=some (.ref f)/\oj K x x s f fd:=by obtain⟨f,_,_,_,_,_,_,_,_,_,a,l,c,k⟩:=a;exact⟨_,_,uj X G a,OS l c k⟩
def Ky{K:ay}{x:Str}{s:h8}{f:ae}{oc:ah}{od an:Option ae}{AQ:Array (Option ah)}{kV doc pm dc ct:ah}(a:kL K gE x=some (some (.ref f)))(l:K.lookup f=some ⟨oc,od,.func (qh x x (tf s) (lT s) (dS s) .none kV doc pm an dc ct),AQ⟩)(c:B7 K dc x=true)(k:ui K (.ref f)=true):FA K x s:=⟨_,_,_,_,_,_,_,_,_,_,a,l,c,k⟩
set_option maxHeartbeats 0 in
def all_mk {l:VH} {w:cS} {K:ay} {h:dk} {mg:Str->Option ah} {fa:ae} (X:K.In h) (G:h.Ns gE mg) (hfa:mg "law" = some (.ref fa))(a0:FA K "drawn" (top 8))(a1:FA K "renumbered" (top 9))(a2:FA K "is_open" (top 15))(a3:FA K "is_deed" (top 16))(a4:FA K "is_whole" (top 18))(a5:FA K "is_ahead" (top 22))(a6:FA K "are_parts" (top 23))(a7:FA K "is_row" (top 24))(a8:FA K "is_scroll" (top 25))(a9:FA K "check_scroll" (top 26))(a10:FA K "read_deed" (top 28))(a11:FA K "check_text" (top 33))(a12:FA K "heads_of" (top 34))(a13:FA K "taken" (top 35))(a14:FA K "row_of" (top 36))(a15:FA K "read_sentence" (top 37))(a16:FA K "words_joined" (top 38))(a17:FA K "words_of" (top 39))(a18:FA K "tell" (top 40))(a19:FA K "_law_cell_at" (top 42))(a20:FA K "_law_deeds" (top 43))(a21:FA K "_law_row" (top 44))(a22:FA K "_law_scroll" (top 45))(a23:FA K "_law_counts" (top 46))(a24:FA K "_law_next" (top 47))(a25:FA K "_law_goes_along" (top 48))(a26:FA K "_law_kind" (top 49))(a27:FA K "_law_worse" (top 50))(a28:FA K "_law_at_the_edge" (top 51))(a29:kL K gE "law" = some (some (.ref f29))) (l29:K.lookup f29=some ⟨o29,d29,.func (qh "law" "law" (tf rB) (lT rB) (dS rB) .none v29 j29 p29 e29 r29 u29),t29⟩) (c29:B7 K r29 "law" = true) (k29:ui K (.ref f29)=true)(au':kL K gE "ValueError" = some none)(S4:kL K gE "all" = some none)(av':kL K gE "bool" = some none)(aw':kL K gE "enumerate" = some none)(Vw:kL K gE "int" = some none)(t5:kL K gE "isinstance" = some none)(kC:kL K gE "len" = some none)(S5:kL K gE "list" = some none)(Qr:kL K gE "min" = some none)(DS:kL K gE "range" = some none)(ax':kL K gE "reversed" = some none)(ay':kL K gE "sorted" = some none)(M0:kL K gE "str" = some none)(IG:kL K gE "tuple" = some none){mZ':Tok} (az':kL K gE "HIDDEN" = some (some (.str "*" mZ'))){nc':Tok} (aA':kL K gE "LETTERS" = some (some (.str "abcdefghijklmnopqrstuvwxyz" nc'))){nd':Tok} (aB':kL K gE "MOST_LETTERS" = some (some (.int 6 nd'))){nf':Tok} (aC':kL K gE "MOST_ROWS" = some (some (.int 2000 nf'))){ng':Tok} (aD':kL K gE "MOST_PARTS" = some (some (.int 200 ng'))){nh':Tok} (Vx:kL K gE "MOST_WORDS" = some (some (.int 200 nh'))){em' ni':Nat} {en' eo' eq' er':Tok} (nj':kL K gE "ALONE" = some (some (.ref em'))) (nk':K.lookup em'=some { cls:=.type "dict",data:=.dict #[⟨Ro w.params "and",.str "and" en',.str "yes" eo'⟩,⟨Ro w.params "or",.str "or" eq',.str "no" er'⟩] ni' }) {et' nl':Nat} {eu' ev' ew' ex':Tok} (nm':kL K gE "JOINTS" = some (some (.ref et'))) (nn':K.lookup et'=some { cls:=.type "dict",data:=.dict #[⟨Ro w.params "and",.str "and" eu',.str "both" ev'⟩,⟨Ro w.params "or",.str "or" ew',.str "either" ex'⟩] nl' }) {C fi fp Nn Nw:ae} (sa:kL K gE "Sheet" = some (some (.ref C))) (s1:VG K C=true) (s4:ui K (.ref C)=true) (s5:QY K C Str.empty=true) (s6:S9 K C=true) (s7:VC K C=true) (s8:kS K (.ref C) "__setattr__" = some (some (.builtin "object.__setattr__"))) (s9:kS K (.ref C) "rows" = some none) (s0:kS K (.ref C) "places" = some none) (hi:kS K (.ref C) "__init__" = some (some (.ref fi))) (hli:K.lookup fi=some ⟨hoi,hdi,.func (qh "__init__" "Sheet.__init__" (tf iJ) (lT iJ) (dS iJ) .none hvi hji hqi Zi hyi hui),hti⟩) (hci:B7 K hyi "Sheet.__init__" = true) (hki:ui K (.ref fi)=true) (hfi:IH K (.ref fi)=true) (hp:kS K (.ref C) "put" = some (some (.ref fp))) (hlp:K.lookup fp=some ⟨hop,hdp,.func (qh "put" "Sheet.put" (tf j6) (lT j6) (dS j6) .none hvp hjp hqp hep hyp hup),htp⟩) (hcp:B7 K hyp "Sheet.put" = true) (hkp:ui K (.ref fp)=true) (hfp:IH K (.ref fp)=true) (hm0:kS K (.ref C) "rows_read" = some (some (.ref Nn))) (nx':K.lookup Nn=some ⟨rj',rk',.func (qh "rows_read" "Sheet.rows_read" (tf (DM 10 3)) (lT (DM 10 3)) (dS (DM 10 3)) .none rl' rm' rn' ro' ny' rq'),rr'⟩) (nz':B7 K ny' "Sheet.rows_read" = true) (ez':ui K (.ref Nn)=true) (nA':IH K (.ref Nn)=true) (y6:kS K (.ref C) "scroll_to" = some (some (.ref Nw))) (nB':K.lookup Nw=some ⟨rt',ru',.func (qh "scroll_to" "Sheet.scroll_to" (tf (DM 10 4)) (lT (DM 10 4)) (dS (DM 10 4)) .none rv' rx' ry' rz' nC' rA'),rB'⟩) (nD':B7 K nC' "Sheet.scroll_to" = true) (eA':ui K (.ref Nw)=true) (nE':IH K (.ref Nw)=true) {DT:ae} (nF':kL K gE "KinError" = some (some (.ref DT))) {Vy:ae} (nG':kL K gE "NoDeed" = some (some (.ref Vy))) {t9:ae} (nH':kL K gE "NoScroll" = some (some (.ref t9))) {ua:ae} (nI':kL K gE "NoText" = some (some (.ref ua))) {ub:ae} (nJ':kL K gE "TooBig" = some (some (.ref ub))) (nK':Tb K DT [.type "ValueError",.type "Exception",.type "BaseException",.type "object"] "ValueError.__new__" = true) (nL':kS K (.ref DT) "__getattr__" = some none) (nM':kS K (.ref DT) "__getattribute__" = some (some (.builtin "BaseException.__getattribute__"))) (nN':kS K (.ref DT) "__class__" = some (some (.builtin "object.__class__"))) (nO':Fu K DT (.type "object")=some true) (nP':Tb K t9 [.type "ValueError",.type "Exception",.type "BaseException",.type "object"] "ValueError.__new__" = true) (nQ':kS K (.ref t9) "__getattr__" = some none) (nR':kS K (.ref t9) "__getattribute__" = some (some (.builtin "BaseException.__getattribute__"))) (nS':kS K (.ref t9) "__class__" = some (some (.builtin "object.__class__"))) (nT':Fu K t9 (.type "object")=some true) (nU':Tb K ua [.type "ValueError",.type "Exception",.type "BaseException",.type "object"] "ValueError.__new__" = true) (nV':kS K (.ref ua) "__getattr__" = some none) (nW':kS K (.ref ua) "__getattribute__" = some (some (.builtin "BaseException.__getattribute__"))) (nX':kS K (.ref ua) "__class__" = some (some (.builtin "object.__class__"))) (nY':Fu K ua (.type "object")=some true) (nZ':Tb K ub [.type "ValueError",.type "Exception",.type "BaseException",.type "object"] "ValueError.__new__" = true) (oa':kS K (.ref ub) "__getattr__" = some none) (ob':kS K (.ref ub) "__getattribute__" = some (some (.builtin "BaseException.__getattribute__"))) (oc':kS K (.ref ub) "__class__" = some (some (.builtin "object.__class__"))) (od':Fu K ub (.type "object")=some true) (oe':Fu K t9 (.ref DT)=some true) (of':oa K (.ref t9) (.ref Vy)=some false) (og':oa K (.ref t9) (.ref ua)=some false) (oh':oa K (.ref t9) (.type "ValueError")=some true) (oi':oa K (.ref t9) (.ref t9)=some true) (oj':oa K (.ref t9) (.ref ub)=some false) (ol':Fu K ua (.ref DT)=some true) (om':oa K (.ref ua) (.ref Vy)=some false) (on':oa K (.ref ua) (.ref ua)=some true) (oo':oa K (.ref ua) (.type "ValueError")=some true) (oq':oa K (.ref ua) (.ref t9)=some false) (ot':oa K (.ref ua) (.ref ub)=some false) (ou':Fu K ub (.ref DT)=some true) (ov':oa K (.ref ub) (.ref Vy)=some false) (ow':oa K (.ref ub) (.ref ua)=some false) (ox':oa K (.ref ub) (.type "ValueError")=some true) (oy':oa K (.ref ub) (.ref t9)=some false) (oz':oa K (.ref ub) (.ref ub)=some true)
  : ∃ fd:og,(∀ (s:aE) (v:ah),BindsTo s fd ⟨[v],[]⟩ [("_law_script",v)])/\∀ base:dk,K.In base->base.Ns gE mg->kR l.prog w K mg base kP 9 fa fd ["_law_script"] (fW K SY):=by
 have e:=hfa.symm.trans (uj X G a29);cases e;have oA':=uj X G nF';have aF':=uj X G nG';have S6:=uj X G nH';have S7:=uj X G nI';have S8:=uj X G nJ';have oB':oy K DT:=⟨nK',nL',nM',nN',nO'⟩
 have eB':oy K t9:=⟨nP',nQ',nR',nS',nT'⟩
 have eC':oy K ua:=⟨nU',nV',nW',nX',nY'⟩
 have eD':oy K ub:=⟨nZ',oa',ob',oc',od'⟩
 have each:∀ {G:Str->ae->Prop},G "NoScroll" t9->G "NoText" ua->G "TooBig" ub->∀ n C,n∈rn->mg n=some (.ref C)->G n C:=by
  intro G oC' oD' oE' n C hn hm;simp only[rn,eW,FI,or_false] at hn;rcases hn with rfl|rfl|rfl
  ·rw[S6] at hm;cases hm;exact oC'
  ·rw[S7] at hm;cases hm;exact oD'
  ·rw[S8] at hm;cases hm;exact oE'
 have T:Txt w K mg:=⟨vF X G au',vF X G S4,vF X G av',vF X G aw',vF X G Vw,vF X G t5,vF X G kC,vF X G S5,vF X G Qr,vF X G DS,vF X G ax',vF X G ay',vF X G M0,vF X G IG,⟨_,uj X G az'⟩,⟨_,uj X G aA'⟩,⟨_,uj X G aB'⟩,⟨_,uj X G aC'⟩,⟨_,uj X G aD'⟩,⟨_,uj X G Vx⟩,⟨_,[("and",en', "yes",eo'),("or",eq', "no",er')],_,uj X G nj',nk',rfl⟩,⟨_,[("and",eu', "both",ev'),("or",ew', "either",ex')],_,uj X G nm',nn',rfl⟩,⟨_,S6,eB'⟩,⟨_,S7,eC'⟩,⟨_,S8,eD'⟩,⟨_,oA',oB',each ⟨eB',oe'⟩ ⟨eC',ol'⟩ ⟨eD',ou'⟩⟩,each ⟨_,aF',of'⟩ ⟨_,aF',om'⟩ ⟨_,aF',ov'⟩,each ⟨_,S7,og'⟩ ⟨_,S7,on'⟩ ⟨_,S7,ow'⟩,each oh' oo' ox',each ⟨_,S6,oi'⟩ ⟨_,S6,oq'⟩ ⟨_,S6,oy'⟩,each ⟨_,S8,oj'⟩ ⟨_,S8,ot'⟩ ⟨_,S8,oz'⟩⟩
 obtain⟨_,_,m0,F0⟩:=bQ X G a0;obtain⟨_,_,m1,F1⟩:=bQ X G a1;obtain⟨_,_,m2,F2⟩:=bQ X G a2;obtain⟨_,_,m3,F3⟩:=bQ X G a3;obtain⟨_,_,m4,F4⟩:=bQ X G a4;obtain⟨_,_,m5,F5⟩:=bQ X G a5;obtain⟨_,_,m6,F6⟩:=bQ X G a6;obtain⟨_,_,m7,F7⟩:=bQ X G a7;obtain⟨_,_,m8,F8⟩:=bQ X G a8;obtain⟨_,_,m9,F9⟩:=bQ X G a9;obtain⟨_,_,m10,F10⟩:=bQ X G a10;obtain⟨_,_,m11,F11⟩:=bQ X G a11;obtain⟨_,_,m12,F12⟩:=bQ X G a12;obtain⟨_,_,m13,F13⟩:=bQ X G a13;obtain⟨_,_,m14,F14⟩:=bQ X G a14;obtain⟨_,_,m15,F15⟩:=bQ X G a15;obtain⟨_,_,m16,F16⟩:=bQ X G a16;obtain⟨_,_,m17,F17⟩:=bQ X G a17;obtain⟨_,_,m18,F18⟩:=bQ X G a18;obtain⟨_,_,m19,F19⟩:=bQ X G a19;obtain⟨_,_,m20,F20⟩:=bQ X G a20;obtain⟨_,_,m21,F21⟩:=bQ X G a21;obtain⟨_,_,m22,F22⟩:=bQ X G a22;obtain⟨_,_,m23,F23⟩:=bQ X G a23;obtain⟨_,_,m24,F24⟩:=bQ X G a24;obtain⟨_,_,m25,F25⟩:=bQ X G a25;obtain⟨_,_,m26,F26⟩:=bQ X G a26;obtain⟨_,_,m27,F27⟩:=bQ X G a27;obtain⟨_,_,m28,F28⟩:=bQ X G a28;have F29:=OS (st:=rB) l29 c29 k29;refine⟨qh "law" "law" (tf rB) (lT rB) (dS rB) .none v29 j29 p29 e29 r29 u29,λs v=>.of_eq rfl,λbase _ _=>?_⟩;have Gi:=OS (st:=iJ) hli hci hki;have Gp:=OS (st:=j6) hlp hcp hkp;have Gm0:=OS (st:=(DM 10 3)) nx' nz' ez';have Gm1:=OS (st:=(DM 10 4)) nB' nD' eA';have Sh:ShT l.prog w K mg base C fi fp _ _ Nn _ Nw _:=⟨uj X G sa,⟨s1,hi,hfi,s4⟩,⟨s5,s6,s7,s8⟩,s9,s0,Bc Gi,Gi.binds λ_ _ _ _ _ _ us hl=>by obtain⟨_,rfl⟩:=us1 hl;rfl,⟨hp,hfp,hkp⟩,Hi Gp (vF X G kC),Gp.binds λ_ _ _ _ _ _ us hl=>by obtain⟨_,_,rfl⟩:=us2 hl;rfl,⟨hm0,nA',ez'⟩,Gm0.binds λ_ _ _ _ _ _ us hl=>by obtain⟨_,_,rfl⟩:=us2 hl;rfl,⟨y6,nE',eA'⟩,Gm1.binds λ_ _ _ _ _ _ us hl=>by obtain⟨_,_,rfl⟩:=us2 hl;rfl⟩
 have mk:=@ZI.mk l.prog w K mg base;have ml:=@lE'.mk l.prog w K mg base rn;have mx:=@ZU.mk l.prog w K mg base rn;have mo:=@aa'.mk l.prog w K mg base C;obtain C0:=(mk m0 F0 ["row"] 1 0 vZ Gj (aj (aO (zi (h_ (aD gu aZ (cy (qv 0) au) aG) (cZ (aD gu aZ (cy (qv 0) au) aG)))) (ao (aH (bh (aa (cy (qv 0) au) aq))))
   aA)
   (aj (aO (aD gu aZ (cy (qv 0) au) aG)
   (ao (aH (bh (aa (cy (qv 0) au) aq))))
   aA)
   (ao (aH (fD mV yN T.S5 qP (cy (qv 0) au))))))).1
 obtain C1:=(mk m1 F1 ["row", "numbers"] 2 0 l_ qi (aj (aO (zi (h_ (aD gu aZ (cy (qv 0) au) aG) (cZ (aD gu aZ (cy (qv 0) au) aG)))) (ao (aH (aU (aa (cy (qv 0) au) (aa (cy (qv 0) au) (aa (cy (qv 1) (cy (qv 0) au)) aq))))))
   aA)
   (aj (aO (aD gu aZ (cy (qv 0) au) aG)
   (ao (aH (aU (aa (cy (qv 0) au) (aa (cy (qv 1) (cy (qv 0) au)) aq)))))
   aA)
   (ao (aH (aU (aa (cy (qv 0) au) (aa (fD uv jH T.IG fH (lu (tn:=["part"]) (cn:=["numbers"]) (ix:=[1]) (Cu (cy (qv 0) au)) (aR 0) dJ (cy (qv 1) (qv 0)))) aq)))))))).1
 obtain C2:=(mk m2 F2 ["thing"] 1 0 sG xW (aj (aO (zi (h_ (dO (d8 (lJ T.t5 (qv 0) (jC T.M0 qu)))) (cZ (dO (uA m_ m_ uZ uZ au (aJ az aW T.kC aQ (qv 0)) (Sj T.aB')))))) (ao (aH pV))
   aA)
   (ao (aH (aJ Zj yE T.S4 zG (lu (tn:=["sign"]) (cn:=[]) (ix:=[]) (uz (HR (qv 0))) (aR 0) dJ (ou iA zP (qv 0) (cU' T.aA')))))))).1
 obtain C4:=(mk m4 F4 ["thing"] 1 0 qL vd (ao (aH (pI (lJ T.t5 (qv 0) (jC T.Vw yC)) (pZ (K7 (lJ T.t5 (qv 0) (jC T.av' Fp)))))))).1;obtain C11:=mx m11 F11 ["thing"] 1 0 lU qJ (ao (aO (dO (d8 (lJ T.t5 (qv 0) (jC T.M0 qu)))) (ao (cu rfl gK T.Nc (.tail _ (.head _)) aG))
   aA))
 obtain Vz:=ml m13 F13 ["waiting"] 1 0 xj Fx (aj (aO (aD gu aZ (aJ az aW T.kC aQ (xM (pv 0))) au) (ao (cu rfl gK T.Nc (.tail _ (.head _)) aG))
   aA)
   (ao (jY 0 (Jp (pv 0)))))
 obtain C16:=(mk m16 F16 ["word", "parts", "words", "part"] 2 0 jA lY (aj (aO (aD gu aZ (aJ az aW T.kC aQ (qv 1)) au) (ao (aH (bh (aa (Vm T.eh' (qv 0)) aq))))
   aA)
   (aj (aF 2 (bh aq))
   (aj (fQ 1 (dR (kZ (f9 (qv 1) gm (cT (lZ au)))) (aR 3)
   (ao (Jc (bB (pv 2)) (bF (bh (aa (Vm T.ei' (qv 0)) aq)) (qv 3))))))
   (ao (aH (bF (qv 2) (cy (qv 1) (lZ au))))))))).1
 obtain QN:=(mk m19 F19 ["_law_script", "_law_k"] 2 0 jB lV (aj (aO (aD sY Bh (qv 1) (aJ az aW T.kC aQ (qv 0))) (ao (aH (cy (qv 0) (qv 1))))
   aA)
   (ao (aH au)))).1
 obtain C20:=(mk m20 F20 ["_law_cell", "_law_turn", "_law_letters", "_law_size", "_law_places", "_law_k", "_law_word", "_law_at", "_law_found", "_law_sign"] 2 0 mj pQ (aj (aF 2 aG) (aj (aF 3 (bF au (bL (qv 0) au))) (aj (aF 0 (fM (qv 0) au)) (aj (aF 4 (bh aq)) (aj (dR (iD T.DS (qv 3)) (aR 5) (aj (fY (bB (pv 4)) (bL (qv 0) au)) (ao (aF 0 (fM (qv 0) au))))) (aj (aF 6 (Cp aG (lu (tn:=["_law_k"]) (cn:=["_law_letters"]) (ix:=[2]) (xO (qv 4)) (aR 0) dJ (cy (qv 1) (qv 0))))) (aj (aO (aD gu aZ (bL (fM (qv 1) au) au) au) (ao (aH (lu (tn:=["_law_k"]) (cn:=["_law_word"]) (ix:=[6]) (uz (Dq T.DS au au)) (aR 0) dJ (f9 (I_ au (qv 1)) gm (cT (qv 0))))))
   aA)
   (aj (aF 7 (bL (qv 1) (qv 3)))
   (aj (aF 8 (bh aq))
   (aj (dR (iD T.DS au) (aR 5)
   (aj (aF 9 (cy (qv 2) (bL (bF (cy (qv 4) (qv 7)) (qX au (qv 5))) au)))
   (ao (fY (bB (pv 8)) (bF (bF (f9 (qv 6) gm (cT (qv 7))) (qv 9)) (f9 (qv 6) (cT (bF (qv 7) au)) gm))))))
   (ao (lC (pv 8)))))))))))))).1
 obtain C21:=(mk m21 F21 ["_law_cell", "_law_k", "_law_names", "_law_number", "_law_more", "_law_j", "_law_way", "_law_parts", "_law_i"] 3 0 pY vq (aj (aF 3 (bL (qX (bF (bL (qv 0) au) au) (bF au (qX au (qv 1)))) au)) (aj (aF 4 (bL (qX (qv 3) au) au)) (aj (aO (aD gu aZ (qv 1) au) (ao (aH (cy (bh (aa (aU (aa aG (aa (aU aq) aq))) (aa (aU (aa aG (aa (aU aq) aq))) aq))) (bL (qv 3) au))))
   aA)
   (aj (aF 5 (bL (qv 4) (qv 1)))
   (aj (aO (aD gu aZ (bL (fM (qv 3) au) au) au)
   (ao (aF 5 (xT (xT (qv 1) au) (bL (qv 4) (n6 tO nU T.Qr uO (qv 1) au)))))
   aA)
   (aj (aF 6 (bL (qv 3) au))
   (aj (aO (aD sY Bh (qv 6) au)
   (ao (qM (ZS (cy (bh (aa aG (aa aG aq))) (fM (qv 6) au)) (ZS (cy (qv 2) (bL (fM (qv 3) au) (aJ az aW T.kC aQ (qv 2)))) (Vb (pv 5) xR)))))
   aA)
   (aj (aO (aD gu aZ (qv 6) au)
   (ao (qM (ZS aG (Vb (pv 5) xR))))
   aA)
   (aj (aF 7 (bh aq))
   (aj (dR (iD T.DS (bL (fM (qv 3) au) au)) (aR 8)
   (aj (fQ 5 (fY (bB (pv 7)) (qv 5)))
   (ao (aF 5 (bL (bF (qX au (qv 5)) (fM (qv 4) (bF (qv 8) au))) (qv 1))))))
   (ao (aH (aU (aa (cy (bh (aa aG (aa aG aq))) (xT (qv 6) au)) (aa (fD uv jH T.IG fH (qv 7)) aq)))))))))))))))).1
 obtain C23:=(mk m23 F23 ["_law_scroll_here", "_law_found", "_law_row_here", "_law_many", "_law_j"] 1 0 k_ oH (aj (aF 1 (bh aq)) (aj (fQ 0 (dR (kZ (qv 0)) (aR 2) (ao (aO (aD iA zP (cy (qv 2) au) (aU (aa aG (aa aG aq)))) (ao (fY (bB (pv 1)) (n6 tO nU T.Qr uO au (bF au (cy (qv 1) (cy (qv 2) au)))))) (ao (aO (aD gu aZ (cy (qv 2) au) aG) (ao (fY (bB (pv 1)) (n6 tO nU T.Qr uO au (bF au (cy (qv 1) (cy (qv 2) au)))))) (aj (aF 3 au) (aj (aO (aD qp yI (aJ az aW T.kC aQ (cy (qv 2) au)) au) (ao (aF 3 (xT (aJ az aW T.kC aQ (cy (qv 2) au)) au)))
   aA)
   (aj (fQ 2 (dR (CZ (cy (qv 2) au)) (aR 4)
   (ao (aF 3 (bF (qv 3) (cy (qv 1) (qv 4)))))))
   (ao (fY (bB (pv 1)) (n6 tO nU T.Qr uO au (qv 3)))))))))))))
   (ao (aH (cy (qv 1) (lZ au))))))).1
 obtain C24:=(mk m24 F24 ["_law_row_here", "_law_lone", "_law_pair"] 1 0 nZ qO (aj (aF 1 (tR (by decide +kernel) (by decide +kernel))) (aj (aF 2 (tR (by decide +kernel) (by decide +kernel))) (aj (aO (aD iA zP (cy (qv 0) au) (aU (aa aG (aa aG aq)))) (ao (aH (aU (aa (bh (aa (cy (qv 0) au) (aa (cy (qv 0) au) aq))) (aa (bh (aa (cy (qv 0) au) aq)) aq)))))
   aA)
   (aj (aO (aD gu aZ (cy (qv 0) au) aG)
   (ao (aH (aU (aa (bh (aa aG aq)) (aa (bh (aa (cy (qv 0) au) aq)) aq)))))
   aA)
   (aj (aO (aD gu aZ (aJ az aW T.kC aQ (cy (qv 0) au)) au)
   (ao (aH (aU (aa (bh (aa (cy (qv 1) (cy (qv 0) au)) aq)) (aa (bh aq) aq)))))
   aA)
   (aj (aO (aD gu aZ (aJ az aW T.kC aQ (cy (qv 0) au)) au)
   (ao (aH (aU (aa (bh aq) (aa (bh (aa (cy (cy (qv 0) au) au) aq)) aq)))))
   aA)
   (ao (aH (aU (aa (bh (aa (cy (qv 2) (cy (qv 0) au)) aq)) (aa (bh (aa (cy (cy (qv 0) au) au) (aa (aU (aa (cy (qv 0) au) (aa (f9 (cy (qv 0) au) (cT au) gm) aq))) aq))) aq)))))))))))).1
 obtain C27:=(mk m27 F27 ["_law_scroll_here", "_law_cell", "_law_last", "_law_rows", "_law_some"] 2 0 lX qd (aj (aF 2 (aJ az aW T.kC aQ (qv 0))) (by(refine aj ?_ ?_);(with_reducible refine fQ 2 ?_);(with_reducible refine aF 3 ?_ ?_ ?_ ?_ ?_ ?_);(with_reducible refine bh ?_);(with_reducible refine aa ?_ ?_ ?_);(with_reducible refine aU ?_);(with_reducible refine aa ?_ ?_ ?_);(exact aG);(with_reducible refine aa ?_ ?_ ?_);(exact(qv 2));(exact aq);(rfl);(rfl);(with_reducible refine aa ?_ ?_ ?_);(with_reducible refine aU ?_);(with_reducible refine aa ?_ ?_ ?_);(exact aG);(with_reducible refine aa ?_ ?_ ?_);(exact(bF (qv 2) au));(exact aq);(rfl);(rfl);(with_reducible refine aa ?_ ?_ ?_);(with_reducible refine aU ?_);(with_reducible refine aa ?_ ?_ ?_);(exact aG);(with_reducible refine aa ?_ ?_ ?_);(with_reducible refine aU ?_);(exact aq);(exact aq);(rfl);(rfl);(with_reducible refine aa ?_ ?_ ?_);(with_reducible refine aU ?_);(with_reducible refine aa ?_ ?_ ?_);(exact aG);(with_reducible refine aa ?_ ?_ ?_);(with_reducible refine aU ?_);(with_reducible refine aa ?_ ?_ ?_);(exact au);(with_reducible refine aa ?_ ?_ ?_);(exact(lZ au));(exact aq);(rfl);(rfl);(exact aq);(rfl);(rfl);(with_reducible refine aa ?_ ?_ ?_);(with_reducible refine aU ?_);(with_reducible refine aa ?_ ?_ ?_);(exact aG);(with_reducible refine aa ?_ ?_ ?_);(exact aG);(with_reducible refine aa ?_ ?_ ?_);(exact(lZ au));(exact aq);(rfl);(rfl);(rfl);(with_reducible refine aa ?_ ?_ ?_);(with_reducible refine aU ?_);(with_reducible refine aa ?_ ?_ ?_);(exact aG);(with_reducible refine aa ?_ ?_ ?_);(with_reducible refine bh ?_);(with_reducible refine aa ?_ ?_ ?_);(exact au);(exact aq);(rfl);(exact aq);(rfl);(rfl);(with_reducible refine aa ?_ ?_ ?_);(with_reducible refine aU ?_);(with_reducible refine aa ?_ ?_ ?_);(exact aG);(exact aq);(rfl);(exact aq);(rfl);(rfl);(rfl);(rfl);(rfl);(rfl);(rfl);(rfl);(first|exact .inl rfl|exact .inr rfl);(assumption);(rfl);(exact Or.inl rfl);(exact(by(refine aj ?_ ?_);(with_reducible refine aF 4 ?_ ?_ ?_ ?_ ?_ ?_);(with_reducible refine bh ?_);(with_reducible refine aa ?_ ?_ ?_);(exact oF);(with_reducible refine aa ?_ ?_ ?_);(with_reducible refine bh ?_);(exact aq);(with_reducible refine aa ?_ ?_ ?_);(exact(fD uv jH T.IG fH (qv 0)));(with_reducible refine aa ?_ ?_ ?_);(with_reducible refine Ht ?_ ?_ ?_);(with_reducible refine bh ?_);(with_reducible refine aa ?_ ?_ ?_);(with_reducible refine aU ?_);(with_reducible refine aa ?_ ?_ ?_);(exact aG);(with_reducible refine aa ?_ ?_ ?_);(with_reducible refine aU ?_);(exact aq);(exact aq);(rfl);(rfl);(exact aq);(rfl);(exact au);(rfl);(with_reducible refine aa ?_ ?_ ?_);(exact aG);(with_reducible refine aa ?_ ?_ ?_);(exact au);(with_reducible refine aa ?_ ?_ ?_);(exact yu);(exact aq);(rfl);(rfl);(rfl);(rfl);(rfl);(rfl);(rfl);(rfl);(first|exact .inl rfl|exact .inr rfl);(assumption);(rfl);(exact Or.inl rfl);(exact(aj (aO (aD gu aZ (bL (qv 1) au) au) (ao (zY (pv 4) (bL (fM (qv 1) au) au)))
   aA)
   (ao (fQ 3 (aH (bF (qv 0) (kS' (bh (aa (cy (qv 3) (bL (fM (qv 1) au) au)) aq)))))))))))))).1
 obtain C28:=(mk m28 F28 ["_law_turn", "_law_pool", "_law_parts", "_law_scroll_here", "_law_k"] 2 0 fK gH (aj (vy 2 (tn:=["_law_k"]) (cn:=["_law_turn"]) (ix:=[0]) (uz (iD T.DS (bF au (bL (fM (qv 0) au) au)))) (aR 0) dJ (bL (qX (qX (qv 0) (qv 0)) (bL (qv 1) au)) au)) (aj (aO (aD gu aZ (bL (fM (qv 0) au) au) au) (ao (Gg (bB (pv 2)) (bL (fM (qv 0) au) (aJ az aW T.kC aQ (qv 2))) au))
   aA)
   (by(refine aj ?_ ?_);(with_reducible refine aF 3 ?_ ?_ ?_ ?_ ?_ ?_);(with_reducible refine bh ?_);(with_reducible refine aa ?_ ?_ ?_);(with_reducible refine aU ?_);(with_reducible refine aa ?_ ?_ ?_);(exact aG);(with_reducible refine aa ?_ ?_ ?_);(with_reducible refine aU ?_);(exact aq);(exact aq);(rfl);(rfl);(with_reducible refine aa ?_ ?_ ?_);(with_reducible refine aU ?_);(with_reducible refine aa ?_ ?_ ?_);(exact aG);(with_reducible refine aa ?_ ?_ ?_);(with_reducible refine aU ?_);(exact aq);(exact aq);(rfl);(rfl);(with_reducible refine aa ?_ ?_ ?_);(with_reducible refine aU ?_);(with_reducible refine aa ?_ ?_ ?_);(exact aG);(with_reducible refine aa ?_ ?_ ?_);(with_reducible refine aU ?_);(with_reducible refine aa ?_ ?_ ?_);(exact au);(exact aq);(rfl);(exact aq);(rfl);(rfl);(with_reducible refine aa ?_ ?_ ?_);(with_reducible refine aU ?_);(with_reducible refine aa ?_ ?_ ?_);(exact aG);(with_reducible refine aa ?_ ?_ ?_);(exact au);(exact aq);(rfl);(rfl);(with_reducible refine aa ?_ ?_ ?_);(with_reducible refine aU ?_);(with_reducible refine aa ?_ ?_ ?_);(exact(cy (bh (aa aG (aa aG aq))) (bL (qv 0) au)));(with_reducible refine aa ?_ ?_ ?_);(exact(fD uv jH T.IG fH (qv 2)));(exact aq);(rfl);(rfl);(exact aq);(rfl);(rfl);(rfl);(rfl);(rfl);(rfl);(first|exact .inl rfl|exact .inr rfl);(assumption);(rfl);(exact Or.inl rfl);(exact(aj (dR (iD T.DS (cy (bh (aa au (aa au (aa au (aa au aq))))) (bL (fM (qv 0) au) au))) (aR 4)
   (ao (fY (bB (pv 3)) (cy (bh (aa (aU (aa aG (aa (bF au (qv 4)) aq))) (aa (aU (aa aG (aa (cy (qv 1) (qv 4)) (aa (bF au (qv 4)) aq)))) aq))) (bL (fM (qv 0) au) au)))))
   (ao (lC (pv 3))))))))).1
 obtain C3:=(mk m3 F3 ["thing"] 1 1 rG xN (ao (aH (kd' (bH C2 (aa (qv 0) aq)) (pZ (pI (lJ T.t5 (qv 0) (jC T.M0 qu)) (pZ (ou gu aZ (qv 0) (cU' T.az'))))))))).1;obtain C5:=(mk m5 F5 ["k", "thing"] 2 1 pW vg (ao (aH (pI (bH C4 (aa (qv 1) aq)) (pZ (Dr m_ sY uZ Bh au (qv 1) (qv 0))))))).1;obtain C14:=ml m14 F14 ["head", "waiting", "word", "first", "second"] 2 1 vH zJ (λ{_ _ _ _ _ _ hr hu nd _}=>(aj (aO (zi (h_ (aD gu aZ (cy (qv 0) au) aG) (cZ (aD gu aZ (cy (qv 0) au) aG)))) (ao (jY 1 (CK (kj (xm (cy (qv 0) au)) (kj (xm (cy (qv 0) au)) (kj (lN Vz (hr.mono (by decide)) nJ (kh (pv 1))) Ck))))))
   aA)
   (aj (aO (aD gu aZ (cy (qv 0) au) aG)
   (ao (jY 1 (CK (kj (xm aG) (kj (lN Vz (hr.mono (by decide)) nJ (kh (pv 1))) Ck)))))
   aA)
   (aj (dR (CZ (aU (aa aG (aa aG aq)))) (aR 2)
   (aj (aO (aD gu aZ (cy (qv 0) au) (Vm T.eh' (qv 2)))
   (ao (jY 1 (xm (aU (aa (qv 2) (aa (aU aq) aq))))))
   aA)
   (ao (aO (aD gu aZ (cy (qv 0) au) (Vm T.ei' (qv 2)))
   (aj (xf 3 (lN Vz (hr.mono (by decide)) nJ (kh (pv 1))))
   (aj (xf 4 (lN Vz (hr.mono (by decide)) nJ (kh (pv 1))))
   (ao (fQ 4 (fQ 3 (jY 1 (xm (aU (aa (qv 2) (aa (aU (aa (qv 3) (aa (qv 4) aq))) aq))))))))))
   aA))))
   (ao (cu rfl gK T.Nc (.tail _ (.head _)) aG))))))
 obtain C17:=(mk m17 F17 ["row", "told", "parts", "words"] 2 1 qz vO (aj (qN 2 (tn:=["part"]) (cn:=["told"]) (ix:=[1]) (xO (bH C0 (aa (qv 0) aq))) (aR 0) dJ (cy (qv 1) (qv 0))) (aj (aO (aD kT' JP oF (qv 2)) (ao (aH oF))
   aA)
   (aj (aO (zi (h_ (aD gu aZ (cy (qv 0) au) aG) (cZ (aD gu aZ (cy (qv 0) au) aG))))
   (ao (aF 3 (bF (bh (aa (cy (qv 0) au) (aa (cy (qv 0) au) aq))) (cy (qv 2) au))))
   (ao (aO (aD gu aZ (cy (qv 0) au) aG)
   (ao (aF 3 (bF (bh (aa aG aq)) (cy (qv 2) au))))
   (ao (aF 3 (bH C16 (aa (cy (qv 0) au) (aa (qv 2) aq))))))))
   (ao (Bx (aD m_ uZ (aJ az aW T.kC aQ (qv 3)) (Sj T.Vx)) (pv 3) oF)))))).1
 obtain C22:=(mk m22 F22 ["_law_cells", "_law_names"] 2 1 jK pA (ao (aH (lu (tn:=["_law_k"]) (cn:=["_law_cells", "_law_names"]) (ix:=[0,1]) (uz (iD T.DS (aJ az aW T.kC aQ (qv 0)))) (aR 0) dJ (bH C21 (aa (cy (qv 1) (qv 0)) (aa (qv 0) (aa (qv 2) aq)))))))).1;obtain C25:=(mk m25 F25 ["_law_scroll_here", "_law_words", "_law_stack", "_law_at", "_law_row_here", "_law_due", "_law_more"] 2 1 gh iR (λ{_ _ _ _ _ _ hr hu nd _}=>(aj (aF 2 (bh (aa (xT (aJ az aW T.kC aQ (qv 0)) au) aq))) (aj (aF 3 au) (aj (sJ (aD qp yI (aJ az aW T.kC aQ (qv 2)) au) (aj (J1 4 (bB (pv 2))) (aj (aO (d8 (lJ T.t5 (qv 4) (jC T.Vw yC))) (ao (aF 4 (cy (qv 0) (qv 4))))
   aA)
   (aj (zB (i:=5) (j:=6) rfl nd rfl (Or.inl rfl) rfl (Or.inl rfl) (bH C24 (aa (qv 4) aq)))
   (aj (aO (aD R8 v8 (f9 (qv 1) (cT (qv 3)) (cT (bF (qv 3) (aJ az aW T.kC aQ (qv 5))))) (qv 5))
   (ao (aH pV))
   aA)
   (aj (aF 3 (bF (qv 3) (aJ az aW T.kC aQ (qv 5))))
   (ao (aF 2 (bF (qv 2) (Kw (qv 6) gm gm (cT (lZ au))))))))))))
   (ao (aH (ou gu aZ (qv 3) (aJ az aW T.kC aQ (qv 1)))))))))).1
 obtain C6:=(mk m6 F6 ["k", "thing"] 2 2 pC sH (aj (aO (zi (h_ (dO (d8 (lJ T.t5 (qv 1) (jC T.IG fH)))) (cZ (aD qp yI (aJ az aW T.kC aQ (qv 1)) (Sj T.aD'))))) (ao (aH pV))
   aA)
   (ao (aH (aJ Zj yE T.S4 zG (lu (tn:=["part"]) (cn:=["k"]) (ix:=[0]) (Cu (qv 1)) (aR 0) dJ (bH C5 (aa (qv 1) (aa (qv 0) aq))))))))).1
 obtain C10:=mx m10 F10 ["word"] 1 2 nT qQ (aj (aO (dO (d8 (bH C3 (aa (qv 0) aq)))) (ao (cu rfl gK T.Nc (.tail _ (.head _)) aG))
   aA)
   (ao (lC (pv 0))))
 obtain C30:=mo Gm0 ["self", "last", "wanted", "k", "part"] 2 2 gf (iU (rq K l.prog w C)) (aj (aF 2 (Er (qv 1) pV)) (aj (dR (Fv T.DS (qv 1) (lZ au) (lZ au)) (aR 3) (ao (aO (aD iA zP (qv 3) (qv 2)) (ao (dR (kZ (bH C0 (aa (wg (C:=C) (pv 0) (qv 3)) aq))) (aR 4) (ao (yh (bB (pv 2)) (qv 4) pV))))
   aA)))
   (ao (aH (aJ Jr Ca T.ay' xq (qv 2))))))
 obtain C7:=(mk m7 F7 ["k", "thing"] 2 3 vm zW (aj (aO (zi (h_ (dO (d8 (lJ T.t5 (qv 1) (jC T.IG fH)))) (h_ (aD gu aZ (aJ az aW T.kC aQ (qv 1)) au) (cZ (dO (d8 (lJ T.t5 (cy (qv 1) au) (jC T.M0 qu)))))))) (ao (aH pV))
   aA)
   (aj (aO (zi (h_ (aD gu aZ (cy (qv 1) au) aG) (cZ (aD gu aZ (cy (qv 1) au) aG))))
   (ao (aH (pI (ou gu aZ (aJ az aW T.kC aQ (qv 1)) au) (pI (bH C3 (aa (cy (qv 1) au) aq)) (pZ (bH C5 (aa (qv 0) (aa (cy (qv 1) au) aq))))))))
   aA)
   (aj (aO (aD gu aZ (cy (qv 1) au) aG)
   (ao (aH (pI (ou gu aZ (aJ az aW T.kC aQ (qv 1)) au) (pZ (bH C5 (aa (qv 0) (aa (cy (qv 1) au) aq)))))))
   aA)
   (aj (aO (zi (h_ (aD gu aZ (cy (qv 1) au) aG) (cZ (aD gu aZ (cy (qv 1) au) aG))))
   (ao (aH (pI (ou gu aZ (aJ az aW T.kC aQ (qv 1)) au) (pZ (bH C6 (aa (qv 0) (aa (cy (qv 1) au) aq)))))))
   aA)
   (ao (aH pV))))))).1
 obtain C12:=mx m12 F12 ["words", "heads", "k"] 1 3 qy vf (λ{_ _ _ _ _ _ hr hu nd _}=>(aj (aF 1 (bh aq)) (aj (aF 2 au) (aj (sJ (aD sY Bh (qv 2) (aJ az aW T.kC aQ (qv 0))) (ao (aO (zi (h_ (aD gu aZ (cy (qv 0) (qv 2)) aG) (cZ (aD gu aZ (cy (qv 0) (qv 2)) aG)))) (aj (aO (aD gu aZ (bF (qv 2) au) (aJ az aW T.kC aQ (qv 0))) (ao (cu rfl gK T.Nc (.tail _ (.head _)) aG))
   aA)
   (aj (Fz (bB (pv 1)) (JX (zF (lm' (cy (qv 0) (qv 2))) (zF (yG C10 (hr.mono (by decide)) nJ (aa (cy (qv 0) (bF (qv 2) au)) aq)) Hn))))
   (ao (aF 2 (bF (qv 2) au)))))
   (aj (fY (bB (pv 1)) (aU (aa (cy (qv 0) (qv 2)) aq)))
   (ao (aF 2 (bF (qv 2) au)))))))
   (ao (lC (pv 1)))))))
 obtain C31:=mo Gm1 ["self", "last", "numbers", "scroll", "k"] 2 3 gA (iG (rq K l.prog w C)) (λ{_ _ _ _ _ _ hr hu nd _}=>(aj (aF 2 yu) (aj (aF 3 (bh aq)) (aj (dR (kZ (wH (pv 0) Sh.cls Sh.ms' C30 (hr.mono (by decide)) Sh.mt' (aa (qv 1) aq))) (aR 4) (aj (yh (bB (pv 2)) (qv 4) (aJ az aW T.kC aQ (qv 3))) (ao (fY (bB (pv 3)) (bH C1 (aa (wg (C:=C) (pv 0) (qv 4)) (aa (qv 2) aq))))))) (ao (lC (pv 3)))))))
 obtain C8:=(mk m8 F8 ["thing"] 1 4 oJ rH (aj (aO (zi (h_ (dO (d8 (lJ T.t5 (qv 0) (jC T.S5 qP)))) (cZ (dO (uA m_ m_ uZ uZ au (aJ az aW T.kC aQ (qv 0)) (Sj T.aC')))))) (ao (aH pV))
   aA)
   (ao (aH (aJ Zj yE T.S4 zG (lu (tn:=["k", "row"]) (cn:=[]) (ix:=[]) (Hh T.aw' (qv 0)) (J5 (ue (aR 0) (ue (aR 1) Ha))) dJ (bH C7 (aa (qv 0) (aa (qv 1) aq))))))))).1
 obtain C15:=mx m15 F15 ["text", "words", "sheet", "waiting", "head"] 1 4 iB (jZ (rq K l.prog w C)) (λ{_ _ _ _ _ _ hr hu nd _}=>(aj (ug C11 (hr.mono (by decide)) nJ (aa (qv 0) aq)) (aj (aF 1 (wL (qv 0) aG)) (aj (aO (aD qp yI (aJ az aW T.kC aQ (qv 1)) (Sj T.Vx)) (ao (cu rfl gK T.Nc (.tail _ (.head _)) aG))
   aA)
   (aj (E_ (i:=2) Sh.mkk Sh.cls Sh.n1 Sh.n2 Sh.init (hr.mono (by decide)) Sh.gl Sh.bi)
   (aj (GF 3)
   (aj (D_ T.ax' (yG C12 (hr.mono (by decide)) nJ (aa (qv 1) aq)) (aR 4)
   (ao (Fl (pv 3) (pv 2) Sh.cls Sh.mr' Sh.put (hr.mono (by decide)) Sh.bp (lN C14 (hr.mono (by decide)) nJ (Cd (qv 4) (kh (pv 3)))) (by decide))))
   (aj (aO (aD R8 v8 (aJ az aW T.kC aQ (xM (pv 3))) au)
   (ao (cu rfl gK T.Nc (.tail _ (.head _)) aG))
   aA)
   (ao (aH (wH (pv 2) Sh.cls Sh.mu' C31 (hr.mono (by decide)) Sh.mv' (aa (cy (xM (pv 3)) au) aq))))))))))))
 obtain C9:=mx m9 F9 ["thing"] 1 5 jy mC (ao (aO (dO (d8 (bH C8 (aa (qv 0) aq)))) (ao (cu rfl gK T.me' (.head _) aG))
   aA))
 obtain C18:=mx m18 F18 ["scroll", "told", "row"] 1 6 Aj Ka (λ{_ _ _ _ _ _ hr hu nd _}=>(aj (ug C9 (hr.mono (by decide)) nJ (aa (qv 0) aq)) (aj (aF 1 (bh aq)) (aj (fQ 0 (dR (kZ (qv 0)) (aR 2) (ao (fY (bB (pv 1)) (bH C17 (aa (qv 2) (aa (qv 1) aq))))))) (aj (aO (aD gi' H_ (cy (qv 1) (lZ au)) oF) (ao (cu rfl gK T.mf' (.tail _ (.tail _ (.head _))) aG))
   aA)
   (ao (aH (Cp aG (cy (qv 1) (lZ au))))))))))
 obtain C26:=(mk m26 F26 ["_law_scroll_here", "_law_kinds", "_law_found", "e", "_law_other"] 1 7 nF rT (λ{_ _ _ _ _ _ hr hu nd _}=>(aj (aF 1 oF) (aj (aF 2 oF) (aj (Dv (j:=3) T.mg' nd rfl rfl rfl rfl (λpn xe E1 tP hx1=>(Jv (i:=2) nd rfl (Or.inl rfl) (GX C18 (hr.mono (by decide)) hx1 (aa (qv 0) aq)))) (λpn a oe n C hn hm xc hp sf=>by
    obtain⟨pM',pN',pO'⟩:=T.mh' n C hn hm;obtain⟨pP',pQ',pR'⟩:=T.mi' n C hn hm;obtain⟨pS',pT',pU'⟩:=T.ml' n C hn hm;obtain⟨pV',pW',pX'⟩:=T.mm' n C hn hm;exact(aj (aF 4 (Ie (j:=3) (cs:=[pM',pP']) T.t5 hp sf xc (j7 pO' (j7 pR' u_)) (Nat.le_of_ble_eq_true rfl) (pv 3) (tY (NX rfl pN' rfl) (tY (NX rfl pQ' rfl) Dj))))
   (ao (fQ 4 (aF 1 (aU (aa (GC (vc:=.ref pV') (j:=3) T.t5 hp sf xc pX' (pv 3) (NX rfl pW' rfl) (λ_ r=>r)) (aa (GC (vc:=.ref pS') (j:=3) T.t5 hp sf xc pU' (pv 3) (NX rfl pT' rfl) (λ_ r=>r)) (aa (GC (vc:=.ty "ValueError") (j:=3) T.t5 hp sf xc (T.mj' n C hn hm) (pv 3) (jC T.au' oA) (λ_ r=>r)) (aa (qv 4) aq)))))))))))
   (ao (qM (Vb (pv 1) (Vb (pv 2) xR))))))))).1
 exact(mk hfa F29 ["_law_script", "_law_first", "_law_pool", "_law_turn", "_law_cells", "_law_scroll_here", "_law_handed", "_law_kinds", "_law_found", "_law_bad", "_law_many", "_law_words"] 1 8 DK Mr (λ{_ _ _ _ _ _ hr hu nd _}=>(aj (aF 1 (bH QN (aa (qv 0) (aa au aq)))) (aj (iC 2 (bH C20 (aa (bH QN (aa (qv 0) (aa au aq))) (aa (bH QN (aa (qv 0) (aa au aq))) aq)))) (aj (aF 3 (bH QN (aa (qv 0) (aa au aq)))) (aj (iC 4 (f9 (qv 0) (cT au) (cT (bF au (cy (bh (aa au (aa au (aa au (aa au aq))))) (bL (qv 1) au)))))) (aj (iC 5 (bH C22 (aa (bF (qv 4) (bh (aa (bH QN (aa (qv 0) (aa au aq))) aq))) (aa (bF (bh (aa aG (aa aG (aa aG aq)))) (qv 2)) aq)))) (aj (aO (aD gu aZ (bL (fM (qv 1) au) au) au) (ao (iC 5 (bH C28 (aa (qv 3) (aa (qv 2) aq)))))
   aA)
   (aj (iC 6 (fD mV yN T.S5 qP (qv 5)))
   (aj (zB (i:=7) (j:=8) rfl nd rfl (Or.inl rfl) rfl (Or.inl rfl) (bH C26 (aa (qv 6) aq)))
   (aj (aO (aD R8 v8 (qv 6) (qv 5))
   (ao (aH pV))
   aA)
   (aj (iC 9 (bH C27 (aa (qv 5) (aa (bH QN (aa (qv 0) (aa au aq))) aq))))
   (aj (aO (aD R8 v8 (bH C26 (aa (qv 9) aq)) (aU (aa (aU (aa pV (aa pV (aa pV (aa pV aq))))) (aa oF aq))))
   (ao (aH pV))
   aA)
   (aj (aF 10 (bH C23 (aa (qv 5) aq)))
   (aj (aO (aD qp yI (qv 10) au)
   (ao (aH (ou gu aZ (qv 7) (aU (aa pV (aa pV (aa pV (aa pV aq))))))))
   aA)
   (aj (aO (zi (h_ (aD gj' Fg (qv 7) oF) (cZ (dO (d8 (lJ T.t5 (qv 8) (jC T.M0 qu)))))))
   (ao (aH pV))
   aA)
   (aj (aF 11 (wL (qv 8) aG))
   (aj (aO (zi (h_ (aD R8 v8 (aJ az aW T.kC aQ (qv 11)) (qv 10)) (cZ (dO (d8 (bH C25 (aa (qv 5) (aa (qv 11) aq))))))))
   (ao (aH pV))
   aA)
   (ao (aH (pI (ou gu aZ (zA C18 (hr.mono (by decide)) (aa (zA C15 (hr.mono (by decide)) (aa (qv 8) aq)) aq)) (qv 8)) (pZ (ou gu aZ (zA C18 (hr.mono (by decide)) (aa (qv 5) aq)) (qv 8)))))))))))))))))))))))).2
def walk{l:VH}{q:cq}{loose:List Str}{XP:(Str->Option ah)->dk->Prop}{YP:cS->dk->Prop}{d:DefRec}{K:Params->ay}(hn:l.most=some 63)(R3:d.params.defaults=[])(hY:∀ (w:cS) (h:dk),YP w h->(K w.params).In h)(F:∀ (w:cS) (mg:Str->Option ah) (fa:ae) (h:dk),(K w.params).In h->h.Ns gE mg->mg d.name=some (.ref fa) ->
   ∃ fd:og,(∀ (s:aE) (u:ah),BindsTo s fd ⟨[u],[]⟩ [("_law_script",u)])/\∀ base:dk,(K w.params).In base->base.Ns gE mg->kR l.prog w (K w.params) mg base kP 9 fa fd ["_law_script"] (fW (K w.params) SY)) :
  PySem.W.WalkO q loose XP YP l.row.toRowW d [] (λf vs=>PySem.call f vs) :=
 L2.iB' (n:=63) (k:=9) (x := "_law_script") (CX:=λ_=>kP) (sp:=λw=>fW (K w.params) SY) hn (by decide) R3 ⟨rfl,by decide,by decide⟩ hY F (λw H a ns hl hO hS=>Az hl hS) λ_ _ _ _ _ z=>z
end L2.Q.Vq
end
open PySem PySem.W PyProof.Rows
namespace PySem.W.Fast
def tw15443985758265189375:=0
def tw10482764262924547923:=0
def tw6774315321939076442:=0
def tw12368530587263705692:=0
def tw11682040253392175784:=0
def tw8883449113742909499:=0
def tw4489798253238719853:=0
def tw7731269064641925103:=0
def tw9410446603265929427:=0
def tw9586809948663498329:=0
def tw6020243063815803877:=0
def tw15800306185675554390:=0
def tw5447820260689350238:=0
def tw1522013280520441309:=0
def tw13438537867750905946:=0
def tw9724553360853458663:=0
def tw4228958210496691543:=0
def tw365928583833590175:=0
def tw7465527224826915454:=0
def tw8752859514146877942:=0
def tw5974777005405795489:=0
def tw3434958885697283940:=0
def tw4466737625669271460:=0
def tw834448500566488645:=0
def tw913370109639391483:=0
def tw9992952261107669598:=0
def tw17798276986606497782:=0
def tw12828194836397168336:=0
def tw15869114040753030376:=0
def tw3885536861373714149:=0
def tw4287449054727911817:=0
def tw7859629713357149554:=0
def tw8002522953854562147:=0
def tw8011378640967266545:=0
def tw14637790057485783777:=0
def tw4516111831186842107:=0
def tw17231674517323817657:=0
def tw6207540257394963244:=0
def tw14090143942692985643:=0
def tw6978217691893109140:=0
def tw2842654328882614384:=0
def tw11081887831976896547:=0
def tw2539574901436121787:=0
def tw954763980023225214:=0
def tw14546523150339665465:=0
def tw11633394195682125973:=0
def tw10325955371119588743:=0
def tw11884394344233686387:=0
def tw6414799710955716842:=0
def tw1543239912605375399:=0
def tw6250003262341858601:=0
def tw16732863293819093630:=0
def tw16613463932899455614:=0
def tw16827653224839129877:=0
def tw1125051382876691480:=0
def tw9314892738647870706:=0
def tw12551659424137811020:=0
def tw14851679357248644190:=0
def tw15272772298494738483:=0
def tw4515177171480933790:=0
def tw16630621967944141118:=0
def tw364537845273324293:=0
def tw7613715807991602282:=0
def tw13872127579687282799:=0
def tw8927340956888706956:=0
def tw2518712110431675537:=0
def tw16877858170558450120:=0
def tw1064048157181951381:=0
def tw1832876733380391315:=0
def tw6887122382996998953:=0
def tw810368096939249349:=0
def tw1378051996147016554:=0
def tw2637170787942565667:=0
def tw16695798793960011961:=0
def tw9465135960049511923:=0
def tw4780539962870402537:=0
def tw3503642310504672155:=0
def tw12669264700020663505:=0
def tw888298713361631561:=0
def tw4499143713532021572:=0
def tw17454492955856809239:=0
def tw14778136418353868288:=0
def tw9834938946948476138:=0
def tw4279968775221744879:=0
def tw15861804650732078369:=0
def tw96587668414221165:=0
def tw2342097437781570804:=0
def tw13282247179642114953:=0
def tw10692943389523022827:=0
def tw17231590860650524682:=0
def tw2322901128311209483:=0
def tw3493934077298391797:=0
def tw8878469739846575685:=0
def tw10496232479848193217:=0
def tw8074198835891092790:=0
def tw997224394144810489:=0
def tw4926990652500417645:=0
def tw393788765210866536:=0
def tw511872926053730623:=0
def tw10431575389667867412:=0
def tw18182979762445640126:=0
def tw2964203966630349570:=0
def tw5137716820096484282:=0
def tw10922478199263480078:=0
def tw797051123085201615:=0
def tw16031368867972081492:=0
def tw714163475001180938:=0
def tw1205437620748855867:=0
def tw8038597072642118674:=0
def tw6467061946233967412:=0
def tw8385007772075848402:=0
def tw9776138057391399548:=0
def tw16144147954708832546:=0
def tw2912517421228230247:=0
def tw2928404065231026572:=0
def tw5244361817084342314:=0
def tw15754854466421748701:=0
def tw8741568687324122195:=0
def tw15242098216891434301:=0
def tw12958964850107220825:=0
def tw13793037788262811315:=0
def tw5112995438007437107:=0
def tw4389310507441578475:=0
def tw1331322908940973644:=0
def tw16446600544499793730:=0
def tw3797522530074578338:=0
def tw17353872549284123308:=0
def tw1079666438257848555:=0
def tw3394142835801791742:=0
def tw1563598297191201677:=0
def tw756883224421472223:=0
def tw10837729483947099156:=0
def tw7963729463918674614:=0
def tw12693921028158556774:=0
def tw8372331827740713412:=0
def tw10298934336119436454:=0
def tw2453773640845252291:=0
def tw17405525342195083658:=0
def tw293592989428154227:=0
def tw12139711116103601676:=0
def tw12948362604067501163:=0
def tw647994449221026328:=0
def tw795767710086813983:=0
def tw11509606672056996836:=0
def tw12741767374884384136:=0
def tw12476453799204556517:=0
def tw16472434431492436993:=0
def tw7403563194801149476:=0
def tw10626316672216900809:=0
def tw1784832556626989304:=0
def tw13521654675928975723:=0
def tw14757145236975254084:=0
def tw13893706491352550641:=0
def tw12016327640776462627:=0
def tw10413813882966106238:=0
def tw4512842280105625617:=0
def tw5784861205680893840:=0
def tw11332871831754027203:=0
def tw10107009089237482186:=0
def tw12361068898645249295:=0
def tw16406078577050760206:=0
def tw10906429478477789685:=0
def tw809057758243878151:=0
def tw13191161119131871648:=0
def tw14123122222475561287:=0
def tw896042484572545616:=0
def tw18174357806634142296:=0
def tw1644532057685660503:=0
def tw3946314895164036713:=0
def tw3186691177899682149:=0
def tw12173475775474021976:=0
def tw2362159186430733368:=0
def tw14884022188075127442:=0
def tw5976430261143824226:=0
def tw15261041772706358700:=0
def tw8692980124564860836:=0
def tw9022467532619170250:=0
def tw1604948554495014392:=0
def tw1626416252333754036:=0
def tw11784977641398589543:=0
def tw18228285171851998418:=0
def tw13763277808101952165:=0
def tw7124059975100163767:=0
def tw11805884961235579906:=0
def tw1972510046891853955:=0
def tw13958656113675699894:=0
def tw14100236863847764662:=0
def tw14058288151273721664:=0
def tw4116024188166143614:=0
def tw14726003815520725585:=0
def tw4564241155800867561:=0
def tw7794768791581354276:=0
def tw3536522434360022756:=0
def tw4159700007509597207:=0
def tw14903655261340149563:=0
def tw15804681535909222923:=0
def tw4399619795853106491:=0
def tw4694195681028637018:=0
def tw15397440651974711356:=0
def tw9956426343469545999:=0
def tw7193783014582584831:=0
def tw3706504925118708003:=0
def tw14082604296928332981:=0
def tw16208072226145180955:=0
def tw14238282059551321994:=0
def tw5676849872369280416:=0
def tw12894178383537071467:=0
def tw2645748315360043122:=0
def tw17138132711382715242:=0
def tw16358242999003301693:=0
def tw14978954606982875857:=0
def tw4173281056221854675:=0
def tw5253724819177701745:=0
def tw12918293173962471524:=0
def tw9734683756146647890:=0
def tw1869324020787665572:=0
def tw15195177487523524423:=0
def tw1067181163251755899:=0
def tw5170162596742443067:=0
def tw5732676948339206046:=0
def tw5695550778053917710:=0
def tw17655537186639064687:=0
def tw6974680303493349116:=0
def tw15632966879486844490:=0
def tw8857009352497147851:=0
def tw17049452448918972287:=0
def tw15230042762504595565:=0
def tw17906428031184616130:=0
def tw16972230142967772516:=0
def tw6049217084913146546:=0
def tw13746938577571874883:=0
def tw1692028747249110633:=0
def tw13571405306826253031:=0
def tw13260202961258934497:=0
def tw957357969752564841:=0
def tw16412411328273487791:=0
def tw14818275962714039415:=0
def tw223300221898107207:=0
def tw17479078075834174476:=0
def tw1330945560548103066:=0
def tw17301960881541683696:=0
def tw2619723458144043647:=0
def tw5698179193315308105:=0
def tw17833320271458376351:=0
def tw1045856172182495464:=0
def tw1434654624811323956:=0
def tw3841415414891494188:=0
def tw1228561454170354049:=0
def tw2735710486040970317:=0
def tw4376495660575483507:=0
def tw5829350056018611318:=0
def tw17133115846748905595:=0
def tw14809490293395650355:=0
def tw7775153302329841460:=0
def tw5505117730639464604:=0
def tw4095911557436918082:=0
def tw9945873710392557306:=0
def tw13636414511572235896:=0
def tw17694441872331203000:=0
def tw16593203944581933707:=0
def tw2603043521934647871:=0
def tw15208994716788346587:=0
def tw7996670283699173738:=0
def tw1308058897860818352:=0
def tw1706286383829667:=0
def tw3960274930801094602:=0
def tw16550423795696193198:=0
def tw17533397591258314586:=0
def tw8751506659094951886:=0
def tw6236022344599902729:=0
def tw4491883456460809419:=0
def tw5927833659167333999:=0
def tw4019841593708731812:=0
def tw16364373690976939613:=0
def tw13785771060491353186:=0
def tw446244632945091044:=0
def tw13721144095180604569:=0
def tw15637210307225971970:=0
def tw4521857997122519213:=0
def tw6737416639165258728:=0
def tw15558137785185676889:=0
def tw985039042804096284:=0
def tw3696453250355443923:=0
def tw11941869629272655862:=0
def tw10613455297031905164:=0
def tw2086769504669744809:=0
def tw4451171801474359884:=0
def tw10594617339545563185:=0
def tw16840708504714064099:=0
def tw6235509323566084971:=0
def tw3150618482890066531:=0
def tw2581038335180577965:=0
def tw18348386778419546570:=0
def tw11084129948344911597:=0
def tw13830667087280262033:=0
def tw6678298356243580076:=0
def tw2363142250733996530:=0
def tw9117888923646266904:=0
def tw13606118991324862098:=0
def tw16929147051808015334:=0
def tw17982354931044672111:=0
def tw3010417528993925924:=0
def tw14836403579082705218:=0
def tw15760523445409806544:=0
def tw18326743588110455880:=0
def tw3295025523391229495:=0
def tw13592890034290666056:=0
def tw17724676265247074750:=0
def tw6698632255641001947:=0
def tw17069650176153855563:=0
def tw11905299172354847237:=0
def tw15138325591865834650:=0
def tw4886866271044098912:=0
end PySem.W.Fast
set_option maxRecDepth 100000 in
set_option maxHeartbeats 0 in
theorem PySem.Challenge.cw_kinlook_k28_told_in_words_holds : PySem.Challenge.rw_kinlook_k28_told_in_words.Holds := by
 w_on;o_law;k_head;(case hw=>w_witness2)
 k_fill
 refine L2.Q.Vq.walk (l:=PySem.Challenge.rw_kinlook_k28_told_in_words) rfl rfl (λw h Y=>PySem.W.kIn_of Y) ?F
 case F =>
  intro w mg fa h KX G R4
  refine' L2.Q.Vq.all_mk KX G R4 ..
  all_goals first|k_is|k_exc|kit_is|(refine' L2.Q.Vq.Ky ..<;>first|k_is|skip)|skip
