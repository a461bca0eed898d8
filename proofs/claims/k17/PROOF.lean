import PyProof.Rows.All
import Wide.All
import OpenK.AllK
import Wide.FinOn
import Lean
import PyProof.EqAt
import PyProof.EqKinds
import PyProof.TupleCall
import PyProof.CompUse
import PyProof.NeData
import PyProof.WalksEnum
import PyProof.EnumMake
import PyProof.ZipIter
import PyProof.Rows.EnumRows
import PyProof.Rows.FactsT2
import KE.KDictList
import PyProof.Rows.SortRuns
import PyProof.Rows.SortWalk
import KE.KSortTup
import PyProof.Rows.SortStr
import PyProof.ListRange
import PyProof.StrOps2
import PyProof.StrBlock2
import PyProof.AutoIntG3
import PyProof.ListMulRight
import PyProof.Rows.ListMulArg
import PyProof.Rows.CallKwBuiltin
import PyProof.Rows.StrMul
import KE.KMinBuiltin
import PyProof.TupleKey
import PyProof.SetKind
import PyProof.Rows.SetFrom
import PyProof.DictWalks
import KE.KRevIter
import PyProof.NsDelKeeps
import PyProof.AutoSeq1
import PySem.Challenge.RW_kinlook_k17_rows_of_a_frame
open PySem renaming wpAny_bind->ay,Value->ah,Addr->ag,wpAny_pure->bI,Shared->aE,starEach->bS,sizeLine->bX,model->aS,wpAny->aT,Program->dz,mainGlobals->fR,Heap->cS,eval->c9,World->dA,Around->eJ,compareOp->gS,bootBuiltins->kN,wpAny_newObj_type->rS,sizeLine_eq->kP,backTo->iq,wpAny_setState_of->yi,wpAny_mono->oD,rawInt->j2,cLine->hX,wpAny_holding->xl,wpAny_loadPart_at->B1,swapsWith->rU,wpAny_Call_Name_kw->D4,binaryOp->p9,sysModules->vw,attributeBase->Au,wpAny_call_entry->D5,foldedSetIterable->FK,wpAny_typeNameOfWhole_keyiter->O3,wpAny_callSpecial?_slot->MR,wpAny_setField_rec->KG,codeAny_builtin->FL,wpAny_truthy_bool->KL,Keyword->t9,FuncData->xo,wpAny_typeNameOf_keyiter->O4,wpAny_askSetting->KP,codeAny->vx,assignEach->B3,tupleKind_room_in1->MS,NameKind->yk,wpAny_rule->D6,behindInMarks->KS,wpAny_field->FP,sliceBounds->FR,keywordEach->FT,wpAny_isSubtype_exc->O5,wpAny_passesOwn->MT
open PySem.W renaming Frag->aI,kitOne->i3,nsIn->kf,kia_one->ua,mg_none_of->yn,findIn->ub,mg_of->sQ,fnOf->ui,mroIn->yv,keepIn->D7,codeIn->KW,kitx_dict->O6,methodObj->Rw,kitx_list->Rx,excIn->O7,instObj->Ry,OpenLaw->Rz
open List renaming length_map->dn,mem_cons_of_mem->eP,mem_append_right->fA,mem_cons_self->ft,mem_append->fh,mem_cons->eM,mem_map->eK,sublist_append_right->k6,mem_append_left->j3,size_toArray->iA,getElem?_eq_some_iff->nv,nodup_append->i6,map_cons->gI,append_nil->kE,length_append->ny,length_take->ly,getElem?_eq_getElem->uj,map_map->i7,nodup_cons->nE,nodup_nil->mG,getElem?_map->qa,mem_singleton->rV,map_append->oI,mem_of_getElem?->vE,getD_eq_getElem?_getD->B4,mem_range->rX,getElem?_append_right->D8,length_cons->vF,all_cons->r0,filterMap_cons->AA,length_drop->xt,pairwise_map->yy,append_assoc->AB,getElem?_eq_none->D9,nil_sublist->AF,take_length->AG,take_of_length_le->FU,drop_eq_getElem_cons->K0,take_append_drop->FV,all_eq_true->B5,take_add_one->Ee,getElem?_append_left->MV,pairwise_iff_getElem->MX,sublist_append_left->MY,mem_of_mem_drop->K2,mem_of_mem_take->Lc,any_cons->B6,not_mem_nil->FX,append_eq_nil_iff->MZ,zip_cons_cons->Lv,mem_iff_getElem?->M0,length_range->Lz,map_congr_left->M6,length_eq_zero_iff->O8,all_nil->EA,mem_filter->LB,find?_cons->LC,ext_getElem?->M7,pairwise_append->O9,getElem_mem->M8,nodup_iff_pairwise_ne->RA,extract_eq_drop_take->RB,map_take->LD,map_drop->LG,length_zip->M9,contains_cons->O_,getElem?_replicate->RC,length_replicate->RD,perm_append_comm->RG,cons_append->Pa,countP_cons->Pb,cons_ne_nil->Pg,nodup_range->Ph,getElem?_set_ne->RH,map_nil->M_,all_map->Nb,replicate_succ->RJ,flatMap_append->RK,drop_zero->Pj,mem_filterMap->RL,filterMap_map->RN,filter_cons->RP,lookup_cons->RQ,drop_length->RT
open PySem.Heap renaming get?_push_of_some->fI,lt_size->eS,get?_push_size->kF,get?_update_other->B7,get?_update_self->B8,get?_push_ne->Pk,size_update->Pl
open Nat renaming le_refl->de,zero_le->eW,ne_of_lt->gV,lt_of_lt_of_le->n4,le_trans->i9,le_of_lt->oP,lt_irrefl->uk,lt_succ_of_lt->AH,succ_pos->vS,lt_succ_of_le->EB,le_add_right->FY,add_sub_of_le->GA,pow_succ->AI,le_of_not_lt->Nc,mul_le_mul->EC,not_lt_zero->GB,add_assoc->GH,lt_of_not_le->Pm,mul_assoc->LH,le_antisymm->Nf,add_comm->LJ,add_zero->LK,lt_of_succ_lt->RV,le_of_lt_succ->Pn,one_pos->LM,min_eq_left->Pp,min_self->Ng,mul_comm->Nh,sub_lt->LN,mod_lt->LP,le_succ_of_le->RW,lt_trans->RX,ne_of_gt->Pq,zero_add->Pt
open PyProof.Rows renaming wpS_bind->cx,arrOf->bp,wpS_pure->df,Keyed->bP,SortSt->dv,kindOf->eL,pendingOf->kc,wpS_forRange->qc,failedOf->oQ,envOfC->k7,SortKind->sR,wpS_mono->sT,elem'->mI,wpS_modify->B9
open Bool renaming false_eq_true->hZ,false_ne_true->kg,and_eq_true->ja,and_true->yA,eq_iff_iff->ED,not_eq_true'->RZ,not_true->Pu
open Array renaming getElem?_toList->oS,toList_push->pd,getElem?_eq_getElem->AJ,getElem?_eq_some_iff->Cb,length_toList->xv,getD_eq_getD_getElem?->EE,eq_empty_of_size_eq_zero->Ni,getElem?_eq_none->LR,size_extract->GL,append_assoc->LS,getElem?_setIfInBounds_ne->R0,getElem?_extract->Pw,perm_iff_toList_perm->R3,toList_inj->Nj,mem_toList_iff->R4,toList_extract->R5,append_empty->R6
open Int renaming emod_lt_of_pos->n5,emod_nonneg->sd,toNat_of_nonneg->EF,le_trans->xA,le_refl->xB,le_of_lt->Ct,mul_nonneg->GN,mul_le_mul->GO,toNat_natCast->Nk,lt_of_lt_of_le->R7
open Option renaming isSome_map->R8,getD_none->R9
local macro_rules | `(command| def $i:declId $s:optDeclSig $v:declVal)=>`(command| noncomputable def $i:declId $s:optDeclSig $v:declVal)
local macro_rules | `(command| abbrev $i:declId $s:optDeclSig $v:declVal)=>`(command| noncomputable abbrev $i:declId $s:optDeclSig $v:declVal)
set_option compiler.extract_closed false
local macro_rules | `(tactic| walk_at "l") => `(tactic| first | lia | omega)
local macro_rules | `(tactic| walk_at "s1") => `(tactic| solve_by_elim (maxDepth := 4) [Nat.lt_of_lt_of_le, Nat.lt_of_le_of_lt, Nat.le_trans, Nat.lt_trans, Nat.le_of_lt, Nat.le_of_not_lt])
local macro_rules | `(tactic| walk_at "s2") => `(tactic| solve_by_elim (maxDepth := 5) [Nat.lt_of_lt_of_le, Nat.lt_of_le_of_lt, Nat.le_trans, Nat.le_of_lt, Nat.le_of_not_lt, Nat.lt_of_not_le, Nat.lt_of_succ_lt, Nat.le_of_succ_le])
local macro_rules | `(tactic| walk_at "s3") => `(tactic| solve_by_elim (maxDepth := 5) [Int.lt_of_lt_of_le, Int.lt_of_le_of_lt, Int.le_trans, Int.le_of_lt, Int.not_lt.mp, Int.not_le.mp])
local macro_rules | `(tactic| walk_at "s4") => `(tactic| solve_by_elim (maxDepth := 5) [Nat.le_trans, Nat.lt_of_lt_of_le, Nat.le_of_lt, Nat.le_add_right, Nat.le_add_left, Nat.add_le_add_left, Nat.add_lt_add_left, Nat.succ_le_succ, Nat.sub_le])
theorem L2.hG{α β:Type _}{A B C:α->β->Prop}{G:Prop}(x:∃ a b,A a b/\B a b/\C a b)(k:∀ a b,A a b->B a b->C a b->G):G :=
 let ⟨a,b,p,q,r⟩:=x
 k a b p q r
set_option Elab.async false
set_option linter.all false
set_option maxRecDepth 100000
namespace L2
open PySem PySem.Spec PyProof.Rows
abbrev Key:=Sum Int Str
def GP:Key->ah->Bool
 |.inl k,v=>Value.isInt k v
 |.inr x,v=>Value.isStrOf x v
def ax'(w:dA):Key->Int
 |.inl k=>hashInt k
 |.inr x=>hashStr w x
theorem AK:∀ {k:Key} {v:ah},GP k v=true->(∃ i t,k=Sum.inl i/\v=Value.int i t)\/(∃ x t,k=Sum.inr x/\v=Value.str x t)
 |.inl i,v,h=>by obtain⟨t,e⟩:=Value.isInt_shape (k:=i) (v:=v) h;exact .inl ⟨i,t,rfl,e⟩
 |.inr x,v,h=>by obtain⟨t,e⟩:=Value.isStrOf_shape (x:=x) (v:=v) h;exact .inr ⟨x,t,rfl,e⟩
theorem U_(i:Int)(t:Tok):GP (.inl i) (.int i t)=true:=by simp[GP,Value.isInt]
theorem Va(x:Str)(t:Tok):GP (.inr x) (.str x t)=true:=by simp[GP,Value.isStrOf]
theorem Vb(a b:Int):decide ((Sum.inl a:Key)=Sum.inl b)=(a == b):=by
 by_cases e:a=b
 ·subst e;simp
 ·have h:¬ (Sum.inl a:Key)=Sum.inl b:=λq=>e (Sum.inl.inj q);rw[decide_eq_false h];exact(beq_eq_false_iff_ne.mpr e).symm
theorem Vc(a b:Str):decide ((Sum.inr a:Key)=Sum.inr b)=decide (a=b):=by
 by_cases e:a=b
 ·subst e;simp
 ·have h:¬ (Sum.inr a:Key)=Sum.inr b:=λq=>e (Sum.inr.inj q);rw[decide_eq_false h,decide_eq_false e]
theorem ay'(a:Int)(b:Str):decide ((Sum.inl a:Key)=Sum.inr b)=false:=decide_eq_false (λq=>nomatch q)
theorem az'(a:Str)(b:Int):decide ((Sum.inr a:Key)=Sum.inl b)=false:=decide_eq_false (λq=>nomatch q)
def kQ(prog:dz)(w:dA):PySem.KeyKind prog w Key where
 is:=GP
 hash:=ax' w
 inj:=λv a b ha hb=>by
  rcases AK ha with⟨i,t,rfl,rfl⟩|⟨x,t,rfl,rfl⟩
  ·rcases AK hb with⟨j,u,rfl,e⟩|⟨y,u,rfl,e⟩
   ·injection e with e1 _;rw[e1]
   ·exact nomatch e
  ·rcases AK hb with⟨j,u,rfl,e⟩|⟨y,u,rfl,e⟩
   ·exact nomatch e
   ·injection e with e1 _;rw[e1]
 byValue:=λk v h=>by rcases AK h with⟨i,t,rfl,rfl⟩|⟨x,t,rfl,rfl⟩<;>rfl
 pyHash:=λhv h=>by
  rcases AK hv with⟨i,t,rfl,rfl⟩|⟨x,t,rfl,rfl⟩
  ·exact wpAny_pyHash_int h
  ·exact wpAny_pyHash_str h
 eqBool:=λhu hv h=>by
  rcases AK hu with⟨i,t,rfl,rfl⟩|⟨x,t,rfl,rfl⟩
  ·rcases AK hv with⟨j,u,rfl,rfl⟩|⟨y,u,rfl,rfl⟩
   ·rw[Vb] at h;exact wpAny_eqBool_int h
   ·rw[ay'] at h;exact SeqAt.EqAt.int_str i t y u _ _ _ _ h
  ·rcases AK hv with⟨j,u,rfl,rfl⟩|⟨y,u,rfl,rfl⟩
   ·rw[az'] at h;exact SeqAt.EqAt.str_int x t j u _ _ _ _ h
   ·rw[Vc] at h;exact wpAny_eqBool_str h
 «strs» := λk x t v h=>by
  rcases AK h with⟨i,u,rfl,e⟩|⟨y,u,rfl,e⟩
  ·exact nomatch e
  ·injection e with e1 _;subst e1;cases v<;>rfl
theorem aA'(prog:dz)(w:dA)(k:Key)(v:ah):(kQ prog w).is k v=GP k v:=rfl
theorem aB'(prog:dz)(w:dA)(i:Int)(t:Tok):(kQ prog w).is (.inl i) (.int i t)=true:=U_ i t
theorem aC'(prog:dz)(w:dA)(x:Str)(t:Tok):(kQ prog w).is (.inr x) (.str x t)=true:=Va x t
inductive V where
 |non|bl (b:Bool)|int (i:Int)|str (x:Str)|vT (b:Array UInt8)|AO (b:UInt64)|ref (a:ag)|ty (n:String)
 deriving DecidableEq
def RelV:V->ah->Prop
 |.non,u=>u=Value.none
 |.bl b,u=>u=Value.bool b
 |.int i,u=>∃ t,u=Value.int i t
 |.str x,u=>∃ t,u=Value.str x t
 |.vT b,u=>∃ t,u=Value.bytes b t
 |.AO b,u=>∃ t,u=Value.float b t
 |.ref a,u=>u=Value.ref a
 |.ty n,u=>u=Value.type n
abbrev Vals:List V->List ah->Prop:=Paired RelV
theorem Vals.length(r:Vals xs us):xs.length=us.length:=Paired.length r
theorem Vals.get:∀ {xs:List V} {us:List ah} {i:Nat} {x:V},Vals xs us->xs[i]? = some x->∃ u,us[i]? = some u/\RelV x u
 |_,_,_,_,.nil,e=>by simp at e
 |_,_,0,_,.cons r _,e=>by simp at e;subst e;exact⟨_,rfl,r⟩
 |_,_,i+1,x,.cons _ t,e=>by obtain⟨u,h1,h2⟩:=Vals.get (i:=i) (x:=x) t (by simpa using e);exact⟨u,by simpa using h1,h2⟩
theorem Vals.set(r:RelV x u):∀ {xs:List V} {us:List ah} (i:Nat),Vals xs us->Vals (xs.set i x) (us.set i u)
 |_,_,_,.nil=>.nil
 |_,_,0,.cons _ t=>.cons r t
 |_,_,i+1,.cons q t=>.cons q (Vals.set r i t)
theorem Vals.append:∀ {xs ys:List V} {us ws:List ah},Vals xs us->Vals ys ws->Vals (xs++ys) (us++ws)
 |_,_,_,_,.nil,s=>s
 |_,_,_,_,.cons r t,s=>.cons r (Vals.append t s)
theorem Vals.take:∀ {xs:List V} {us:List ah} (n:Nat),Vals xs us->Vals (xs.take n) (us.take n)
 |_,_,0,_=>.nil
 |_,_,_+1,.nil=>.nil
 |_,_,n+1,.cons r t=>.cons r (Vals.take n t)
theorem Vals.drop:∀ {xs:List V} {us:List ah} (n:Nat),Vals xs us->Vals (xs.drop n) (us.drop n)
 |_,_,0,r=>r
 |_,_,_+1,.nil=>.nil
 |_,_,n+1,.cons _ t=>Vals.drop n t
def v3:Option V->Option ah->Prop
 |some v,some u=>RelV v u
 |none,none=>True
 |_,_=>False
def KV{κ:Type}:List (κ × V)->List (κ × ah)->Prop:=Paired λ(p:κ × V) (q:κ × ah)=>p.1=q.1/\RelV p.2 q.2
def kV:Key->V
 |.inl i=>.int i
 |.inr x=>.str x
inductive HO where
 /-- a list -/
 |lst (xs:List V)
 /-- a tuple (never changes) -/
 |tup (xs:List V)
 /-- a dict whose keys are ints and texts;one whose keys are tuples of ints and texts (the empty one is both) -/
 |dK (ae:List (Key × V))|dT (ae:List (List Key × V))
 /-- a set of ints: its members,its size -/
 |set (S:Int->Bool) (n:Nat)
 /-- an instance of the class at C,its dict at dx,its attributes -/
 |ins (C dx:ag) (fs:List (Str × V))
 /-- the dict of the instance at x -/
 |own (x:ag)
 /-- the dict of an exception -/
 |xd (fs:List (Str × V))
 /-- a bound method,f of x -/
 |met (f x:ag)
 /-- a range object lo,lo+1,.. below hi -/
 |Px (lo hi:Int)
 /-- a thing that is known to the object (the script;a dict while a loop walks it): read,never written while it is so -/
 |mM (o:Obj) (u:HO)
 /-- a code object's table -/
 |EG (ps:Array ah)
 /-- any other thing,by what is true of its one object (a def of kx' own: ky' a S n:=HO.ext fun h=>..) -/
 |ext (φ:cS->Prop)
abbrev Hp:=ag->Option HO
def upd(H:Hp)(a:ag)(o:HO):Hp:=λb=>if b=a then some o else H b
theorem ki:upd H a o a=some o:=by unfold upd;rw[if_pos rfl]
theorem iN(h:b≠a):upd H a o b=H b:=by unfold upd;rw[if_neg h]
theorem aD'{H:Hp}{a b:ag}{o u:HO}(h:H a=some o)(h':H b=some u)(d:o≠u):a≠b:=by intro e;subst e;rw[h] at h';exact d (Option.some.inj h')
theorem LV{H:Hp}{a b:ag}{o:HO}(h:H a=some o)(h':H b=none):a≠b:=by intro e;subst e;rw[h] at h';cases h'
section
variable (P:dz)(w:dA)
def fS(H:Hp)(h:cS)(a:ag):HO->Prop
 |.lst xs=>xs.length<=bX/\∃ (its:List ah) (n:Nat),Vals xs its/\h.get? a=some { cls:=.type "list",data:=.seq its.toArray n }
 |.tup xs=>xs.length<=bX/\∃ its:List ah,Vals xs its/\IsTup h a its.toArray
 |.dK ae=>ae.length<=bX/\(a == vw)=false/\∃ vs,KV ae vs/\h.DictOf (kQ P w) a vs
 |.dT ae=>ae.length<=bX/\(a == vw)=false/\∃ xs:List (List Key × ag × ah),
   Paired (λ(p:List Key × V) (q:List Key × ag × ah)=>p.1=q.1/\H q.2.1=some (.tup (p.1.map kV))/\RelV p.2 q.2.2) ae xs /\
   ∃ o es ep,h.get? a=some o/\o.ExactDict/\o.data=.dict es ep/\es.toList=xs.map (entryOfKey (tupleKind (kQ P w)))/\(xs.map (·.1)).Nodup
 |.set S n=>h.SetOf (intKind P w) a S n
 |.ins C dx fs=>H dx=some (.own a)/\fs.length<=1000/\dx≠a/\h.get? a=some (Ry C dx) /\
   ∃ mA,h.Ns1 dx mA/\(∀ f,v3 (fs.lookup f) (mA f))/\PySem.Within mA (fs.map (·.1))
 |.own _=>∃ o,h.get? a=some o
 |.xd fs=>∃ mA,h.Ns1 a mA/\∀ f,v3 (fs.lookup f) (mA f)
 |.Px lo hi=>∃ t u v,h.get? a=some { cls:=.type "range",data:=.fields #[.int lo t,.int hi u,.int 1 v] }
 |.mM o u=>h.get? a=some o/\fS H h a u
 |.EG ps=>h.get? a=some { cls:=.none,data:=.fields ps }
 |.met f x=>h.get? a=some (Rw (.ref f) (.ref x))
 |.ext φ=>φ h/\(∃ o,h.get? a=some o)/\∀ h1 h2:cS,φ h1->(∀ o,h1.get? a=some o->h2.get? a=some o)->φ h2
def gL(H:Hp)(h:cS):Prop:=∀ a o,H a=some o->fS P w H h a o
end
section
variable {P:dz}{w:dA}{H H':Hp}{h h':cS}{a:ag}{o:HO}
theorem fS.lt(x:fS P w H h a o):a<h.objs.size:=by
 cases o with
 |lst xs=>obtain⟨_,_,_,_,e⟩:=x;exact eS e
 |tup xs=>obtain⟨_,_,_,p⟩:=x;exact p.lt
 |dK ae=>obtain⟨_,_,_,_,o,_,_,e,_⟩:=x;exact eS e
 |dT ae=>obtain⟨_,_,_,_,o,_,_,e,_⟩:=x;exact eS e
 |set S n=>obtain⟨o,_,_,_,e,_⟩:=x;exact eS e
 |ins C dx fs=>obtain⟨_,_,_,e,_⟩:=x;exact eS e
 |own y=>obtain⟨_,e⟩:=x;exact eS e
 |xd fs=>obtain⟨_,⟨_,_,_,e,_⟩,_⟩:=x;exact eS e
 |Px lo hi=>obtain⟨_,_,_,e⟩:=x;exact eS e
 |mM ob u=>obtain⟨e,_⟩:=x;exact eS e
 |EG ps=>exact eS (show h.get? a=some _ from x)
 |met f y=>exact eS (show h.get? a=some _ from x)
 |ext φ=>obtain⟨_,⟨_,e⟩,_⟩:=x;exact eS e
theorem Paired.R_{α β:Type}{F G:α->β->Prop}:∀ {Vd:List α} {Ve:List β},Paired F Vd Ve->(∀ a b,F a b->G a b)->Paired G Vd Ve
 |_,_,.nil,_=>.nil
 |_,_,.cons r t,f=>.cons (f _ _ r) (Paired.R_ t f)
theorem fS.fN(x:fS P w H h a o)(k:∀ b u,(b=a\/H b=some (.own a))->h.get? b=some u->h'.get? b=some u)(ho:∀ b,H b=some (.own a)->H' b=some (.own a)) (ht:∀ b xs,H b=some (.tup xs)->H' b=some (.tup xs)):fS P w H' h' a o:=by
 induction o with
 |lst xs=>obtain⟨z,its,n,r,e⟩:=x;exact⟨z,its,n,r,k _ _ (.inl rfl) e⟩
 |tup xs=>obtain⟨z,its,r,ob,e,c⟩:=x;exact⟨z,its,r,ob,k _ _ (.inl rfl) e,c⟩
 |dK ae=>obtain⟨z,y,vs,r,ob,es,ep,e,c⟩:=x;exact⟨z,y,vs,r,ob,es,ep,k _ _ (.inl rfl) e,c⟩
 |dT ae =>obtain⟨z,y,xs,r,ob,es,ep,e,c⟩:=x;exact⟨z,y,xs,Paired.R_ r λp q z=>⟨z.1,ht _ _ z.2.1,z.2.2⟩,ob,es,ep,k _ _ (.inl rfl) e,c⟩
 |set S n=>obtain⟨ob,es,ep,t,e,c⟩:=x;exact⟨ob,es,ep,t,k _ _ (.inl rfl) e,c⟩
 |ins C dx fs =>obtain⟨d,z,ne,e,mA,⟨od,es,ep,e2,c⟩,r⟩:=x;exact⟨ho _ d,z,ne,k _ _ (.inl rfl) e,mA,⟨od,es,ep,k _ _ (.inr d) e2,c⟩,r⟩
 |own y=>obtain⟨ob,e⟩:=x;exact⟨ob,k _ _ (.inl rfl) e⟩
 |xd fs=>obtain⟨mA,⟨od,es,ep,e,c⟩,r⟩:=x;exact⟨mA,⟨od,es,ep,k _ _ (.inl rfl) e,c⟩,r⟩
 |Px lo hi=>obtain⟨t,u,v,e⟩:=x;exact⟨t,u,v,k _ _ (.inl rfl) e⟩
 |mM ob u ih=>obtain⟨e,q⟩:=x;exact⟨k _ _ (.inl rfl) e,ih q⟩
 |EG ps =>have e:h.get? a=some { cls:=.none,data:=.fields ps }:=x;show h'.get? a=some { cls:=.none,data:=.fields ps };exact k a _ (.inl rfl) e
 |met f y =>have e:h.get? a=some (Rw (.ref f) (.ref y)):=x;show h'.get? a=some (Rw (.ref f) (.ref y));exact k a _ (.inl rfl) e
 |ext φ=>obtain⟨p,⟨o,e⟩,st⟩:=x;exact⟨st _ _ p λo q=>k _ _ (.inl rfl) q,⟨o,k _ _ (.inl rfl) e⟩,st⟩
theorem gL.lt(x:gL P w H h)(e:H a=some o):a<h.objs.size:=(x a o e).lt
theorem gL.fresh(x:gL P w H h)(e:h.objs.size<=a):H a=none:=by
 cases q:H a with
 |none=>rfl
 |some u=>exact absurd (n4 (x.lt q) e) (uk _)
theorem gL.kept(x:gL P w H h)(k:∀ b u,h.get? b=some u->h'.get? b=some u):gL P w H h':=λa o e =>
 (x a o e).fN (λb u _ q=>k b u q) (λ_ q=>q) λ_ _ q=>q
theorem gL.laid(x:gL P w H h)(k:∀ b u,h.get? b=some u->h'.get? b=some u)(hp:h.objs.size<=a)(new:fS P w (upd H a o) h' a o):gL P w (upd H a o) h':=λb u e=>by
 have hn:=x.fresh hp;by_cases hb:b=a
 ·subst hb;rw[ki] at e;cases e;exact new
 ·rw[iN hb] at e;exact(x b u e).fN (λc v _ q=>k c v q) (λc q=>by rw[iN (LV q hn)];exact q) λc xs q=>by rw[iN (LV q hn)];exact q
end
def Rd(H:Hp)(a:ag)(u:HO):Prop:=H a=some u\/∃ o,H a=some (.mM o u)
theorem Rd.ok{P:dz}(r:Rd H a u)(x:gL P w H h):fS P w H h a u:=by
 rcases r with r|⟨o,r⟩
 ·exact x a u r
 ·obtain⟨_,q⟩:=x a _ r;exact q
def Nm:Option HO->Prop
 |some (.lst _)=>True
 |some (.dK _)=>True
 |some (.dT _)=>True
 |some (.set _ _)=>True
 |some (.ins _ _ _)=>True
 |some (.ext _)=>True
 |_=>False
section
variable {P:dz}{w:dA}{H:Hp}{h h':cS}{x e:ag}{o':HO}
theorem gL.write(ok:gL P w H h)(mu:Nm (H x))(he:e=x\/H e=some (.own x))(k:∀ b u,b≠e->h.get? b=some u->h'.get? b=some u)(LW:∃ u,h'.get? e=some u)(new:fS P w (upd H x o') h' x o'):gL P w (upd H x o') h':=λb u q=>by
 have Vf:∀ c y,H c=some (.own y)->c≠x:=λc y r z=>by subst z;rw[r] at mu;exact mu
 have aE':∀ c xs,H c=some (.tup xs)->c≠x:=λc xs r z=>by subst z;rw[r] at mu;exact mu
 by_cases hb:b=x
 ·subst hb;rw[ki] at q;cases q;exact new
 ·rw[iN hb] at q;by_cases GU:b=e
  ·have q':H b=some (.own x):=by
    rcases he with z|z
    ·exact absurd (GU.trans z) hb
    ·rw[GU];exact z
   rw[q] at q';cases q';obtain⟨v,hv⟩:=LW;exact⟨v,by rw[GU];exact hv⟩
  ·refine(ok b u q).fN (λc v hc r=>k c v ?_ r) (λc r=>by rw[iN (Vf c b r)];exact r) λc xs r=>by rw[iN (aE' c xs r)];exact r
   rcases hc with rfl|hc
   ·exact GU
   ·rintro rfl;rcases he with z|z
    ·exact Vf c b hc z
    ·rw[hc] at z;cases z;exact hb rfl
end
structure Un(fs ex:List ag)(H H':Hp)(h h':cS):Prop where
 keep:∀ b o,h.get? b=some o->H b=none->b∉fs->b∉ex->h'.get? b=some o
 slot:∀ b o,h.get? b=some o->H b=none->b∈fs->b∉ex->∃ sl,h'.get? b=some { o with slots:=sl }
 free:∀ b o,h.get? b=some o->H b=none->b∉ex->H' b=none
 there:∀ b o,h.get? b=some o->b∉ex->∃ o',h'.get? b=some o'
 iO:∀ b xs,H b=some (.tup xs)->H' b=some (.tup xs)
 qf:∀ b o u,H b=some (.mM o u)->H' b=some (.mM o u)
 se:∀ b ps,H b=some (.EG ps)->∃ more,H' b=some (.EG (ps++more))
section
variable {fs ex:List ag}{H H1 H2:Hp}{h h1 h2 h':cS}{a x e:ag}{o:HO}
theorem Un.any(u:Un fs ex H H1 h h1)(q:h.get? b=some ob)(n:H b=none)(hx:b∉ex):∃ sl,h1.get? b=some { ob with slots:=sl }:=by
 by_cases hb:b∈fs
 ·exact u.slot b ob q n hb hx
 ·exact⟨ob.slots,u.keep b ob q n hb hx⟩
theorem Un.trans(a:Un fs ex H H1 h h1)(b:Un fs ex H1 H2 h1 h2):Un fs ex H H2 h h2 where
 keep:=λc ob q n hc hx=>b.keep c ob (a.keep c ob q n hc hx) (a.free c ob q n hx) hc hx
 slot:=λc ob q n hc hx=>by obtain⟨sl,e1⟩:=a.slot c ob q n hc hx;obtain⟨Sb,e2⟩:=b.slot c _ e1 (a.free c ob q n hx) hc hx;exact⟨Sb,e2⟩
 free:=λc ob q n hx=>by obtain⟨o',e1⟩:=a.there c ob q hx;exact b.free c o' e1 (a.free c ob q n hx) hx
 there:=λc ob q hx=>by obtain⟨o',e1⟩:=a.there c ob q hx;exact b.there c o' e1 hx
 iO:=λc xs q=>b.iO c xs (a.iO c xs q)
 qf:=λc ob xs q=>b.qf c ob xs (a.qf c ob xs q)
 se:=λc ps q=>by obtain⟨m1,e1⟩:=a.se c ps q;obtain⟨m2,e2⟩:=b.se c _ e1;exact⟨m1++m2,by rw[e2,LS]⟩
theorem Un.kept(k:∀ b u,h.get? b=some u->h'.get? b=some u):Un fs ex H H h h' :=
 ⟨λb ob q _ _ _=>k b ob q,λb ob q _ _ _=>⟨ob.slots,k b ob q⟩,λ_ _ _ n _=>n,λb ob q _=>⟨ob,k b ob q⟩,λ_ _ q=>q,λ_ _ _ q=>q,λ_ ps q=>⟨#[],by rw[q];simp⟩⟩
theorem Un.refl:Un fs ex H H h h:=Un.kept λ_ _ q=>q
theorem Un.laid(k:∀ b u,h.get? b=some u->h'.get? b=some u)(hp:h.objs.size<=a)(hn:H a=none):Un fs ex H (upd H a o) h h' where
 keep:=λb u q _ _ _=>k b u q
 slot:=λb u q _ _ _=>⟨u.slots,k b u q⟩
 free:=λb u q n _=>by rw[iN (gV (n4 (eS q) hp))];exact n
 there:=λb u q _=>⟨u,k b u q⟩
 iO:=λb xs q=>by rw[iN (LV q hn)];exact q
 qf:=λb u xs q=>by rw[iN (LV q hn)];exact q
 se:=λb ps q=>⟨#[],by rw[iN (LV q hn),q];simp⟩
theorem Un.write(mu:Nm (H x))(he:e=x\/H e=some (.own x))(k:∀ b u,b≠e->h.get? b=some u->h'.get? b=some u)(LW:∃ u,h'.get? e=some u):Un fs ex H (upd H x o) h h':=by
 have hx:∀ b,H b=none->b≠x:=λb n z=>by subst z;rw[n] at mu;exact mu
 have hb:∀ b,H b=none->b≠e:=λb n z=>by
  subst z;rcases he with r|r
  ·exact hx b n r
  ·rw[n] at r;cases r
 have hm:∀ b u,H b=some u->¬ Nm (some u)->b≠x:=λb u q nm z=>by subst z;rw[q] at mu;exact nm mu
 refine⟨λb u q n _ _=>k b u (hb b n) q,λb u q n _ _=>⟨u.slots,k b u (hb b n) q⟩,λb u q n _=>by rw[iN (hx b n)];exact n,λb u q _=>?_,
  λb xs q=>by rw[iN (hm b _ q λz=>z)];exact q,λb u xs q=>by rw[iN (hm b _ q λz=>z)];exact q,λb ps q=>⟨#[],by rw[iN (hm b _ q λz=>z),q];simp⟩⟩
 by_cases GU:b=e
 ·subst GU;exact LW
 ·exact⟨u,k b u GU q⟩
end
def Py(h:cS)(H:Hp):List ag:=(List.range h.objs.size).filter λa=>(H a).isSome
def CB(h:cS)(H:Hp):cS:=PySem.W.hideAll h (Py h H)
theorem aF'(h:cS)(H:Hp):(CB h H).objs.size=h.objs.size:=PySem.W.hideAll_size _ _
theorem aG'(e:h.get? b=some o)(n:H b=none):(CB h H).get? b=some o :=
 PySem.W.hideAll_get _ e λhm=>by have q:(H b).isSome=true:=(LB.mp hm).2;rw[n] at q;simp at q
theorem aH'(e:(CB h H).get? b=some o):h.get? b=some o/\H b=none:=by
 have e':h.get? b=some o:=PySem.W.of_hideAll (Py h H) e;refine⟨e',?_⟩
 cases q:H b with
 |none=>rfl
 |some x =>have hm:b∈Py h H:=LB.mpr ⟨rX.mpr (eS e'),by simp[q]⟩;have z:(CB h H).get? b=none:=PySem.W.hideAll_none (Py h H) hm;rw[z] at e;cases e
def aI'(g h:cS)(L:ag):List (ag × Obj):=(List.range h.objs.size).filterMap λa=>if a=L\/(g.get? a).isSome=true then none else (h.get? a).map λo=>(a,o)
def rest(g h:cS)(L d:ag):List (ag × Obj):=(aI' g h L).filter λp=>decide (p.1≠d)
structure Mod(K:aI)(mg:Str->Option ah)(base:cS):Prop where
 Nn:K.In base
 glob:base.Ns fR mg
 blt:∃ mb,base.Ns builtinsNs mb/\∀ x:Str,x ≠ "__name__"->mb x=kN x
 nolimit:base.NoLimit
structure Cx where
 prog:dz
 w:dA
 K:aI
 mg:Str->Option ah
 base:cS
 A:eJ
 N:List Str
 fq:aE
 yB:Hp
 env:Env
 outer:List Env
 stack:List Env
 ex:List ag
 fn:Str->Bool
 calm:Bool
 pn:List (ag × Obj)
 xe:ah->aE->Prop
def fw(l:List Env):List ag:=l.filterMap (·.frame)
abbrev Cx.fs(X:Cx):List ag:=fw X.outer
def Np(sc:Scope)(x:Str):Prop:=sc.names.lookup x=some .local\/sc.names.lookup x=some .cell\/sc.names.lookup x=some .free
def Loc(sc:Scope)(x:Str):Prop:=sc.names.lookup x=some .local\/sc.names.lookup x=some .cell
def Look(env:Env)(h:cS)(m:Str->Option ah)(x:Str)(u:ah):Prop :=
 (env.kindOf x=some .local/\m x=some u)\/((env.kindOf x=some .cell\/env.kindOf x=some .free)/\∃ c,env.cells.lookup x=some c/\h.IsCell c (some u))
structure Cx.Ok(X:Cx):Prop where
 mod:Mod X.K X.mg X.base
 kind:X.env.scope.kind=.function
 glob:X.env.globals=fR
 blt:X.env.builtins=builtinsNs
 above:X.fq.heap.objs.size<=X.env.locals
 inj:∀ x y c,X.env.cells.lookup x=some c->X.env.cells.lookup y=some c->x=y
 has:∀ x,(X.env.kindOf x=some .cell\/X.env.kindOf x=some .free)->∃ c,X.env.cells.lookup x=some c
 AQ:∀ x c,X.fn x=true->X.env.cells.lookup x=some c->X.fq.heap.objs.size<=c
 hd:X.calm=true->X.A.handled=none
 frames:X.A.frames=some X.stack
 CC:X.stack=X.outer\/(X.stack=X.env :: X.outer/\X.env.frame=some X.env.locals)
 CD:∀ b∈X.ex,b≠X.env.locals/\∀ x c,X.env.cells.lookup x=some c->c≠b
 bs:∀ b o,X.base.get? b=some o->X.fq.heap.get? b=some o/\X.yB b=none
 uS:X.base.objs.size<=X.fq.heap.objs.size
 AR:∀ b o,X.base.get? b=some o->b∉X.ex
 AU:∀ b∈X.ex,b∉X.fs
 sf:X.fq.heap.FunFrames X.base X.outer
 yT:∀ b∈X.fs,X.yB b=none
structure Inv(X:Cx)(pins:List (ag × Obj))(σ:List (Option V))(H:Hp)(s:aE):Prop where
 ok:X.Ok
 os:s.os=X.fq.os
 bare:AllBare s.gens
 base:Un X.fs X.ex X.yB H X.fq.heap s.heap
 loc:∃ m,s.heap.Ns X.env.locals m/\∀ (i:Nat) (x:Str) (v:V),X.N[i]? = some x->σ[i]? = some (some v)->Np X.env.scope x->∃ u,RelV v u/\Look X.env s.heap m x u
 cell:∀ x c,X.env.cells.lookup x=some c->∃ v,s.heap.IsCell c v
 free:H X.env.locals=none
 pe:∀ x c,X.env.cells.lookup x=some c->H c=none
 pin:∀ p∈X.pn++pins,s.heap.get? p.1=some p.2/\H p.1=none/\p.1≠X.env.locals/\p.1∉X.fs/\∀ v,p.2.data≠.cell v
 bT:gL X.prog X.w H s.heap
 len:σ.length=X.N.length
section
variable {X:Cx}{pins:List (ag × Obj)}{σ:List (Option V)}{H H':Hp}{s:aE}{h':cS}
theorem Cx.Ok.aJ'(ok:X.Ok)(e:X.base.get? b=some o):b∉X.fs:=λhb=>by have:=(ok.sf.mem hb).1;rw[e] at this;cases this
theorem Inv.bs(I:Inv X pins σ H s):∀ b o,X.base.get? b=some o->s.heap.get? b=some o/\H b=none:=λb o e =>
 ⟨I.base.keep b o (I.ok.bs b o e).1 (I.ok.bs b o e).2 (I.ok.aJ' e) (I.ok.AR b o e),I.base.free b o (I.ok.bs b o e).1 (I.ok.bs b o e).2 (I.ok.AR b o e)⟩
theorem Inv.bk(I:Inv X pins σ H s):∀ b o,X.base.get? b=some o->s.heap.get? b=some o:=λb o e=>(I.bs b o e).1
theorem Inv.mod(I:Inv X pins σ H s):Mod X.K X.mg X.base:=I.ok.mod
theorem Inv.iP(I:Inv X pins σ H s):X.K.In s.heap:=I.ok.mod.Nn.keeps I.bk
theorem Inv.fr(I:Inv X pins σ H s):∃ m,Fr X.base X.env.locals s.heap m :=
 let ⟨m,hn,_⟩:=I.loc
 ⟨m,hn,I.bk,i9 I.ok.uS I.ok.above⟩
theorem Inv.lt(I:Inv X pins σ H s):X.env.locals<s.heap.objs.size:=let ⟨_,hn,_⟩:=I.loc;hn.lt
theorem Inv.sz(I:Inv X pins σ H s):X.fq.heap.objs.size<=s.heap.objs.size:=i9 I.ok.above (oP I.lt)
theorem Inv.aK'(I:Inv X pins σ H s)(h:s.heap.objs.size<=a):a∉X.fs:=λhb=>by obtain⟨_,o,ho,_⟩:=I.ok.sf.mem hb;exact absurd (n4 (eS ho) (i9 I.sz h)) (uk _)
theorem Inv.CF(I:Inv X pins σ H s):∀ x c,X.env.cells.lookup x=some c->c≠X.env.locals:=λx c e z=>by obtain⟨v,o,ho,hd⟩:=I.cell x c e;obtain⟨m,⟨o',es,ep,nI,hd',_⟩,_⟩:=I.loc;rw[z,nI] at ho;cases ho;rw[hd'] at hd;cases hd
theorem Inv.sf(I:Inv X pins σ H s):s.heap.FunFrames X.base X.outer:=by
 have all:∀ (l:List Env),(∀ b∈fw l,b∈X.fs)->X.fq.heap.FunFrames X.base l->s.heap.FunFrames X.base l:=by
  intro l
  induction l with
  |nil=>intro _ _;trivial
  |cons env r ih =>intro hs hl;obtain⟨hk,⟨L,o,hf,hn,ho,hd⟩,hr⟩:=hl;have hL:L∈X.fs:=hs L (by unfold fw;rw[AA,hf];exact ft);obtain⟨sl,e⟩:=I.base.slot L o ho (I.ok.yT L hL) hL λz=>I.ok.AU L z hL;exact⟨hk,⟨L,_,hf,hn,e,hd⟩,ih (λb hb=>hs b (by unfold fw;rw[AA,hf];exact eP _ hb)) hr⟩
 exact all X.outer (λ_ hb=>hb) I.ok.sf
theorem Inv.stack(I:Inv X pins σ H s):s.heap.FunFrames X.base X.stack:=by
 rcases I.ok.CC with e|⟨e,hf⟩
 ·rw[e];exact I.sf
 ·rw[e];obtain⟨m,hn,_⟩:=I.loc;refine .cons (by rw[I.ok.kind];decide) hf hn ?_ I.sf;exact Heap.get?_none_of_le (i9 I.ok.uS I.ok.above)
theorem Inv.Sd(I:Inv X pins σ H s):∀ b∈fw X.stack,b∈X.env.locals :: X.fs:=λb hb=>by
 rcases I.ok.CC with e|⟨e,hf⟩
 ·rw[e] at hb;exact eP _ hb
 ·rw[e] at hb;unfold fw at hb;rw[AA,hf] at hb;exact hb
theorem Inv.Se(I:Inv X pins σ H s):∀ b∈fw X.stack,H b=none:=λb hb=>by
 rcases eM.mp (I.Sd b hb) with e|hb
 ·rw[e];exact I.free
 ·obtain⟨_,o,ho,_⟩:=I.ok.sf.mem hb;exact I.base.free b o ho (I.ok.yT b hb) λz=>I.ok.AU b z hb
theorem Inv.step{g':Array GenState}{t':Nat}{d':Drawn}{ch:List ag}(I:Inv X pins σ H s)(AV:∀ b∈ch,(b∈X.ex\/X.fq.heap.objs.size<=b)/\b≠X.env.locals/\(∀ x c,X.env.cells.lookup x=some c->c≠b)/\∀ p∈X.pn++pins,p.1≠b)(keep:∀ b o,b≠X.env.locals->b∉X.fs->b∉ch->s.heap.get? b=some o->H b=none->h'.get? b=some o)(slot:∀ b o,b≠X.env.locals->b∈X.fs->b∉ch->s.heap.get? b=some o->H b=none->∃ sl,h'.get? b=some { o with slots:=sl }) (free:∀ b o,b∉ch->s.heap.get? b=some o->H b=none->H' b=none) (there:∀ b o,b∉ch->s.heap.get? b=some o->∃ o',h'.get? b=some o') (iO:∀ b xs,H b=some (.tup xs)->H' b=some (.tup xs)) (qf:∀ b o u,H b=some (.mM o u)->H' b=some (.mM o u)) (se:∀ b ps,H b=some (.EG ps)->∃ more,H' b=some (.EG (ps++more))) (ns:∀ m,s.heap.Ns X.env.locals m->h'.Ns X.env.locals m) (bT:gL X.prog X.w H' h') (hg:AllBare g') :
  Inv X pins σ H' { s with heap:=h',gens:=g',drawn:=d',toks:=t' }:=by
 have Nq:∀ b o,X.fq.heap.get? b=some o->b≠X.env.locals:=λb o e=>gV (n4 (eS e) I.ok.above);have Pz:∀ b o,X.fq.heap.get? b=some o->b∉X.ex->b∉ch:=λb o e hx hb=>by
  rcases (AV b hb).1 with z|z
  ·exact hx z
  ·exact absurd (n4 (eS e) z) (uk _)
 have cellK:∀ x c,X.env.cells.lookup x=some c->∀ v,s.heap.IsCell c v->h'.IsCell c v:=λx c e v d5=>by
  obtain⟨o,ho,hd⟩:=d5;have Nr:c∉ch:=λz=>(AV c z).2.2.1 x c e rfl;by_cases hc:c∈X.fs
  ·obtain⟨sl,q⟩:=slot c o (I.CF x c e) hc Nr ho (I.pe x c e);exact⟨_,q,hd⟩
  ·exact⟨o,keep c o (I.CF x c e) hc Nr ho (I.pe x c e),hd⟩
 refine⟨I.ok,I.os,hg,⟨λb o e n hb hx=>?_,λb o e n hb hx=>?_,λb o e n hx=>?_,λb o e hx=>?_,λb xs e=>iO b xs (I.base.iO b xs e),λb o xs e=>qf b o xs (I.base.qf b o xs e),λb ps e=>?_⟩,?_,λx c e=>?_,?_,λx c e=>?_,λp hp=>?_,bT,I.len⟩
 ·exact keep b o (Nq b o e) hb (Pz b o e hx) (I.base.keep b o e n hb hx) (I.base.free b o e n hx)
 ·obtain⟨sl,e1⟩:=I.base.slot b o e n hb hx;obtain⟨Sb,e2⟩:=slot b _ (Nq b o e) hb (Pz b o e hx) e1 (I.base.free b o e n hx);exact⟨Sb,e2⟩
 ·obtain⟨o',e1⟩:=I.base.there b o e hx;exact free b o' (Pz b o e hx) e1 (I.base.free b o e n hx)
 ·obtain⟨o',e1⟩:=I.base.there b o e hx;exact there b o' (Pz b o e hx) e1
 ·obtain⟨m1,e1⟩:=I.base.se b ps e;obtain⟨m2,e2⟩:=se b _ e1;exact⟨m1++m2,by rw[e2,LS]⟩
 ·obtain⟨m,hn,hl⟩:=I.loc;refine⟨m,ns m hn,λi x v e1 e2 e3=>?_⟩;obtain⟨u,r,l⟩:=hl i x v e1 e2 e3;refine⟨u,r,?_⟩;rcases l with l|⟨k,c,e,z⟩
  ·exact .inl l
  ·exact .inr ⟨k,c,e,cellK x c e _ z⟩
 ·obtain⟨v,z⟩:=I.cell x c e;exact⟨v,cellK x c e v z⟩
 ·obtain⟨m,⟨o,_,_,ho,_⟩,_⟩:=I.loc;exact free _ o (λz=>(AV _ z).2.1 rfl) ho I.free
 ·obtain⟨v,o,ho,hd⟩:=I.cell x c e;exact free c o (λz=>(AV c z).2.2.1 x c e rfl) ho (I.pe x c e)
 ·obtain⟨e,n,ne,nf,d⟩:=I.pin p hp;have Nr:p.1∉ch:=λz=>(AV p.1 z).2.2.2 p hp rfl;exact⟨keep p.1 p.2 ne nf Nr e n,free p.1 p.2 Nr e n,ne,nf,d⟩
theorem Inv.un{t':Nat}(I:Inv X pins σ H s)(u:Un X.fs [] H H' s.heap h')(bT:gL X.prog X.w H' h'):Inv X pins σ H' { s with heap:=h',toks:=t' }:=by
 obtain⟨m,⟨o,es,ep,ho,r⟩,_⟩:=id I.loc;obtain⟨sl,hL⟩:=u.any ho I.free (by simp);exact I.step (g':=s.gens) (d':=s.drawn) (ch:=[]) (λ_ z=>nomatch z) (λb o _ hb _ e n=>u.keep b o e n hb (by simp)) (λb o _ hb _ e n=>u.slot b o e n hb (by simp)) (λb o _ e n=>u.free b o e n (by simp)) (λb o _ e=>u.there b o e (by simp)) u.iO u.qf u.se (λm' hm=>by
  obtain⟨o',Sf,Nt,nI,r'⟩:=hm;rw[ho] at nI;cases nI;exact⟨_,Sf,Nt,hL,r'⟩) bT I.bare
theorem Inv.call{g':Array GenState}{t':Nat}{d':Drawn}{ch:List ag}(I:Inv X pins σ H s)(u:Un (fw X.stack) ch H H' s.heap h')(bT:gL X.prog X.w H' h')(hg:AllBare g')(AV:∀ b∈ch,(b∈X.ex\/X.fq.heap.objs.size<=b)/\b≠X.env.locals/\(∀ x c,X.env.cells.lookup x=some c->c≠b)/\∀ p∈X.pn++pins,p.1≠b) :
  Inv X pins σ H' { s with heap:=h',gens:=g',drawn:=d',toks:=t' }:=by
 obtain⟨m,⟨o,es,ep,ho,r⟩,_⟩:=id I.loc;obtain⟨sl,hL⟩:=u.any ho I.free λz=>(AV _ z).2.1 rfl;exact I.step (ch:=ch) AV (λb o hL hb hc e n=>u.keep b o e n (λz=>(eM.mp (I.Sd b z)).elim hL hb) hc) (λb o _ _ hc e n=>u.any e n hc) (λb o hc e n=>u.free b o e n hc) (λb o hc e=>u.there b o e hc) u.iO u.qf u.se (λm' hm=>by
  obtain⟨o',Sf,Nt,nI,r'⟩:=hm;rw[ho] at nI;cases nI;exact⟨_,Sf,Nt,hL,r'⟩) bT hg
theorem Inv.turned{t':Nat}{it:ag}(I:Inv X pins σ H s)(k:∀ b o,b≠it->s.heap.get? b=some o->h'.get? b=some o)(hn:H it=none)(hL:it≠X.env.locals)(h1:it∈X.ex\/X.fq.heap.objs.size<=it) (h2:∀ x c,X.env.cells.lookup x=some c->c≠it) (h3:∀ p∈X.pn++pins,p.1≠it):Inv X pins σ H { s with heap:=h',toks:=t' }:=by
 have Vg:∀ b u,H b=some u->b≠it:=λb u e z=>by rw[z,hn] at e;cases e
 refine I.step (g':=s.gens) (d':=s.drawn) (ch:=[it]) (λb hb=>?_) (λb o _ _ hc e _=>k b o (λz=>hc (by simp[z])) e) (λb o _ _ hc e _=>⟨o.slots,k b o (λz=>hc (by simp[z])) e⟩) (λ_ _ _ _ n=>n) (λb o hc e=>⟨o,k b o (λz=>hc (by simp[z])) e⟩) (λ_ _ e=>e) (λ_ _ _ e=>e) (λb ps e=>⟨#[],by rw[e];simp⟩) (λm hm=>?_) (λb u e=>?_) I.bare
 ·have e:b=it:=by simpa using hb
  subst e;exact⟨h1,hL,h2,h3⟩
 ·obtain⟨o,es,ep,ho,r⟩:=hm;exact⟨o,es,ep,k _ o (Ne.symm hL) ho,r⟩
 ·refine(I.bT b u e).fN (λc v hc q=>k c v ?_ q) (λ_ q=>q) λ_ _ q=>q;rcases hc with z|z
  ·rw[z];exact Vg b u e
  ·exact Vg c _ z
theorem Inv.tok(I:Inv X pins σ H s)(t:Nat):Inv X pins σ H { s with toks:=t }:=I.un (h':=s.heap) (t':=t) Un.refl I.bT
theorem Inv.kept(I:Inv X pins σ H s)(k:∀ b u,s.heap.get? b=some u->h'.get? b=some u):Inv X pins σ H { s with heap:=h',toks:=t' }:=I.un (Un.kept k) (I.bT.kept k)
theorem Inv.laid(I:Inv X pins σ H s)(k:∀ b u,s.heap.get? b=some u->h'.get? b=some u)(hp:s.heap.objs.size<=a)(new:fS X.prog X.w (upd H a o) h' a o) :
  Inv X pins σ (upd H a o) { s with heap:=h',toks:=t' }:=I.un (Un.laid k hp (I.bT.fresh hp)) (I.bT.laid k hp new)
theorem Inv.write(I:Inv X pins σ H s)(mu:Nm (H x))(he:e=x\/H e=some (.own x))(k:∀ b u,b≠e->s.heap.get? b=some u->h'.get? b=some u)(LW:∃ u,h'.get? e=some u)(new:fS X.prog X.w (upd H x o) h' x o):Inv X pins σ (upd H x o) { s with heap:=h',toks:=t' }:=I.un (Un.write mu he k LW) (I.bT.write mu he k LW new)
theorem Inv.Vh(I:Inv X pins σ H s)(h:∀ p∈js,s.heap.get? p.1=some p.2/\H p.1=none/\p.1≠X.env.locals/\p.1∉X.fs/\∀ v,p.2.data≠.cell v):Inv X js σ H s :=
 ⟨I.ok,I.os,I.bare,I.base,I.loc,I.cell,I.free,I.pe,λp hp=>(fh.mp hp).elim (λz=>I.pin p (j3 _ z)) (h p),I.bT,I.len⟩
theorem Vi{N:List Str}(hN:N.Nodup){i j:Nat}{x:Str}(a:N[i]? = some x)(b:N[j]? = some x):i=j:=by obtain⟨h1,e1⟩:=nv.mp a;obtain⟨h2,e2⟩:=nv.mp b;exact(List.getElem_inj hN).mp (e1.trans e2.symm)
theorem Sg{M:Model}{A:eJ}{E:ah->aE->Prop}{i:Nat}{x:Str}{v:V}{u:ah}{Q:Unit->aE->Prop}(I:Inv X pins σ H s)(hN:X.N.Nodup)(hi:X.N[i]? = some x)(hx:Loc X.env.scope x)(r:RelV v u)(h:∀ s',Inv X pins (σ.set i (some v)) H s'->(∃ a,Heap.SameBut a s.heap s'.heap/\(a=X.env.locals\/X.env.cells.lookup x=some a))->Q () s') (hf:X.fn x=true\/X.env.scope.names.lookup x=some .local:=by first|exact .inl rfl|exact .inr rfl|assumption):aT M A (storeName X.env x u) Q E s:=by
 obtain⟨m,hn,hl⟩:=id I.loc;have Nu:(X.env.scope.kind == .class || (X.env.scope.kind == .module && X.env.locals != X.env.globals))=false:=by rw[I.ok.kind];rfl
 have Vj:i<σ.length:=by rw[I.len];exact(nv.mp hi).1
 have CF:=I.CF;have tracked:∀ {a:ag} {h':cS},(∃ o,s.heap.get? a=some o/\H a=none)->Heap.SameBut a s.heap h'->gL X.prog X.w H h':=λ{a h'} ha hs b ob e=>by
  obtain⟨_,_,Vk⟩:=ha;refine(I.bT b ob e).fN (λc w' hc q=>(hs.2 c ?_).trans q) (λ_ q=>q) λ_ _ q=>q;rintro rfl;rcases hc with rfl|hc
  ·rw[Vk] at e;cases e
  ·rw[Vk] at hc;cases hc
 rcases hx with hk|hk
 ·refine wpAny_storeName_local hk hn (λh' EH hs=>?_) Nu;obtain⟨oL,_,_,Nv,_⟩:=id hn;refine h _ ⟨I.ok,I.os,I.bare,⟨λb o e n hb hx=>?_,λb o e n hb hx=>?_,I.base.free,λb o e hx=>?_,I.base.iO,I.base.qf,I.base.se⟩,⟨_,EH,λj y v' e1 e2 e3=>?_⟩,λy c e=>?_,I.free,I.pe,λp hp=>?_,tracked ⟨oL,Nv,I.free⟩ hs,by simpa using I.len⟩ ⟨_,hs,.inl rfl⟩
  ·exact(hs.2 b (gV (n4 (eS e) I.ok.above))).trans (I.base.keep b o e n hb hx)
  ·obtain⟨sl,e1⟩:=I.base.slot b o e n hb hx;exact⟨sl,(hs.2 b (gV (n4 (eS e) I.ok.above))).trans e1⟩
  ·obtain⟨o',e1⟩:=I.base.there b o e hx;exact⟨o',(hs.2 b (gV (n4 (eS e) I.ok.above))).trans e1⟩
  ·by_cases hj:j=i
   ·subst hj;rw[hi] at e1;cases e1;rw[List.getElem?_set_self Vj] at e2;cases e2;exact⟨u,r,.inl ⟨hk,by simp⟩⟩
   ·rw[RH (Ne.symm hj)] at e2;obtain⟨u',r',q⟩:=hl j y v' e1 e2 e3;refine⟨u',r',?_⟩;rcases q with⟨k,e⟩|⟨k,c,e,z⟩
    ·refine .inl ⟨k,?_⟩;have:y≠x:=λe=>hj (Vi hN e1 (e ▸ hi));simp[this,e]
    ·exact .inr ⟨k,c,e,z.sameBut hs (CF y c e)⟩
  ·obtain⟨w',z⟩:=I.cell y c e;exact⟨w',z.sameBut hs (CF y c e)⟩
  ·obtain⟨e,n,ne,nf,d⟩:=I.pin p hp;exact⟨(hs.2 p.1 ne).trans e,n,ne,nf,d⟩
 ·have Nw:X.fn x=true:=by
   rcases hf with z|z
   ·exact z
   ·rw[z] at hk;cases hk
  obtain⟨c,hc⟩:=I.ok.has x (.inl hk);obtain⟨w',z⟩:=I.cell x c hc;refine wpAny_storeName_cell I.ok.kind hk hc z (λh' GV hs=>?_);obtain⟨oc,PB,aM'⟩:=id z;refine h { s with heap:=h' } ⟨I.ok,I.os,I.bare,⟨λb o e n hb hx=>?_,λb o e n hb hx=>?_,I.base.free,λb o e hx=>?_,I.base.iO,I.base.qf,I.base.se⟩,⟨m,hn.sameBut hs (Ne.symm (CF x c hc)),λj y v' e1 e2 e3=>?_⟩,λy c' e=>?_,I.free,I.pe,λp hp=>?_,tracked ⟨oc,PB,I.pe x c hc⟩ hs,by simpa using I.len⟩ ⟨c,hs,.inr hc⟩
  ·exact(hs.2 b (gV (n4 (eS e) (I.ok.AQ x c Nw hc)))).trans (I.base.keep b o e n hb hx)
  ·obtain⟨sl,e1⟩:=I.base.slot b o e n hb hx;exact⟨sl,(hs.2 b (gV (n4 (eS e) (I.ok.AQ x c Nw hc)))).trans e1⟩
  ·obtain⟨o',e1⟩:=I.base.there b o e hx;exact⟨o',(hs.2 b (gV (n4 (eS e) (I.ok.AQ x c Nw hc)))).trans e1⟩
  ·by_cases hj:j=i
   ·subst hj;rw[hi] at e1;cases e1;rw[List.getElem?_set_self Vj] at e2;cases e2;exact⟨u,r,.inr ⟨.inl hk,c,hc,GV⟩⟩
   ·rw[RH (Ne.symm hj)] at e2;obtain⟨u',r',q⟩:=hl j y v' e1 e2 e3;refine⟨u',r',?_⟩;rcases q with q|⟨k,c',e,z'⟩
    ·exact .inl q
    ·refine .inr ⟨k,c',e,z'.sameBut hs ?_⟩;rintro rfl;exact hj (Vi hN e1 (I.ok.inj _ _ _ e hc ▸ hi))
  ·by_cases PC:c'=c
   ·subst PC;exact⟨_,GV⟩
   ·obtain⟨w2,z2⟩:=I.cell y c' e;exact⟨w2,z2.sameBut hs PC⟩
  ·obtain⟨e,n,ne,nf,d⟩:=I.pin p hp;refine⟨(hs.2 p.1 ?_).trans e,n,ne,nf,d⟩;intro q;rw[q,PB] at e;have q':oc=p.2:=Option.some.inj e;exact d w' (by rw[<- q'];exact aM')
theorem Vl(I:Inv X pins σ H s)(hN:X.N.Nodup)(hi:X.N[i]? = some x)(hx:Loc X.env.scope x)(r:RelV v u)(h:∀ s',Inv X pins (σ.set i (some v)) H s'->Q () s') (hf:X.fn x=true\/X.env.scope.names.lookup x=some .local:=by first|exact .inl rfl|exact .inr rfl|assumption):aT M A (storeName X.env x u) Q E s :=
 Sg I hN hi hx r (λs' I' _=>h s' I') hf
theorem Inv.aN'(I:Inv X pins σ H s)(ho:s'.os=s.os)(u:Un (fw X.stack) ch H H' s.heap s'.heap)(bT:gL X.prog X.w H' s'.heap)(hg:AllBare s'.gens)(AV:∀ b∈ch,(b∈X.ex\/X.fq.heap.objs.size<=b)/\b≠X.env.locals/\(∀ x c,X.env.cells.lookup x=some c->c≠b)/\∀ p∈X.pn++pins,p.1≠b):Inv X pins σ H' s':=by
 obtain⟨h',g',d',t',o'⟩:=s';have e:o'=s.os:=ho;subst e;exact I.call (g':=g') (t':=t') (d':=d') u bT hg AV
end
abbrev XK:=ah->Option ag->Hp->Prop
abbrev St:=List (Option V)
abbrev VK:=V->Hp->Prop
abbrev TE:=St->Hp->VK->Prop
abbrev TT:=St->Hp->(Bool->Hp->Prop)->Prop
abbrev TA:=St->Hp->(List V->Hp->Prop)->Prop
structure Ends where
 nx:St->Hp->Prop
 rt:VK
 bk:St->Hp->Prop:=fun _ _=>False
 ct:St->Hp->Prop:=fun _ _=>False
abbrev TS:=Ends->St->Hp->Prop
def EP(X:Cx)(pins:List (ag × Obj))(σ:St)(Q:VK)(u:ah)(s':aE):Prop:=∃ v H',Inv X pins σ H' s'/\RelV v u/\Q v H'
def TP(X:Cx)(pins:List (ag × Obj))(σ:St)(Q:Bool->Hp->Prop)(b:Bool)(s':aE):Prop:=∃ H',Inv X pins σ H' s'/\Q b H'
def AP(X:Cx)(pins:List (ag × Obj))(σ:St)(Q:List V->Hp->Prop)(us:List ah)(s':aE):Prop:=∃ vs H',Inv X pins σ H' s'/\Vals vs us/\Q vs H'
def SP(X:Cx)(pins:List (ag × Obj))(D:Ends)(f:Flow)(s':aE):Prop :=
 match f with
 |.next=>∃ ck H',Inv X pins ck H' s'/\D.nx ck H'
 |.brk=>∃ ck H',Inv X pins ck H' s'/\D.bk ck H'
 |.cont=>∃ ck H',Inv X pins ck H' s'/\D.ct ck H'
 |.ret u=>∃ v ck H',Inv X pins ck H' s'/\RelV v u/\D.rt v H'
def PE(X:Cx)(e:Expr)(t:TE):Prop :=
 ∀ (pins:List (ag × Obj)) (s:aE) (σ:St) (H:Hp) (Q:VK),Inv X pins σ H s->t σ H Q->aT (aS X.prog X.w) X.A (c9 e X.env) (EP X pins σ Q) X.xe s
def PT(X:Cx)(e:Expr)(t:TT):Prop :=
 ∀ (pins:List (ag × Obj)) (s:aE) (σ:St) (H:Hp) (Q:Bool->Hp->Prop),Inv X pins σ H s->t σ H Q->aT (aS X.prog X.w) X.A (isTrue e X.env (c9 e X.env)) (TP X pins σ Q) X.xe s
def PW(X:Cx)(e:Expr)(t:TT):Prop :=
 ∀ (whole:Sem ah) (pins:List (ag × Obj)) (s:aE) (σ:St) (H:Hp) (Q:Bool->Hp->Prop),Inv X pins σ H s->t σ H Q->aT (aS X.prog X.w) X.A (isTrue e X.env whole) (TP X pins σ Q) X.xe s
def PA(X:Cx)(es:List Expr)(t:TA):Prop :=
 ∀ (pos:Pos) (pins:List (ag × Obj)) (s:aE) (σ:St) (H:Hp) (Q:List V->Hp->Prop),Inv X pins σ H s->t σ H Q->aT (aS X.prog X.w) X.A (spliced (iq pos (bS es X.env))) (AP X pins σ Q) X.xe s
def PS(X:Cx)(st:Stmt)(t:TS):Prop :=
 ∀ (pins:List (ag × Obj)) (s:aE) (σ:St) (H:Hp) (D:Ends),Inv X pins σ H s->t D σ H->aT (aS X.prog X.w) X.A (exec st X.env) (SP X pins D) X.xe s
def mP(X:Cx)(st:List Stmt)(t:TS):Prop :=
 ∀ (pins:List (ag × Obj)) (s:aE) (σ:St) (H:Hp) (D:Ends),Inv X pins σ H s->t D σ H->aT (aS X.prog X.w) X.A (execs st X.env) (SP X pins D) X.xe s
theorem dP{α:Type}{t:Sem α}{Q Q':α->aE->Prop}{M:Model}{A:eJ}{E:ah->aE->Prop}{s:aE}(h:aT M A t Q E s)(hQ:∀ a s,Q a s->Q' a s):aT M A t Q' E s:=oD h hQ λ_ _ x=>x
section
variable {X:Cx}
def AW(i:Nat):TE:=λσ H Q=>∃ v,σ[i]? = some (some v)/\Q v H
def tC(v:V):TE:=λ_ H Q=>Q v H
theorem Vm (hN:X.N[i]? = some x) (hv:Np X.env.scope x) (hd:(x == ("__debug__" : Str))=false:=by decide) (qh:(x == ("__classdict__" : Str))=false:=by decide):PE X (.Name x pos) (AW i):=by
 intro pins s σ H Q I h;obtain⟨v,e,h⟩:=h;obtain⟨m,hn,hl⟩:=I.loc;obtain⟨u,r,l⟩:=hl i x v hN e hv;have fin:EP X pins σ Q u s:=⟨v,H,I,r,h⟩
 rcases l with⟨hk,hm⟩|⟨hk,c,hc,Vn⟩
 ·exact wpAny_Name (wpAny_loadName_local I.ok.kind hk hn hm fin) hd
 ·rcases hk with hk|hk
  ·exact wpAny_Name (wpAny_loadName_cell I.ok.kind hk hc Vn fin) hd
  ·exact wpAny_Name (wpAny_loadName_free I.ok.kind hk hc Vn fin qh) hd
theorem aO'{i j pos}:PE X (.Constant (.int i) j pos) (tC (.int i)):=λ_ _ _ H _ I h=>wpAny_Constant_int ⟨.int i,H,I.tok _,⟨_,rfl⟩,h⟩
theorem aP'{b j pos}:PE X (.Constant (.bool b) j pos) (tC (.bl b)):=λ_ _ _ H _ I h=>Constant_bool ⟨.bl b,H,I,rfl,h⟩
theorem aQ'{j pos}:PE X (.Constant .none j pos) (tC .non):=λ_ _ _ H _ I h=>Constant_none ⟨.non,H,I,rfl,h⟩
theorem aR'{x j pos}:PE X (.Constant (.str x) j pos) (tC (.str x)):=λ_ _ _ H _ I h=>Calls.Constant_str ⟨.str x,H,I.tok _,⟨_,rfl⟩,h⟩
def Gl(X:Cx)(x:Str):Prop:=X.env.kindOf x=some .globalImplicit
theorem GW(I:Inv X pins σ H s)(hg:Gl X x)(hm:X.mg x=some u)(h:Q u s)(hd:(x == ("__debug__" : Str))=false:=by decide):aT (aS X.prog X.w) X.A (c9 (.Name x pos) X.env) Q E s :=
 Calls.Name_function_global I.ok.kind hg (Calls.loadGlobal_global (by rw[I.ok.glob];exact I.mod.glob.keeps I.bk) hm h) hd
theorem CH(I:Inv X pins σ H s)(hg:Gl X x)(hm:X.mg x=none)(hv:kN x=some u)(h:Q u s)(hn:x ≠ "__name__" := by decide) (hd:(x == ("__debug__" : Str))=false:=by decide):aT (aS X.prog X.w) X.A (c9 (.Name x pos) X.env) Q E s:=by
 obtain⟨mb,h1,h2⟩:=I.mod.blt;exact Calls.Name_function_global I.ok.kind hg (Calls.loadGlobal_builtin (by rw[I.ok.glob];exact I.mod.glob.keeps I.bk) hm (by rw[I.ok.blt];exact h1.keeps I.bk) ((h2 x hn).trans hv) h) hd
theorem EI (hg:Gl X x) (hm:X.mg x=some u) (r:RelV v u) (hd:(x == ("__debug__" : Str))=false:=by decide):PE X (.Name x pos) (tC v) :=
 λ_ _ _ H _ I h=>GW I hg hm ⟨v,H,I,r,h⟩ hd
theorem aS' (hg:Gl X x) (hm:X.mg x=none) (hv:kN x=some u) (r:RelV v u) (hn:x ≠ "__name__" := by decide) (hd:(x == ("__debug__" : Str))=false:=by decide):PE X (.Name x pos) (tC v) :=
 λ_ _ _ H _ I h=>CH I hg hm hv ⟨v,H,I,r,h⟩ hn hd
variable {a b:Expr}{ta tb:TE}{pos:Pos}
def tB(t:TE):TT:=λσ H Q=>t σ H λx H1=>∃ c,x=.bl c/\Q c H1
theorem aT'(h:PE X e t)(he:∀ whole,isTrue e X.env whole=(do let v <- whole;standAt e.pos;holding [v] (truthy v)):=by intro _;rfl):PT X e (tB t):=by intro pins s σ H Q I hw;refine isTrue_plain (dP (h pins s σ H _ I hw) λv s1 dS=>L2.hG dS λx H1 I1 r1 q1=>?_) (he _);obtain⟨d,rfl,q⟩:=q1;cases r1;exact KL ⟨H1,I1,q⟩
variable {tA Vo:TT}{rest:List Expr}
def tOr(t u:TT):TT:=λσ H Q=>t σ H λc H1=>if c=true then Q true H1 else u σ H1 Q
def aV'(t:TT):TT:=λσ H Q=>t σ H λc H1=>Q (!c) H1
theorem pw_or1(ha:PT X a tA):PW X (.BoolOp .Or [a] pos) tA:=by
 intro wh pins s σ H Q I h;refine isTrue_or (dP (ha pins s σ H Q I h) λc s1 e=>?_)
 cases c with
 |false=>exact isTrue_or_nil e
 |true=>exact e
theorem pw_or(ha:PT X a tA)(hb:PW X (.BoolOp .Or (b :: rest) pos) Vo):PW X (.BoolOp .Or (a :: b :: rest) pos) (tOr tA Vo):=by
 intro wh pins s σ H Q I h;refine isTrue_or (dP (ha pins s σ H _ I h) λc s1 d5=>?_);obtain⟨H1,I1,q1⟩:=d5
 cases c with
 |true=>exact⟨H1,I1,q1⟩
 |false=>exact hb wh pins s1 σ H1 Q I1 q1
theorem aW'(ha:PT X a tA):PT X (.UnaryOp .Not a pos) (aV' tA):=by intro pins s σ H Q I h;exact isTrue_not (ha pins s σ H (λc H1=>Q (!c) H1) I h)
def aX'(ta tb:TE):TE:=λσ H Q=>ta σ H λx H1=>∃ c,x=.bl c/\if c=true then tb σ H1 Q else Q (.bl false) H1
theorem aY'{op}(h:PE X a t):PE X (.BoolOp op [a] pos) t:=λpins s σ H Q I hw=>BoolOp_one (h pins s σ H Q I hw)
theorem aZ'(ha:PE X a ta)(hb:PE X (.BoolOp .And (b :: rest) pos) tb):PE X (.BoolOp .And (a :: b :: rest) pos) (aX' ta tb):=by
 intro pins s σ H Q I h;refine BoolOp_and (dP (ha pins s σ H _ I h) λv s1 dS=>L2.hG dS λx H1 I1 r1 q1=>?_);obtain⟨c,rfl,q1⟩:=q1;cases r1;refine KL ?_
 cases c with
 |true=>exact hb pins s1 σ H1 Q I1 q1
 |false=>exact⟨.bl false,H1,I1,rfl,q1⟩
end
def fF(K:aI)(H:Hp)(a:ag)(xs:List V):Prop :=
 Rd H a (.lst xs) \/
  ∃ (o:Obj) (its:Array ah) (n:Nat),K.lookup a=some o/\o.cls=.type "list"/\o.dict=none/\o.data=.seq its n/\its.size<=bX/\Vals xs its.toList
def qk(K:aI)(H:Hp)(a:ag)(xs:List V):Prop :=
 Rd H a (.tup xs) \/
  ∃ (o:Obj) (its:Array ah) (n:Nat),K.lookup a=some o/\o.cls=.type "tuple"/\o.data=.seq its n/\its.size<=bX/\Vals xs its.toList
def ba':ah->Option V
 |.none=>some .non
 |.bool b=>some (.bl b)
 |.int i _=>some (.int i)
 |.str x _=>some (.str x)
 |.bytes b _=>some (.vT b)
 |.float b _=>some (.AO b)
 |.ref a=>some (.ref a)
 |.type n=>some (.ty n)
 |_=>none
theorem RelV.abs(r:RelV x u):ba' u=some x:=by
 cases x with
 |non=>cases r;rfl
 |bl _=>cases r;rfl
 |int _=>obtain⟨t,rfl⟩:=r;rfl
 |str _=>obtain⟨t,rfl⟩:=r;rfl
 |vT _=>obtain⟨t,rfl⟩:=r;rfl
 |AO _=>obtain⟨t,rfl⟩:=r;rfl
 |ref _=>cases r;rfl
 |ty _=>cases r;rfl
theorem RelV.inj(r:RelV x u)(q:RelV y u):x=y:=Option.some.inj (r.abs.symm.trans q.abs)
theorem Vals.inj:∀ {xs ys:List V} {us:List ah},Vals xs us->Vals ys us->xs=ys
 |_,_,_,.nil,.nil=>rfl
 |_,_,_,.cons r t,.cons r' t'=>by rw[r.inj r',Vals.inj t t']
section
variable {X:Cx}{pins:List (ag × Obj)}{σ:St}{H:Hp}{s:aE}{a:ag}{xs ys:List V}
theorem Inv.list(I:Inv X pins σ H s)(h:fF X.K H a xs):∃ its:List ah,Vals xs its/\PlainL s.heap a its.toArray/\xs.length<=bX:=by
 rcases h with h|⟨o,its,n,hk,hc,hd,hs,hz,r⟩
 ·obtain⟨z,its,n,r,e⟩:=h.ok I.bT;exact⟨its,r,⟨_,n,e,rfl,rfl,rfl⟩,z⟩
 ·refine⟨its.toList,r,⟨o,n,I.iP a o hk,hc,hd,by simpa using hs⟩,?_⟩;have e:=r.length;simp only[xv] at e;lia
theorem Inv.tuple(I:Inv X pins σ H s)(h:qk X.K H a xs):∃ its:List ah,Vals xs its/\IsTup s.heap a its.toArray/\xs.length<=bX:=by
 rcases h with h|⟨o,its,n,hk,hc,hs,hz,r⟩
 ·obtain⟨z,its,r,p⟩:=h.ok I.bT;exact⟨its,r,p,z⟩
 ·refine⟨its.toList,r,⟨o,I.iP a o hk,hc,n,by simpa using hs⟩,?_⟩;have e:=r.length;simp only[xv] at e;lia
theorem Inv.bb'(I:Inv X pins σ H s)(h:fF X.K H a xs)(h':fF X.K H a ys):xs=ys:=by
 obtain⟨its,r,⟨o,n,e,_,_,d⟩,_⟩:=I.list h;obtain⟨its',r',⟨o',n',e',_,_,d'⟩,_⟩:=I.list h';rw[e] at e';cases e';rw[d] at d';injection d' with d1 _;have:its=its':=by simpa using congrArg Array.toList d1
 subst this;exact r.inj r'
end
abbrev Cx.wish(X:Cx)(E:ah->aE->Prop):Cx:={ X with xe:=E }
abbrev Cx.EJ(X:Cx):Cx:=X.wish λ_ _=>False
theorem Cx.Ok.wish{X:Cx}(ok:X.Ok)(E:ah->aE->Prop):(X.wish E).Ok :=
 ⟨ok.mod,ok.kind,ok.glob,ok.blt,ok.above,ok.inj,ok.has,ok.AQ,ok.hd,ok.frames,ok.CC,ok.CD,ok.bs,ok.uS,ok.AR,ok.AU,ok.sf,ok.yT⟩
theorem Cx.Ok.EK{X:Cx}(ok:(X.wish E).Ok):X.Ok :=
 ⟨ok.mod,ok.kind,ok.glob,ok.blt,ok.above,ok.inj,ok.has,ok.AQ,ok.hd,ok.frames,ok.CC,ok.CD,ok.bs,ok.uS,ok.AR,ok.AU,ok.sf,ok.yT⟩
section
variable {X:Cx}{pins:List (ag × Obj)}{σ:St}{H:Hp}{s:aE}{E:ah->aE->Prop}
theorem Inv.wish(I:Inv X pins σ H s)(E:ah->aE->Prop):Inv (X.wish E) pins σ H s:=⟨I.ok.wish E,I.os,I.bare,I.base,I.loc,I.cell,I.free,I.pe,I.pin,I.bT,I.len⟩
theorem Inv.EK(I:Inv (X.wish E) pins σ H s):Inv X pins σ H s:=⟨I.ok.EK,I.os,I.bare,I.base,I.loc,I.cell,I.free,I.pe,I.pin,I.bT,I.len⟩
theorem SP.EK{D:Ends}(h:SP (X.wish E) pins D f s'):SP X pins D f s':=by
 cases f with
 |next=>obtain⟨ck,H',I,q⟩:=h;exact⟨ck,H',I.EK,q⟩
 |brk=>obtain⟨ck,H',I,q⟩:=h;exact⟨ck,H',I.EK,q⟩
 |cont=>obtain⟨ck,H',I,q⟩:=h;exact⟨ck,H',I.EK,q⟩
 |ret u=>obtain⟨v,ck,H',I,r,q⟩:=h;exact⟨v,ck,H',I.EK,r,q⟩
theorem mP.EJ{st:List Stmt}(h:mP X.EJ st t):mP X st t:=λpins s σ H D I hw =>
 oD (h pins s σ H D (I.wish _) hw) (λ_ _ q=>q.EK) λ_ _ z=>False.elim z
end
section
variable {X:Cx}{st:Stmt}{rest:List Stmt}{t u:TS}{e:Expr}{te:TE}{pos:Pos}
def bc':TS:=λD σ H=>D.nx σ H
def Vp(t u:TS):TS:=λD σ H=>t { D with nx:=u D } σ H
theorem Sh:mP X [] bc':=λ_ _ σ H _ I h=>wpAny_execs_nil ⟨σ,H,I,h⟩
theorem bd'(h1:PS X st t)(h2:mP X rest u):mP X (st :: rest) (Vp t u):=by
 intro pins s σ H D I h;refine wpAny_execs_cons (dP (h1 pins s σ H { D with nx:=u D } I h) λf s1 q=>?_)
 cases f with
 |next =>obtain⟨ck,H',I',q⟩:=q;exact h2 pins s1 ck H' D I' q
 |ret v=>exact q
 |brk=>exact q
 |cont=>exact q
theorem Vq(h1:PS X st t):mP X [st] t:=by
 intro pins s σ H D I h;refine wpAny_execs_cons (dP (h1 pins s σ H D I h) λf s1 q=>?_)
 cases f with
 |next=>exact wpAny_execs_nil q
 |ret v=>exact q
 |brk=>exact q
 |cont=>exact q
theorem Inv.quiet(I:Inv X pins σ H s):interactive X.env=false:=by simp[interactive,I.ok.kind]
def be'(te:TE):TS:=λD σ H=>te σ H λ_ H1=>D.nx σ H1
theorem LZ(he:PE X e te)(hs:rU e none pos.line X.env=pure false:=by rfl):PS X (.Expr e pos) (be' te):=by intro pins s σ H D I h;exact wpAny_Expr_any (dP (he pins s σ H _ I h) λv s1 dS=>L2.hG dS λx H1 I1 r1 q1=>⟨σ,H1,I1,q1⟩) I.quiet hs
def bf'(te:TE):TS:=λD σ H=>te σ H D.rt
theorem Nx(he:PE X e te):PS X (.Return (some e) pos) (bf' te):=by intro pins s σ H D I h;exact wpAny_Return_some (dP (he pins s σ H _ I h) λv s1 dS=>L2.hG dS λx H1 I1 r1 q1=>⟨x,σ,H1,I1,r1,q1⟩)
def bg'(c:TT)(t u:TS):TS:=λD σ H=>c σ H λb H1=>if b=true then t D σ H1 else u D σ H1
theorem bh'(hc:PT X c tc)(ha:mP X a t)(hb:mP X b u):PS X (.If c a b pos) (bg' tc t u):=by
 intro pins s σ H D I h;refine wpAny_If (dP (hc pins s σ H _ I h) λd s1 d5=>?_);obtain⟨H1,I1,q1⟩:=d5
 cases d with
 |true=>exact ha pins s1 σ H1 D I1 q1
 |false=>exact hb pins s1 σ H1 D I1 q1
end
abbrev TG:=V->St->Hp->(St->Hp->Prop)->Prop
abbrev GY:=List V->St->Hp->(St->Hp->Prop)->Prop
def PG(X:Cx)(target:Expr)(t:TG):Prop :=
 ∀ (pins:List (ag × Obj)) (s:aE) (σ:St) (H:Hp) (v:V) (u:ah) (Q:St->Hp->Prop),Inv X pins σ H s->RelV v u->t v σ H Q ->
  aT (aS X.prog X.w) X.A (assign target X.env u) (λ_ s'=>∃ ck H',Inv X pins ck H' s'/\Q ck H') X.xe s
def AX(X:Cx)(ts:List Expr)(t:GY):Prop :=
 ∀ (pins:List (ag × Obj)) (s:aE) (σ:St) (H:Hp) (vs:List V) (us:List ah) (Q:St->Hp->Prop),Inv X pins σ H s->Vals vs us->t vs σ H Q ->
  aT (aS X.prog X.w) X.A (assignInOrder ((B3 ts X.env).map (·.2)) us) (λ_ s'=>∃ ck H',Inv X pins ck H' s'/\Q ck H') X.xe s
section
variable {X:Cx}{pos:Pos}
def Si(i:Nat):TG:=λv σ H Q=>Q (σ.set i (some v)) H
theorem bi'(hN:X.N.Nodup)(hi:X.N[i]? = some x)(hx:Loc X.env.scope x)(hf:X.fn x=true\/X.env.scope.names.lookup x=some .local:=by first|exact .inl rfl|exact .inr rfl|assumption):PG X (.Name x pos) (Si i):=by intro pins s σ H v u Q I r h;exact wpAny_assign_Name (Vl I hN hi hx r (λs' I'=>⟨_,H,I',h⟩) hf)
def bj':GY:=λvs σ H Q=>vs=[]/\Q σ H
def bk'(t:TG)(u:GY):GY:=λvs σ H Q=>∃ v r,vs=v :: r/\t v σ H λck H'=>u r ck H' Q
theorem bl':AX X [] bj':=by intro pins s σ H vs us Q I r h;obtain⟨e,h⟩:=h;subst e;cases r;exact assignInOrder_nil ⟨σ,H,I,h⟩
theorem bm'(h1:PG X e t)(h2:AX X es u)(hs:(B3 (e :: es) X.env).map (·.2)=assign e X.env :: (B3 es X.env).map (·.2):=by rfl):AX X (e :: es) (bk' t u):=by
 intro pins s σ H vs us Q I r h;obtain⟨v,vr,e1,h⟩:=h;subst e1
 cases r with
 |cons r rr =>rw[hs];refine assignInOrder_cons (dP (h1 pins s σ H _ _ _ I r h) λ_ s1 d5=>?_);obtain⟨σ1,H1,I1,q1⟩:=d5;exact h2 pins s1 σ1 H1 _ _ Q I1 rr q1
def bo'(K:aI)(n:Nat)(t:GY):TG:=λv σ H Q=>∃ a xs,v=.ref a/\qk K H a xs/\xs.length=n/\t xs σ H Q
theorem bp'(hc:X.calm=true)(h:AX X es t)(hn:(B3 es X.env).length=n:=by rfl) (kR:(B3 es X.env).findIdx? (·.1)=none:=by rfl):PG X (.Tuple es k pos) (bo' X.K n t):=by
 intro pins s σ H v u Q I r hw;obtain⟨a,xs,e1,hq,hl,hw⟩:=hw;subst e1;cases r;obtain⟨its,rv,ht,hz⟩:=I.tuple hq;refine assign_Tuple_tuple (I.ok.hd hc) ht (by simp[hn,<- hl,rv.length]) kR λh' hx=>?_;have I1:Inv X pins σ H { s with heap:=h' }:=I.kept (t':=s.toks) λb o e=>hx b o (gV (eS e)) e;exact h pins _ σ H xs _ Q I1 (by simpa using rv) hw
def Vr(te:TE)(g:TG):TS:=λD σ H=>te σ H λx H1=>g x σ H1 D.nx
theorem PD(hN:X.N.Nodup)(hi:X.N[i]? = some x)(hx:Loc X.env.scope x)(he:PE X e te)(hs:rU e (some (.Name x pos')) pos.line X.env=pure false:=by rfl)(hf:X.fn x=true\/X.env.scope.names.lookup x=some .local:=by first|exact .inl rfl|exact .inr rfl|assumption) :
  PS X (.Assign [.Name x pos'] e pos) (Vr te (Si i)):=by
 intro pins s σ H D I h;refine wpAny_Assign_Name (dP (he pins s σ H _ I h) λv s1 dS=>L2.hG dS λy H1 I1 r1 q1=>?_) hs;exact Vl I1 hN hi hx r1 (λs2 I2=>⟨_,H1,I2,q1⟩) hf
end
structure It where
 go:Nat->Hp->Prop
 n9:Nat->Hp->V->Hp->Prop
 stop:Nat->Hp->Prop
def y1(X:Cx)(pins:List (ag × Obj))(H:Hp)(b:ag):Prop :=
 H b=none/\b≠X.env.locals/\b∉X.fs/\(b∈X.ex\/X.fq.heap.objs.size<=b)/\(∀ x c,X.env.cells.lookup x=some c->c≠b)/\∀ p∈X.pn++pins,p.1≠b
theorem Inv.PF{X:Cx}(I:Inv X pins σ H s)(hb:s.heap.objs.size<=b)(hn:H' b=none):y1 X pins H' b:=by
 refine⟨hn,Pq (n4 I.lt hb),I.aK' hb,.inr (i9 I.sz hb),λx c e z=>?_,λp hp z=>?_⟩
 ·obtain⟨v,q⟩:=I.cell x c e;exact absurd (n4 q.lt (by rw[z];exact hb)) (uk _)
 ·exact absurd (n4 (eS (I.pin p hp).1) (by rw[z];exact hb)) (uk _)
structure Turn(P:dz)(w:dA)(K:aI)(tg:Expr)(J:It)(fp:List ag)(it:ag)(tn:Nat->cS->Prop):Prop where
 mem:it∈fp
 obj:∀ i h,tn i h->∀ b∈fp,∃ o,h.get? b=some o/\∀ v,o.data≠.cell v
 keep:∀ i h h',tn i h->(∀ b∈fp,∀ o,h.get? b=some o->h'.get? b=some o)->tn i h'
 item:∀ (X:Cx),X.prog=P->X.w=w->X.K=K->X.calm=true->∀ (i:Nat) (pins:List (ag × Obj)) (s:aE) (σ:St) (H:Hp) (E:ah->aE->Prop),Inv X pins σ H s->(∀ b∈fp,y1 X pins H b)->tn i s.heap->J.go i H ->
  aT (aS P w) X.A (pyNext (.ref it)) (fun r s1=>∃ u,r=some u /\
   aT (aS P w) X.A (letOwnedTupleGo tg (.ref it) u) (fun _ s2=>∃ x H',Inv X pins σ H' s2/\RelV x u/\J.n9 i H x H'/\tn (i+1) s2.heap/\∀ b∈fp,H' b=none) E s1) E s
 done:∀ (X:Cx),X.prog=P->X.w=w->X.K=K->X.calm=true->∀ (i:Nat) (pins:List (ag × Obj)) (s:aE) (σ:St) (H:Hp) (E:ah->aE->Prop),Inv X pins σ H s->(∀ b∈fp,y1 X pins H b)->tn i s.heap->J.stop i H ->
  aT (aS P w) X.A (pyNext (.ref it)) (fun r s1=>r=none/\Inv X pins σ H s1) E s
 self:∀ (A:eJ) (i:Nat) (s:aE) (Q:ah->aE->Prop) (E:ah->aE->Prop),tn i s.heap->Q (.ref it) s->aT (aS P w) A (pyIter (.ref it)) Q E s
abbrev TI:=St->Hp->(It->Hp->Prop)->Prop
def Vs(X:Cx)(pins:List (ag × Obj))(σ:St)(tg:Expr)(R:It->Hp->Prop)(Sj:ah)(s2:aE):Prop :=
 ∃ (it:ag) (fp:List ag) (tn:Nat->cS->Prop) (J:It) (H':Hp),Sj=.ref it/\Inv X pins σ H' s2/\Turn X.prog X.w X.K tg J fp it tn/\tn 0 s2.heap/\(∀ b∈fp,y1 X pins H' b)/\R J H'
def PI(X:Cx)(tg iter:Expr)(wi:TI):Prop :=
 ∀ (pins:List (ag × Obj)) (s:aE) (σ:St) (H:Hp) (R:It->Hp->Prop),Inv X pins σ H s->wi σ H R ->
  aT (aS X.prog X.w) X.A (c9 iter X.env) (λv s1=>aT (aS X.prog X.w) X.A (pyIter v) (Vs X pins σ tg R) X.xe s1) X.xe s
theorem Sn(ho:s.heap.get? it=some o)(hc:o.cls=.type n)(hd:o.data=.fields vs)(hn:["enumerate", "zip", "dict_itemiterator", "dict_reverseitemiterator", "odict_iterator", "itertools.zip_longest", "itertools.pairwise"].contains n=false) (hQ:Q () s):aT M A (letOwnedTupleGo tg (.ref it) u) Q E s:=by
 unfold letOwnedTupleGo;cases tg<;>first
  |exact bI hQ
  | (cases u<;>first
     |exact bI hQ
     | (refine ay (wpAny_load ho ?_)
        rw[hc,hd];show aT M A (if (["enumerate", "zip", "dict_itemiterator", "dict_reverseitemiterator", "odict_iterator", "itertools.zip_longest", "itertools.pairwise"].contains n && vs[0]? == some (j2 _))=true then _ else _) Q E s;rw[if_neg (by intro h;rw[hn,Bool.false_and] at h;cases h)];exact bI hQ))
def PH(K:aI)(a:ag):It :=
 ⟨λi H=>∃ xs x,fF K H a xs/\xs[i]? = some x,λi H x H'=>H'=H/\∀ xs,fF K H a xs->xs[i]? = some x,λi H=>∃ xs,fF K H a xs/\xs.length<=i⟩
def G0(lo:Int)(n:Nat):It:=⟨λi _=>i<n,λi H x H'=>H'=H/\x=.int (lo+i),λi _=>n<=i⟩
theorem bq'{P:dz}{K:aI}(a it:ag):Turn P w K tg (PH K a) [it] it (λi h=>h.IsListIter it a i) where
 mem:=by simp
 obj:=λi h st b hb=>by
  have e:b=it:=by simpa using hb
  subst e;obtain⟨o,e,c,d⟩:=st;exact⟨o,e,λv z=>by rw[d] at z;cases z⟩
 keep:=λi h h' st k=>st.at λo e=>k it (by simp) o e
 item:=by intro X hP hw hK hc i pins s σ H E I hf st hg;subst hP hw hK;obtain⟨xs,x,hq,hx⟩:=hg;obtain⟨its,rv,p,hz⟩:=I.list hq;obtain⟨u,hu,ru⟩:=rv.get hx;obtain⟨f0,f1,f2,f3,f4,f5⟩:=hf it (by simp);refine wpAny_pyNext_list_item st p.isList (x:=u) (by simpa using hu) λh' aw sb=>?_;have I1:Inv X pins σ H { s with heap:=h' }:=I.turned (t':=s.toks) (λb o hb e=>(sb.2 b hb).trans e) f0 f1 f3 f4 f5;obtain⟨o,e,c,d⟩:=id aw;exact⟨u,rfl,Sn (s:={ s with heap:=h' }) e c d (by decide) ⟨x,H,I1,ru,⟨rfl,λys hy=>by rw[I.bb' hy hq];exact hx⟩,aw,λb hb=>(hf b hb).1⟩⟩
 done:=by intro X hP hw hK hc i pins s σ H E I hf st hg;subst hP hw hK;obtain⟨xs,hq,hx⟩:=hg;obtain⟨its,rv,p,hz⟩:=I.list hq;obtain⟨f0,f1,f2,f3,f4,f5⟩:=hf it (by simp);have hl:=rv.length;exact wpAny_pyNext_list_end (I.ok.hd hc) st p.isList (by simp;lia) λh' eb=>⟨rfl,I.turned (t':=s.toks) (λb o hb e=>eb b o hb e) f0 f1 f3 f4 f5⟩
 self:=λ_ _ _ _ _ st h=>wpAny_pyIter_listiter st h
theorem bs'{P:dz}{K:aI}(it:ag)(lo:Int)(n:Nat):Turn P w K tg (G0 lo n) [it] it (λi h=>IsRangeIter h it (lo+(i:Nat)*1) ((n:Int)-(i:Nat)) 1) where
 mem:=by simp
 obj:=λi h st b hb=>by
  have e:b=it:=by simpa using hb
  subst e;exact⟨_,st,λv z=>by
   have z':Data.fields _=Data.cell v:=z;cases z'⟩
 keep:=λi h h' st k=>k it (by simp) _ st
 item:=by intro X hP hw hK hc i pins s σ H E I hf st hg;subst hP hw hK;obtain⟨f0,f1,f2,f3,f4,f5⟩:=hf it (by simp);have W:=Walks.range (prog:=X.prog) (w:=X.w) (I.ok.hd hc) it lo 1 n;refine W.item i s _ _ hg st λv h' tk hv aw kk=>?_;obtain⟨t,rfl⟩:=hv;have I1:Inv X pins σ H { s with heap:=h',toks:=tk }:=I.turned (λb o hb e=>kk b o (by simpa using hb) e) f0 f1 f3 f4 f5;refine⟨_,rfl,Sn (s:={ s with heap:=h',toks:=tk }) (n := "range_iterator") aw rfl rfl (by decide) ⟨.int (lo+i),H,I1,⟨t,?_⟩,⟨rfl,rfl⟩,aw,λb hb=>(hf b hb).1⟩⟩;rw[Int.mul_one]
 done:=by intro X hP hw hK hc i pins s σ H E I hf st hg;subst hP hw hK;obtain⟨f0,f1,f2,f3,f4,f5⟩:=hf it (by simp);exact wpAny_pyNext_range_end (I.ok.hd hc) st (by have:n<=i:=hg;lia) λh' eb=>⟨rfl,I.turned (t':=s.toks) (λb o hb e=>eb b o hb e) f0 f1 f3 f4 f5⟩
 self:=λ_ _ _ _ _ st h=>wpAny_pyIter_rangeiter st h
section
variable {X:Cx}{tg:Expr}
def bt'(K:aI)(tl:TE):TI:=λσ H R=>tl σ H λx H1=>∃ a,x=.ref a/\(∃ xs,fF K H1 a xs)/\R (PH K a) H1
theorem Vt(hl:PE X l tl):PI X tg l (bt' X.K tl):=by
 intro pins s σ H R I h;refine dP (hl pins s σ H _ I h) λv s1 dS=>L2.hG dS λx H1 I1 r1 q1=>?_;obtain⟨a,e,⟨xs,hq⟩,q⟩:=q1;subst e;cases r1;obtain⟨its,rv,p,hz⟩:=I1.list hq;refine wpAny_pyIter_list p.isList ?_;refine⟨s1.heap.objs.size,[s1.heap.objs.size],_,_,H1,rfl,I1.kept (t':=s1.toks) λb o e=>fI _ e,bq' a _,⟨_,kF _ rfl,rfl,rfl⟩,λb hb=>?_,q⟩;have e:b=s1.heap.objs.size:=by simpa using hb
 subst e;exact I1.PF (de _) (I1.bT.fresh (de _))
theorem Vu{R:It->Hp->Prop}{lo hi:Int}(I:Inv X pins σ H s)(h1:-(2 ^ 62)<=lo)(h2:lo<2 ^ 62)(h3:-(2 ^ 62)<=hi)(h4:hi<2 ^ 62)(q:R (G0 lo (hi-lo).toNat) H):aT (aS X.prog X.w) X.A (pyIter (.ref s.heap.objs.size)) (Vs X pins σ tg R) E { s with heap:=s.heap.push { cls:=.type "range",data:=.fields #[.int lo t,.int hi u,.int 1 v] },toks:=tk }:=by
 refine wpAny_pyIter_range (IsRange.new ..) (small_one h1 h2 h3 h4) ?_;have I1:Inv X pins σ H { s with heap:=s.heap.push { cls:=.type "range",data:=.fields #[.int lo t,.int hi u,.int 1 v] },toks:=tk }:=I.kept λb o e=>fI _ e;refine⟨(s.heap.push { cls:=.type "range",data:=.fields #[.int lo t,.int hi u,.int 1 v] }).objs.size,[(s.heap.push { cls:=.type "range",data:=.fields #[.int lo t,.int hi u,.int 1 v] }).objs.size],_,_,H,rfl,
  I1.kept (t':=tk) λb o e=>fI _ e,bs' _ lo (hi-lo).toNat,?_,λb hb=>?_,q⟩
 ·have e1:lo+((0:Nat):Int)*1=lo:=by simp
  have e2:(((hi-lo).toNat:Nat):Int)-((0:Nat):Int)=Builtin.Range.rangeSize lo hi 1:=by rw[rangeSize_one];split<;>lia
  show IsRangeIter _ _ (lo+((0:Nat):Int)*1) ((((hi-lo).toNat:Nat):Int)-((0:Nat):Int)) 1;rw[e1,e2];exact kF _ rfl
 ·have e:b=(s.heap.push { cls:=.type "range",data:=.fields #[.int lo t,.int hi u,.int 1 v] }).objs.size:=by simpa using hb
  subst e;exact I1.PF (de _) (I1.bT.fresh (de _))
def bu'(ta:TA):TI:=λσ H R=>ta σ H λvs H1=>∃ j:Int,vs=[.int j]/\-(2 ^ 62)<=j/\j<2 ^ 62/\R (G0 0 j.toNat) H1
def bv'(ta:TA):TI:=λσ H R=>ta σ H λvs H1=>∃ i j:Int,vs=[.int i,.int j]/\(-(2 ^ 62)<=i/\i<2 ^ 62/\-(2 ^ 62)<=j/\j<2 ^ 62)/\R (G0 i (j-i).toNat) H1
theorem bw' (hg:Gl X "range") (hm:X.mg "range" = none) (ha:PA X [a] ta) (hs:bS [a] X.env=[(false,c9 a X.env)]:=by rfl):PI X tg (.Call (.Name "range" p) [a] [] pos) (bu' ta):=by
 intro pins s σ H R I h;refine Call_ (CH I hg hm boot_range (PyProof.Rows.callWith_type1 (dP (ha pos pins s σ H _ I h) λus s1 dS=>L2.hG dS λvs H1 I1 r1 q1=>?_) hs rfl));obtain⟨j,e,q1,q2,q⟩:=q1;subst e
 cases r1 with
 |cons r rr =>cases rr;obtain⟨t,rfl⟩:=r;exact call_range_1 (Vu I1 (by lia) (by lia) q1 q2 (by simpa using q))
theorem bx' (hg:Gl X "range") (hm:X.mg "range" = none) (ha:PA X [a,b] ta) (hs:bS [a,b] X.env=[(false,c9 a X.env),(false,c9 b X.env)]:=by rfl) (lI:bS [b] X.env=[(false,c9 b X.env)]:=by rfl) :
  PI X tg (.Call (.Name "range" p) [a,b] [] pos) (bv' ta):=by
 intro pins s σ H R I h;refine Call_ (CH I hg hm boot_range (PyProof.Rows.callWith_type1 (dP (ha pos pins s σ H _ I h) λus s1 dS=>L2.hG dS λvs H1 I1 r1 q1=>?_) (by rw[hs,lI]) (by rw[lI];rfl)));obtain⟨i,j,e,⟨q1,q2,q3,q4⟩,q⟩:=q1;subst e
 cases r1 with
 |cons r rr =>
  cases rr with
  |cons r' rr =>cases rr;obtain⟨t,rfl⟩:=r;obtain⟨t',rfl⟩:=r';exact call_range_2 (Vu I1 q1 q2 q3 q4 q)
def Vv(wi:TI)(g:TG)(tb:TS):TS:=λD σ H=>wi σ H λJ H1=>∃ W:Nat->Nat->St->Hp->Prop,(∃ m,W 0 m σ H1)/\∀ i m σ H,W i m σ H -> (J.stop i H/\D.nx σ H)\/(J.go i H/\∃ N:St->Hp->Prop,(∀ ck H',N ck H'->∃ m',m'<m/\W (i+1) m' ck H')/\∀ x H',J.n9 i H x H'->g x σ H' λkS H2=>tb { D with nx:=N,ct:=N,bk:=D.nx } kS H2)
def Ny(fp:List ag)(h:cS):List (ag × Obj):=fp.filterMap λb=>(h.get? b).map λo=>(b,o)
theorem PJ(hb:b∈fp)(e:h.get? b=some o):(b,o)∈Ny fp h:=RL.mpr ⟨b,hb,by rw[e];rfl⟩
theorem by'(hp:p∈Ny fp h):p.1∈fp/\h.get? p.1=some p.2:=by
 obtain⟨b,hb,e⟩:=RL.mp hp
 cases q:h.get? b with
 |none=>rw[q] at e;cases e
 |some o =>rw[q] at e;have e':(b,o)=p:=Option.some.inj e;subst e';exact⟨hb,q⟩
theorem Inv.pinned(I:Inv X pins σ H s)(hf:∀ b∈fp,y1 X pins H b)(ho:∀ b∈fp,∃ o,s.heap.get? b=some o/\∀ v,o.data≠.cell v):Inv X (pins++Ny fp s.heap) σ H s :=
 I.Vh λp hp=>(fh.mp hp).elim (λz=>I.pin p (fA _ z)) λz=>by obtain⟨hb,e⟩:=by' z;obtain⟨f0,f1,f2,_⟩:=hf p.1 hb;obtain⟨o,e',d⟩:=ho p.1 hb;rw[e] at e';cases e';exact⟨e,f0,f1,f2,d⟩
theorem Inv.PK(I:Inv X (pins++pl) σ H s):Inv X pins σ H s:=I.Vh λp hp=>I.pin p (fA _ (j3 _ hp))
theorem bz'(hp:PassesOwn (aS X.prog X.w) X.A X.env X.xe)(hc:X.calm=true)(hi:PI X tg iter wi)(hg:PG X tg g)(hb:mP X body tb)(hs:∀ x,FK iter X.env x=pure x:=by intro _;rfl):PS X (.For tg iter body [] pos) (Vv wi g tb):=by
 intro pins s σ H D I h;refine wpAny_For (dP (hi pins s σ H _ I h) λv s1 h1=>dP h1 λSj s2 h2=>?_) hs;obtain⟨it,fp,tn,J,H2,e,I2,T,xC,f2,W,⟨m0,w0⟩,turn⟩:=h2;subst e
 -- what stays true of the iterator's objects through the loop
 have stat:∀ {H':Hp},(∀ b∈fp,H' b=none)->∀ b∈fp,y1 X pins H' b:=λhn b hb=>⟨hn b hb,(f2 b hb).2⟩
 refine codeAny_forLoop_any (λn s'=>∃ i ck H',Inv X pins ck H' s'/\tn i s'.heap/\(∀ b∈fp,H' b=none)/\W i n ck H') ?_ m0 ⟨0,σ,H2,I2,xC,λb hb=>(f2 b hb).1,w0⟩;rintro n s3 ⟨i,AY,H3,I3,xD,Vw,w3⟩;rcases turn i n AY H3 w3 with⟨stop,qn⟩|⟨go,N,hN,step⟩
 ·refine MT hp (dP (T.done X rfl rfl rfl hc i pins s3 AY H3 X.xe I3 (stat Vw) xD stop) λr s4 d5=>?_);obtain⟨hr,I4⟩:=d5;subst hr;exact wpAny_execs_nil ⟨AY,H3,I4,qn⟩
 ·refine MT hp (dP (T.item X rfl rfl rfl hc i pins s3 AY H3 X.xe I3 (stat Vw) xD go) λr s4 d5=>?_);obtain⟨u,hr,h4⟩:=d5;subst hr;refine MT hp (dP h4 λ_ s5 d5=>?_);obtain⟨x,H5,I5,r5,y5,He,PL⟩:=d5;have I5':=I5.pinned (stat PL) (T.obj _ _ He);refine MT hp (dP (hg _ s5 AY H5 x u _ I5' r5 (step x H5 y5)) λ_ s6 d5=>?_);obtain⟨σ6,H6,I6,q6⟩:=d5;refine MT hp (dP (hb _ s6 σ6 H6 _ I6 q6) λf s7 q7=>?_);have again:∀ {y2:St} {H7:Hp},Inv X (pins++Ny fp s5.heap) y2 H7 s7->N y2 H7->∃ m,m<n/\∃ i ck H',Inv X pins ck H' s7/\tn i s7.heap/\(∀ b∈fp,H' b=none)/\W i m ck H':=λ{y2 H7} I7 n7=>by obtain⟨m',hm,w7⟩:=hN y2 H7 n7;refine⟨m',hm,i+1,y2,H7,I7.PK,T.keep _ _ _ He λb hb o e=>(I7.pin (b,o) (fA _ (fA _ (PJ hb e)))).1,λb hb=>?_,w7⟩;obtain⟨o,e,d⟩:=T.obj _ _ He b hb;exact(I7.pin (b,o) (fA _ (fA _ (PJ hb e)))).2.1
  cases f with
  |next=>obtain⟨y2,H7,I7,n7⟩:=q7;exact again I7 n7
  |cont=>obtain⟨y2,H7,I7,n7⟩:=q7;exact again I7 n7
  |brk=>obtain⟨y2,H7,I7,q7⟩:=q7;exact⟨y2,H7,I7.PK,q7⟩
  |ret v=>obtain⟨x7,y2,H7,I7,r7,q7⟩:=q7;exact⟨x7,y2,H7,I7.PK,r7,q7⟩
end
abbrev R2:=V->V->Hp->VK->Prop
def ez(X:Cx)(f:ah->ah->Sem ah)(r:R2):Prop :=
 ∀ (pins:List (ag × Obj)) (s:aE) (σ:St) (H:Hp) (x y:V) (v u:ah) (Q:VK),Inv X pins σ H s->RelV x v->RelV y u->r x y H Q ->
  aT (aS X.prog X.w) X.A (f v u) (EP X pins σ Q) X.xe s
def nK(X:Cx)(f:ah)(r:List V->Hp->VK->Prop):Prop :=
 ∀ (pins:List (ag × Obj)) (s:aE) (σ:St) (H:Hp) (xs:List V) (us:List ah) (Q:VK),Inv X pins σ H s->Vals xs us->r xs H Q ->
  aT (aS X.prog X.w) X.A (call f us) (EP X pins σ Q) X.xe s
def Nz(r:R2)(ta tb:TE):TE:=λσ H Q=>ta σ H λx H1=>tb σ H1 λy H2=>r x y H2 Q
def Vx(r:V->Hp->VK->Prop)(ta:TE):TE:=λσ H Q=>ta σ H λx H1=>r x H1 Q
def rI(C:Int->Int->Prop)(g:Int->Int->V):R2:=λx y H Q=>∃ i j,x=.int i/\y=.int j/\C i j/\Q (g i j) H
def L4(g:Int->Int->V):R2:=λx y H Q=>∃ i j,x=.int i/\y=.int j/\Q (g i j) H
section
variable {X:Cx}{a b:Expr}{ta tb:TE}{pos:Pos}
theorem Sq(ha:PE X a ta)(hb:PE X b tb){pins:List (ag × Obj)}{s:aE}{σ:St}{H:Hp}{R:V->V->Hp->Prop}(I:Inv X pins σ H s)(h:ta σ H λx H1=>tb σ H1 λy H2=>R x y H2) {Q:ah->aE->Prop} {f:ah->ah->Sem ah}(hf:∀ v u s2 x y H2,Inv X pins σ H2 s2->RelV x v->RelV y u->R x y H2->aT (aS X.prog X.w) X.A (f v u) Q X.xe s2) :
  aT (aS X.prog X.w) X.A (c9 a X.env) (λv fm=>aT (aS X.prog X.w) X.A (c9 b X.env) (λu AZ=>aT (aS X.prog X.w) X.A (f v u) Q X.xe AZ) X.xe fm) X.xe s:=by
 refine dP (ha pins s σ H _ I h) λv s1 dS=>L2.hG dS λx H1 I1 r1 q1=>?_;refine dP (hb pins s1 σ H1 _ I1 q1) λu s2 dS=>L2.hG dS λy H2 I2 r2 q2=>?_;exact hf v u s2 x y H2 I2 r1 r2 q2
theorem bC'{op:Operator}{r:R2}(ho:ez X (p9 op) r)(ha:PE X a ta)(hb:PE X b tb):PE X (.BinOp a op b pos) (Nz r ta tb):=by intro pins s σ H Q I h;exact wpAny_BinOp (Sq ha hb I h λv u s2 x y H2 I2 rx ry q=>ho pins s2 σ H2 x y v u Q I2 rx ry q)
theorem Sr{f:ah->ah->Sem ah}{C:Int->Int->Prop}{g:Int->Int->Int}(rule:∀ (i j:Int) (t u:Tok) (s:aE) (Q:ah->aE->Prop) (E:ah->aE->Prop),C i j->Q (.int (g i j) s.toks) { s with toks:=s.toks+1 }->aT (aS X.prog X.w) X.A (f (.int i t) (.int j u)) Q E s) :
  ez X f (rI C λi j=>.int (g i j)):=by
 intro pins s σ H x y v u Q I rx ry h;obtain⟨i,j,rfl,rfl,hc,q⟩:=h;obtain⟨t,rfl⟩:=rx;obtain⟨t',rfl⟩:=ry;exact rule i j t t' s _ _ hc ⟨.int (g i j),H,I.tok _,⟨_,rfl⟩,q⟩
theorem bD'{f:ah->ah->Sem ah}{g:Int->Int->Int}(rule:∀ (i j:Int) (t u:Tok) (s:aE) (Q:ah->aE->Prop) (E:ah->aE->Prop),Q (.int (g i j) s.toks) { s with toks:=s.toks+1 }->aT (aS X.prog X.w) X.A (f (.int i t) (.int j u)) Q E s) :
  ez X f (L4 λi j=>.int (g i j)):=by
 intro pins s σ H x y v u Q I rx ry h;obtain⟨i,j,rfl,rfl,q⟩:=h;obtain⟨t,rfl⟩:=rx;obtain⟨t',rfl⟩:=ry;exact rule i j t t' s _ _ ⟨.int (g i j),H,I.tok _,⟨_,rfl⟩,q⟩
theorem Ss{f:ah->ah->Sem ah}{g:Int->Int->Bool}(rule:∀ (i j:Int) (t u:Tok) (s:aE) (Q:ah->aE->Prop) (E:ah->aE->Prop),Q (.bool (g i j)) s->aT (aS X.prog X.w) X.A (f (.int i t) (.int j u)) Q E s) :
  ez X f (L4 λi j=>.bl (g i j)):=by
 intro pins s σ H x y v u Q I rx ry h;obtain⟨i,j,rfl,rfl,q⟩:=h;obtain⟨t,rfl⟩:=rx;obtain⟨t',rfl⟩:=ry;exact rule i j t t' s _ _ ⟨.bl (g i j),H,I,rfl,q⟩
def bE'(i j:Int):Prop:=0<j/\j<1073741824
def L5(i j:Int):Prop:=(-(2 ^ 64)<i/\i<2 ^ 64)\/(-(2 ^ 64)<j/\j<2 ^ 64)
theorem L5.ok(h:L5 i j):IntMulOk i j:=by
 rcases h with⟨h1,h2⟩|⟨h1,h2⟩
 ·exact .of_left (intBits_le_64 h1 h2)
 ·exact .of_right (intBits_le_64 h1 h2)
theorem bF':ez X (p9 .Add) (L4 λi j=>.int (i+j)):=bD' λ_ _ _ _ _ _ _ q=>add_int q
theorem bG':ez X (p9 .Mult) (rI L5 λi j=>.int (i*j)):=Sr λ_ _ _ _ _ _ _ hc q=>mul_int q hc.ok
theorem bH':ez X (p9 .FloorDiv) (rI bE' λi j=>.int (i / j)):=Sr λi j _ _ _ _ _ hc q=>by have h1:(0:Int)<j:=hc.1;have h2:j<1073741824:=hc.2;exact floordiv_int (by lia) (by rw[Int.fdiv_eq_ediv_of_nonneg i (by exact Ct ‹_›)];exact q) (.inl (PyProof.noPylong_small (by lia)))
theorem bI':ez X (p9 .Mod) (rI (λ_ j=>0<j) λi j=>.int (i % j)):=Sr λi j _ _ _ _ _ hc q=>by have h1:(0:Int)<j:=hc;exact mod_int' (by lia) (by rw[Int.fmod_eq_emod_of_nonneg i (by exact Ct ‹_›)];exact q)
end
def Vy:V->V->Bool
 |.non,.non=>true|.non,.int _=>true|.int _,.non=>true|.non,.bl _=>true|.bl _,.non=>true|.non,.str _=>true|.str _,.non=>true
 |.int _,.int _=>true|.bl _,.bl _=>true|.str _,.str _=>true|.vT _,.vT _=>true
 |.int _,.str _=>true|.str _,.int _=>true|.bl _,.str _=>true|.str _,.bl _=>true
 |_,_=>false
def rEq:R2:=λx y H Q=>Vy x y=true/\Q (.bl (decide (x=y))) H
def rNe:R2:=λx y H Q=>Vy x y=true/\Q (.bl (!decide (x=y))) H
theorem Vz:decide (V.int i=V.int j)=(i == j):=by rw[ED];simp
theorem VA:decide (V.bl i=V.bl j)=(i == j):=by rw[ED];simp
theorem VB:decide (V.str i=V.str j)=(i == j):=by rw[ED];simp
theorem VC:decide (V.vT i=V.vT j)=(i.toList == j.toList):=by rw[ED];cases i;cases j;simp
section
variable {X:Cx}{a b c:Expr}{ta tb tc:TE}{pos:Pos}
theorem hJ(I:Inv X pins σ H s)(q:Q (.bl k) H)(e:k=k'):EP X pins σ Q (.bool k') s:=by subst e;exact⟨.bl k,H,I,rfl,q⟩
theorem bL':ez X (gS .Eq) rEq:=by
 intro pins s σ H x y v u Q I rx ry h;obtain⟨hs,q⟩:=h
 cases x with
 |non =>
  cases rx
  cases y with
  |non=>cases ry;exact PySem.EqNone.eq_none_none (hJ I q (by simp))
  |bl j=>cases ry;exact PySem.EqNone.eq_none_bool (hJ I q (by simp))
  |int j=>obtain⟨t',rfl⟩:=ry;exact PySem.EqNone.eq_none_int (hJ I q (by simp))
  |str j=>obtain⟨t',rfl⟩:=ry;exact PySem.EqNone.eq_none_str (hJ I q (by simp))
  |_=>exact absurd (show false=true from hs) kg
 |bl i =>
  cases rx
  cases y with
  |non=>cases ry;exact PySem.EqNone.eq_bool_none (hJ I q (by simp))
  |bl j=>cases ry;exact eq_bool (hJ I q VA)
  |str j=>obtain⟨t',rfl⟩:=ry;exact PySem.EqMixed.eq_bool_str (hJ I q (by simp))
  |_=>exact absurd (show false=true from hs) kg
 |int i =>
  obtain⟨t,rfl⟩:=rx
  cases y with
  |non=>cases ry;exact PySem.EqNone.eq_int_none (hJ I q (by simp))
  |int j=>obtain⟨t',rfl⟩:=ry;exact eq_int (hJ I q Vz)
  |str j=>obtain⟨t',rfl⟩:=ry;exact PySem.EqMixed.eq_int_str (hJ I q (by simp))
  |_=>exact absurd (show false=true from hs) kg
 |str i =>
  obtain⟨t,rfl⟩:=rx
  cases y with
  |non=>cases ry;exact PySem.EqNone.eq_str_none (hJ I q (by simp))
  |bl j=>cases ry;exact PySem.EqMixed.eq_str_bool (hJ I q (by simp))
  |int j=>obtain⟨t',rfl⟩:=ry;exact PySem.EqMixed.eq_str_int (hJ I q (by simp))
  |str j=>obtain⟨t',rfl⟩:=ry;exact eq_str (hJ I q VB)
  |_=>exact absurd (show false=true from hs) kg
 |vT i =>
  obtain⟨t,rfl⟩:=rx
  cases y with
  |vT j=>obtain⟨t',rfl⟩:=ry;exact PySem.W.eq_bytes (hJ I q VC)
  |_=>exact absurd (show false=true from hs) kg
 |_=>cases y<;>exact absurd (show false=true from hs) kg
theorem bM':ez X (gS .NotEq) rNe:=by
 intro pins s σ H x y v u Q I rx ry h;obtain⟨hs,q⟩:=h
 cases x with
 |non =>
  cases rx
  cases y with
  |non=>cases ry;exact PySem.EqNone.ne_none_none (hJ I q (by simp))
  |bl j=>cases ry;exact PySem.EqNone.ne_none_bool (hJ I q (by simp))
  |int j=>obtain⟨t',rfl⟩:=ry;exact PySem.EqNone.ne_none_int (hJ I q (by simp))
  |str j=>obtain⟨t',rfl⟩:=ry;exact PySem.EqNone.ne_none_str (hJ I q (by simp))
  |_=>exact absurd (show false=true from hs) kg
 |bl i =>
  cases rx
  cases y with
  |non=>cases ry;exact PySem.EqNone.ne_bool_none (hJ I q (by simp))
  |bl j=>cases ry;exact ne_bool (hJ I q (congrArg not VA))
  |str j=>obtain⟨t',rfl⟩:=ry;exact PySem.EqMixed.ne_bool_str (hJ I q (by simp))
  |_=>exact absurd (show false=true from hs) kg
 |int i =>
  obtain⟨t,rfl⟩:=rx
  cases y with
  |non=>cases ry;exact PySem.EqNone.ne_int_none (hJ I q (by simp))
  |int j=>obtain⟨t',rfl⟩:=ry;exact ne_int (hJ I q (congrArg not Vz))
  |str j=>obtain⟨t',rfl⟩:=ry;exact PySem.EqMixed.ne_int_str (hJ I q (by simp))
  |_=>exact absurd (show false=true from hs) kg
 |str i =>
  obtain⟨t,rfl⟩:=rx
  cases y with
  |non=>cases ry;exact PySem.EqNone.ne_str_none (hJ I q (by simp))
  |bl j=>cases ry;exact PySem.EqMixed.ne_str_bool (hJ I q (by simp))
  |int j=>obtain⟨t',rfl⟩:=ry;exact PySem.EqMixed.ne_str_int (hJ I q (by simp))
  |str j=>obtain⟨t',rfl⟩:=ry;exact ne_str (hJ I q (congrArg not VB))
  |_=>exact absurd (show false=true from hs) kg
 |vT i =>
  obtain⟨t,rfl⟩:=rx
  cases y with
  |vT j=>obtain⟨t',rfl⟩:=ry;exact PySem.W.ne_bytes (hJ I q (congrArg not VC))
  |_=>exact absurd (show false=true from hs) kg
 |_=>cases y<;>exact absurd (show false=true from hs) kg
theorem bN':ez X (gS .Lt) (L4 λi j=>.bl (decide (i<j))):=Ss λ_ _ _ _ _ _ _ q=>lt_int q
theorem bO':ez X (gS .LtE) (L4 λi j=>.bl (decide (i<=j))):=Ss λ_ _ _ _ _ _ _ q=>le_int q
theorem bP':ez X (gS .Gt) (L4 λi j=>.bl (decide (j<i))):=Ss λ_ _ _ _ _ _ _ q=>gt_int q
theorem bQ':ez X (gS .Lt) (λx y H Q=>∃ i j,x=.str i/\y=.str j/\Q (.bl (decide (i.cps.toList<j.cps.toList))) H):=by intro pins s σ H x y v u Q I rx ry h;obtain⟨i,j,rfl,rfl,q⟩:=h;obtain⟨t,rfl⟩:=rx;obtain⟨t',rfl⟩:=ry;exact lt_str (hJ I q rfl)
theorem bR':ez X (gS .In) (λx y H Q=>∃ i j,x=.str i/\y=.str j/\Q (.bl (!(Builtin.Str.occurrences j i 0 j.length 1).isEmpty)) H):=by intro pins s σ H x y v u Q I rx ry h;obtain⟨i,j,rfl,rfl,q⟩:=h;obtain⟨t,rfl⟩:=rx;obtain⟨t',rfl⟩:=ry;exact in_str (hJ I q rfl)
theorem bS':ez X (gS .IsNot) (λx y H Q=>y=.non/\Q (.bl (!decide (x=.non))) H):=by
 intro pins s σ H x y v u Q I rx ry h;obtain⟨rfl,q⟩:=h;cases ry;refine isnot_none_gen (hJ I q ?_);cases x<;>first
  | (cases rx;rfl)
  | (obtain⟨t,rfl⟩:=rx;rfl)
theorem bT':ez X (gS .NotIn) (λx y H Q=>∃ i j,x=.str i/\y=.str j/\Q (.bl (!(!(Builtin.Str.occurrences j i 0 j.length 1).isEmpty))) H):=by intro pins s σ H x y v u Q I rx ry h;obtain⟨i,j,rfl,rfl,q⟩:=h;obtain⟨t,rfl⟩:=rx;obtain⟨t',rfl⟩:=ry;exact notIn_str (hJ I q rfl)
theorem ez.or(h:ez X f r)(h':ez X f r'):ez X f (λx y H Q=>r x y H Q\/r' x y H Q):=by
 intro pins s σ H x y v u Q I rx ry q;rcases q with q|q
 ·exact h pins s σ H x y v u Q I rx ry q
 ·exact h' pins s σ H x y v u Q I rx ry q
theorem VD(b:Expr)(h:op≠.In:=by decide)(h2:op≠.NotIn:=by decide):KS op b=false:=by
 have e1:(op == CmpOp.In)=false:=by cases op<;>first|rfl|exact absurd rfl h
 have e2:(op == CmpOp.NotIn)=false:=by cases op<;>first|rfl|exact absurd rfl h2
 cases b<;>simp[KS,e1,e2]
theorem bU'{op:CmpOp}{r:R2}(ho:ez X (gS op) r)(ha:PE X a ta)(hb:PE X b tb)(hm:KS op b=false):PE X (.Compare a [op] [b] pos) (Nz r ta tb):=by intro pins s σ H Q I h;exact wpAny_Compare1 (Sq ha hb I h λv u s2 x y H2 I2 rx ry q=>ho pins s2 σ H2 x y v u Q I2 rx ry q) hm
def Sv(t:TE):TT:=λσ H Q=>t σ H λx H'=>∃ k,x=.bl k/\Q k H'
theorem bV'(ho:ez X (gS op) r)(ha:PE X a ta)(hb:PE X b tb)(hm:KS op b=false):PT X (.Compare a [op] [b] pos) (Sv (Nz r ta tb)):=by
 intro pins s σ H Q I h;refine wpAny_isTrue_Compare1 (dP (ha pins s σ H _ I h) λv s1 dS=>L2.hG dS λx H1 I1 r1 q1=>dP (hb pins s1 σ H1 _ I1 q1) λu s2 dS=>L2.hG dS λy H2 I2 r2 q2 =>
  dP (ho pins s2 σ H2 x y v u _ I2 r1 r2 q2) λc s3 ⟨z,H3,I3,r3,k,e,q3⟩=>?_) hm
 subst e;cases r3;exact KL ⟨H3,I3,q3⟩
def VF(r r':R2)(ta tb tc:TE):TE:=λσ H Q=>ta σ H λx H1=>tb σ H1 λy H2=>r x y H2 λz H3=>∃ k,z=.bl k /\ (if k=true then tc σ H3 λw' H4=>r' y w' H4 Q else Q (.bl false) H3)
theorem bW'(ho:ez X (gS op) r)(nI:ez X (gS op') r')(ha:PE X a ta)(hb:PE X b tb)(hc:PE X c tc)(hm:lastMarks [op,op'] [b,c]=false:=by with_unfolding_all rfl):PT X (.Compare a [op,op'] [b,c] pos) (Sv (VF r r' ta tb tc)):=by
 intro pins s σ H Q I h;refine isTrue_chain (dP (ha pins s σ H _ I h) λv s1 dS=>L2.hG dS λx H1 I1 r1 q1=>test_link (dP (hb pins s1 σ H1 _ I1 q1) λu s2 dS=>L2.hG dS λy H2 I2 r2 q2 =>
  dP (ho pins s2 σ H2 x y v u _ I2 r1 r2 q2) λd s3 ⟨z,H3,I3,r3,k,e,q3⟩=>?_)) hm
 subst e;cases r3;refine KL ?_
 cases k with
 |false =>obtain⟨k',e',q'⟩:=q3;cases e';exact ite_ff ⟨H3,I3,q'⟩
 |true =>refine ite_tt (test_last (dP (hc pins s3 σ H3 _ I3 q3) λw' s4 ⟨z',H4,I4,r4,q4⟩=>dP (nI pins s4 σ H4 y z' u w' _ I4 r2 r4 q4) λd' s5 d5=>?_));obtain⟨z2,H5,I5,r5,k2,e2,q5⟩:=d5;subst e2;cases r5;exact KL ⟨H5,I5,q5⟩
theorem PN:(bX:Nat)<2 ^ 63:=by rw[kP];decide
theorem bX':ez X (p9 .Add) (λx y H Q=>∃ i j,x=.str i/\y=.str j/\i.length+j.length<=bX/\Q (.str (i++j)) H):=by intro pins s σ H x y v u Q I rx ry h;obtain⟨i,j,rfl,rfl,hz,q⟩:=h;obtain⟨t,rfl⟩:=rx;obtain⟨t',rfl⟩:=ry;exact add_str (λt' tk=>⟨.str (i++j),H,I.tok _,⟨_,rfl⟩,q⟩) hz
theorem vals1(r:Vals [x] us):∃ u,us=[u]/\RelV x u:=by
 cases r with
 |cons r1 r2=>cases r2;exact⟨_,rfl,r1⟩
theorem bY':nK X (.type "int") (λxs H Q=>(∃ i,xs=[.int i]/\Q (.int i) H)\/∃ k,xs=[.bl k]/\Q (.int (if k then 1 else 0)) H):=by
 intro pins s σ H xs us Q I r h;rcases h with⟨i,rfl,q⟩|⟨k,rfl,q⟩
 ·obtain⟨u,rfl,t,rfl⟩:=vals1 r;exact call_int_int ⟨.int i,H,I,⟨_,rfl⟩,q⟩
 ·obtain⟨u,rfl,r1⟩:=vals1 r;cases r1;exact call_int_bool ⟨.int (if k then 1 else 0),H,I.tok _,⟨_,rfl⟩,q⟩
def bZ'(K:aI)(x:V)(H:Hp)(n:Nat):Prop :=
 match x with
 |.str y=>y.length<=bX/\n=y.length
 |.vT y=>y.size<=bX/\n=y.size
 |.ref p=>(∃ xs,fF K H p xs/\n=xs.length)\/∃ xs,qk K H p xs/\n=xs.length
 |_=>False
theorem Sw:nK X (.builtin "len") (λxs H Q=>∃ x n,xs=[x]/\bZ' X.K x H n/\Q (.int n) H):=by
 intro pins s σ H xs us Q I r h;obtain⟨x,n,rfl,e,q⟩:=h;obtain⟨u,rfl,rx⟩:=vals1 r;have hl:=PN;have hs:bX=16777216:=kP
 cases x with
 |str y =>obtain⟨t,rfl⟩:=rx;obtain⟨hy,e'⟩:y.length<=bX/\n=y.length:=e;subst e';exact len_str (by lia) ⟨.int _,H,I.tok _,⟨_,rfl⟩,q⟩
 |vT y =>obtain⟨t,rfl⟩:=rx;obtain⟨hy,e'⟩:y.size<=bX/\n=y.size:=e;subst e';exact PySem.W.len_bytes (by walk_at "s4") ⟨.int _,H,I.tok _,⟨_,rfl⟩,q⟩
 |ref p =>
  cases rx;have e':(∃ xs,fF X.K H p xs/\n=xs.length)\/∃ xs,qk X.K H p xs/\n=xs.length:=e;rcases e' with⟨xs,hx,e'⟩|⟨xs,hx,e'⟩
  ·subst e';obtain⟨its,r',pl,hz⟩:=I.list hx;have hlen:=r'.length;exact Calls.call_len_list pl.isList (by simp only[iA];lia) ⟨.int xs.length,H,I.tok _,⟨_,by simp only[iA];rw[hlen]⟩,q⟩
  ·subst e';obtain⟨its,r',pl,hz⟩:=I.tuple hx;have hlen:=r'.length;exact len_tuple pl (by simp only[iA];lia) ⟨.int xs.length,H,I.tok _,⟨_,by simp only[iA];rw[hlen]⟩,q⟩
 |_=>exact(show False from e).elim
end
structure Sx(h:cS)(x dx C:ag)(mA:Str->Option ah):Prop where
 obj:h.get? x=some (Ry C dx)
 ns:h.Ns1 dx mA
 ne:dx≠x
theorem lookIn_ns{h:cS}{dx:ag}{mA:Str->Option ah}(n:h.Ns1 dx mA):∃ od,h.get? dx=some od/\∀ name,PySem.W.lookIn name od=some (mA name):=by
 obtain⟨o,es,ep,ho,hd,hk,_,hm⟩:=n;refine⟨o,ho,λname=>?_⟩;have e:=hm name;unfold nsFind findBy at e;rw[<- Array.find?_toList] at e;unfold PySem.W.lookIn;rw[hd];dsimp only;split
 ·rename_i y q;rw[q] at e;exact congrArg some e
 ·rename_i q;rw[q] at e;have a:es.toList.any (·.refKey)=false:=by rw[List.any_eq_false];intro y hy;obtain⟨z,t,ca'⟩:=hk y (R4.mp hy);simp[DictEntry.refKey,ca']
  have a':¬ es.toList.any (·.refKey)=true:=by rw[a];exact kg
  rw[if_neg a'];exact congrArg some e
theorem Sx.look(I:Sx h x dx C mA):∃ od,PySem.W.InstAt h x (Ry C dx) C (some od)/\∀ name,PySem.W.lookIn name od=some (mA name) :=
 let ⟨od,ho,hl⟩:=lookIn_ns I.ns
 ⟨od,⟨I.obj,rfl,rfl,ho⟩,hl⟩
theorem v3.some_of(r:v3 (some v) o):∃ u,o=some u/\RelV v u:=by
 cases o with
 |none=>exact(show False from r).elim
 |some u=>exact⟨u,rfl,r⟩
section
variable {P:dz}{w:dA}{H:Hp}{h:cS}{a C dx:ag}{fs:List (Str × V)}
theorem PQ(bT:gL P w H h)(e:H a=some (.ins C dx fs)):∃ mA,Sx h a dx C mA/\(∀ f,v3 (fs.lookup f) (mA f))/\PySem.Within mA (fs.map (·.1))/\fs.length<=1000/\H dx=some (.own a):=by
 obtain⟨d,z,ne,ob,mA,n,r,q⟩:=(show fS P w H h a (.ins C dx fs) from bT a _ e)
 exact⟨mA,⟨ob,n,ne⟩,r,q,z,d⟩
end
structure Sy(K:aI)(C:ag):Prop where
 pg:PySem.W.plainGet K C Str.empty=true
 hd:PySem.W.hasDictIn K C=true
 po:PySem.W.plainOver K C=true
 sa:ub K (.ref C) "__setattr__" = some (some (.builtin "object.__setattr__"))
theorem Sy.get{K:aI}(c:Sy K C)(f:Str):PySem.W.plainGet K C f=true:=c.pg
section
variable {X:Cx}{pins:List (ag × Obj)}{σ:St}{H:Hp}{s:aE}{A:eJ}{E:ah->aE->Prop}{Q:ah->aE->Prop}{c:ah}{b:Bool}
inductive xE(K:aI)(H:Hp):V->ah->Prop where
 |non:xE K H .non (.type "NoneType")
 |bl (x:Bool):xE K H (.bl x) (.type "bool")
 |int (i:Int):xE K H (.int i) (.type "int")
 |str (x:Str):xE K H (.str x) (.type "str")
 |AO (x:UInt64):xE K H (.AO x) (.type "float")
 |lst {a:ag} {xs:List V} (e:H a=some (.lst xs)):xE K H (.ref a) (.type "list")
 |mM {a:ag} {o:Obj} {xs:List V} (e:H a=some (.mM o (.lst xs))):xE K H (.ref a) (.type "list")
 |tup {a:ag} {xs:List V} (e:H a=some (.tup xs)):xE K H (.ref a) (.type "tuple")
 |dK {a:ag} {ae:List (Key × V)} (e:H a=some (.dK ae)):xE K H (.ref a) (.type "dict")
 |dT {a:ag} {ae:List (List Key × V)} (e:H a=some (.dT ae)):xE K H (.ref a) (.type "dict")
 |ins {a C dx:ag} {fs:List (Str × V)} (e:H a=some (.ins C dx fs)) (cl:Sy K C) (ha:ub K (.ref C) "__class__" = some (some (.builtin "object.__class__")))
   (hn:PySem.W.specialIn K (.builtin "object.__class__") "__get__" = some (some (.builtin "getset_descriptor.__get__"))) (VG:PySem.W.takesIn K (.builtin "object.__class__")=some true)
   (hm:yv K C (.type "object")=some true):xE K H (.ref a) (.ref C)
theorem NB(I:Inv X pins σ H s)(rx:RelV x u)(ty:xE X.K H x t)(e:i3 X.K t c=some b)(h:∀ tk,Q (.bool b) { s with toks:=tk }) :
  aT (aS X.prog X.w) A (call (.builtin "isinstance") [u,c]) Q E s:=by
 cases ty with
 |non=>cases (show u=Value.none from rx);exact ua PySem.W.kitx_none I.iP True.intro e (λz=>nomatch z) h
 |bl y=>cases (show u=Value.bool y from rx);exact ua PySem.W.kitx_bool I.iP True.intro e (λz=>nomatch z) h
 |int i=>obtain⟨t,q⟩:=(show ∃ t,u=Value.int i t from rx);cases q;exact ua PySem.W.kitx_int I.iP True.intro e (λz=>nomatch z) h
 |str y=>obtain⟨t,q⟩:=(show ∃ t,u=Value.str y t from rx);cases q;exact ua PySem.W.kitx_str I.iP True.intro e (λz=>nomatch z) h
 |AO y=>obtain⟨t,q⟩:=(show ∃ t,u=Value.float y t from rx);cases q;exact ua PySem.W.kitx_float I.iP True.intro e (λz=>nomatch z) h
 |@lst a xs ea =>
  cases (show u=Value.ref a from rx);obtain⟨_,_,n,_,h1⟩:=(show fS X.prog X.w H s.heap a (.lst xs) from I.bT a _ ea)
  exact ua Rx I.iP ⟨_,h1,rfl⟩ e (λz=>nomatch z) h
 |@mM a ob xs ea =>
  cases (show u=Value.ref a from rx);obtain⟨_,_,_,n,_,h1⟩:=(show fS X.prog X.w H s.heap a (.mM ob (.lst xs)) from I.bT a _ ea)
  exact ua Rx I.iP ⟨_,h1,rfl⟩ e (λz=>nomatch z) h
 |@tup a xs ea =>
  cases (show u=Value.ref a from rx);obtain⟨_,_,_,p⟩:=(show fS X.prog X.w H s.heap a (.tup xs) from I.bT a _ ea)
  obtain⟨o,h1,h2,_⟩:=p;exact ua PySem.W.kitx_tuple I.iP ⟨o,h1,h2⟩ e (λz=>nomatch z) h
 |@dK a ae ea =>
  cases (show u=Value.ref a from rx);obtain⟨_,_,vs,_,p⟩:=(show fS X.prog X.w H s.heap a (.dK ae) from I.bT a _ ea)
  obtain⟨o,es,ep,h1,h2,_⟩:=p;exact ua O6 I.iP ⟨o,h1,h2.1⟩ e (λz=>nomatch z) h
 |@dT a ae ea =>
  cases (show u=Value.ref a from rx);obtain⟨_,_,xs,_,o,es,ep,h1,h2,_⟩:=(show fS X.prog X.w H s.heap a (.dT ae) from I.bT a _ ea)
  exact ua O6 I.iP ⟨o,h1,h2.1⟩ e (λz=>nomatch z) h
 |@ins a C dx fs ea cl ha hn VG hm =>cases (show u=Value.ref a from rx);obtain⟨mA,O,_⟩:=PQ I.bT ea;obtain⟨od,J,_⟩:=O.look;exact ua (PySem.W.kitx_own (cl.get _) cl.hd ha hn VG hm) I.iP J e (λz=>nomatch z) h
end
structure ke(k:Nat)(A:eJ):Prop where
 hd:A.handled=none
 dp:A.depth+3*k+5<recursionLimit
 un:A.units+16*k+200<hX
theorem ke.mono(r:ke k A)(h:j<=k):ke j A:=⟨r.hd,by have:=r.dp;lia,by have:=r.un;lia⟩
theorem ke.deeper(r:ke (k+1) A)(env:Env):ke k (A.deeper env) :=
 ⟨r.hd,by have:=r.dp;show A.depth+1+3*k+5<_;lia,by have:=r.un;show A.units+3+16*k+200<_;lia⟩
theorem ke.depth(r:ke k A):A.depth<recursionLimit:=by have:=r.dp;lia
theorem ke.units(r:ke k A):A.units+64<hX:=by have:=r.un;lia
def VH:TA:=λ_ H Q=>Q [] H
def VJ(ta:TE)(tr:TA):TA:=λσ H Q=>ta σ H λx H1=>tr σ H1 λxs H2=>Q (x :: xs) H2
section
variable {X:Cx}{e:Expr}{es:List Expr}{te:TE}{t:TA}{pos:Pos}
theorem si:PA X [] VH:=λ_ _ _ _ H Q I h=>Calls.spliced_nil ⟨[],H,I,.nil,h⟩
theorem kU(ha:PE X e te)(hr:PA X es t)(hs:bS (e :: es) X.env=(false,c9 e X.env) :: bS es X.env:=by rfl):PA X (e :: es) (VJ te t):=by intro pos pins s σ H Q I h;rw[hs];show aT _ _ (spliced ((false,c9 e X.env) :: iq pos (bS es X.env))) _ _ s;refine Calls.spliced_cons (dP (ha pins s σ H _ I h) λu s1 dS=>L2.hG dS λx H1 I1 r1 q1=>?_);exact dP (hr pos pins s1 σ H1 _ I1 q1) λus s2 dS=>L2.hG dS λxs H2 I2 r2 q2=>⟨x :: xs,H2,I2,.cons r1 r2,q2⟩
def cb'(t:TA):TE:=λσ H Q=>t σ H λxs H1=>xs.length<=bX/\∀ p,H1 p=none->Q (.ref p) (upd H1 p (.tup xs))
def cc'(t:TA):TE:=λσ H Q=>t σ H λxs H1=>xs.length<=bX/\∀ p,H1 p=none->Q (.ref p) (upd H1 p (.lst xs))
theorem PR{x1}(h:PA X es t):PE X (.Tuple es x1 pos) (cb' t):=by intro pins s σ H Q I hq;refine wpAny_Tuple_spliced (dP (h pos pins s σ H _ I hq) λus s1 ⟨xs,H1,I1,r,z,q⟩=>⟨by rw[<- r.length];exact z,?_⟩);have hf:H1 s1.heap.objs.size=none:=I1.bT.fresh (de _);refine⟨.ref s1.heap.objs.size,upd H1 s1.heap.objs.size (.tup xs),I1.laid (t':=s1.toks) (λb u e=>fI _ e) (de _) ?_,rfl,q _ hf⟩;exact⟨z,us,r,⟨_,kF _ rfl,rfl,_,rfl⟩⟩
theorem cd'(h:PA X es t):PE X (.List es pos) (cc' t):=by intro pins s σ H Q I hq;refine wpAny_List_spliced (dP (h pos pins s σ H _ I hq) λus s1 ⟨xs,H1,I1,r,z,q⟩=>⟨by rw[<- r.length];exact z,?_⟩);have hf:H1 s1.heap.objs.size=none:=I1.bT.fresh (de _);refine⟨.ref s1.heap.objs.size,upd H1 s1.heap.objs.size (.lst xs),I1.laid (t':=s1.toks) (λb u e=>fI _ e) (de _) ?_,rfl,q _ hf⟩;exact⟨z,us,0,r,kF _ rfl⟩
end
abbrev Sp:=List V->Hp->VK->XK->Prop
abbrev CL:=List Env->Hp->aE->XK->ah->aE->Prop
structure PX(P:dz)(w:dA)(K:aI)(mg:Str->Option ah)(base:cS)(A:eJ)(outer:List Env)(s:aE)(H:Hp):Prop where
 frames:A.frames=some outer
 mod:Mod K mg base
 bs:∀ b o,base.get? b=some o->s.heap.get? b=some o/\H b=none
 uS:base.objs.size<=s.heap.objs.size
 sf:s.heap.FunFrames base outer
 yT:∀ b∈fw outer,H b=none
 bT:gL P w H s.heap
 bare:AllBare s.gens
def CE(outer:List Env)(P:dz)(w:dA)(H:Hp)(s:aE)(Q:VK)(u:ah)(s':aE):Prop :=
 ∃ v H',s'.os=s.os/\AllBare s'.gens/\Un (fw outer) [] H H' s.heap s'.heap/\gL P w H' s'.heap/\RelV v u/\Q v H'
def CR(CX:CL)(outer:List Env)(P:dz)(w:dA)(H:Hp)(s:aE)(Q:VK)(E:XK)(r:Result)(s':aE):Prop :=
 match r with
 |.ok (.ret u)=>CE outer P w H s Q u s'
 |.ok _=>False
 |.error e=>CX outer H s E e s'
structure tf(P:dz)(w:dA)(K:aI)(mg:Str->Option ah)(base:cS)(CX:CL)(k:Nat)(f:ag)(fd:xo)(ps:List Str)(sp:Sp):Prop where
 len:∀ vs H Q E,sp vs H Q E->vs.length=ps.length
 run:∀ (A:eJ) (outer:List Env) (s:aE) (H:Hp) (args:Args) (us:List ah) (vs:List V) (Q:VK) (E:XK),ke k A->PX P w K mg base A outer s H->BindsTo s fd args (ps.zip us)->Vals vs us->sp vs H Q E ->
  vx (aS P w) A (.call (.ref f) args) (CR CX outer P w H s Q E) s
section
variable {X:Cx}{pins:List (ag × Obj)}{σ:St}{H:Hp}{s s':aE}
theorem Inv.VL(I:Inv X pins σ H s):PX X.prog X.w X.K X.mg X.base X.A X.stack s H :=
 ⟨I.ok.frames,I.ok.mod,I.bs,i9 I.ok.uS I.sz,I.stack,I.Se,I.bT,I.bare⟩
theorem Inv.after(I:Inv X pins σ H s)(h:CE X.stack X.prog X.w H s Q u s'):EP X pins σ Q u s':=by obtain⟨v,H',os,bare,un,bT,r,q⟩:=h;obtain⟨hh,g,d,t,NC⟩:=s';obtain rfl:NC=s.os:=os;exact⟨v,H',I.call (h':=hh) (g':=g) (d':=d) (t':=t) (ch:=[]) un bT bare (λb z=>absurd z (by simp)),r,q⟩
end
def HC(sp:Sp)(EL:List V)(E:XK)(t:TA):TE:=λσ H Q=>t σ H λvs H1=>sp (vs++EL) H1 Q E
def Binds(K:aI)(fd:xo)(ps:List Str)(ds:List ah):Prop :=
 ∀ (s:aE) (us:List ah),K.In s.heap->(us++ds).length=ps.length->BindsTo s fd ⟨us,[]⟩ (ps.zip (us++ds))
theorem Binds.all{K:aI}{ps:List Str}(h:∀ us:List ah,us.length=ps.length->bindArgs fd ⟨us,[]⟩=pure (ps.zip us)):Binds K fd ps []:=λs us _ hl=>by rw[kE] at hl ⊢;exact .of_eq (h us hl)
def Passes(CX:CL)(X:Cx)(E:XK):Prop:=∀ (pins:List (ag × Obj)) (σ:St) (H:Hp) (s:aE) (e:ah) (s':aE),Inv X pins σ H s->CX X.stack H s E e s'->X.xe e s'
section
variable {X:Cx}{CX:CL}{k:Nat}{f:ag}{fd:xo}{ps:List Str}{sp:Sp}{EL:List V}{ds:List ah}{E:XK}{x:Str}{p pos:Pos}{e:Expr}{es:List Expr}{t:TA}
theorem ce'(F:tf X.prog X.w X.K X.mg X.base CX k f fd ps sp)(hr:ke k X.A)(hb:Binds X.K fd ps ds)(hd:Vals EL ds)(hx:Passes CX X E)(I:Inv X pins σ H s) (r:Vals vs us) (h:sp (vs++EL) H Q E):aT (aS X.prog X.w) X.A (call (.ref f) us) (EP X pins σ Q) X.xe s:=by
 have r2:Vals (vs++EL) (us++ds):=r.append hd;have hl:(us++ds).length=ps.length:=by rw[<- r2.length];exact F.len _ _ _ _ h
 refine wpAny_call (codeAny_mono (F.run X.A X.stack s H ⟨us,[]⟩ (us++ds) (vs++EL) Q E hr I.VL (hb s us I.iP hl) r2 h) λr s' hq=>?_)
 cases r with
 |error e=>exact hx pins σ H s e s' I hq
 |ok fl =>
  cases fl with
  |ret u=>exact I.after hq
  |next=>exact False.elim hq
  |brk=>exact False.elim hq
  |cont=>exact False.elim hq
theorem VM(F:tf X.prog X.w X.K X.mg X.base CX k f fd ps sp)(hr:ke k X.A)(hg:Gl X x)(hm:X.mg x=some (.ref f))(hk:D7 X.K (.ref f)=true)(hb:Binds X.K fd ps ds)(hd:Vals EL ds)(hx:Passes CX X E)(ha:PA X (e :: es) t) (ic:(x == ("__debug__" : Str))=false:=by decide) (he:bS (e :: es) X.env=(false,c9 e X.env) :: bS es X.env:=by rfl) (hU:(iq pos (bS es X.env)).any (·.1)=false:=by rfl) :
  PE X (.Call (.Name x p) (e :: es) [] pos) (HC sp EL E t):=by
 intro pins s σ H Q I h;refine D4 (GW I hg hm ?_ ic);refine PySem.W.callWith_K (h₀:=X.base) I.ok.mod.Nn hk (dP (ha pos pins s σ H _ I h) λus s1 dS=>L2.hG dS λvs H1 I1 r q=>⟨I1.iP,?_⟩) he hU;exact ce' F hr hb hd hx I1 r q
end
structure HG(N P:List Str)(sc:Scope):Prop where
 kind:sc.kind=.function
 co:sc.isCoroutine=false
 gen:sc.isGenerator=false
 nd:N.Nodup
 pre:N.take P.length=P
 par:∀ x∈P,sc.names.lookup x=some .local\/sc.names.lookup x=some .cell
 cf':∀ y∈sc.names,y.2≠.free
theorem VN{eL:Str->Option yk}:∀ {binds:List (Str × ah)} {m:Str->Option ah},(∀ v,(x,v)∉binds)->bindL eL binds m x=m x
 |[],_,_=>rfl
 | (n,v) :: r,m,h=>by
  unfold bindL;rw[VN λw hw=>h w (eP _ hw)];split
  ·have:x≠n:=by rintro rfl;exact h v ft
   simp[this]
  ·rfl
theorem VP{eL:Str->Option yk}:∀ {binds:List (Str × ah)} {m:Str->Option ah},(∀ v,(x,v)∉binds)->bindC eL binds m x=m x
 |[],_,_=>rfl
 | (n,v) :: r,m,h=>by
  unfold bindC;rw[VP λw hw=>h w (eP _ hw)];split
  ·rfl
  ·have:x≠n:=by rintro rfl;exact h v ft
   simp[this]
theorem VQ{eL:Str->Option yk}:∀ {P:List Str} {vs:List ah} {i:Nat} {m:Str->Option ah},P.Nodup->P[i]? = some x->vs[i]? = some v->eL x=some .local ->
  bindL eL (P.zip vs) m x=some v
 |[],_,_,_,_,h,_,_=>by simp at h
 |_ :: _,[],_,_,_,_,h,_=>by simp at h
 |p :: P,w :: vs,0,m,nd,h1,h2,hk=>by simp at h1 h2;subst h1;subst h2;show bindL eL ((p,w) :: P.zip vs) m p=_;unfold bindL;rw[VN λv hv=>(nE.mp nd).1 (List.of_mem_zip hv).1,if_pos hk];simp
 |p :: P,w :: vs,i+1,m,nd,h1,h2,hk=>by show bindL eL ((p,w) :: P.zip vs) m x=_;unfold bindL;exact VQ (i:=i) (nE.mp nd).2 (by simpa using h1) (by simpa using h2) hk
theorem VR{eL:Str->Option yk}:∀ {P:List Str} {vs:List ah} {i:Nat} {m:Str->Option ah},P.Nodup->P[i]? = some x->vs[i]? = some v->eL x≠some .local ->
  bindC eL (P.zip vs) m x=some v
 |[],_,_,_,_,h,_,_=>by simp at h
 |_ :: _,[],_,_,_,_,h,_=>by simp at h
 |p :: P,w :: vs,0,m,nd,h1,h2,hk=>by simp at h1 h2;subst h1;subst h2;show bindC eL ((p,w) :: P.zip vs) m p=_;unfold bindC;rw[VP λv hv=>(nE.mp nd).1 (List.of_mem_zip hv).1,if_neg hk];simp
 |p :: P,w :: vs,i+1,m,nd,h1,h2,hk=>by show bindC eL ((p,w) :: P.zip vs) m x=_;unfold bindC;exact VR (i:=i) (nE.mp nd).2 (by simpa using h1) (by simpa using h2) hk
def start(N:List Str)(vs:List V):St:=vs.map some++List.replicate (N.length-vs.length) none
def pf(CX:CL)(P:dz)(w:dA)(K:aI)(mg:Str->Option ah)(base:cS)(N:List Str)(qual:Str)(scope:Scope)(f:ag)(cd:ah)(A:eJ)(outer:List Env)(s:aE)(H:Hp)(E:XK):Cx where
 prog:=P
 w:=w
 K:=K
 mg:=mg
 base:=base
 A:=A.deeper (k7 qual scope s.heap.objs.size f cd)
 N:=N
 fq:=s
 yB:=H
 env:=k7 qual scope s.heap.objs.size f cd
 outer:=outer
 stack:=k7 qual scope s.heap.objs.size f cd :: outer
 ex:=[]
 calm:=true
 fn:=λ_=>true
 pn:=[]
 xe:=λe s'=>aT (aS P w) (A.deeper (k7 qual scope s.heap.objs.size f cd)) (leaving (k7 qual scope s.heap.objs.size f cd) e) (λ_ ER=>CX outer H s E e ER) (λe' ER=>CX outer H s E e' ER) s'
theorem VS{sc:Scope}{n:Nat}{x:Str}(h:sc.names.lookup x=some .cell):∃ c,(cellsFrom n sc.names []).lookup x=some c:=by have q:=PySem.W.cellsFrom_some sc.names n [] (.inl h);exact Option.isSome_iff_exists.mp q
theorem cg'{CX:CL}{P:dz}{w:dA}{K:aI}{mg:Str->Option ah}{base:cS}{N ps:List Str}{qual:Str}{scope:Scope}{f:ag}{cd:ah}{A:eJ}{outer:List Env}{s s1:aE}{H:Hp}{E:XK}{us:List ah}{vs:List V}(S:HG N ps scope) (hd:A.handled=none) (e0:PX P w K mg base A outer s H) (hl:vs.length=ps.length) (r:Vals vs us)(x:InCallC s s.heap.objs.size (bindL (k7 qual scope s.heap.objs.size f cd).kindOf (ps.zip us) λ_=>none) (cellsFrom (s.heap.objs.size+1) scope.names []) (bindC (k7 qual scope s.heap.objs.size f cd).kindOf (ps.zip us) λ_=>none) s1) :
  Inv (pf CX P w K mg base N qual scope f cd A outer s H E) [] (start N vs) H s1:=by
 have hU:ps.length<=N.length:=by have:=congrArg List.length S.pre;rw[ly] at this;lia
 obtain⟨h1,tk,rfl,hk⟩:=x.done;have ND:∀ b:ag,b∉(pf CX P w K mg base N qual scope f cd A outer s H E).ex:=λb z=>absurd (show b∈([]:List ag) from z) (by simp);refine⟨⟨e0.mod,S.kind,rfl,rfl,de _,λy z c h1 h2=>?_,λy hy=>?_,λy c _ h=>?_,λ_=>hd,Around.frames_deeper e0.frames,.inr ⟨rfl,rfl⟩,λb z=>absurd z (ND b),e0.bs,e0.uS,λb _ _=>ND b,λb z=>absurd z (ND b),e0.sf,e0.yT⟩,
  rfl,e0.bare,Un.kept hk,⟨_,x.toInCall.ns,λi y v h1 h2 h3=>?_⟩,λy c h=>⟨_,x.cell y c h⟩,e0.bT.fresh (de _),λy c h=>?_,λp hp=>absurd (show p∈([]:List (ag × Obj)) from hp) (by simp),e0.bT.kept hk,?_⟩
 ·exact name_of_addr x.apart (PySem.mem_of_lookup h1) (PySem.mem_of_lookup h2)
 ·have hy:scope.names.lookup y=some .cell\/scope.names.lookup y=some .free:=hy;rcases hy with hy|hy
  ·exact VS hy
  ·exact absurd rfl (S.cf' _ (PySem.mem_of_lookup hy))
 ·exact oP (x.above y c (PySem.mem_of_lookup h))
 ·have hi:i<vs.length:=by
   unfold start at h2;by_cases hi:i<vs.length
   ·exact hi
   ·rw[D8 (by simpa using hi)] at h2;rw[RC] at h2;split at h2<;>cases h2
  have ha:vs[i]? = some v:=by
   unfold start at h2;rw[MV (by simpa using hi),qa] at h2
   cases e:vs[i]? with
   |none=>rw[e] at h2;cases h2
   |some a=>rw[e] at h2;cases h2;rfl
  obtain⟨u,hu,rv⟩:=r.get ha;have hp:ps[i]? = some y:=by rw[<- S.pre,List.getElem?_take_of_lt (by lia)];exact h1
  have VW:ps.Nodup:=by rw[<- S.pre];exact S.nd.sublist (List.take_sublist _ _)
  refine⟨u,rv,?_⟩;rcases S.par y (vE hp) with k|k
  ·exact .inl ⟨k,VQ VW hp hu k⟩
  ·obtain⟨c,e⟩:=VS (n:=s.heap.objs.size+1) k;refine .inr ⟨.inl k,c,e,?_⟩;have q:=x.cell y c e;rw[VR VW hp hu (by show scope.names.lookup y≠_;rw[k];decide)] at q;exact q
 ·exact e0.bT.fresh (oP (x.above y c (PySem.mem_of_lookup h)))
 ·unfold start;show _=N.length;rw[ny,dn,RD];lia
theorem VX{P:dz}{K:aI}{dV kV doc pm dr ct oc:ah}{N ps:List Str} (lk:K.lookup f=some ⟨oc,od,.func (ui name qual params body scope dV kV doc pm an dr ct),y3⟩) (qh:KW K dr qual=true) (S:HG N ps scope)(len:∀ vs H Q E,sp vs H Q E->vs.length=ps.length)(y6:∀ (A:eJ) (outer:List Env) (s:aE) (H:Hp) (vs:List V) (Q:VK) (E:XK),ke k (A.deeper (k7 qual scope s.heap.objs.size f dr))->sp vs H Q E ->
   ∃ t,mP (pf CX P w K mg base N qual scope f dr A outer s H E) body t/\t { nx:=λ_ H'=>Q .non H',rt:=Q } (start N vs) H) :
  tf P w K mg base CX (k+1) f (ui name qual params body scope dV kV doc pm an dr ct) ps sp:=by
 refine⟨len,λA outer s H args us vs Q E hr e0 hb r A2=>?_⟩;have hl:=len _ _ _ _ A2;have KX:K.In s.heap:=e0.mod.Nn.keeps λb o e=>(e0.bs b o e).1;have lim:s.heap.NoLimit:=e0.mod.nolimit.keeps λb o e=>(e0.bs b o e).1;have ch':∀ y∈ps.zip us,scope.names.lookup y.1=some .local\/(scope.names.lookup y.1=some .cell/\((cellsFrom (s.heap.objs.size+1) scope.names []).lookup y.1).isSome=true):=λ⟨n,v⟩ hy=>by
  rcases S.par n (List.of_mem_zip hy).1 with q|q
  ·exact .inl q
  ·exact .inr ⟨q,PySem.W.cellsFrom_some _ _ _ (.inl q)⟩
 refine codeAny_call_function hr.depth (KX _ _ lk) rfl S.co S.gen rfl (PySem.W.codeRec_of KX qh) (hb _ _ _ _ ?_);refine wpAny_newFunctionEnv_cells S.kind ch' λenv he s1 x=>?_;subst he;refine⟨lim.keeps x.toInCall.keep,codeAny_func ?_⟩;obtain⟨t,ht,hq⟩:=y6 A outer s H vs Q E (hr.deeper _) A2;have I:Inv (pf CX P w K mg base N qual scope f dr A outer s H E) [] (start N vs) H s1:=cg' S hr.hd e0 hl r x;refine oD (ht [] s1 (start N vs) H _ I hq) (λfl s' hs=>?_) λe s' hs=>hs;have fin:∀ {ck:St} {H':Hp} {v:V} {u:ah},Inv (pf CX P w K mg base N qual scope f dr A outer s H E) [] ck H' s'->RelV v u->Q v H'->CE outer P w H s Q u s' :=
  λ{ck H' v u} J rv q=>⟨v,H',J.os,J.bare,J.base,J.bT,rv,q⟩
 cases fl with
 |ret u =>obtain⟨v,ck,H',J,rv,q⟩:=hs;exact fin J rv q
 |next =>obtain⟨ck,H',J,q⟩:=hs;exact fin (v:=V.non) (u:=Value.none) J rfl q
 |brk =>obtain⟨_,_,_,q⟩:=hs;exact False.elim q
 |cont =>obtain⟨_,_,_,q⟩:=hs;exact False.elim q
section
variable {X:Cx}{x:Str}{p pos:Pos}{e:Expr}{es:List Expr}{t:TA}{id T:String}{r:List V->Hp->VK->Prop}
def Sz(r:List V->Hp->VK->Prop)(t:TA):TE:=λσ H Q=>t σ H λvs H1=>r vs H1 Q
theorem PY (hc:nK X (.builtin id) r) (hg:Gl X x) (hm:X.mg x=none) (hv:kN x=some (.builtin id)) (ha:PA X (e :: es) t) (hn:x ≠ "__name__" := by decide) (ic:(x == ("__debug__" : Str))=false:=by decide) (he:bS (e :: es) X.env=(false,c9 e X.env) :: bS es X.env:=by rfl) (hU:(iq pos (bS es X.env)).any (·.1)=false:=by rfl):PE X (.Call (.Name x p) (e :: es) [] pos) (Sz r t):=by
 intro pins s σ H Q I h;refine D4 (CH I hg hm hv ?_ hn ic);exact PyProof.Rows.callWith_builtin1 (dP (ha pos pins s σ H _ I h) λus s1 dS=>L2.hG dS λvs H1 I1 r1 q1=>hc pins s1 σ H1 vs us Q I1 r1 q1) he hU
theorem ci' (hc:nK X (.type T) r) (hg:Gl X x) (hm:X.mg x=none) (hv:kN x=some (.type T)) (ha:PA X (e :: es) t) (hn:x ≠ "__name__" := by decide) (ic:(x == ("__debug__" : Str))=false:=by decide) (he:bS (e :: es) X.env=(false,c9 e X.env) :: bS es X.env:=by rfl) (hU:(iq pos (bS es X.env)).any (·.1)=false:=by rfl):PE X (.Call (.Name x p) (e :: es) [] pos) (Sz r t):=by
 intro pins s σ H Q I h;refine D4 (CH I hg hm hv ?_ hn ic);exact PyProof.Rows.callWith_type1 (dP (ha pos pins s σ H _ I h) λus s1 dS=>L2.hG dS λvs H1 I1 r1 q1=>hc pins s1 σ H1 vs us Q I1 r1 q1) he hU
end
end L2
namespace HT
open PySem PyProof.Rows
section
open PySem.SeqAt
open PySem.AutoSeq1 (wpAny_loadPart')
open PySem.MeetsSeq PySem.MeetsSeq2 PySem.MeetsSeq3
end
section
variable {prog:dz}{w:dA}{A:eJ}{E:ah->aE->Prop}{s:aE}
theorem cj'(ht:IsTup s.heap t vs.toArray)(hb:IsTup s.heap b ws.toArray)(hv:vs≠[])(h1:ws=[]->Q (.ref t) s) (h2:ws≠[]->Q (.ref s.heap.objs.size) { s with heap:=s.heap.push { cls:=.type "tuple",data:=.seq (vs++ws).toArray } }) (hsz:vs.length+ws.length<=bX):aT (aS prog w) A (p9 .Add (.ref t) (.ref b)) Q E s:=by
 obtain⟨⟨cls,dd,data,sl⟩,ho,hc,n,hd⟩:=id ht;obtain⟨⟨ck',PZ,data2,P0⟩,wa,NF,n2,hd2⟩:=id hb;simp only at hc hd NF hd2;subst hc hd NF hd2;have e:vs.toArray++ws.toArray=(vs++ws).toArray:=by simp
 by_cases hw:ws=[]
 ·exact concat_meets ⟨_,ho,rfl⟩ ⟨_,wa,rfl⟩ noFill_tuple_add seq_tuple_add PySem.F.slot_tuple_add PySem.F.entry_tuple_add (PySem.F.args_tuple_add_2 _ _) (tuple_addW1 t b vs.toArray ws.toArray n n2 dd PZ sl P0 (by simpa using hv) (by simp[hw])) ⟨ho,wa,h1 hw⟩
 ·refine concat_meets ⟨_,ho,rfl⟩ ⟨_,wa,rfl⟩ noFill_tuple_add seq_tuple_add PySem.F.slot_tuple_add PySem.F.entry_tuple_add (PySem.F.args_tuple_add_2 _ _) (tuple_addW2 t b vs.toArray ws.toArray n n2 dd PZ sl P0 (by simpa using hv) (by simpa using hw) (by rw[iA,iA];exact hsz)) ⟨ho,wa,?_⟩
  rw[e];exact h2 hw
def cv(n d:Nat):Option Int->Nat
 |none=>d
 |some v=>if v<0 then (v+(n:Int)).toNat else min v.toNat n
theorem cl'(n d:Nat)(hd:d<=n)(o:Option Int):cv n d o<=n:=by
 cases o with
 |none=>exact hd
 |some v =>
  show(if v<0 then (v+(n:Int)).toNat else min v.toNat n)<=n;by_cases hv:v<0
  ·rw[if_pos hv];lia
  ·rw[if_neg hv];exact Nat.min_le_right _ _
theorem VY(v:Int)(n d:Nat):(if v<0 then max (v+(n:Int)) 0 else min v (n:Int))=((cv n d (some v):Nat):Int):=by
 show(if v<0 then max (v+(n:Int)) 0 else min v (n:Int))=(((if v<0 then (v+(n:Int)).toNat else min v.toNat n):Nat):Int)
 by_cases hv:v<0
 ·simp only[if_pos hv];lia
 ·simp only[if_neg hv];lia
theorem cm'(lo hi:Option Int)(n:Nat):Builtin.Slice.sliceAdjust lo hi 1 (n:Int)=(((cv n 0 lo:Nat):Int),((cv n n hi:Nat):Int)):=by
 have h1:¬ ((1:Int)<0):=by decide
 unfold Builtin.Slice.sliceAdjust;simp only[h1,if_false];refine Prod.ext ?_ ?_
 ·cases lo with
  |none=>rfl
  |some v=>exact VY v n 0
 ·cases hi with
  |none=>rfl
  |some v=>exact VY v n n
theorem cn'(i j:Nat):Builtin.Slice.slicePlaces (i:Int) (j:Int) 1=j-i:=by
 unfold Builtin.Slice.slicePlaces;have h1:(1:Int)>0:=by exact xB _
 simp only[h1,if_true,Int.ediv_one];split<;>lia
theorem VZ(p:IsPart v o)(h:Q o s):aT (aS prog w) A (Builtin.Slice.slicePartIndex v) Q E s:=by
 cases p with
 |none=>exact slicePart_none h
 |int i t=>exact slicePart_int h
theorem co'{sl:ag}{vl vu:ah}{lo hi:Option Int}{n:Nat}{Q:Int × Int × Nat->aE->Prop}(hs:s.heap.IsSliceOf sl vl vu .none)(pl:IsPart vl lo)(pu:IsPart vu hi)(h:Q (((cv n 0 lo:Nat):Int),1,cv n n hi-cv n 0 lo) s):aT (aS prog w) A (Builtin.Slice.sliceApplied (.ref sl) (pure (n:Int))) Q E s:=by
 obtain⟨os,NH,xI,P1⟩:=id hs;unfold Builtin.Slice.sliceApplied Builtin.Slice.sliceFields;refine ay (ay (FP NH P1 (x:=vl) rfl (ay (FP NH P1 (x:=vu) rfl (ay (FP NH P1 (x:=.none) rfl (bI ?_)))))));refine ay (slicePart_none ?_);show aT _ _ (if ((1:Int) == 0)=true then _ else _) _ _ s;rw[if_neg (by decide)];refine ay (VZ pl (ay (VZ pu (ay (bI ?_)))));show aT _ _ (match Builtin.Slice.sliceAdjust lo hi 1 (n:Int) with|(lo,hi)=>pure (lo,(1:Int),Builtin.Slice.slicePlaces lo hi 1)) _ _ s;rw[cm' lo hi n];show aT _ _ (pure (((cv n 0 lo:Nat):Int),(1:Int),Builtin.Slice.slicePlaces ((cv n 0 lo:Nat):Int) ((cv n n hi:Nat):Int) 1)) _ _ s;rw[cn'];exact bI h
theorem cp'(xs:Array ah)(i k:Nat):((List.range k).filterMap λ(m:Nat)=>xs[((i:Int)+(m:Int)*1).toNat]?).toArray=((xs.toList.drop i).take k).toArray:=by
 have e:(λ(m:Nat)=>xs[((i:Int)+(m:Int)*1).toNat]?)=λm=>xs[i+m]? := by
  funext m;have:((i:Int)+(m:Int)*1).toNat=i+m:=by exact(GH ..).symm
  rw[this]
 rw[e];have:=pick_run xs i k;rw[RN] at this;have e2:((λx=>xs[x]?) ∘ λx=>i+x)=λm=>xs[i+m]? := rfl;rw[e2] at this;rw[this]
theorem cq'{lo hi:Option Int}(ht:IsTup s.heap t items)(hs:s.heap.IsSliceOf sl vl vu .none)(pl:IsPart vl lo)(pu:IsPart vu hi)(hw:¬ (cv items.size 0 lo=0/\cv items.size items.size hi=items.size))(h:Q (.ref s.heap.objs.size) { s with heap:=s.heap.push { cls:=.type "tuple",data:=.seq ((items.toList.drop (cv items.size 0 lo)).take (cv items.size items.size hi-cv items.size 0 lo)).toArray } }) (hsz:items.size<=bX):aT (aS prog w) A (getItem (.ref t) (.ref sl)) Q E s:=by
 have P2:sizeOk (.seq ((items.toList.drop (cv items.size 0 lo)).take (cv items.size items.size hi-cv items.size 0 lo)).toArray):=by show((items.toList.drop (cv items.size 0 lo)).take (cv items.size items.size hi-cv items.size 0 lo)).toArray.size<=bX;rw[iA,ly,xt,xv];lia
 have hj:cv items.size items.size hi<=items.size:=cl' _ _ (de _) hi;obtain⟨os,NH,xI,P1⟩:=id hs;have hTs:s.TypeIs (.ref sl) "slice" := ⟨os,NH,xI⟩
 unfold getItem;try with_reducible refine xl ?_
 first|refine ay (bI ?_)|skip
 refine ay (wpAny_sequenceKey ht.typeIs (by decide) ?_);refine ay (MR (name:=Str.ofString "__getitem__") ht.typeIs PyProof.Rows.slot_tuple_getitem (D5 PyProof.Rows.slot_tuple_getitem ht.typeIs entry_tuple_getitem ?_ (args_tuple_getitem _ _)))
 show aT _ _ (Builtin.Tuple.tupleItemsOf (.ref t) >>= _) _ _ s;refine ay (tupleItemsOf_ ht ?_);refine ay (wpAny_typeOf hTs ?_);rw[if_pos (by decide)];refine ay (co' hs pl pu ?_);have A3:¬ ((((cv items.size 0 lo:Nat):Int) == 0 && (1:Int) == 1 && (cv items.size items.size hi-cv items.size 0 lo) == items.size)=true):=by intro q;rw[ja,ja] at q;have q1:((cv items.size 0 lo:Nat):Int)=0:=eq_of_beq q.1.1;have q2:cv items.size items.size hi-cv items.size 0 lo=items.size:=eq_of_beq q.2;exact hw ⟨by lia,by lia⟩
 show aT _ _ (if (((cv items.size 0 lo:Nat):Int) == 0 && (1:Int) == 1 && (cv items.size items.size hi-cv items.size 0 lo) == items.size)=true then _ else _) _ _ s;rw[if_neg A3,cp'];first
  |exact ay (m:=Builtin.Tuple.tupleExact _) (rS (bI ⟨_,rfl,bI h⟩) P2)
  |exact ay (m:=Builtin.Tuple.tupleExact _) (rS (ay (bI (bI ⟨_,rfl,bI h⟩))) P2)
  |exact ay (ay (m:=Builtin.Tuple.tupleExact _) (rS (bI (bI ⟨_,rfl,bI h⟩)) P2))
  |exact ay (ay (m:=Builtin.Tuple.tupleExact _) (rS (bI ⟨_,rfl,bI h⟩) P2))
end
end HT
namespace L2
open PySem PySem.Spec PyProof.Rows
abbrev TO:=St->Hp->(Option Int->Hp->Prop)->Prop
def PO(X:Cx)(e:Option Expr)(t:TO):Prop :=
 ∀ (pins:List (ag × Obj)) (s:aE) (σ:St) (H:Hp) (Q:Option Int->Hp->Prop),Inv X pins σ H s->t σ H Q ->
  aT (aS X.prog X.w) X.A (evalPart e X.env) (λu s'=>∃ o H',Inv X pins σ H' s'/\IsPart u o/\Q o H') X.xe s
def cs':TO:=λ_ H Q=>Q none H
def ct'(t:TE):TO:=λσ H Q=>t σ H λx H1=>∃ i,x=.int i/\Q (some i) H1
section
variable {X:Cx}{e:Expr}{te:TE}{lo hi:Option Expr}{tl th:TO}{pos p2:Pos}
theorem cu':PO X none cs':=by intro pins s σ H Q I h;rw[evalPart_none];exact bI ⟨none,H,I,.none,h⟩
theorem cv'(h:PE X e te):PO X (some e) (ct' te):=by intro pins s σ H Q I hw;rw[evalPart_some];refine dP (h pins s σ H _ I hw) λu s1 dS=>L2.hG dS λx H1 I1 r1 q1=>?_;obtain⟨i,rfl,q⟩:=q1;obtain⟨t,rfl⟩:=r1;exact⟨some i,H1,I1,.int i t,q⟩
def L6(X:Cx)(r:V->Option Int->Option Int->Hp->VK->Prop):Prop :=
 ∀ (pins:List (ag × Obj)) (s:aE) (σ:St) (H:Hp) (x:V) (v vl vu:ah) (lo hi:Option Int) (sl:ag) (Q:VK),Inv X pins σ H s->RelV x v->s.heap.IsSliceOf sl vl vu .none->IsPart vl lo->IsPart vu hi->r x lo hi H Q ->
  ∃ T id,typeLookup (.type T) "__getitem__" = pure (some (.builtin id))/\s.TypeIs v T/\aT (aS X.prog X.w) X.A (getItem v (.ref sl)) (EP X pins σ Q) X.xe s
def tSl(r:V->Option Int->Option Int->Hp->VK->Prop)(te:TE)(tl th:TO):TE:=λσ H Q=>te σ H λx H1=>tl σ H1 λl H2=>th σ H2 λu H3=>r x l u H3 Q
theorem cx'(hr:L6 X r)(he:PE X e te)(hl:PO X lo tl)(hu:PO X hi th):PE X (.Subscript e (.Slice lo hi none p2) pos) (tSl r te tl th):=by intro pins s σ H Q I h;refine Subscript_ (dP (he pins s σ H _ I h) λv s1 dS=>L2.hG dS λx H1 I1 r1 q1=>?_);refine wpAny_Slice (dP (hl pins s1 σ H1 _ I1 q1) λvl s2 dS=>L2.hG dS λl H2 I2 pl q2=>dP (hu pins s2 σ H2 _ I2 q2) λvu s3 dS=>L2.hG dS λu H3 I3 pu q3=>?_);rw[evalPart_none];refine bI ?_;have I4:Inv X pins σ H3 { s3 with heap:=s3.heap.push { cls:=.type "slice",data:=.fields #[vl,vu,.none] } }:=I3.kept (t':=s3.toks) λb ob q=>fI _ q;obtain⟨T,id,hT,ht,hg⟩:=hr pins { s3 with heap:=s3.heap.push { cls:=.type "slice",data:=.fields #[vl,vu,.none] } } σ H3 x v vl vu l u s3.heap.objs.size Q I4 r1 (Heap.IsSliceOf.new ..) pl pu q3;show aT (aS X.prog X.w) X.A (subscriptTail e (.Slice lo hi none p2) v (.ref s3.heap.objs.size)) (EP X pins σ Q) X.xe { s3 with heap:=s3.heap.push { cls:=.type "slice",data:=.fields #[vl,vu,.none] } };exact tail_any (ops:=[.ref s3.heap.objs.size,v]) ht hT hg (by with_unfolding_all rfl)
def CM(xs:List V)(lo hi:Option Int):List V:=(xs.drop (HT.cv xs.length 0 lo)).take (HT.cv xs.length xs.length hi-HT.cv xs.length 0 lo)
theorem V0(xs:List V)(lo hi:Option Int):(CM xs lo hi).length<=xs.length:=by unfold CM;rw[ly,xt];lia
def V1(K:aI):V->Option Int->Option Int->Hp->VK->Prop:=λx lo hi H Q=>∃ a xs,x=.ref a/\qk K H a xs /\
 ¬ (HT.cv xs.length 0 lo=0/\HT.cv xs.length xs.length hi=xs.length)/\∀ p,H p=none->Q (.ref p) (upd H p (.tup (CM xs lo hi)))
theorem cy':L6 X (V1 X.K):=by
 intro pins s σ H x v vl vu lo hi sl Q I rx hs pl pu h;obtain⟨a,xs,rfl,hx,hw,q⟩:=h;cases rx;obtain⟨its,r,ht,hz⟩:=I.tuple hx;have hlen:its.toArray.size=xs.length:=by rw[iA];exact r.length.symm
 refine⟨"tuple",_,PyProof.Rows.slot_tuple_getitem.lookup,ht.typeIs,?_⟩;refine HT.cq' ht hs pl pu (by rw[hlen];exact hw) ?_ (by rw[hlen];exact hz);rw[hlen];refine⟨.ref s.heap.objs.size,_,I.laid (t':=s.toks) (o:=.tup (CM xs lo hi)) (λb ob q=>fI _ q) (de _) ?_,rfl,q _ (I.bT.fresh (de _))⟩;exact⟨i9 (V0 xs lo hi) hz,_,(r.drop (HT.cv xs.length 0 lo)).take (HT.cv xs.length xs.length hi-HT.cv xs.length 0 lo),IsTup.new _ _⟩
def SD(K:aI):R2:=λx y H Q=>∃ a b xs ys,x=.ref a/\y=.ref b/\qk K H a xs/\qk K H b ys/\xs≠[]/\xs.length+ys.length<=bX /\ (ys=[]->Q (.ref a) H)/\(ys≠[]->∀ p,H p=none->Q (.ref p) (upd H p (.tup (xs++ys))))
theorem Vals.SF(r:Vals xs us):us=[]↔xs=[]:=by
 cases r with
 |nil=>simp
 |cons _ _=>simp
theorem cz':ez X (p9 .Add) (SD X.K):=by intro pins s σ H x y v u Q I rx ry h;obtain⟨a,b,xs,ys,rfl,rfl,ha,hb,hx,hz,q1,q2⟩:=h;cases rx;cases ry;obtain⟨its,r1,p1,_⟩:=I.tuple ha;obtain⟨CY,r2,p2,_⟩:=I.tuple hb;refine HT.cj' p1 p2 (λz=>hx (r1.SF.mp z)) (λz=>⟨.ref a,H,I,rfl,q1 (r2.SF.mp z)⟩) (λz=>?_) (by rw[<- r1.length,<- r2.length];exact hz);refine⟨.ref s.heap.objs.size,_,I.laid (t':=s.toks) (o:=.tup (xs++ys)) (λb ob q=>fI _ q) (de _) ?_,rfl,q2 (λw=>z (r2.SF.mpr w)) _ (I.bT.fresh (de _))⟩;exact⟨by rw[ny];exact hz,_,r1.append r2,IsTup.new _ _⟩
end
def ti(n:Nat)(i:Int):Option Nat:=if 0<=i then (if i<n then some i.toNat else none) else if -(n:Int)<=i then some (i+n).toNat else none
def fT{α:Type}(xs:List α)(i:Int):Option α:=(ti xs.length i).bind λj=>xs[j]?
theorem cA'(h:ti n i=some j):seqIndex? i n=some j/\j<n/\-(n:Int)<=i/\i<n:=by
 unfold ti at h;by_cases h0:0<=i
 ·rw[if_pos h0] at h;by_cases h1:i<n
  ·rw[if_pos h1] at h;have e:i.toNat=j:=Option.some.inj h;exact⟨by rw[seqIndex_of h0 h1,e],by lia,by lia,h1⟩
  ·rw[if_neg h1] at h;cases h
 ·rw[if_neg h0] at h;by_cases h1:-(n:Int)<=i
  ·rw[if_pos h1] at h;have e:(i+n).toNat=j:=Option.some.inj h;exact⟨by rw[seqIndex_neg (by lia) h1,e],by lia,h1,by lia⟩
  ·rw[if_neg h1] at h;cases h
theorem SG{α:Type}{xs:List α}{i:Int}{v:α}(h:fT xs i=some v):∃ j,seqIndex? i xs.length=some j/\xs[j]? = some v/\j<xs.length/\-(xs.length:Int)<=i/\i<xs.length:=by
 unfold fT at h
 cases e:ti xs.length i with
 |none=>rw[e] at h;cases h
 |some j =>rw[e] at h;obtain⟨h1,h2,h3,h4⟩:=cA' e;exact⟨j,h1,h,h2,h3,h4⟩
theorem A4{α:Type}{xs:List α}{j:Nat}{v:α}(h:xs[j]? = some v):fT xs (j:Int)=some v:=by
 have hj:j<xs.length:=(nv.mp h).1;have e:ti xs.length (j:Int)=some j:=by unfold ti;rw[if_pos (by walk_at "s1"),if_pos (by lia)];simp
 unfold fT;rw[e];exact h
def SJ(b:Expr):Prop:=∀ o i,subscripted b false o i=operate [o,i] (getItem o i)
def xS(X:Cx)(r:R2):Prop :=
 ∀ (value slice:Expr) (pins:List (ag × Obj)) (s:aE) (σ:St) (H:Hp) (x y:V) (v u:ah) (Q:VK),Inv X pins σ H s->RelV x v->RelV y u->r x y H Q ->
  subscripted slice false v u=operate [v,u] (getItem v u)->aT (aS X.prog X.w) X.A (subscriptTail value slice v u) (EP X pins σ Q) X.xe s
def P4(X:Cx)(id:String)(r:V->List V->Hp->VK->Prop):Prop :=
 ∀ (pins:List (ag × Obj)) (s:aE) (σ:St) (H:Hp) (x:V) (xs:List V) (v:ah) (us:List ah) (Q:VK),Inv X pins σ H s->RelV x v->Vals xs us->r x xs H Q ->
  aT (aS X.prog X.w) X.A (call (.builtin id) (v :: us)) (EP X pins σ Q) X.xe s
section
variable {X:Cx}{a b:Expr}{ta tb:TE}{pos:Pos}
theorem xS.or(h:xS X r)(h':xS X r'):xS X (λx y H Q=>r x y H Q\/r' x y H Q):=by
 intro value slice pins s σ H x y v u Q I rx ry q hs;rcases q with q|q
 ·exact h value slice pins s σ H x y v u Q I rx ry q hs
 ·exact h' value slice pins s σ H x y v u Q I rx ry q hs
theorem V2{r:R2}(hr:xS X r)(ha:PE X a ta)(hb:PE X b tb)(hs:SJ b):PE X (.Subscript a b pos) (Nz r ta tb):=by intro pins s σ H Q I h;exact Subscript_ (Sq ha hb I h λv u s2 x y H2 I2 rx ry q=>hr a b pins s2 σ H2 x y v u Q I2 rx ry q (hs _ _))
def V3(K:aI):R2:=λx y H Q=>∃ p xs i v,x=.ref p/\y=.int i/\fF K H p xs/\fT xs i=some v/\Q v H
def V4(K:aI):R2:=λx y H Q=>∃ p xs i v,x=.ref p/\y=.int i/\qk K H p xs/\fT xs i=some v/\Q v H
def V5:R2:=λx y H Q=>∃ z i c,x=.str z/\y=.int i/\z.length<=bX/\fT z.cps.toList i=some c/\Q (.str ⟨#[c]⟩) H
theorem cB':xS X (V3 X.K):=by
 intro value slice pins s σ H x y v u Q I rx ry h hs;obtain⟨p,xs,i,z,rfl,rfl,hq,he,q⟩:=h;cases rx;obtain⟨t,rfl⟩:=ry;obtain⟨its,r,pl,hz⟩:=I.list hq;obtain⟨j,h1,h2,h3,h4,h5⟩:=SG he;obtain⟨w,ew,mS⟩:=r.get h2;have hl:=r.length;have hn:=PN;have fin:EP X pins σ Q w s:=⟨z,H,I,mS,q⟩
 by_cases h0:0<=i
 ·have hj:i.toNat=j:=by rw[seqIndex_of h0 h5] at h1;exact Option.some.inj h1
  exact item_listR pl.isList h0 (by lia) (by rw[hj];simpa using ew) fin hs
 ·have hj:(i+(its.toArray.size:Int)).toNat=j:=by rw[seqIndex_neg (by exact Int.not_le.mp ‹_›) h4] at h1;rw[iA,<- hl];exact Option.some.inj h1
  exact subscriptTail_builtinR (x:=w) pl.isList.typeIs slot_list_getitem.lookup (wpAny_getItem_list_neg (Q:=λr s'=>r=w/\EP X pins σ Q r s') pl.isList (by exact Int.not_le.mp ‹_›) (by rw[iA]<;>lia) (by lia) (by rw[hj];simpa using ew) ⟨rfl,fin⟩) hs
theorem cC':xS X (V4 X.K):=by
 intro value slice pins s σ H x y v u Q I rx ry h hs;obtain⟨p,xs,i,z,rfl,rfl,hq,he,q⟩:=h;cases rx;obtain⟨t,rfl⟩:=ry;obtain⟨its,r,pl,hz⟩:=I.tuple hq;obtain⟨j,h1,h2,h3,h4,h5⟩:=SG he;obtain⟨w,ew,mS⟩:=r.get h2;have hl:=r.length;have hn:=PN;have fin:EP X pins σ Q w s:=⟨z,H,I,mS,q⟩
 exact subscriptTail_builtinR (x:=w) pl.typeIs slot_tuple_getitem.lookup (getItem_tuple (j:=j) (Q:=λr s'=>r=w/\EP X pins σ Q r s') pl (by lia) (by lia) (by rw[iA,<- hl];exact h1) (by simpa using ew) ⟨rfl,fin⟩) hs
theorem cD':xS X V5:=by
 intro value slice pins s σ H x y v u Q I rx ry h hs;obtain⟨z,i,c,rfl,rfl,hz,he,q⟩:=h;obtain⟨t,rfl⟩:=rx;obtain⟨t',rfl⟩:=ry;obtain⟨j,h1,h2,h3,h4,h5⟩:=SG he;have hl:z.cps.toList.length=z.length:=by simp[Str.length]
 rw[hl] at h1 h4 h5;have hn:=PN;exact tail_any (typeIs_str s z t) slot_str_getitem.lookup (getItem_str (c:=c) (by
  have e1:decide (i < -(2 ^ 63:Int))=false:=decide_eq_false (by lia);have e2:decide (i >= 2 ^ 63)=false:=decide_eq_false (by lia);rw[e1,e2,Bool.or_false]) (by rw[h1];simpa using h2) ⟨.str ⟨#[c]⟩,H,I.tok _,⟨_,rfl⟩,q⟩) hs
def rIx(K:aI):R2:=λx y H Q=>V3 K x y H Q\/V4 K x y H Q\/V5 x y H Q
theorem cF':xS X (rIx X.K):=cB'.or (cC'.or cD')
theorem cG'(lo hi:Option Int)(n:Nat):(FR lo hi none n).1=((HT.cv n 0 lo:Nat):Int)/\(FR lo hi none n).2.1=((HT.cv n n hi:Nat):Int)/\(FR lo hi none n).2.2=1:=by
 refine⟨?_,?_,rfl⟩
 ·cases lo with
  |none=>simp[FR,HT.cv]
  |some i =>
   simp only[FR,HT.cv,R9,show(1:Int)>0 by decide,if_true];by_cases h:i<0
   ·simp only[h,if_true]<;>lia
   ·simp only[h,if_false]<;>lia
 ·cases hi with
  |none=>simp[FR,HT.cv]
  |some i =>
   simp only[FR,HT.cv,R9,show(1:Int)>0 by decide,if_true];by_cases h:i<0
   ·simp only[h,if_true]<;>lia
   ·simp only[h,if_false]<;>lia
theorem cH'(its:List ah)(lo hi:Option Int):slicePick its.toArray lo hi none=((its.drop (HT.cv its.length 0 lo)).take (HT.cv its.length its.length hi-HT.cv its.length 0 lo)).toArray:=by obtain⟨h1,h2,h3⟩:=cG' lo hi its.toArray.size;unfold slicePick;rw[h1,h2,h3];simp only[sliceRange_one,pick_run,iA]<;>rfl
def cI'(K:aI):V->Option Int->Option Int->Hp->VK->Prop:=λx lo hi H Q=>∃ a xs,x=.ref a/\fF K H a xs/\∀ p,H p=none->Q (.ref p) (upd H p (.lst (CM xs lo hi)))
theorem cJ':L6 X (cI' X.K):=by intro pins s σ H x v vl vu lo hi sl Q I rx hs pl pu h;obtain⟨a,xs,rfl,hx,q⟩:=h;cases rx;obtain⟨its,r,ht,hz⟩:=I.list hx;have hlen:=r.length;refine⟨"list",_,slot_list_getitem.lookup,ht.isList.typeIs,?_⟩;refine wpAny_getItem_list_slice ht.isList hs pl pu .none (by simp) ?_ (by rw[iA]<;>lia);rw[cH',<- hlen];refine⟨.ref s.heap.objs.size,_,I.laid (t':=s.toks) (o:=.lst (CM xs lo hi)) (λb ob q=>fI _ q) (de _) ?_,rfl,q _ (I.bT.fresh (de _))⟩;exact⟨i9 (V0 xs lo hi) hz,_,0,(r.drop (HT.cv xs.length 0 lo)).take (HT.cv xs.length xs.length hi-HT.cv xs.length 0 lo),kF _ rfl⟩
def A5:V->Bool
 |.non=>true
 |.bl _=>true
 |.int _=>true
 |.str _=>true
 |_=>false
def Dp:V->V->Bool
 |.non,.non=>true
 |.bl a,.bl b=>a == b
 |.bl a,.int b=>(if a then 1 else 0) == b
 |.int a,.bl b=>a == (if b then 1 else 0)
 |.int a,.int b=>a == b
 |.str a,.str b=>a == b
 |_,_=>false
theorem cK'(ry:RelV y u)(rx:RelV x v)(fy:A5 y=true)(fx:A5 x=true):SeqAt.EqAt A s u v (Dp y x):=by
 cases y with
 |non =>
  cases ry
  cases x with
  |non=>cases rx;exact SeqAt.EqAt.same _
  |bl b=>cases rx;exact SeqAt.EqAt.none_bool b
  |int b=>obtain⟨t,rfl⟩:=rx;exact SeqAt.EqAt.none_int b t
  |str b=>obtain⟨t,rfl⟩:=rx;exact SeqAt.EqAt.none_str b t
  |_=>exact absurd (show false=true from fx) kg
 |bl a =>
  cases ry
  cases x with
  |non=>cases rx;exact SeqAt.EqAt.bool_none a
  |bl b=>cases rx;exact SeqAt.EqAt.bool_bool a b
  |int b=>obtain⟨t,rfl⟩:=rx;exact SeqAt.EqAt.bool_int a b t
  |str b=>obtain⟨t,rfl⟩:=rx;exact SeqAt.EqAt.bool_str a b t
  |_=>exact absurd (show false=true from fx) kg
 |int a =>
  obtain⟨t',rfl⟩:=ry
  cases x with
  |non=>cases rx;exact SeqAt.EqAt.int_none a t'
  |bl b=>cases rx;exact SeqAt.EqAt.int_bool a t' b
  |int b=>obtain⟨t,rfl⟩:=rx;exact SeqAt.EqAt.int_int a t' b t
  |str b=>obtain⟨t,rfl⟩:=rx;exact SeqAt.EqAt.int_str a t' b t
  |_=>exact absurd (show false=true from fx) kg
 |str a =>
  obtain⟨t',rfl⟩:=ry
  cases x with
  |non=>cases rx;exact SeqAt.EqAt.str_none a t'
  |bl b=>cases rx;exact SeqAt.EqAt.str_bool a t' b
  |int b=>obtain⟨t,rfl⟩:=rx;exact SeqAt.EqAt.str_int a t' b t
  |str b=>obtain⟨t,rfl⟩:=rx;exact SeqAt.EqAt.str_str a t' b t
  |_=>exact absurd (show false=true from fx) kg
 |_=>exact absurd (show false=true from fy) kg
def tj(x:V)(u:ah):Bool:=match u with
 |.none=>Dp .non x
 |.bool b=>Dp (.bl b) x
 |.int i _=>Dp (.int i) x
 |.str z _=>Dp (.str z) x
 |_=>false
theorem V6(r:RelV y u)(f:A5 y=true):tj x u=Dp y x:=by
 cases y with
 |non=>cases r;rfl
 |bl b=>cases r;rfl
 |int i=>obtain⟨t,rfl⟩:=r;rfl
 |str z=>obtain⟨t,rfl⟩:=r;rfl
 |_=>exact absurd (show false=true from f) kg
theorem NJ:∀ {xs:List V} {us:List ah},Vals xs us->xs.all A5=true->us.any (tj x)=xs.any λy=>Dp y x
 |_,_,.nil,_=>rfl
 |y :: xs,u :: us,.cons r t,f=>by rw[r0,ja] at f;rw[B6,B6,V6 r f.1,NJ t f.2]
theorem NK(rx:RelV x v)(fx:A5 x=true):∀ {xs:List V} {us:List ah},Vals xs us->xs.all A5=true->∀ u∈us,SeqAt.EqAt A s u v (tj x u)
 |_,_,.nil,_=>λu hu=>by cases hu
 |y :: xs,u :: us,.cons r t,f=>λu' hu=>by
  rw[r0,ja] at f;rcases eM.mp hu with rfl|hu
  ·rw[V6 r f.1];exact cK' r rx f.1 fx
  ·exact NK rx fx t f.2 u' hu
def P5(x:V)(xs:List V):Bool:=xs.any λy=>Dp y x
def NM(K:aI)(neg:Bool):R2:=λx y H Q=>∃ p xs,y=.ref p/\(fF K H p xs\/qk K H p xs)/\A5 x=true/\xs.all A5=true/\Q (.bl (if neg then !P5 x xs else P5 x xs)) H
theorem cL':ez X (gS .In) (NM X.K false):=by
 intro pins s σ H x y v u Q I rx ry h;obtain⟨p,xs,rfl,hq,fx,fs,q⟩:=h;cases ry;rcases hq with hq|hq
 ·obtain⟨its,r,pl,hz⟩:=I.list hq;refine SeqAt.in_listAt (tj x) pl.isList (λw hw=>NK rx fx r fs w (by simpa using hw)) ⟨.bl _,H,I,rfl,?_⟩;rw[show its.toArray.any (tj x)=its.any (tj x) by simp,NJ r fs];exact q
 ·obtain⟨its,r,pl,hz⟩:=I.tuple hq;refine SeqAt.in_tupleAt (tj x) pl (λw hw=>NK rx fx r fs w (by simpa using hw)) ⟨.bl _,H,I,rfl,?_⟩;rw[show its.toArray.any (tj x)=its.any (tj x) by simp,NJ r fs];exact q
theorem cM':ez X (gS .NotIn) (NM X.K true):=by
 intro pins s σ H x y v u Q I rx ry h;obtain⟨p,xs,rfl,hq,fx,fs,q⟩:=h;cases ry;rcases hq with hq|hq
 ·obtain⟨its,r,pl,hz⟩:=I.list hq;refine SeqAt.notIn_listAt (tj x) pl.isList (λw hw=>NK rx fx r fs w (by simpa using hw)) ⟨.bl _,H,I,rfl,?_⟩;rw[show its.toArray.any (tj x)=its.any (tj x) by simp,NJ r fs];exact q
 ·obtain⟨its,r,pl,hz⟩:=I.tuple hq;refine SeqAt.notIn_tupleAt (tj x) pl (λw hw=>NK rx fx r fs w (by simpa using hw)) ⟨.bl _,H,I,rfl,?_⟩;rw[show its.toArray.any (tj x)=its.any (tj x) by simp,NJ r fs];exact q
theorem nK.or(h:nK X f r)(h':nK X f r'):nK X f (λxs H Q=>r xs H Q\/r' xs H Q):=by
 intro pins s σ H xs us Q I rs q;rcases q with q|q
 ·exact h pins s σ H xs us Q I rs q
 ·exact h' pins s σ H xs us Q I rs q
theorem cN':nK X (.type "list") (λxs H Q=>∃ p ys,xs=[.ref p]/\(fF X.K H p ys\/qk X.K H p ys)/\∀ l,H l=none->Q (.ref l) (upd H l (.lst ys))):=by
 intro pins s σ H xs us Q I r h;obtain⟨p,ys,rfl,hq,q⟩:=h;obtain⟨u,rfl,rx⟩:=vals1 r;cases rx;have fin:∀ (its:List ah),Vals ys its->ys.length<=bX->∀ (h':cS) (c':Nat),(∀ b o',s.heap.get? b=some o'->h'.get? b=some o') ->
   h'.get? s.heap.objs.size=some { cls:=.type "list",dict:=none,data:=.seq its.toArray c',slots:=#[] }->EP X pins σ Q (.ref s.heap.objs.size) { s with heap:=h' }:=λits r' hz h' c' kp e =>
  ⟨.ref s.heap.objs.size,_,I.laid (t':=s.toks) kp (de _) (show fS X.prog X.w _ h' _ (.lst ys) from⟨hz,its,c',r',e⟩),rfl,q _ (I.bT.fresh (de _))⟩
 rcases hq with hq|hq
 ·obtain⟨its,r',pl,hz⟩:=I.list hq;have hlen:=r'.length;obtain⟨o,ho,hc,n,hd⟩:=pl.isList;exact call_list_seq p (.inl rfl) ho hc hd (λh' c' kp e=>fin its r' hz h' c' kp e) (by simp only[iA]<;>lia)
 ·obtain⟨its,r',pl,hz⟩:=I.tuple hq;have hlen:=r'.length;obtain⟨o,ho,hc,n,hd⟩:=pl;exact call_list_seq p (.inr rfl) ho hc hd (λh' c' kp e=>fin its r' hz h' c' kp e) (by simp only[iA]<;>lia)
def SK(K:aI)(T:String)(x:V)(H:Hp):Prop:=match x with
 |.str _=>T = "str"
 |.int _=>T = "int"
 |.ref p=>(T = "list"/\∃ xs,fF K H p xs)\/(T = "tuple"/\∃ o,K.lookup p=some o/\o.cls=.type "tuple"/\o.dict=none) \/
   (T = "dict"/\((∃ ae,H p=some (.dK ae))\/∃ ae,H p=some (.dT ae)))\/(T = "set"/\∃ S n,H p=some (.set S n))
 |_=>False
theorem V7{T:String}(I:Inv X pins σ H s)(r:RelV x v)(ty:SK X.K T x H) :
  s.TypeIs v T/\∀ a,v=.ref a->∃ ob,s.heap.get? a=some ob/\ob.dict=none:=by
 cases x with
 |str z =>obtain⟨t,rfl⟩:=r;cases (show T = "str" from ty);exact⟨typeIs_str s z t,λ_ e=>nomatch e⟩
 |int i =>obtain⟨t,rfl⟩:=r;cases (show T = "int" from ty);exact⟨typeIs_int s i t,λ_ e=>nomatch e⟩
 |ref p =>
  cases r;rcases ty with⟨rfl,xs,hq⟩|⟨rfl,o,hk,hc,hd⟩|⟨rfl,hk⟩|⟨rfl,S,n,hk⟩
  ·obtain⟨its,_,pl,_⟩:=I.list hq;refine⟨pl.isList.typeIs,λa e=>?_⟩;cases e;obtain⟨o,n,e,c,hd,_⟩:=pl;exact⟨o,e,hd⟩
  ·refine⟨⟨o,I.iP p o hk,hc⟩,λa e=>?_⟩;cases e;exact⟨o,I.iP _ o hk,hd⟩
  ·have z:∃ o,s.heap.get? p=some o/\o.ExactDict:=by
    rcases hk with⟨ae,hk⟩|⟨ae,hk⟩
    ·obtain⟨_,_,_,_,o,_,_,e,ex,_⟩:=I.bT p _ hk;exact⟨o,e,ex⟩
    ·obtain⟨_,_,_,_,o,_,_,e,ex,_⟩:=I.bT p _ hk;exact⟨o,e,ex⟩
   obtain⟨o,e,ex⟩:=z;refine⟨⟨o,e,ex.1⟩,λa e2=>?_⟩;cases e2;exact⟨o,e,ex.2.1⟩
  ·obtain⟨o,_,_,_,e,ex,_⟩:=I.bT p _ hk;refine⟨⟨o,e,ex.1⟩,λa e2=>?_⟩;cases e2;exact⟨o,e,ex.2.1⟩
 |_=>exact False.elim ty
def cO'(K:aI)(T:String)(r:V->List V->Hp->VK->Prop)(to:TE):TE:=λσ H Q=>to σ H λx H1=>SK K T x H1/\r x [] H1 Q
def tBM(K:aI)(T:String)(r:V->List V->Hp->VK->Prop)(to:TE)(t:TA):TE:=λσ H Q=>to σ H λx H1=>SK K T x H1/\t σ H1 λxs H2=>r x xs H2 Q
variable {o e:Expr}{es:List Expr}{to:TE}{t:TA}{name:Str}{apos dy:Pos}{T id:String}{r:V->List V->Hp->VK->Prop}
theorem V8 (pa:PlainAttrs T) (slot:Slot T name id) (EV:typeOf (.builtin id)=pure (.type "method_descriptor")) (hm:P4 X id r) (ho:PE X o to)(tq:Au o name X.env (c9 o X.env)=c9 o X.env:=by rfl) (hline:(apos.endLine == dy.line)=true:=by rfl):PE X (.Call (.Attribute o name apos) [] [] dy) (cO' X.K T r to):=by
 intro pins s σ H Q I h;refine wpAny_Call_method0_late tq hline (dP (ho pins s σ H _ I h) λv s1 d5=>?_);obtain⟨x,H1,I1,r1,ty,q1⟩:=d5;obtain⟨h1,h2⟩:=V7 I1 r1 ty;exact⟨T,id,pa,slot,EV,h1,h2,Calls.callWith_builtin rfl (PySem.evalArgs_none (hm pins s1 σ H1 x [] v [] Q I1 r1 .nil q1))⟩
theorem P6 (pa:PlainAttrs T) (slot:Slot T name id) (EV:typeOf (.builtin id)=pure (.type "method_descriptor")) (hm:P4 X id r) (ho:PE X o to) (ha:PA X (e :: es) t)(tq:Au o name X.env (c9 o X.env)=c9 o X.env:=by rfl) (wc:((iq dy (bS (e :: es) X.env)).all (λx=>!x.1) && (backToKw dy (FT [] X.env)).all (λx=>x.1.isSome)
   && decide ((e :: es).length+([]:List t9).length+(if ([]:List t9).isEmpty then 0 else 1)<30))=true:=by rfl)
  (hline:(apos.endLine == dy.line)=true:=by rfl) (hs:bS (e :: es) X.env=(false,c9 e X.env) :: bS es X.env:=by rfl) (Dx:(iq dy (bS es X.env)).any (·.1)=false:=by rfl) :
  PE X (.Call (.Attribute o name apos) (e :: es) [] dy) (tBM X.K T r to t):=by
 intro pins s σ H Q I h;refine wpAny_Call_method_late tq wc hline rfl (dP (ho pins s σ H _ I h) λv s1 d5=>?_);obtain⟨x,H1,I1,r1,ty,q1⟩:=d5;obtain⟨h1,h2⟩:=V7 I1 r1 ty;refine⟨T,id,pa,slot,EV,h1,h2,?_⟩;have hA:=ha dy pins s1 σ H1 _ I1 q1;rw[hs] at hA ⊢;refine Calls.callWith_builtin (by show(false || (iq dy (bS es X.env)).any (·.1))=false;rw[Dx]<;>rfl) (Calls.evalArgs_plain ?_);exact dP hA λus s2 dS=>L2.hG dS λvs H2 I2 r2 q2=>hm pins s2 σ H2 x vs v us Q I2 r1 r2 q2
end
def P7(X:Cx)(id:String)(r:V->List V->Hp->VK->Prop):Prop :=
 ∀ (pins:List (ag × Obj)) (s:aE) (σ:St) (H:Hp) (x:V) (xs:List V) (v:ah) (us:List ah) (Q:VK),Inv X pins σ H s->RelV x v->Vals xs us->r x xs H Q ->
  aT (aS X.prog X.w) X.A (call (.builtin id) (v :: us)) (EP X pins σ Q) X.xe s
theorem Vals.one{x:V}{us:List ah}(h:Vals [x] us):∃ u,us=[u]/\RelV x u:=by cases h;rename_i r h;cases h;exact⟨_,rfl,‹_›⟩
theorem Vals.two{x y:V}{us:List ah}(h:Vals [x,y] us):∃ u v,us=[u,v]/\RelV x u/\RelV y v:=by cases h;rename_i r h;cases h;rename_i q h;cases h;exact⟨_,_,rfl,‹_›,‹_›⟩
theorem Vals.zero:∀ {us:List ah},Vals [] us->us=[]
 |_,.nil=>rfl
section
variable {X:Cx}{pins:List (ag × Obj)}{σ:St}{H:Hp}{s:aE}{l:ag}{xs ys:List V}
theorem Inv.P8{its its':List ah}{n:Nat}{f:Array ah->Array ah}{t':Nat}(I:Inv X pins σ H s)(hH:H l=some (.lst xs))(e:s.heap.get? l=some { cls:=.type "list",data:=.seq its.toArray n }) (hf:f its.toArray=its'.toArray) (hv:Vals ys its') (hz:ys.length<=bX) :
  Inv X pins σ (upd H l (.lst ys)) { s with heap:=s.heap.update l (Obj.mapSeq f),toks:=t' }:=by
 have q:=PySem.IsL.update e f;rw[hf] at q;refine I.write (x:=l) (e:=l) (by rw[hH];exact trivial) (.inl rfl) (λb' u hb hu=>(B7 s.heap (Obj.mapSeq f) (Ne.symm hb)).trans hu) ⟨_,q⟩ ?_;exact⟨hz,its',_,hv,q⟩
theorem Inv.V9(I:Inv X pins σ H s)(hv:Vals ys its)(hz:ys.length<=bX) :
  Inv X pins σ (upd H s.heap.objs.size (.lst ys)) { s with heap:=s.heap.push { cls:=.type "list",data:=.seq its.toArray },toks:=t' } :=
 I.laid (λ_ _ q=>fI _ q) (de _) ⟨hz,its,0,hv,kF _ rfl⟩
theorem Inv.fresh(I:Inv X pins σ H s):H s.heap.objs.size=none:=I.bT.fresh (de _)
theorem Inv.NP (I:Inv X pins σ H s) (hH:H l=some (.lst xs)):xs.length<=bX/\∃ (its:List ah) (n:Nat),Vals xs its/\xs.length=its.length/\s.heap.get? l=some { cls:=.type "list",data:=.seq its.toArray n }:=by obtain⟨z,its,n,r,e⟩:=I.bT l _ hH;exact⟨z,its,n,r,r.length,e⟩
theorem cQ'(h:n<=bX):Builtin.List.listTooLong n=false:=by unfold Builtin.List.listTooLong;exact decide_eq_false (by lia)
end
section
variable {X:Cx}
def cR':V->List V->Hp->VK->Prop:=λx vs H Q=>∃ l xs y,x=.ref l/\vs=[y]/\H l=some (.lst xs)/\xs.length<bX/\Q .non (upd H l (.lst (xs++[y])))
theorem V_:P7 X "list.append" cR':=by intro pins s σ H x vs v us Q I rx rv h;obtain⟨l,xs,y,rfl,rfl,hH,hz,q⟩:=h;cases rx;obtain⟨u,rfl,ru⟩:=rv.one;obtain⟨z,its,n,r,hl,e⟩:=I.NP hH;refine call_meets F.slot_list_append ⟨_,e,rfl⟩ F.entry_list_append (F.args_list_append_2 _ _) (PySem.list_append l its.toArray n u (by rw[iA];lia)) ⟨e,?_⟩;refine⟨.non,_,I.P8 (its':=its++[u]) hH e (by simp) (r.append (.cons ru .nil)) ?_,rfl,q⟩;rw[ny,List.length_singleton];assumption
def cS':V->List V->Hp->VK->Prop:=λx vs H Q=>∃ l b xs zs,x=.ref l/\vs=[.ref b]/\H l=some (.lst xs)/\H b=some (.lst zs)/\xs.length+zs.length<=bX/\Q .non (upd H l (.lst (xs++zs)))
theorem cT':P7 X "list.extend" cS':=by
 intro pins s σ H x vs v us Q I rx rv h;obtain⟨l,b,xs,zs,rfl,rfl,hH,hB,hz,q⟩:=h;cases rx;obtain⟨u,rfl,ru⟩:=rv.one;cases ru;obtain⟨z,its,n,r,hl,e⟩:=I.NP hH;obtain⟨z2,CY,n2,r2,A6,e2⟩:=I.NP hB;have hsz:its.toArray.size+CY.toArray.size<=bX:=by rw[iA,iA];lia
 have cU':¬ (!its.toArray.isEmpty && Builtin.List.listTooLong (its.toArray.size+CY.toArray.size))=true:=by rw[cQ' hsz,Bool.and_false];exact kg
 refine call_meets F.slot_list_extend ⟨_,e,rfl⟩ F.entry_list_extend (F.args_list_extend_2 _ _) (AutoSeq1.list_extend_list_list_0 l its.toArray n b CY.toArray n2 cU' (by rw[iA];lia) (by lia)) ⟨e,e2,?_⟩
 refine⟨.non,_,I.P8 (its':=its++CY) hH e (by simp) (r.append r2) ?_,rfl,q⟩;rw[ny];lia
def cV':V->List V->Hp->VK->Prop:=λx vs H Q=>∃ l xs,x=.ref l/\vs=[]/\H l=some (.lst xs)/\Q .non (upd H l (.lst []))
theorem cW':P7 X "list.clear" cV':=by intro pins s σ H x vs v us Q I rx rv h;obtain⟨l,xs,rfl,rfl,hH,q⟩:=h;cases rx;have SN:=rv.zero;subst SN;obtain⟨z,its,n,r,hl,e⟩:=I.NP hH;refine call_meets F.slot_list_clear ⟨_,e,rfl⟩ F.entry_list_clear (F.args_list_clear_1 _) (AutoSeq1.list_clear_list_0 l its.toArray n (by rw[iA];lia)) ⟨e,?_⟩;exact⟨.non,_,I.P8 (its':=[]) (ys:=[]) hH e rfl .nil (eW _),rfl,q⟩
theorem len_rep{α:Type}(xs:List α)(k:Nat):(List.replicate k xs).flatten.length=k*xs.length:=by
 induction k with
 |zero=>simp
 |succ k ih=>rw[RJ,List.flatten_cons,ny,ih,Nat.succ_mul,LJ]
end
section
set_option maxRecDepth 100000 in
end
section
variable {κ:Type}[DecidableEq κ]
def kX(ae:List (κ × V))(k:κ):Option V:=(ae.find? λkv=>decide (kv.1=k)).map (·.2)
def putK(ae:List (κ × V))(k:κ)(v:V):List (κ × V) :=
 if (ae.any λkv=>decide (kv.1=k))=true then ae.map (λkv=>if kv.1=k then (kv.1,v) else kv) else ae++[(k,v)]
def Wa(ae:List (κ × V))(k:κ):List (κ × V):=ae.filter λkv=>decide (kv.1≠k)
theorem P9{p:κ × V}{r:List (κ × V)}{k:κ}(e:p.1=k):kX (p :: r) k=some p.2:=by simp[kX,LC,e]
theorem P_{p:κ × V}{r:List (κ × V)}{k:κ}(e:¬ p.1=k):kX (p :: r) k=kX r k:=by simp[kX,LC,e]
theorem Wb(k:κ):∀ ae:List (κ × V),(ae.any λkv=>decide (kv.1=k))=(kX ae k).isSome
 |[]=>rfl
 |p :: r=>by
  rw[B6];by_cases e:p.1=k
  ·simp only[P9 e,decide_eq_true e,Bool.true_or,Option.isSome_some]
  ·rw[P_ e,decide_eq_false e,Bool.false_or];exact Wb k r
theorem SQ(ae:List (κ × V))(k:κ)(v:V):(putK ae k v).length<=ae.length+1:=by
 unfold putK;split
 ·rw[dn];exact FY _ _
 ·rw[ny,vF,List.length_nil];exact de _
theorem v3.NQ(r:v3 o u):o.isSome=u.isSome:=by
 cases o with
 |none=>cases u with
  |none=>rfl
  |some _=>exact(show False from r).elim
 |some _=>cases u with
  |none=>exact(show False from r).elim
  |some _=>rfl
theorem v3.getD(r:v3 o u)(rd:RelV d d'):RelV (o.getD d) (u.getD d'):=by
 cases o with
 |none=>cases u with
  |none=>exact rd
  |some _=>exact(show False from r).elim
 |some _=>cases u with
  |none=>exact(show False from r).elim
  |some _=>exact r
theorem KV.val{ae:List (κ × V)}{vs:List (κ × ah)}(r:KV ae vs)(k:κ):v3 (kX ae k) (valueAt vs k):=by
 unfold KV at r
 induction r with
 |nil=>exact True.intro
 |@cons p q ps qs h t ih =>
  obtain⟨h1,h2⟩:=h;by_cases e:p.1=k
  ·have e':q.1=k:=h1.symm.trans e;have b:valueAt (q :: qs) k=some q.2:=by simp[valueAt,LC,e']
   rw[P9 e,b];exact h2
  ·have e':¬ q.1=k:=λz=>e (h1.trans z);have b:valueAt (q :: qs) k=valueAt qs k:=by simp[valueAt,LC,e']
   rw[P_ e,b];exact ih
theorem KV.any(r:KV ae vs)(k:κ):(ae.any λkv=>decide (kv.1=k))=vs.any λkv=>decide (kv.1=k):=by
 unfold KV at r
 induction r with
 |nil=>rfl
 |cons h t ih=>rw[B6,B6,ih,h.1]
theorem KV.repl(r:KV ae vs)(k:κ)(ry:RelV y u) :
  KV (ae.map λkv=>if kv.1=k then (kv.1,y) else kv) (vs.map λkv=>if kv.1=k then (kv.1,u) else kv):=by
 unfold KV at r ⊢
 induction r with
 |nil=>exact .nil
 |@cons p q ps qs h t ih =>
  rw[gI,gI];refine .cons ?_ ih;obtain⟨h1,h2⟩:=h;by_cases e:p.1=k
  ·rw[if_pos e,if_pos (h1.symm.trans e)];exact⟨h1,ry⟩
  ·rw[if_neg e,if_neg (λz=>e (h1.trans z))];exact⟨h1,h2⟩
theorem KV.put(r:KV ae vs)(k:κ)(ry:RelV y u):KV (putK ae k y) (stored vs k u):=by
 unfold putK stored;rw[r.any k];by_cases e:(vs.any λkv=>decide (kv.1=k))=true
 ·rw[if_pos e,if_pos e];exact r.repl k ry
 ·rw[if_neg e,if_neg e];exact Paired.snoc r ⟨rfl,ry⟩
theorem KV.drop(r:KV ae vs)(k:κ):KV (Wa ae k) (without vs k):=by
 unfold KV at r ⊢;unfold Wa without
 induction r with
 |nil=>exact .nil
 |@cons p q ps qs h t ih =>
  obtain⟨h1,h2⟩:=h;rw[RP,RP];by_cases e:p.1=k
  ·have a:¬ decide (p.1≠k)=true:=by simp[e]
   have b:¬ decide (q.1≠k)=true:=by simp[h1.symm.trans e]
   rw[if_neg a,if_neg b];exact ih
  ·have e':¬ q.1=k:=λz=>e (h1.trans z);have a:decide (p.1≠k)=true:=by simp[e]
   have b:decide (q.1≠k)=true:=by simp[e']
   rw[if_pos a,if_pos b];exact .cons ⟨h1,h2⟩ ih
theorem KV.length(r:KV ae vs):ae.length=vs.length:=Paired.length r
end
theorem HK{P:dz}(r:RelV (kV k) u):(kQ P w).is k u=true:=by
 cases k with
 |inl i=>obtain⟨t,e⟩:=(show ∃ t,u=Value.int i t from r);subst e;exact aB' P w i t
 |inr x=>obtain⟨t,e⟩:=(show ∃ t,u=Value.str x t from r);subst e;exact aC' P w x t
theorem SV{P:dz}:∀ {ks:List Key} {us:List ah},Vals (ks.map kV) us->ItemsAre (kQ P w) ks us
 |[],_,r=>by rw[M_] at r;cases r;exact .nil
 |k :: ks,_,r=>by
  rw[gI] at r
  cases r with
  |cons h t=>exact .cons (HK h) (SV t)
abbrev KT(H:Hp):List (List Key × V)->List (List Key × ag × ah)->Prop:=Paired λp q=>p.1=q.1/\H q.2.1=some (.tup (p.1.map kV))/\RelV p.2 q.2.2
theorem KT.val{H:Hp}{ae:List (List Key × V)}{xs:List (List Key × ag × ah)}(r:KT H ae xs)(k:List Key):v3 (kX ae k) ((atKey xs k).map (·.2)):=by
 induction r with
 |nil=>exact True.intro
 |@cons p q ps qs h t ih =>
  obtain⟨h1,_,h2⟩:=h;by_cases e:p.1=k
  ·have e':q.1=k:=h1.symm.trans e;have b:atKey (q :: qs) k=some q.2:=by simp[atKey,LC,e']
   rw[P9 e,b];exact h2
  ·have e':¬ q.1=k:=λz=>e (h1.trans z);have b:atKey (q :: qs) k=atKey qs k:=by simp[atKey,LC,e']
   rw[P_ e,b];exact ih
theorem KT.repl(r:KT H ae xs)(k:List Key)(ry:RelV y u) :
  KT H (ae.map λkv=>if kv.1=k then (kv.1,y) else kv) (xs.map (putAt k u)):=by
 induction r with
 |nil=>exact .nil
 |@cons p q ps qs h t ih =>
  rw[gI,gI];refine .cons ?_ ih;obtain⟨h1,h2,h3⟩:=h;unfold putAt;by_cases e:p.1=k
  ·rw[if_pos e,if_pos (h1.symm.trans e)];exact⟨h1,h2,ry⟩
  ·rw[if_neg e,if_neg (λz=>e (h1.trans z))];exact⟨h1,h2,h3⟩
theorem KT.put(r:KT H ae xs)(k:List Key)(hb:H b=some (.tup (k.map kV)))(ry:RelV y u) :
  KT H (putK ae k y) (storedH xs k b u):=by
 have e:(ae.any λkv=>decide (kv.1=k))=(atKey xs k).isSome:=by rw[Wb,(r.val k).NQ,R8]
 unfold putK storedH;rw[e];by_cases q:(atKey xs k).isSome=true
 ·rw[if_pos q,if_pos q];exact r.repl k ry
 ·rw[if_neg q,if_neg q];exact Paired.snoc r ⟨rfl,hb,ry⟩
theorem KT.keeps(r:KT H ae xs)(ht:∀ b ys,H b=some (.tup ys)->H' b=some (.tup ys)):KT H' ae xs :=
 Paired.R_ r λ_ _ z=>⟨z.1,ht _ _ z.2.1,z.2.2⟩
section
variable {P:dz}{w:dA}{H:Hp}{h:cS}{a:ag}
theorem Wc(ok:gL P w H h)(e:Rd H a u):fS P w H h a u:=e.ok ok
theorem EW(ok:gL P w H h)(e:Rd H a (.dK ae)):ae.length<=bX/\(a == vw)=false/\∃ vs,KV ae vs/\h.DictOf (kQ P w) a vs :=
 show fS P w H h a (.dK ae) from Wc ok e
theorem Wd(ok:gL P w H h)(e:H a=some (.dK ae)):ae.length<=bX/\(a == vw)=false/\∃ vs,KV ae vs/\h.DictOf (kQ P w) a vs:=EW ok (.inl e)
theorem L7(ok:gL P w H h)(e:H a=some (.tup (ks.map kV))):(tupleKind (kQ P w)).is h ks a:=by
 obtain⟨_,its,r,o,h1,h2,n,h3⟩:=(show fS P w H h a (.tup (ks.map kV)) from ok a _ e)
 exact⟨o,its.toArray,n,h1,h2,h3,by simpa using SV r⟩
theorem HL(ok:gL P w H h)(e:Rd H a (.dT ae)):ae.length<=bX/\(a == vw)=false /\
  ∃ xs,KT H ae xs/\h.DictOfH (tupleKind (kQ P w)) a xs:=by
 obtain⟨z,y,xs,r,o,es,ep,h1,h2,h3,h4,h5⟩:=(show fS P w H h a (.dT ae) from Wc ok e)
 refine⟨z,y,xs,r,o,es,ep,h1,h2,h3,h4,λx hx=>?_,h5⟩;have all:∀ {l:List (List Key × V)} {m:List (List Key × ag × ah)},KT H l m->∀ x∈m,(tupleKind (kQ P w)).is h x.1 x.2.1:=by
  intro l m q
  induction q with
  |nil=>intro x hx;exact nomatch hx
  |@cons p q ps qs hq t ih =>
   intro x hx;rcases eM.mp hx with e|hx
   ·subst e;exact L7 ok (by rw[<- hq.1];exact hq.2.1)
   ·exact ih x hx
 exact all r x hx
theorem cX'(ok:gL P w H h)(e:H a=some (.dT ae)):ae.length<=bX/\(a == vw)=false /\
  ∃ xs,KT H ae xs/\h.DictOfH (tupleKind (kQ P w)) a xs:=HL ok (.inl e)
end
def k8(H:Hp)(a:ag)(y:V)(r:Option V):Prop :=
 (∃ ae k,Rd H a (.dK ae)/\y=kV k/\r=kX ae k)\/∃ ae k b,Rd H a (.dT ae)/\y=.ref b/\H b=some (.tup (k.map kV))/\r=kX ae k
def EX(H:Hp)(a:ag)(y v:V)(H':Hp):Prop :=
 (∃ ae k,H a=some (.dK ae)/\y=kV k/\ae.length<bX/\H'=upd H a (.dK (putK ae k v))) \/
 ∃ ae k b,H a=some (.dT ae)/\y=.ref b/\H b=some (.tup (k.map kV))/\ae.length<bX/\H'=upd H a (.dT (putK ae k v))
theorem k8.k{H:Hp}{a:ag}{ae:List (Key × V)}{k:Key}(e:H a=some (.dK ae)):k8 H a (kV k) (kX ae k):=.inl ⟨ae,k,.inl e,rfl,rfl⟩
theorem k8.t{H:Hp}{a b:ag}{ae:List (List Key × V)}{k:List Key}(e:H a=some (.dT ae))(eb:H b=some (.tup (k.map kV))):k8 H a (.ref b) (kX ae k):=.inr ⟨ae,k,b,.inl e,rfl,eb,rfl⟩
theorem EX.k{H:Hp}{a:ag}{ae:List (Key × V)}{k:Key}{v:V}(e:H a=some (.dK ae))(hl:ae.length<bX):EX H a (kV k) v (upd H a (.dK (putK ae k v))):=.inl ⟨ae,k,e,rfl,hl,rfl⟩
theorem EX.t{H:Hp}{a b:ag}{ae:List (List Key × V)}{k:List Key}{v:V}(e:H a=some (.dT ae))(eb:H b=some (.tup (k.map kV)))(hl:ae.length<bX) :
  EX H a (.ref b) v (upd H a (.dT (putK ae k v))):=.inr ⟨ae,k,b,e,rfl,eb,hl,rfl⟩
section
variable {X:Cx}{pins:List (ag × Obj)}{σ:St}{H:Hp}{s:aE}{a:ag}{y v:V}{u r:ah}{o:Option V}{A:eJ}{E:ah->aE->Prop}
theorem Inv.big(I:Inv X pins σ H s):vw<s.heap.objs.size:=by have h:fR<s.heap.objs.size:=(I.mod.glob.keeps I.bk).lt;exact RX (by decide) h
theorem cY'(hu:A.units+1<hX)(I:Inv X pins σ H s)(g:k8 H a y (some v))(ry:RelV y u)(h:∀ w' s',Inv X pins σ H s'->RelV v w'->Q w' s') :
  aT (aS X.prog X.w) A (getItem (.ref a) u) Q E s:=by
 rcases g with⟨ae,k,e,ey,l⟩|⟨ae,k,b,e,ey,eb,l⟩
 ·subst ey;obtain⟨z,hd,vs,rel,dd⟩:=EW I.bT e;obtain⟨w',hw,mS⟩:=v3.some_of (v:=v) (o:=valueAt vs k) (by rw[l];exact rel.val k);exact wpAny_getItem_of (HK ry) dd.mapOf hw (h w' _ (I.tok _) mS)
 ·subst ey;cases (show u=Value.ref b from ry);obtain⟨z,hd,xs,rel,dd⟩:=HL I.bT e;obtain⟨w',hw,mS⟩:=v3.some_of (v:=v) (o:=(atKey xs k).map (·.2)) (by rw[l];exact rel.val k);obtain⟨p,hp,hp2⟩:=Option.map_eq_some_iff.mp hw;refine wpAny_getItem_heap (MS hu) (L7 I.bT eb) dd hp ?_;rw[hp2];exact h w' _ (I.tok _) mS
theorem da'(hu:A.units+1<hX)(I:Inv X pins σ H s)(g:k8 H a y o)(ry:RelV y u)(h:∀ s',Inv X pins σ H s'->Q (.bool o.isSome) s') :
  aT (aS X.prog X.w) A (gS .In u (.ref a)) Q E s:=by
 rcases g with⟨ae,k,e,ey,l⟩|⟨ae,k,b,e,ey,eb,l⟩
 ·subst ey;obtain⟨z,hd,vs,rel,dd⟩:=EW I.bT e;refine wpAny_in_of (HK ry) hd dd.mapOf ?_;rw[<- (rel.val k).NQ,<- l];exact h _ (I.tok _)
 ·subst ey;cases (show u=Value.ref b from ry);obtain⟨z,hd,xs,rel,dd⟩:=HL I.bT e;refine wpAny_in_heap (MS hu) (L7 I.bT eb) hd dd ?_;have q:=(rel.val k).NQ;rw[R8] at q;rw[<- q,<- l];exact h _ (I.tok _)
theorem db'(hu:A.units+1<hX)(I:Inv X pins σ H s)(g:k8 H a y o)(ry:RelV y u)(h:∀ s',Inv X pins σ H s'->Q (.bool (!o.isSome)) s') :
  aT (aS X.prog X.w) A (gS .NotIn u (.ref a)) Q E s:=by
 rcases g with⟨ae,k,e,ey,l⟩|⟨ae,k,b,e,ey,eb,l⟩
 ·subst ey;obtain⟨z,hd,vs,rel,dd⟩:=EW I.bT e;refine wpAny_notIn_of (HK ry) hd dd.mapOf ?_;rw[<- (rel.val k).NQ,<- l];exact h _ (I.tok _)
 ·subst ey;cases (show u=Value.ref b from ry);obtain⟨z,hd,xs,rel,dd⟩:=HL I.bT e;refine wpAny_notIn_heap (MS hu) (L7 I.bT eb) hd dd ?_;have q:=(rel.val k).NQ;rw[R8] at q;rw[<- q,<- l];exact h _ (I.tok _)
theorem SW(I:Inv X pins σ H s)(mu:Nm (H a))(hs:Heap.SameBut a s.heap h')(he:∃ q,h'.get? a=some q)(new:fS X.prog X.w (upd H a ob) h' a ob) :
  Inv X pins σ (upd H a ob) { s with heap:=h',toks:=t' } :=
 I.write (x:=a) (e:=a) mu (.inl rfl) (λb q hb z=>(hs.2 b hb).trans z) he new
theorem Wg{P:dz}(z:ae.length<=bX)(hd:(a == vw)=false)(rel:KV ae vs)(dd:h'.DictOf (kQ P w) a vs) :
  fS P w H' h' a (.dK ae):=⟨z,hd,vs,rel,dd⟩
theorem dc'(hu:A.units+1<hX)(I:Inv X pins σ H s)(g:EX H a y v H')(ry:RelV y u)(rv:RelV v r)(h:∀ s',Inv X pins σ H' s'->Q () s') :
  aT (aS X.prog X.w) A (setItem (.ref a) u r) Q E s:=by
 rcases g with⟨ae,k,e,ey,l,eH⟩|⟨ae,k,b,e,ey,eb,l,eH⟩
 ·subst ey eH;obtain⟨z,hd,vs,rel,dd⟩:=Wd I.bT e;have hz:vs.length<=bX:=by rw[<- rel.length];exact z
  have hl:(putK ae k v).length<=bX:=by have:=SQ ae k v;lia
  refine wpAny_setItem_pairs (hsz:=hz) (HK ry) dd λh' HM hs=>h _ ?_;have he:∃ q,h'.get? a=some q:=let ⟨q,_,_,hq,_⟩:=HM;⟨q,hq⟩
  exact SW I (by rw[e];exact True.intro) hs he (Wg hl hd (rel.put k rv) HM)
 ·subst ey eH;cases (show u=Value.ref b from ry);obtain⟨z,hd,xs,rel,dd⟩:=cX' I.bT e;have hz:xs.length<=bX:=by rw[<- Paired.length rel];exact z
  have hl:(putK ae k v).length<=bX:=by have:=SQ ae k v;lia
  refine wpAny_setItem_heap (hsz:=hz) (MS hu) (L7 I.bT eb) dd λh' HM hs=>h _ ?_;obtain⟨q,es,ep,hq,h2,h3,h4,_,h5⟩:=HM;refine SW I (by rw[e];exact True.intro) hs ⟨q,hq⟩ ⟨hl,hd,_,(rel.put k eb rv).keeps λc ys ec=>?_,q,es,ep,hq,h2,h3,h4,h5⟩;rw[iN (aD' ec e (λz=>nomatch z))];exact ec
end
section
variable {X:Cx}{pins:List (ag × Obj)}{σ:St}{H:Hp}{s:aE}{a:ag}{ae:List (Key × V)}{A:eJ}{E:ah->aE->Prop}
theorem de' (I:Inv X pins σ H s) (e:Rd H a (.dK ae)) (h:∀ t s',Inv X pins σ H s'->Q (.int ae.length t) s'):aT (aS X.prog X.w) A (call (.builtin "len") [.ref a]) Q E s:=by obtain⟨z,hd,vs,rel,dd⟩:=EW I.bT e;refine call_len_dict hd dd (by rw[<- rel.length];rw[kP] at z;lia) ?_;rw[<- rel.length];exact h _ _ (I.tok _)
end
theorem df' {X:Cx} (I:Inv X pins σ H s) (g:k8 H a y o):s.TypeIs (.ref a) "dict" := by
 rcases g with⟨ae,k,e,_,_⟩|⟨ae,k,b,e,_,_,_⟩
 ·obtain⟨_,_,vs,_,dd⟩:=EW I.bT e;exact dd.typeIs
 ·obtain⟨_,_,xs,_,dd⟩:=HL I.bT e;exact dd.typeIs
def dg'(td ty tv:TE):TS:=λD σ H=>tv σ H λv H1=>td σ H1 λx H2=>ty σ H2 λy H3=>∃ a H4,x=.ref a/\EX H3 a y v H4/\D.nx σ H4
section
variable {X:Cx}{o i value:Expr}{pos pos':Pos}{td ty tv:TE}
theorem dh'(hu:X.A.units+1<hX)(ho:PE X o td)(hi:PE X i ty)(hv:PE X value tv)(hs:rU value (some (.Subscript o i pos')) pos.line X.env=pure false) :
  PS X (.Assign [.Subscript o i pos'] value pos) (dg' td ty tv):=by
 intro pins s σ H D I h;refine wpAny_Assign_Subscript (dP (hv pins s σ H _ I h) λr s1 dS=>L2.hG dS λv H1 I1 rv q1=>dP (ho pins s1 σ H1 _ I1 q1) λu s2 dS=>L2.hG dS λx H2 I2 rx q2=>dP (hi pins s2 σ H2 _ I2 q2) λiv s3 d5=>?_) hs;obtain⟨y,H3,I3,ry,a,H4,ex,g,q3⟩:=d5;subst ex;obtain rfl:u=Value.ref a:=rx;exact dc' hu I3 g ry rv λs4 I4=>⟨σ,H4,I4,q3⟩
end
theorem di' {P:dz} (h:cS) (hb:vw<h.objs.size):fS P w H (h.push { cls:=.type "dict",data:=.dict #[] }) h.objs.size (.dK []) :=
 ⟨eW _,beq_eq_false_iff_ne.mpr (Ne.symm (gV hb)),[],.nil,Heap.DictOf.new h⟩
def dk':TE:=λ_ H Q=>∀ p,H p=none->Q (.ref p) (upd H p (.dK []))
section
variable {X:Cx}{pos:Pos}
theorem dl':PE X (.Dict [] [] pos) dk':=λpins s σ H Q I h =>
 wpAny_Dict_empty ⟨.ref s.heap.objs.size,_,I.laid (a:=s.heap.objs.size) (o:=.dK []) (t':=s.toks) (λ_ _ q=>fI _ q) (de _) (di' s.heap I.big),rfl,h _ (I.bT.fresh (de _))⟩
end
structure M1(X:Cx)(o:Expr)(m:Str)(apos:Pos)(e:Expr)(dy:Pos):Prop where
 base:Au o m X.env (c9 o X.env)=c9 o X.env
 few:((iq dy (bS [e] X.env)).all (fun x=>!x.1) && (backToKw dy (FT [] X.env)).all (fun x=>x.1.isSome)
  && decide (([e]:List Expr).length+([]:List t9).length+(if ([]:List t9).isEmpty then 0 else 1)<30))=true
 line:(apos.endLine == dy.line)=true
 trees:iq dy (bS [e] X.env)=[(false,c9 e X.env)]
structure M2(X:Cx)(o:Expr)(m:Str)(apos:Pos)(e f:Expr)(dy:Pos):Prop where
 base:Au o m X.env (c9 o X.env)=c9 o X.env
 few:((iq dy (bS [e,f] X.env)).all (fun x=>!x.1) && (backToKw dy (FT [] X.env)).all (fun x=>x.1.isSome)
  && decide (([e,f]:List Expr).length+([]:List t9).length+(if ([]:List t9).isEmpty then 0 else 1)<30))=true
 line:(apos.endLine == dy.line)=true
 trees:iq dy (bS [e,f] X.env)=[(false,c9 e X.env),(false,c9 f X.env)]
def Qa(H:Hp)(a:ag):Prop:=(∃ ae,Rd H a (.dK ae))\/∃ ae,Rd H a (.dT ae)
theorem Wh{X:Cx}(I:Inv X pins σ H s)(d:Qa H a) :
  s.TypeIs (.ref a) "dict"/\(∀ b,Value.ref a=.ref b->∃ ob,s.heap.get? b=some ob/\ob.dict=none)/\(a == vw)=false:=by
 rcases d with⟨ae,e⟩|⟨ae,e⟩
 ·obtain⟨_,hd,vs,_,dd⟩:=EW I.bT e;refine⟨dd.typeIs,λb q=>?_,hd⟩;cases q;obtain⟨ob,_,_,h1,h2,_⟩:=dd;exact⟨ob,h1,h2.2.1⟩
 ·obtain⟨_,hd,xs,_,dd⟩:=HL I.bT e;refine⟨dd.typeIs,λb q=>?_,hd⟩;cases q;obtain⟨ob,_,_,h1,h2,_⟩:=dd;exact⟨ob,h1,h2.2.1⟩
section
variable {X:Cx}{pins:List (ag × Obj)}{σ:St}{H:Hp}{s:aE}{a:ag}{y d:V}{u r:ah}{o:Option V}{A:eJ}{E:ah->aE->Prop}
theorem dm'(hu:A.units+1<hX)(I:Inv X pins σ H s)(g:k8 H a y o)(ry:RelV y u)(rd:RelV d r)(h:∀ w' s',Inv X pins σ H s'->RelV (o.getD d) w'->Q w' s') :
  aT (aS X.prog X.w) A (call (.builtin "dict.get") [.ref a,u,r]) Q E s:=by
 rcases g with⟨ae,k,e,ey,l⟩|⟨ae,k,b,e,ey,eb,l⟩
 ·subst ey;obtain⟨z,hd,vs,rel,dd⟩:=EW I.bT e;refine call_meetsIn PySem.F.slot_dict_get dd.typeIs PySem.F.entry_dict_get (PySem.F.args_dict_get_3 _ _ _) (meets_dict_get_default (kQ X.prog X.w) a (HK ry) hd r) ⟨_,dd.mapOf,h _ _ (I.tok _) ?_⟩;rw[l];exact(rel.val k).getD rd
 ·subst ey;cases (show u=Value.ref b from ry);obtain⟨z,hd,xs,rel,dd⟩:=HL I.bT e;refine call_meetsIn PySem.F.slot_dict_get dd.typeIs PySem.F.entry_dict_get (PySem.F.args_dict_get_3 _ _ _) (meetsH_dict_get_default (tupleKind (kQ X.prog X.w)) a b hd r) ⟨MS hu,k,xs,L7 I.bT eb,dd,h _ _ (I.tok _) ?_⟩;rw[l];exact(rel.val k).getD rd
end
def Wi(td ty tx:TE):TE:=λσ H Q=>td σ H λx H1=>∃ a,x=.ref a/\Qa H1 a/\ty σ H1 λy H2=>tx σ H2 λz H3=>∃ o,k8 H3 a y o/\Q (o.getD z) H3
section
variable {X:Cx}{o e f:Expr}{apos dy:Pos}{td ty tx:TE}
theorem dn' (hu:X.A.units+1<hX) (ho:PE X o td) (he:PE X e ty) (hf:PE X f tx) (m:M2 X o "get" apos e f dy):PE X (.Call (.Attribute o "get" apos) [e,f] [] dy) (Wi td ty tx):=by
 intro pins s σ H Q I h;refine wpAny_Call_method m.base m.few m.line PySem.F.plainAttrs_dict PySem.F.slot_dict_get PySem.F.type_dict_get (dP (ho pins s σ H _ I h) λu s1 d5=>?_);obtain⟨x,H1,I1,rx,a,ex,d,q1⟩:=d5;subst ex;obtain rfl:u=Value.ref a:=rx;obtain⟨t1,t2,_⟩:=Wh I1 d;refine⟨t1,t2,?_⟩;rw[m.trees];refine Calls.callWith_builtin rfl (Calls.evalArgs_plain (Calls.spliced_cons (dP (he pins s1 σ H1 _ I1 q1) λiv s2 dS=>L2.hG dS λy H2 I2 ry q2 =>
  Calls.spliced_cons (dP (hf pins s2 σ H2 _ I2 q2) λfv s3 ⟨z,H3,I3,rz,ov,g,q3⟩=>Calls.spliced_nil ?_))))
 exact dm' hu I3 g ry rz λw' s4 I4 mS=>⟨_,H3,I4,mS,q3⟩
end
end L2
namespace Wj
open PySem PySem.W PySem.Calls PyProof.Rows
theorem dp'{P:Params}:∀ (ns:List Int) (vs:List ah),WellAll P h vs (ns.map WData.int)->IntsAre vs ns:=by
 intro ns
 induction ns with
 |nil =>intro vs w;rw[M_] at w;cases w;exact .nil
 |cons n ns ih =>
  intro vs w;rw[gI] at w
  cases w with
  |cons a b =>cases a;exact .cons _ _ (ih _ b)
theorem dq'{l:OpenLaw}{n:Nat}(hn:l.most=some n){P:Params}{h:cS}{args:List WData}{vals:List ah}(EZ:l.row.toRowW.claim.pre args=true) (SX:WellAll P h vals args) :
  ∃ a vs ns,vals=[Value.ref a]/\args=[WData.list (ns.map WData.int)]/\h.get? a=some { cls:=.type "list",data:=.seq vs.toArray }/\IntsAre vs ns/\ns.length<=n:=by
 have L8:WShape.hasAll [] args [.list .int]=true:=(pre_splitW EZ).1;have hc:l.pre.holds [] { args:=args }=true:=(pre_splitW EZ).2;obtain⟨d,r,rfl,h1,h2⟩:=hasAllW_cons L8;obtain rfl:=hasAllW_nil h2;obtain⟨xs,rfl,h3⟩:=hasW_list h1;obtain⟨ns,rfl⟩:=items_int h3;have hlen:ns.length<=n:=by
  unfold OpenLaw.pre at hc;have h4:(WTm.not (.lt (.lit (.int (n:Int))) (.len (.arg 0)))).holds [] { args:=[.list (ns.map .int)] }=true:=by have h4:=(holds_andW hc).1;rw[hn] at h4;exact h4
  have h5:=condW_of h4 (w_not (w_lt w_lit (w_len_list (w_arg rfl))));rw[dn] at h5;refine Nc λq=>?_;have q':(n:Int)<((ns.length:Nat):Int):=by lia
  first
   | (rw[decide_eq_true q'] at h5;exact absurd h5 (by decide))
   | (simp at h5;lia)
 cases SX with
 |cons w1 w2 =>
  cases w2
  cases w1 with
  |list ho nL=>exact⟨_,_,ns,rfl,rfl,ho,dp' ns _ nL,hlen⟩
theorem dr'(l:OpenLaw)(args:List WData):l.row.toRowW.claim.post args (.bool true) args=true :=
 postW_of (r:=l.row.toRowW) (X:=(true == true)) (show WShape.has [] (.bool true) .bool=true by first|rfl|decide|simp[WShape.has,WShape.arms,WShape.armsAll]) (show(WTm.eq .res (.lit (.bool true))).value [] { args:=args,res:=some (.bool true),after:=args }=some (.bool (true == true)) from w_eq_bool (w_res rfl) w_lit) rfl
theorem ds'{l:OpenLaw}{n:Nat}{q:dz}{loose:List Str}{XP:(Str->Option ah)->cS->Prop}{YP:dA->cS->Prop}{d:DefRec}(hn:l.most=some n) (NR:d.params.defaults=[])(call:∀ (w:dA) (fq fm:aE) (mg mb:Str->Option ah) (fa:ag) (o:Obj) (pm cd doc:ah) (a:ag) (vs:List ah) (ns:List Int),
   Ground q loose [] XP w fq mg mb fm.heap->YP w fm.heap ->
   fm.heap.get? fa=some o->o.data=.func (docDef d.name d.params d.body d.scope pm cd doc)->fm.heap.CodeRec cd d.name->mg d.name=some (.ref fa) ->
   fm.heap.get? a=some { cls:=.type "list",data:=.seq vs.toArray }->IntsAre vs ns->ns.length<=n->fm.gens = #[] ->
   vx (aS l.prog w) callerA (.call (.ref fa) ⟨[.ref a],[]⟩) (λr s'=>r=.ok (.ret (.bool true))/\OldK fm.heap s'.heap/\s'.os=fm.os/\AllBare s'.gens) fm) :
  WalkO q loose XP YP l.row.toRowW d [] (λf vs=>PySem.call f vs):=by
 intro w fq fm mg mb G Y fa o pm cd doc dV kV ho hd qh hD NS hg args vals as EZ hlay hrd SX E2;obtain rfl:dV=.none:=Dflts.none hD NR;obtain rfl:kV=.none:=Dflts.noKw hD;obtain⟨a,vs,ns,rfl,rfl,SY,hints,hlen⟩:=dq' hn EZ SX;refine enter_call (codeAny_mono (call w fq fm mg mb fa o pm cd doc a vs ns G Y ho (fd_plain hd) qh NS SY hints hlen hg) λr s' hq=>?_);obtain⟨rfl,h2,h3,h4⟩:=hq;exact⟨.inl ⟨.bool true,.bool true,[],rfl,λ_=>rfl,.bool true,dr' l _,λ_=>⟨List.Pairwise.nil,λ_ hm=>(nomatch hm)⟩⟩,h2,h3,h4⟩
end Wj
namespace L2
open PySem PySem.Spec PyProof.Rows
theorem Wk:∀ {vs:List ah} {ns:List Int},IntsAre vs ns->Vals (ns.map V.int) vs
 |_,_,.nil=>.nil
 |_,_,.cons n t h=>.cons ⟨t,rfl⟩ (Wk h)
def Only(H:Hp):Prop:=∀ b,H b=none\/∃ o xs,H b=some (.mM o (.lst xs))
theorem dt'{P:dz}{K:aI}(KX:K.In fm.heap) (Wl:fm.heap.Ns fR mg) (hb:fm.heap.Ns builtinsNs mb) (hbb:∀ x:Str,x ≠ "__name__"->mb x=kN x) (dv':fm.heap.NoLimit) (hg:fm.gens = #[])(ha:fm.heap.get? a=some { cls:=.type "list",data:=.seq vs.toArray }) (hi:IntsAre vs ns) (hl:ns.length<=bX) (hr:ke k callerA) (F:∀ base:cS,K.In base->base.Ns fR mg->tf P w K mg base CX k fa fd [x] sp) (dw':∀ (s:aE) (u:ah),BindsTo s fd ⟨[u],[]⟩ [(x,u)]) (A2:∀ H:Hp,Only H->fF K H a (ns.map V.int)->sp [.ref a] H (λv _=>v=.bl true) λ_ _ _=>False) (S0:∀ H e s',CX [] H fm (λ_ _ _=>False) e s'->False) :
  vx (aS P w) callerA (.call (.ref fa) ⟨[.ref a],[]⟩) (λr s'=>r=.ok (.ret (.bool true))/\OldK fm.heap s'.heap/\s'.os=fm.os/\AllBare s'.gens) fm:=by
 have rv:=Wk hi;have dx':=hi.length
 -- from an abstract heap in which nothing but the script may be tracked
 have core:∀ H:Hp,Only H->fF K H a (ns.map V.int)->gL P w H fm.heap->(∀ b,H b≠none->b=a)->(H a≠none->K.lookup a=none) ->
   vx (aS P w) callerA (.call (.ref fa) ⟨[.ref a],[]⟩) (λr s'=>r=.ok (.ret (.bool true))/\OldK fm.heap s'.heap/\s'.os=fm.os/\AllBare s'.gens) fm:=by
  intro H hO hS bT hA hK;have Wm:∀ {b:ag} {o:Obj},fm.heap.get? b=some o->H b=none->(CB fm.heap H).get? b=some o:=λe n=>aG' e n;have ND:∀ {b:ag} {o:Obj} {es:Array DictEntry} {ep:Nat},fm.heap.get? b=some o->o.data=.dict es ep->H b=none:=λ{b o es ep} e d=>by
   cases q:H b with
   |none=>rfl
   |some u =>have e':b=a:=hA b (by rw[q];simp);subst e';rw[ha] at e;cases e;have d':Data.seq vs.toArray _=Data.dict es ep:=d;cases d'
  have Qb:∀ {b:ag} {m:Str->Option ah},fm.heap.Ns b m->(CB fm.heap H).Ns b m:=λ{b m} ⟨o,es,ep,e,d,r⟩=>⟨o,es,ep,Wm e (ND e d),d,r⟩
  have Wn:K.In (CB fm.heap H):=λb o e=>Wm (KX b o e) (by
   cases q:H b with
   |none=>rfl
   |some u =>
    have e':b=a:=hA b (by rw[q];simp);subst e';rw[hK (by rw[q];simp)] at e;cases e)
  have hM:Mod K mg (CB fm.heap H):=⟨Wn,Qb Wl,⟨mb,Qb hb,hbb⟩,let ⟨mc,h1,h2⟩:=dv';⟨mc,Qb h1,h2⟩⟩
  have e0:PX P w K mg (CB fm.heap H) callerA [] fm H:=⟨rfl,hM,λb o e=>aH' e,Nat.le_of_eq (aF' _ _),trivial,λb hb=>absurd (show b∈([]:List ag) from hb) (by simp),bT,.of_eq hg⟩
  refine codeAny_mono ((F _ Wn (Qb Wl)).run callerA [] fm H ⟨[.ref a],[]⟩ [.ref a] [.ref a] _ _ hr e0 (dw' fm (.ref a)) (.cons rfl .nil) (A2 H hO hS)) λr s' h=>?_
  cases r with
  |error e=>exact(S0 H e s' h).elim
  |ok fl =>
   cases fl with
   |next=>exact False.elim h
   |brk=>exact False.elim h
   |cont=>exact False.elim h
   |ret u =>
    obtain⟨v,H',os,bare,un,dy',r',q⟩:=h;have q':v=.bl true:=q;subst q';obtain rfl:u=Value.bool true:=r';refine⟨rfl,OldK.of_keep λb o e=>?_,os,bare⟩
    cases q:H b with
    |none=>exact un.keep b o e q (by intro z;exact absurd (show b∈([]:List ag) from z) (by simp)) (by simp)
    |some u =>
     rcases hO b with z|⟨ob,xs,z⟩
     ·rw[q] at z;cases z
     ·have z2:=un.qf b ob _ z;obtain⟨e1,_⟩:=bT b _ z;obtain⟨e2,_⟩:=dy' b _ z2;rw[e] at e1;cases e1;exact e2
 cases hk:K.lookup a with
 |some o =>
  -- the script is one of the module's own objects
  have e:=KX a o hk;rw[ha] at e;cases e;refine core (λ_=>none) (λ_=>.inl rfl) (.inr ⟨_,vs.toArray,_,hk,rfl,rfl,rfl,by rw[iA,dx'];exact hl,by simpa using rv⟩) (λb u z=>by have z':(none:Option HO)=some u:=z;cases z') (λb z=>absurd rfl z) λz=>absurd rfl z
 |none =>
  refine core (λb=>if b=a then some (.mM { cls:=.type "list",data:=.seq vs.toArray } (.lst (ns.map V.int))) else none) (λb=>?_) (.inl (.inr ⟨{ cls:=.type "list",data:=.seq vs.toArray },if_pos rfl⟩)) (λb u z=>?_) (λb z=>?_) λ_=>hk
  ·by_cases hb:b=a
   ·exact .inr ⟨_,_,if_pos hb⟩
   ·exact .inl (if_neg hb)
  ·by_cases hb:b=a
   ·have z':=(if_pos hb).symm.trans z;cases z';subst hb;exact⟨ha,by rw[dn];exact hl,vs,_,rv,ha⟩
   ·have z':=(if_neg hb).symm.trans z;cases z'
  ·by_cases hb:b=a
   ·exact hb
   ·exact absurd (if_neg hb) z
theorem dz'{l:Rz}{n k:Nat}{q:dz}{loose:List Str}{XP:(Str->Option ah)->cS->Prop}{YP:dA->cS->Prop}{d:DefRec}{K:Params->aI}{CX:dA->CL}{sp:dA->Sp}{x:Str}(hn:l.most=some n) (HP:n<=bX) (NR:d.params.defaults=[]) (hr:ke k callerA)(hY:∀ (w:dA) (h:cS),YP w h->(K w.params).In h)(F:∀ (w:dA) (mg:Str->Option ah) (fa:ag) (h:cS),(K w.params).In h->h.Ns fR mg->mg d.name=some (.ref fa) ->
   ∃ fd:xo,(∀ (s:aE) (u:ah),BindsTo s fd ⟨[u],[]⟩ [(x,u)]) /\
    ∀ base:cS,(K w.params).In base->base.Ns fR mg->tf l.prog w (K w.params) mg base (CX w) k fa fd [x] (sp w))
  (A2:∀ (w:dA) (H:Hp) (a:ag) (ns:List Int),ns.length<=n->Only H->fF (K w.params) H a (ns.map V.int)->sp w [.ref a] H (λv _=>v=.bl true) λ_ _ _=>False)
  (S0:∀ (w:dA) (H:Hp) (s:aE) (e:ah) (s':aE),CX w [] H s (λ_ _ _=>False) e s'->False) :
  PySem.W.WalkO q loose XP YP l.row.toRowW d [] (λf vs=>PySem.call f vs):=by
 refine Wj.ds' hn NR λw fq fm mg mb fa o pm cd doc a vs ns G Y ho hd qh NS SY hints hlen hg=>?_;have KX:=hY w _ Y;obtain⟨fd,hb,hF⟩:=F w mg fa _ KX G.T.g NS;exact dt' KX G.T.g G.T.b G.T.builtins G.T.nolimit hg SY hints (i9 hlen HP) hr hF hb (λH hO hS=>A2 w H a ns hlen hO hS) λH e s'=>S0 w H fm e s'
def x3(s:Stmt):Arguments:=match s with
 |.FunctionDef _ a _ _ _ _ _ _ _ _=>a
 |_=>{ posonlyargs:=[],args:=[],vararg:=none,kwonlyargs:=[],kw_defaults:=[],kwarg:=none,defaults:=[] }
def qo(s:Stmt):List Stmt:=match s with
 |.FunctionDef _ _ b _ _ _ _ _ _ _=>b
 |_=>[]
def gX(s:Stmt):Scope:=match s with
 |.FunctionDef _ _ _ _ _ _ sc _ _ _=>sc
 |_=>{ kind:=.function,names:=[],isGenerator:=false,isCoroutine:=false }
abbrev u0:CL:=λ_ _ _ _ _ _=>False
abbrev E0:XK:=λ_ _ _=>False
theorem dA'{X:Cx}:Passes u0 X E0:=λ_ _ _ _ _ _ _ h=>h.elim
structure tF(K:aI)(x qual:Str)(st:Stmt)(f:ag)(fd:xo):Prop where
 ex:∃ (oc:ah) (od:Option ag) (kV doc pm:ah) (an:Option ag) (dr ct:ah) (y3:Array (Option ah)),
  fd=ui x qual (x3 st) (qo st) (gX st) .none kV doc pm an dr ct/\K.lookup f=some ⟨oc,od,.func fd,y3⟩/\KW K dr qual=true
 kp:D7 K (.ref f)=true
section
variable {P:dz}{w:dA}{K:aI}{mg:Str->Option ah}{base:cS}
theorem tF.ok{st:Stmt}{N ps:List Str}(F:tF K x qual st f fd)(S:HG N ps (gX st))(len:∀ vs H Q E,sp vs H Q E->vs.length=ps.length)(y6:∀ (dr:ah) (A:eJ) (outer:List Env) (s:aE) (H:Hp) (vs:List V) (Q:VK) (E:XK),ke k (A.deeper (k7 qual (gX st) s.heap.objs.size f dr))->sp vs H Q E ->
   ∃ t,mP (pf u0 P w K mg base N qual (gX st) f dr A outer s H E).EJ (qo st) t/\t { nx:=λ_ H'=>Q .non H',rt:=Q } (start N vs) H):tf P w K mg base u0 (k+1) f fd ps sp:=by
 obtain⟨oc,od,kV,doc,pm,an,dr,ct,y3,rfl,lk,qh⟩:=F.ex;refine VX lk qh S len λA outer s H vs Q E hr A2=>?_;obtain⟨t,h,q⟩:=y6 dr A outer s H vs Q E hr A2;exact⟨t,h.EJ,q⟩
theorem tF.binds{st:Stmt}{ps:List Str}(F:tF K x qual st f fd)(h:∀ (kV doc pm:ah) (an:Option ag) (dr ct:ah) (us:List ah),us.length=ps.length->bindArgs (ui x qual (x3 st) (qo st) (gX st) .none kV doc pm an dr ct) ⟨us,[]⟩=pure (ps.zip us)):Binds K fd ps []:=by
 obtain⟨oc,od,kV,doc,pm,an,dr,ct,y3,rfl,lk,qh⟩:=F.ex;exact .all (h kV doc pm an dr ct)
theorem Wo{st:Stmt}{kV doc pm dr ct:ah}(l:K.lookup f=some ⟨oc,od,.func (ui x qual (x3 st) (qo st) (gX st) .none kV doc pm an dr ct),y3⟩)(c:KW K dr qual=true) (k:D7 K (.ref f)=true):tF K x qual st f (ui x qual (x3 st) (qo st) (gX st) .none kV doc pm an dr ct):=⟨⟨oc,od,kV,doc,pm,an,dr,ct,y3,rfl,l,c⟩,k⟩
end
section
variable {X:Cx}
theorem pv (i:Nat) (hN:X.N[i]? = some x:=by rfl) (hv:Np X.env.scope x:=by first|exact Or.inl rfl|exact Or.inr (Or.inl rfl)|exact Or.inr (Or.inr rfl)) (hd:(x == ("__debug__" : Str))=false:=by decide) (qh:(x == ("__classdict__" : Str))=false:=by decide):PE X (.Name x pos) (AW i):=Vm hN hv hd qh
end
def bG(H H':Hp):Prop:=∀ b o,H b=some o->H' b=some o
theorem bG.refl(H:Hp):bG H H:=λ_ _ h=>h
theorem bG.trans(a:bG H H1)(b:bG H1 H2):bG H H2:=λc o h=>b c o (a c o h)
theorem bG.free(e:bG H H')(h:H' l=Option.none):H l=Option.none:=by
 cases q:H l with
 |none=>rfl
 |some o =>rw[e l o q] at h;cases h
theorem bG.seq{K:aI}(e:bG H H')(h:fF K H a xs):fF K H' a xs:=by
 rcases h with(h|⟨o,h⟩)|h
 ·exact .inl (.inl (e _ _ h))
 ·exact .inl (.inr ⟨o,e _ _ h⟩)
 ·exact .inr h
end L2
set_option maxHeartbeats 4000000
namespace L2
open PySem PySem.Spec PyProof.Rows
def tI(env:Env):List (Str × yk)->List (Str × ag)->List (Str × ag)
 |[],cs=>cs
 | (n,k) :: r,cs=>tI env r (if k == NameKind.free then (n,(env.cells.lookup n).getD 0) :: cs else cs)
theorem gw(env:Env):∀ (names:List (Str × yk)) (cs:List (Str × ag)),(∀ y∈names,y.2=.free->∃ c,env.cells.lookup y.1=some c) -> (forIn names cs λx r=>match x with
   | (name,kind)=>if (kind == NameKind.free)=true then do let a <- cellOf env name;pure (ForInStep.yield ((name,a) :: r)) else pure (ForInStep.yield r):Sem (List (Str × ag)))=pure (tI env names cs)
 |[],cs,_=>rfl
 | (n,k) :: r,cs,h=>by
  rw[List.forIn_cons];have ih:=gw env r;by_cases hk:k=.free
  ·subst hk;obtain⟨c,e⟩:=h (n,.free) ft rfl;have e:env.cells.lookup n=some c:=e;have e2:cellOf env n=pure c:=by unfold cellOf;rw[e]
   have e3:tI env ((n,.free) :: r) cs=tI env r ((n,c) :: cs):=by show tI env r (if (NameKind.free == NameKind.free)=true then (n,(env.cells.lookup n).getD 0) :: cs else cs)=_;rw[e];rfl
   rw[e3,<- ih ((n,c) :: cs) λy hy=>h y (eP _ hy)];simp only[beq_self_eq_true,if_true,e2];rfl
  ·have hb:(k == NameKind.free)=false:=by simpa using hk
   have e3:tI env ((n,k) :: r) cs=tI env r cs:=by show tI env r (if (k == NameKind.free)=true then _ else cs)=_;rw[hb];rfl
   rw[e3,<- ih cs λy hy=>h y (eP _ hy)];simp only[hb,hZ,if_false];rfl
theorem lN(h:∀ y∈scope.names,y.2=.free->∃ c,env.cells.lookup y.1=some c):closureFor scope env=pure (tI env scope.names []):=by have:=gw env scope.names [] h;unfold closureFor;rw[<- bind_pure (forIn scope.names [] _)] at this;exact this
theorem nq:∀ {names:List (Str × yk)} {cs:List (Str × ag)},(∀ y∈names,y.2=.free->∃ c,env.cells.lookup y.1=some c)->(∀ y d,cs.lookup y=some d->env.cells.lookup y=some d) -> (tI env names cs).lookup x=some c->env.cells.lookup x=some c
 |[],cs,_,h,e=>h x c e
 | (n,k) :: r,cs,hf,h,e=>by
  refine nq (names:=r) (λy hy=>hf y (eP _ hy)) ?_ e;intro y d hd;by_cases hk:k=.free
  ·subst hk;obtain⟨c',e'⟩:=hf (n,.free) ft rfl;have e':env.cells.lookup n=some c':=e';simp only[beq_self_eq_true,if_true,e',Option.getD_some,RQ] at hd
   cases hb:y == n with
   |true=>rw[hb] at hd;have:y=n:=eq_of_beq hb;subst this;rw[e'];exact hd
   |false=>rw[hb] at hd;exact h y d hd
  ·have hb:(k == NameKind.free)=false:=by simpa using hk
   simp only[hb,hZ,if_false] at hd;exact h y d hd
theorem jL:∀ {names:List (Str × yk)} {cs:List (Str × ag)},((x,NameKind.free)∈names\/∃ c,cs.lookup x=some c)->∃ c,(tI env names cs).lookup x=some c
 |[],cs,h=>by
  rcases h with h|h
  ·exact nomatch h
  ·exact h
 | (n,k) :: r,cs,h=>by
  refine jL (names:=r) ?_;rcases h with h|⟨c,h⟩
  ·rcases eM.mp h with e|h
   ·cases e;refine .inr ⟨(env.cells.lookup x).getD 0,?_⟩;simp only[beq_self_eq_true,if_true,RQ]
   ·exact .inl h
  ·refine .inr ?_;by_cases hk:(k == NameKind.free)=true
   ·simp only[hk,if_true,RQ]
    cases hb:x == n with
    |true=>exact⟨_,rfl⟩
    |false=>exact⟨c,h⟩
   ·simp only[hk,if_false];exact⟨c,h⟩
def aN(X:Cx)(scope:Scope)(C:ag)(N:List Str)(fp:List ag)(g7:aE)(iS:Hp):Cx :=
 { X with N:=N,fq:=g7,yB:=iS,env:=compEnvC scope (tI X.env scope.names []) C X.env,outer:=X.stack,stack:=X.stack,ex:=fp,fn:=λ_=>false,pn:=[],xe:=λ_ _=>False }
def A7(X:Cx)(ifs:List Expr)(t:TT):Prop :=
 ∀ (pins:List (ag × Obj)) (s:aE) (σ:St) (H:Hp) (Q:Bool->Hp->Prop),Inv X pins σ H s->t σ H Q ->
  aT (aS X.prog X.w) X.A (forIn ifs true λc r=>if r=true then do let ok <- isTrue c X.env (c9 c X.env);pure (ForInStep.yield ok) else pure (ForInStep.yield r)) (TP X pins σ Q) X.xe s
def dB':TT:=λ_ H Q=>Q true H
theorem B_{X:Cx}:A7 X [] dB':=λ_ _ _ H _ I h=>wpAny_tests_nil ⟨H,I,h⟩
theorem Ao{X:Cx}(h:PT X c t):A7 X [c] t:=λpins s σ H Q I hw=>wpAny_tests_one (h pins s σ H Q I hw)
theorem eV{R:Result->aE->Prop}(I:Nat->aE->Prop)(E:ah->aE->Prop)(turn:∀ n s,I n s->aT (aS prog w) A (pyNext it) (λr fm=>match r with
   |none=>R (.ok .next) fm
   |some v=>aT (aS prog w) A (letOwnedTupleGo target it v) (λ_ fq=>aT (aS prog w) A (assign target env v) (λ_ AZ =>
     aT (aS prog w) A (forIn ifs true λc r=>if r=true then do let ok <- isTrue c env (c9 c env);pure (ForInStep.yield ok) else pure (ForInStep.yield r)) (λok g7 =>
      if ok=true then aT (aS prog w) A (c9 elt env) (λx Wq =>
       aT (aS prog w) A (call (.builtin "list.append") [acc,x]) (λ_ Wr=>∃ m,m<n/\I m Wr) E Wq) E g7
      else ∃ m,m<n/\I m g7) E AZ) E fq) E fm) E s)
  (hE:∀ e s',E e s'->notedBy (aS prog w) A env (λe s'=>R (.error e) s') e s')
  (n:Nat) (h:I n s) :
  vx (aS prog w) A (.compLoop (.ListComp elt [⟨target,iter,ifs,0⟩] scope pos) 0 it acc env) R s:=by
 refine codeAny_loop rfl I (λn s hI=>?_) n h;show aT _ A ((compTurn (.ListComp elt [⟨target,iter,ifs,0⟩] scope pos) 0 it acc env).onRaise (λx=>do noteFrame x env;theTreesLotGoes x)) _ _ s;refine wpAny_noted ?_;rw[compTurn_list];refine oD (Q:=_) (E:=E) ?_ (λ_ _ q=>q) hE;refine ay (wpAny_standAt (ay (oD (turn n s hI) (λr fm NT=>?_) λ_ _ h'=>h')))
 cases r with
 |none=>exact bI NT
 |some v =>
  refine ay (oD NT (λ_ fq h₀=>?_) λ_ _ h'=>h');refine ay (oD h₀ (λ_ AZ dC'=>ay (oD dC' (λok g7 Ws=>?_) λ_ _ h'=>h')) λ_ _ h'=>h')
  cases ok with
  |false=>exact bI ⟨rfl,Ws⟩
  |true =>exact ay (ay (oD Ws (λx Wq dD'=>ay (oD dD' (λ_ Wr dE'=>bI (bI ⟨rfl,dE'⟩)) λ_ _ h'=>h')) λ_ _ h'=>h'))
def mZ(tn:Nat)(ix:List Nat)(σ:St):St:=List.replicate tn none++ix.map λj=>(σ[j]?).join
def xq(wi:TI)(g:TG)(tc:TT)(te:TE)(tn:Nat)(ix:List Nat):TE:=λσ H Q=>wi σ H λJ H1=>∀ D,H1 D=none ->
 ∃ W:Nat->Nat->St->Hp->Prop,(∃ m,W 0 m (mZ tn ix σ) (upd H1 D (.lst [])))/\∀ i m τ H,W i m τ H -> (J.stop i H/\Q (.ref D) H)\/(J.go i H/\∃ (N1:St->V->Hp->Prop) (N2:St->Hp->Prop), (∀ nc v H4,N1 nc v H4->∃ ys m',H4 D=some (.lst ys)/\ys.length<bX/\m'<m/\W (i+1) m' nc (upd H4 D (.lst (ys++[v])))) /\ (∀ nc H3,N2 nc H3->∃ m',m'<m/\W (i+1) m' nc H3) /\
   ∀ x H',J.n9 i H x H'->g x τ H' λnc H2=>tc nc H2 λb H3=>if b=true then te nc H3 (N1 nc) else N2 nc H3)
section
variable {X:Cx}{tg iter elt:Expr}{ifs:List Expr}{scope:Scope}{pos:Pos}{wi:TI}{g:TG}{tc:TT}{te:TE}{tn cn:List Str}{ix:List Nat}
structure dC(X:Cx)(scope:Scope)(tn cn:List Str)(ix:List Nat):Prop where
 kind:scope.kind=.function
 dF':∀ y∈scope.names,y.2≠.cell
 free:∀ y∈scope.names,y.2=.free->X.env.scope.names.lookup y.1=some .cell\/X.env.scope.names.lookup y.1=some .free
 names:∀ y∈scope.names,y.2=.local->scope.names.lookup y.1=some .local
 len:ix.length=cn.length
 cap:∀ (k j:Nat),ix[k]? = some j->∃ y,cn[k]? = some y/\X.N[j]? = some y/\(X.env.scope.names.lookup y=some .cell\/X.env.scope.names.lookup y=some .free)/\(y,NameKind.free)∈scope.names /\
  ((relabel scope X.env).names.lookup y=some .cell\/(relabel scope X.env).names.lookup y=some .free)
 all:∀ x,(relabel scope X.env).names.lookup x=some .cell\/(relabel scope X.env).names.lookup x=some .free->(x,NameKind.free)∈scope.names
theorem uR(O:dC X scope tn cn ix)(I:Inv X pins σ H s)(hf:∀ b∈fp,y1 X pins H b)(S4:∀ b∈fp,b<s.heap.objs.size)(hC:s.heap.objs.size<=C) : (aN X scope C (tn++cn) fp s H).Ok:=by
 have lP:∀ y∈scope.names,y.2=.free->∃ c,X.env.cells.lookup y.1=some c:=λy hy hk=>I.ok.has y.1 (O.free y hy hk);have sub:∀ x c,(tI X.env scope.names []).lookup x=some c->X.env.cells.lookup x=some c:=λx c e=>nq lP (λy d h=>by simp at h) e;refine⟨I.ok.mod,O.kind,I.ok.glob,I.ok.blt,hC,λx y c h1 h2=>I.ok.inj x y c (sub x c h1) (sub y c h2),λx hx=>jL (.inl (O.all x hx)),(λx c h _=>nomatch h),I.ok.hd,I.ok.frames,.inl rfl,λb hb=>⟨?_,λx c e=>?_⟩,
  I.bs,i9 I.ok.uS I.sz,λb o e hb=>?_,λb hb=>?_,I.stack,I.Se⟩
 ·exact gV (n4 (S4 b hb) hC)
 ·exact(hf b hb).2.2.2.2.1 x c (sub x c e)
 ·rcases (hf b hb).2.2.2.1 with z|z
  ·exact I.ok.AR b o e z
  ·exact absurd (n4 (eS e) (i9 I.ok.uS z)) (uk _)
 ·intro hz;rcases eM.mp (I.Sd b hz) with e|e
  ·exact(hf b hb).2.1 e
  ·exact(hf b hb).2.2.1 e
theorem qW{P:ah->aE->Prop}(hc:X.calm=true)(hi:PI X tg iter wi)(O:dC X scope tn cn ix)(hg:∀ C fp g7 iS,PG (aN X scope C (tn++cn) fp g7 iS) tg g) (xI:∀ C fp g7 iS,A7 (aN X scope C (tn++cn) fp g7 iS) ifs tc) (he:∀ C fp g7 iS,PE (aN X scope C (tn++cn) fp g7 iS) elt te)(hs:∀ x,FK iter X.env x=pure x) (I:Inv X pins σ H s) (h:xq wi g tc te tn.length ix σ H Q)(fin:∀ (C D:ag) (m:Str->Option ah) (H5:Hp) (s6:aE) (r:Flow),Inv X pins σ H5 s6->s6.heap.Ns C m->H5 C=none->y1 X pins H5 C->Q (.ref D) H5->compPost (aS X.prog X.w) X.A X.xe use P (.ref D) C (.ok r) s6) :
  aT (aS X.prog X.w) X.A (comprehension (.ListComp elt [⟨tg,iter,ifs,0⟩] scope pos) scope X.env kA' (newList []) false (c9 iter X.env) use) P X.xe s:=by
 have lP:∀ y∈scope.names,y.2=.free->∃ c,X.env.cells.lookup y.1=some c:=λy hy hk=>I.ok.has y.1 (O.free y hy hk);have sub:∀ x c,(tI X.env scope.names []).lookup x=some c->X.env.cells.lookup x=some c:=λx c e=>nq lP (λy d h=>by simp at h) e;refine wpAny_comprehension_free (use:=use) rfl hs (lN lP) O.kind O.names (dP (hi pins s σ H _ I h) λv s1 h1=>dP h1 λSj s2 h2=>?_);obtain⟨it,fp,Qc,J,H2,e,I2,T,xC,f2,h2⟩:=h2;subst e;obtain⟨W,⟨m0,w0⟩,turn⟩:=h2 s2.heap.objs.size (I2.bT.fresh (de _));refine rS ?_;have I3:Inv X pins σ (upd H2 s2.heap.objs.size (.lst [])) { s2 with heap:=s2.heap.push { cls:=.type "list",data:=.seq ([]:List ah).toArray } }:=I2.V9 (its:=[]) (t':=s2.toks) .nil (eW _);generalize hD:s2.heap.objs.size=D at *
 generalize L9:({ s2 with heap:=s2.heap.push { cls:=.type "list",data:=.seq ([]:List ah).toArray } }:aE)=s3 at *
 have k23:∀ b o,s2.heap.get? b=some o->s3.heap.get? b=some o:=λb o e=>by rw[<- L9];exact fI _ e
 have sz3:s3.heap.objs.size=D+1:=by rw[<- L9,<- hD];exact Heap.size_push ..
 have f3:∀ b∈fp,y1 X pins (upd H2 D (.lst [])) b:=λb hb=>by obtain⟨f0,fr⟩:=f2 b hb;obtain⟨o,ho,_⟩:=T.obj _ _ xC b hb;refine⟨?_,fr⟩;rw[iN (gV (by rw[<- hD];exact eS ho))];exact f0
 have xD:Qc 0 s3.heap:=T.keep _ _ _ xC λb hb o e=>k23 b o e;have lt3:∀ b∈fp,b<s3.heap.objs.size:=λb hb=>by obtain⟨o,ho,_⟩:=T.obj _ _ xD b hb;exact eS ho
 refine wpAny_newFunctionEnv O.dF' (by intro y hy;simp at hy) (λNT dI' dJ'=>?_) O.kind;have HV:∀ b o,s3.heap.get? b=some o->NT.get? b=some o:=λb o e=>dJ'.extBut b o (gV (eS e)) (fI _ e)
 -- the block's context
 have Qe:=uR (C:=s3.heap.objs.size) O I3 f3 lt3 (de _);have I4:Inv (aN X scope s3.heap.objs.size (tn++cn) fp s3 (upd H2 D (.lst []))) [] (mZ tn.length ix σ) (upd H2 D (.lst [])) { s3 with heap:=NT,toks:=s3.toks+([]:List (Str × ah)).length }:=by
  refine⟨Qe,rfl,I3.bare,Un.kept HV,⟨_,dI',λi x v e1 e2 e3=>?_⟩,λx c e=>?_,I3.bT.fresh (de _),λx c e=>I3.pe x c (sub x c e),λp hp=>absurd hp (by simp[aN]),I3.bT.kept HV,?_⟩
  ·have k9:tn.length<=i:=by
    by_cases q:i<tn.length
    ·unfold mZ at e2;rw[MV (by simpa using q),RC] at e2;simp[q] at e2
    ·lia
   unfold mZ at e2;rw[D8 (by simpa using k9),RD,qa] at e2;have e1:(tn++cn)[i]? = some x:=e1;rw[D8 k9] at e1
   cases q:ix[i-tn.length]? with
   |none=>rw[q] at e2;cases e2
   |some j =>
    rw[q] at e2;obtain⟨y,c1,c2,c3,c4,c5⟩:=O.cap _ _ q;rw[c1] at e1;cases e1;have e2:σ[j]?.join=some v:=Option.some.inj e2;have ej:σ[j]? = some (some v):=by
     cases z:σ[j]? with
     |none=>rw[z] at e2;cases e2
     |some o=>rw[z] at e2;exact congrArg some e2
    obtain⟨m,hn,hl⟩:=I3.loc;obtain⟨u,r,l⟩:=hl j x v c2 ej (c3.elim (λz=>.inr (.inl z)) λz=>.inr (.inr z));refine⟨u,r,.inr ⟨c5,?_⟩⟩;rcases l with⟨hk,_⟩|⟨hk,c,PC,hce⟩
    ·have hk:X.env.scope.names.lookup x=some .local:=hk;rcases c3 with z|z
     ·rw[z] at hk;cases hk
     ·rw[z] at hk;cases hk
    ·obtain⟨c',GV⟩:=jL (env:=X.env) (cs:=[]) (Or.inl c4);have:=sub x c' GV;rw[PC] at this;cases this;obtain⟨o,ho,hd⟩:=hce;exact⟨c,GV,o,HV _ _ ho,hd⟩
  ·obtain⟨v,o,ho,hd⟩:=I3.cell x c (sub x c e);exact⟨v,o,HV _ _ ho,hd⟩
  ·show(mZ tn.length ix σ).length=(tn++cn).length;unfold mZ;simp[O.len]
 -- from the block back to the body
 have back:∀ {τ:St} {H':Hp} {s':aE},Inv (aN X scope s3.heap.objs.size (tn++cn) fp s3 (upd H2 D (.lst []))) [] τ H' s'->Inv X pins σ H' s':=λ{τ H' s'} I' =>
  Inv.aN' (ch:=fp) I3 I'.os I'.base I'.bT I'.bare λb hb=>by obtain⟨_,f1,_,f3',f4,f5⟩:=f3 b hb;exact⟨f3',f1,f4,f5⟩
 have S5:∀ {H':Hp},(∀ b∈fp,H' b=none)->∀ b∈fp,y1 (aN X scope s3.heap.objs.size (tn++cn) fp s3 (upd H2 D (.lst []))) [] H' b:=λhn b hb =>
  ⟨hn b hb,(Qe.CD b hb).1,Qe.AU b hb,.inl hb,(Qe.CD b hb).2,λp hp=>absurd hp (by simp[aN])⟩
 have loop:∀ s4:aE,Inv (aN X scope s3.heap.objs.size (tn++cn) fp s3 (upd H2 D (.lst []))) [] (mZ tn.length ix σ) (upd H2 D (.lst [])) s4->Qc 0 s4.heap ->
   vx (aS X.prog X.w) X.A (.compLoop (.ListComp elt [⟨tg,iter,ifs,0⟩] scope pos) 0 (.ref it) (.ref D) (compEnvC scope (tI X.env scope.names []) s3.heap.objs.size X.env)) (compPost (aS X.prog X.w) X.A X.xe use P (.ref D) s3.heap.objs.size) s4:=by
  intro s4 I4 wd;refine eV (λn s'=>∃ i τ H',Inv (aN X scope s3.heap.objs.size (tn++cn) fp s3 (upd H2 D (.lst []))) [] τ H' s'/\Qc i s'.heap/\(∀ b∈fp,H' b=none)/\W i n τ H') (λ_ _=>False) ?_ (λ_ _ z=>z.elim) m0 ⟨0,_,_,I4,wd,λb hb=>(f3 b hb).1,w0⟩
  rintro n s5 ⟨i,τ,H5,I5,He,PL,w5⟩;rcases turn i n τ H5 w5 with⟨stop,qn⟩|⟨go,N1,N2,hN1,hN2,step⟩
  ·refine dP (T.done (aN X scope s3.heap.objs.size (tn++cn) fp s3 (upd H2 D (.lst []))) rfl rfl rfl hc i [] s5 τ H5 (λ_ _=>False) I5 (S5 PL) He stop) λr s6 d5=>?_;obtain⟨hr,I6⟩:=d5;subst hr;have J6:=back I6;obtain⟨m,hn,_⟩:=I6.loc;exact fin _ D m H5 s6 _ J6 hn I6.free (I3.PF (b:=s3.heap.objs.size) (H':=H5) (de _) I6.free) qn
  ·refine dP (T.item (aN X scope s3.heap.objs.size (tn++cn) fp s3 (upd H2 D (.lst []))) rfl rfl rfl hc i [] s5 τ H5 (λ_ _=>False) I5 (S5 PL) He go) λr s6 d5=>?_;obtain⟨u,hr,h6⟩:=d5;subst hr;refine dP h6 λ_ s7 d5=>?_;obtain⟨x,H7,I7,r7,y7,S6,fr7⟩:=d5;have I7':=I7.pinned (S5 fr7) (T.obj _ _ S6);refine dP (hg _ _ _ _ _ s7 τ H7 x u _ I7' r7 (step x H7 y7)) λ_ s8 d5=>?_;obtain⟨L_,H8,I8,q8⟩:=d5;refine dP (xI _ _ _ _ _ s8 L_ H8 _ I8 q8) λok s9 d5=>?_;obtain⟨H9,I9,q9⟩:=d5;have again:∀ {s':aE} {H':Hp} {m':Nat},Inv (aN X scope s3.heap.objs.size (tn++cn) fp s3 (upd H2 D (.lst []))) ([]++Ny fp s7.heap) L_ H' s'->m'<n->W (i+1) m' L_ H' ->
     ∃ m,m<n/\∃ i τ H',Inv (aN X scope s3.heap.objs.size (tn++cn) fp s3 (upd H2 D (.lst []))) [] τ H' s'/\Qc i s'.heap/\(∀ b∈fp,H' b=none)/\W i m τ H':=λ{s' H' m'} J hm w'=>by
    refine⟨m',hm,i+1,L_,H',J.PK,T.keep _ _ _ S6 λb hb o e=>(J.pin (b,o) (fA _ (fA _ (PJ hb e)))).1,λb hb=>?_,w'⟩;obtain⟨o,e,d⟩:=T.obj _ _ S6 b hb;exact(J.pin (b,o) (fA _ (fA _ (PJ hb e)))).2.1
   cases ok with
   |false =>rw[if_neg kg] at q9 ⊢;obtain⟨m',hm,w'⟩:=hN2 _ _ q9;exact again I9 hm w'
   |true =>rw[if_pos rfl] at q9 ⊢;refine dP (he _ _ _ _ _ s9 L_ H9 _ I9 q9) λx9 s10 dS=>L2.hG dS λv10 Wt I10 r10 q10=>?_;obtain⟨ys,m',hH,hz,hm,w'⟩:=hN1 _ _ _ q10;refine dP (V_ _ s10 L_ Wt (.ref D) [v10] (.ref D) [x9] (λ_ H'=>H'=upd Wt D (.lst (ys++[v10]))) I10 rfl (.cons r10 .nil) ⟨D,ys,v10,rfl,rfl,hH,hz,rfl⟩) λ_ s11 dS=>L2.hG dS λ_ H11 I11 _ q11=>?_;subst q11;exact again I11 hm w'
 exact codeAny_compStart_list (loop _ I4 (T.keep _ _ _ xD λb hb o e=>HV b o e)) (T.self _ 0 _ _ _ (T.keep _ _ _ xD λb hb o e=>HV b o e) (loop _ I4 (T.keep _ _ _ xD λb hb o e=>HV b o e)))
theorem Cd(hc:X.calm=true)(hi:PI X tg iter wi)(O:dC X scope tn cn ix)(hg:∀ C fp g7 iS,PG (aN X scope C (tn++cn) fp g7 iS) tg g) (xI:∀ C fp g7 iS,A7 (aN X scope C (tn++cn) fp g7 iS) ifs tc) (he:∀ C fp g7 iS,PE (aN X scope C (tn++cn) fp g7 iS) elt te)(hs:∀ x,FK iter X.env x=pure x:=by intro _;rfl):PE X (.ListComp elt [⟨tg,iter,ifs,0⟩] scope pos) (xq wi g tc te tn.length ix):=by
 intro pins s σ H Q I h;rw[eval_ListComp];refine qW (use:=none) (P:=EP X pins σ Q) hc hi O hg xI he hs I h λC D m H5 s6 r J6 hn hf ⟨_,g1,_,g3,g4,g5⟩ qn=>⟨m,hn,λh' Qf=>⟨.ref D,H5,?_,rfl,qn⟩⟩
 exact J6.turned (t':=s6.toks) (λb o hb e=>Qf.extBut b o hb e) hf g1 g3 g4 g5
theorem tH(hN:X.N.Nodup)(DB:X.N[i]? = some x)(hx:Loc X.env.scope x)(hc:X.calm=true)(hi:PI X tg iter wi)(O:dC X scope tn cn ix)(hg:∀ C fp g7 iS,PG (aN X scope C (tn++cn) fp g7 iS) tg g) (xI:∀ C fp g7 iS,A7 (aN X scope C (tn++cn) fp g7 iS) ifs tc) (he:∀ C fp g7 iS,PE (aN X scope C (tn++cn) fp g7 iS) elt te)(S7:rU (.ListComp elt [⟨tg,iter,ifs,0⟩] scope pos) (some (.Name x pos')) S8.line X.env=pure true)(hs:∀ x,FK iter X.env x=pure x:=by intro _;rfl) (hf:X.fn x=true\/X.env.scope.names.lookup x=some .local:=by first|exact .inl rfl|exact .inr rfl|assumption) :
  PS X (.Assign [.Name x pos'] (.ListComp elt [⟨tg,iter,ifs,0⟩] scope pos) S8) (Vr (xq wi g tc te tn.length ix) (Si i)):=by
 intro pins s σ H D0 I h;rw[exec_Assign_Name_used _ _ _ _ S7];refine ay (wpAny_standAt (ay ?_));show aT _ _ (do let _ <- comprehension (.ListComp elt [⟨tg,iter,ifs,0⟩] scope pos) scope X.env _ (newList []) false (c9 iter X.env) (some (assign (.Name x pos') X.env))) _ _ s;refine ay (oD (qW (use:=some (assign (.Name x pos') X.env)) (P:=λ_ s'=>SP X pins D0 .next s') hc hi O hg xI he hs I h λC D m H5 s6 r J6 hn sj ⟨_,g1,_,g3,g4,g5⟩ qn=>?_) (λ_ s' hq=>bI (bI hq)) λ_ _ e=>e);refine(show aT _ _ (assign (.Name x pos') X.env (.ref D)) _ _ s6 from wpAny_assign_Name (Sg J6 hN DB hx (v:=.ref D) rfl (λs7 I7 d5=>?_) hf));obtain⟨a,sb,ha⟩:=d5;have hCa:C≠a:=by
  rcases ha with rfl|ha
  ·exact g1
  ·exact Ne.symm (g4 _ a ha)
 refine⟨m,hn.sameBut sb hCa,λh' Qf=>⟨_,H5,?_,qn⟩⟩;exact I7.turned (t':=s7.toks) (λb o hb e=>Qf.extBut b o hb e) sj g1 g3 g4 g5
end
def Ma (a b:String):Bool:=a == b || (a == "bool" && b == "int")
def S9 (b:String):Bool:=["str", "int", "bool", "list", "tuple", "dict"].contains b
theorem iz (K:aI) (a b:String) (ha:a∈["NoneType", "bool", "int", "str", "list", "tuple", "dict"]) (hb:b∈["str", "int", "bool", "list", "tuple", "dict"]):i3 K (.type a) (.type b)=some (Ma a b):=by simp only[eM,FX,or_false] at ha hb;rcases ha with rfl|rfl|rfl|rfl|rfl|rfl|rfl<;>rcases hb with rfl|rfl|rfl|rfl|rfl|rfl<;>kernel_rfl
section
variable {X:Cx}
theorem ez.imp(h:ez X f r)(hi:∀ x y H Q,r' x y H Q->r x y H Q):ez X f r' :=
 λpins s σ H x y v u Q I rx ry q=>h pins s σ H x y v u Q I rx ry (hi x y H Q q)
def G4(K:aI):R2:=λx y H Q=>∃ l b xs zs,x=.ref l/\y=.ref b/\fF K H l xs/\fF K H b zs/\xs.length+zs.length<=bX/\∀ p,H p=none->Q (.ref p) (upd H p (.lst (xs++zs)))
theorem z8:ez X (p9 .Add) (G4 X.K):=by
 intro pins s σ H x y v u Q I rx ry h;obtain⟨l,b,xs,zs,rfl,rfl,hH,hB,hz,q⟩:=h;cases rx;cases ry;obtain⟨its,r,pl,z⟩:=I.list hH;obtain⟨CY,r2,pl2,z2⟩:=I.list hB;have hl:=r.length;have A6:=r2.length;obtain⟨⟨cls,dd,data,sl⟩,ho,hc,n,hd⟩:=id pl.isList;obtain⟨⟨ck',PZ,data2,P0⟩,wa,NF,n2,hd2⟩:=id pl2.isList;simp only at hc hd NF hd2;subst hc hd NF hd2;have ea:its.toArray++CY.toArray=(its++CY).toArray:=by simp
 refine concat_meets ⟨_,ho,rfl⟩ ⟨_,wa,rfl⟩ noFill_list_add seq_list_add PySem.F.slot_list_add PySem.F.entry_list_add (PySem.F.args_list_add_2 _ _) (list_addW l b its.toArray CY.toArray n n2 dd PZ sl P0 (by simp only[iA];lia)) ⟨ho,wa,?_⟩;rw[ea];exact⟨.ref _,_,I.V9 (t':=s.toks) (r.append r2) (by rw[ny];lia),rfl,q _ I.fresh⟩
def yj(K:aI):R2:=λx y H Q=>match x,y with
 |.int i,.int j=>Q (.int (i+j)) H
 |.str i,.str j=>i.length+j.length<=bX/\Q (.str (i++j)) H
 |.ref a,.ref b=>∃ xs zs,fF K H a xs/\fF K H b zs/\xs.length+zs.length<=bX/\∀ p,H p=none->Q (.ref p) (upd H p (.lst (xs++zs)))
 |_,_=>False
theorem Ag:ez X (p9 .Add) (yj X.K):=by
 refine(bF'.or (bX'.or z8)).imp λx y H Q h=>?_;unfold yj at h;split at h
 ·exact .inl ⟨_,_,rfl,rfl,h⟩
 ·exact .inr (.inl ⟨_,_,rfl,rfl,h.1,h.2⟩)
 ·obtain⟨xs,zs,h1,h2,h3,h4⟩:=h;exact .inr (.inr ⟨_,_,xs,zs,rfl,rfl,h1,h2,h3,h4⟩)
 ·exact h.elim
def Bp:R2:=λx y H Q=>match x,y with
 |.int i,.int j=>L5 i j/\Q (.int (i*j)) H
 |_,_=>False
theorem BZ:ez X (p9 .Mult) Bp:=bG'.imp λx y H Q h=>by
 unfold Bp at h;split at h
 ·exact⟨_,_,rfl,rfl,h.1,h.2⟩
 ·exact h.elim
def BP:R2:=λx y H Q=>match x,y with
 |.int i,.int j=>(0<j/\j<1073741824)/\Q (.int (i / j)) H
 |_,_=>False
theorem zV:ez X (p9 .FloorDiv) BP:=bH'.imp λx y H Q h=>by
 unfold BP at h;split at h
 ·exact⟨_,_,rfl,rfl,h.1,h.2⟩
 ·exact h.elim
def Av:R2:=λx y H Q=>match x,y with
 |.int i,.int j=>0<j/\Q (.int (i % j)) H
 |_,_=>False
theorem Cj:ez X (p9 .Mod) Av:=bI'.imp λx y H Q h=>by
 unfold Av at h;split at h
 ·exact⟨_,_,rfl,rfl,h.1,h.2⟩
 ·exact h.elim
def qq(x y:Str):Bool:=decide (x.cps.toList<y.cps.toList)
def S_:R2:=λx y H Q=>match x,y with
 |.int i,.int j=>Q (.bl (decide (i<j))) H
 |.str i,.str j=>Q (.bl (qq i j)) H
 |_,_=>False
theorem nP:ez X (gS .Lt) S_:=(bN'.or bQ').imp λx y H Q h=>by
 unfold S_ at h;split at h
 ·exact .inl ⟨_,_,rfl,rfl,h⟩
 ·exact .inr ⟨_,_,rfl,rfl,h⟩
 ·exact h.elim
theorem vz:ez X (gS .LtE) (λx y H Q=>∃ i j,x=.str i/\y=.str j/\Q (.bl (!qq j i)) H):=by intro pins s σ H x y v u Q I rx ry h;obtain⟨i,j,rfl,rfl,q⟩:=h;obtain⟨t,rfl⟩:=rx;obtain⟨t',rfl⟩:=ry;exact PySem.P.le_str ⟨.bl _,H,I,rfl,q⟩
def Ta:R2:=λx y H Q=>match x,y with
 |.int i,.int j=>Q (.bl (decide (i<=j))) H
 |.str i,.str j=>Q (.bl (!qq j i)) H
 |_,_=>False
theorem zO:ez X (gS .LtE) Ta:=(bO'.or vz).imp λx y H Q h=>by
 unfold Ta at h;split at h
 ·exact .inl ⟨_,_,rfl,rfl,h⟩
 ·exact .inr ⟨_,_,rfl,rfl,h⟩
 ·exact h.elim
def Tb:R2:=λx y H Q=>match x,y with
 |.int i,.int j=>Q (.bl (decide (j<i))) H
 |_,_=>False
theorem v8:ez X (gS .Gt) Tb:=bP'.imp λx y H Q h=>by
 unfold Tb at h;split at h
 ·exact⟨_,_,rfl,rfl,h⟩
 ·exact h.elim
theorem Inv.rd(I:Inv X pins σ H s)(e:Rd H a u):fS X.prog X.w H s.heap a u:=e.elim (I.bT a _) λ⟨o,e⟩=>(show fS X.prog X.w H s.heap a (.mM o u) from I.bT a _ e).2
def Qg(K:aI):List V->Hp->VK->Prop:=λxs H Q=>match xs with
 |[.str y]=>y.length<=bX/\Q (.int y.length) H
 |[.ref p]=>(∃ ys,fF K H p ys/\Q (.int ys.length) H)\/(∃ ys,qk K H p ys/\Q (.int ys.length) H)\/∃ ae,Rd H p (.dK ae)/\Q (.int ae.length) H
 |_=>False
theorem wN:nK X (.builtin "len") (Qg X.K):=by
 intro pins s σ H xs us Q I r h;unfold Qg at h;split at h
 ·exact Sw pins s σ H _ us Q I r ⟨_,_,rfl,⟨h.1,rfl⟩,h.2⟩
 ·rcases h with⟨ys,h1,h2⟩|⟨ys,h1,h2⟩|⟨ae,h1,h2⟩
  ·exact Sw pins s σ H _ us Q I r ⟨_,_,rfl,.inl ⟨ys,h1,rfl⟩,h2⟩
  ·exact Sw pins s σ H _ us Q I r ⟨_,_,rfl,.inr ⟨ys,h1,rfl⟩,h2⟩
  ·obtain⟨u,rfl,ru⟩:=vals1 r;cases ru;exact de' I h1 λt s' I'=>⟨.int ae.length,H,I',⟨t,rfl⟩,h2⟩
 ·exact h.elim
def Tc(K:aI):R2:=λx y H Q=>match x,y with
 |.ref p,.int i=>(∃ xs v,fF K H p xs/\fT xs i=some v/\Q v H)\/∃ xs v,qk K H p xs/\fT xs i=some v/\Q v H
 |.str z,.int i=>z.length<=bX/\∃ c,fT z.cps.toList i=some c/\Q (.str ⟨#[c]⟩) H
 |_,_=>False
theorem Fz:xS X (Tc X.K):=by
 intro value slice pins s σ H x y v u Q I rx ry h hs;refine cF' value slice pins s σ H x y v u Q I rx ry ?_ hs;unfold Tc at h;split at h
 ·rcases h with⟨xs,w,h1,h2,h3⟩|⟨xs,w,h1,h2,h3⟩
  ·exact .inl ⟨_,xs,_,w,rfl,rfl,h1,h2,h3⟩
  ·exact .inr (.inl ⟨_,xs,_,w,rfl,rfl,h1,h2,h3⟩)
 ·obtain⟨h1,c,h2,h3⟩:=h;exact .inr (.inr ⟨_,_,c,rfl,rfl,h1,h2,h3⟩)
 ·exact h.elim
def ky(z:Str)(lo hi:Option Int):Str:=⟨((z.cps.toList.drop (HT.cv z.length 0 lo)).take (HT.cv z.length z.length hi-HT.cv z.length 0 lo)).toArray⟩
end
theorem xm(l:List Nat)(lo hi:Option Int)(h:((l.drop (HT.cv l.length 0 lo)).take (HT.cv l.length l.length hi-HT.cv l.length 0 lo)).length=l.length) : (l.drop (HT.cv l.length 0 lo)).take (HT.cv l.length l.length hi-HT.cv l.length 0 lo)=l:=by
 generalize HT.cv l.length 0 lo=a at *
 generalize HT.cv l.length l.length hi=b at *
 by_cases hl:l.length=0
 ·have:l=[]:=O8.mp hl;subst this;simp
 ·rw[ly,xt] at h;have h1:a=0:=by lia
  subst h1;rw[Pj];exact FU (by lia)
theorem wz(lo hi:Option Int)(n:Nat):Builtin.Str.strSliceIndices lo hi 1 n=(List.range (HT.cv n n hi-HT.cv n 0 lo)).map (HT.cv n 0 lo + ·):=by
 unfold Builtin.Str.strSliceIndices;have e1:(match lo with|none=>(0:Int)|some i=>max 0 (min (if i<0 then i+n else i) n))=((HT.cv n 0 lo:Nat):Int):=by
  cases lo with
  |none=>simp[HT.cv]
  |some i =>
   simp only[HT.cv];by_cases h:i<0
   ·simp only[h,if_true]<;>lia
   ·simp only[h,if_false]<;>lia
 have e2:(match hi with|none=>(n:Int)|some i=>max 0 (min (if i<0 then i+n else i) n))=((HT.cv n n hi:Nat):Int):=by
  cases hi with
  |none=>simp[HT.cv]
  |some i =>
   simp only[HT.cv];by_cases h:i<0
   ·simp only[h,if_true]<;>lia
   ·simp only[h,if_false]<;>lia
 rw[<- sliceRange_one,<- e1,<- e2];simp only[show(1:Int)>0 by decide,if_true];cases lo<;>cases hi<;>rfl
section
variable {X:Cx}
theorem part_of(h:IsPart v o):∃ p:Option (Int × Tok),v=partValue p/\p.map (·.1)=o:=by
 cases h with
 |none=>exact⟨none,rfl,rfl⟩
 |int i t=>exact⟨some (i,t),rfl,rfl⟩
def Td(K:aI):V->Option Int->Option Int->Hp->VK->Prop:=λx lo hi H Q=>match x with
 |.str z=>z.length<=bX/\Q (.str (ky z lo hi)) H
 |.ref a=>∃ xs,fF K H a xs/\∀ p,H p=none->Q (.ref p) (upd H p (.lst (CM xs lo hi)))
 |_=>False
theorem DR:L6 X (λx lo hi H Q=>∃ z,x=.str z/\z.length<=bX/\Q (.str (ky z lo hi)) H):=by
 intro pins s σ H x v vl vu lo hi sl Q I rx hs pl pu h;obtain⟨z,rfl,hz,q⟩:=h;obtain⟨t,rfl⟩:=rx;obtain⟨p1,rfl,e1⟩:=part_of pl;obtain⟨p2,rfl,e2⟩:=part_of pu;refine⟨"str",_,F.slot_str_getitem.lookup,typeIs_str s z t,wpAny_getItem_str_slice (l:=p1) (u:=p2) (st:=none) hs rfl ?_⟩;have hl:z.cps.toList.length=z.length:=by simp[Str.length]
 have ep:slicePicked z p1 p2 none=(List.range (HT.cv z.length z.length hi-HT.cv z.length 0 lo)).map (HT.cv z.length 0 lo + ·):=by unfold slicePicked;rw[e1,e2];exact wz lo hi z.length
 have ef:(slicePicked z p1 p2 none).filterMap (z.cps[·]?)=(z.cps.toList.drop (HT.cv z.length 0 lo)).take (HT.cv z.length z.length hi-HT.cv z.length 0 lo):=by rw[ep];exact pick_run z.cps _ _
 unfold sliceMade;split
 ·rename_i hc;have hw:(slicePicked z p1 p2 none).length=z.length:=by simpa using hc
  have:ky z lo hi=z:=by
   unfold ky;have e3:((z.cps.toList.drop (HT.cv z.cps.toList.length 0 lo)).take (HT.cv z.cps.toList.length z.cps.toList.length hi-HT.cv z.cps.toList.length 0 lo)).length=z.cps.toList.length:=by
    rw[hl,ly,xt,hl];rw[ep,dn,Lz] at hw;have h0:HT.cv z.length 0 lo<=z.length:=by
     cases lo with
     |none=>simp[HT.cv]
     |some i=>simp only[HT.cv];split<;>lia
    have h1:HT.cv z.length z.length hi<=z.length:=by
     cases hi with
     |none=>simp[HT.cv]
     |some i=>simp only[HT.cv];split<;>lia
    lia
   have:=xm z.cps.toList lo hi e3;rw[hl] at this;rw[this]
  rw[this] at q;exact⟨.str z,H,I,⟨t,rfl⟩,q⟩
 ·rw[ef];exact⟨by
   show(ky z lo hi).length<=bX;unfold ky Str.length;simp only[iA,ly,xt,hl];have:z.cps.toList.length=z.length:=hl;lia,⟨.str (ky z lo hi),H,I.tok _,⟨_,rfl⟩,q⟩⟩
theorem El:L6 X (Td X.K):=by
 intro pins s σ H x v vl vu lo hi sl Q I rx hs pl pu h;unfold Td at h;split at h
 ·exact DR pins s σ H _ v vl vu lo hi sl Q I rx hs pl pu ⟨_,rfl,h.1,h.2⟩
 ·obtain⟨xs,h1,h2⟩:=h;exact cJ' pins s σ H _ v vl vu lo hi sl Q I rx hs pl pu ⟨_,xs,rfl,h1,h2⟩
 ·exact h.elim
def NV(z:Str):It:=⟨λi _=>i<z.cps.size,λi H x H'=>H'=H/\∃ c,z.cps[i]? = some c/\x=.str ⟨#[c]⟩,λi _=>z.cps.size<=i⟩
theorem sE {P:dz} {K:aI} (EV:ty = "str_ascii_iterator"\/ty = "str_iterator") :
  Turn P w K tg (NV z) [it] it (λi h=>h.IsStrIter it ty z t i/\i<=z.cps.size) where
 mem:=by simp
 obj:=λi h st b hb=>by
  have e:b=it:=by simpa using hb
  subst e;obtain⟨⟨o,e,c,d⟩,_⟩:=st;exact⟨o,e,λv z=>by rw[d] at z;cases z⟩
 keep:=λi h h' st k=>let ⟨⟨o,e,c,d⟩,l⟩:=st;⟨⟨o,k it (by simp) o e,c,d⟩,l⟩
 item:=by
  intro X hP hw hK hc i pins s σ H E I hf st hg;subst hP hw hK;obtain⟨f0,f1,f2,f3,f4,f5⟩:=hf it (by simp);obtain⟨st,_⟩:=st;have hg:i<z.cps.size:=hg;have W:Walks X.prog X.w X.A it [it] [it] z.cps.size (SignAt z) (λi h=>h.IsStrIter it ty z t i):=by
   rcases EV with rfl|rfl
   ·exact Walks.strAscii (I.ok.hd hc) it z t
   ·exact Walks.strWide (I.ok.hd hc) it z t
  refine W.item i s _ _ hg st λv h' tk hv aw kk=>?_;obtain⟨c,u,ec,rfl⟩:=hv;have I1:Inv X pins σ H { s with heap:=h',toks:=tk }:=I.turned (λb o hb e=>kk b o (by simpa using hb) e) f0 f1 f3 f4 f5;obtain⟨o,e,c',d⟩:=id aw;exact⟨_,rfl,Sn (s:={ s with heap:=h',toks:=tk }) e c' d (by rcases EV with rfl|rfl<;>decide) ⟨.str ⟨#[c]⟩,H,I1,⟨u,rfl⟩,⟨rfl,c,ec,rfl⟩,⟨aw,hg⟩,λb hb=>(hf b hb).1⟩⟩
 done:=by
  intro X hP hw hK hc i pins s σ H E I hf st hg;subst hP hw hK;obtain⟨f0,f1,f2,f3,f4,f5⟩:=hf it (by simp);obtain⟨st,hle⟩:=st;have hg:z.cps.size<=i:=hg;have e:i=z.cps.size:=Nf hle hg;subst e;have W:Walks X.prog X.w X.A it [it] [it] z.cps.size (SignAt z) (λi h=>h.IsStrIter it ty z t i):=by
   rcases EV with rfl|rfl
   ·exact Walks.strAscii (I.ok.hd hc) it z t
   ·exact Walks.strWide (I.ok.hd hc) it z t
  exact W.done s _ _ st λh' tk kk=>⟨rfl,I.turned (λb o hb e=>kk b o (by simpa using hb) e) f0 f1 f3 f4 f5⟩
 self:=λA i s Q E st h=>by
  rcases EV with rfl|rfl
  ·exact wpAny_pyIter_striter_ascii st.1 h
  ·exact wpAny_pyIter_striter_wide st.1 h
theorem CP(hl:PE X l tl):PI X tg l (λσ H R=>tl σ H λx H1=>∃ z,x=.str z/\R (NV z) H1):=by
 intro pins s σ H R I h;refine dP (hl pins s σ H _ I h) λv s1 dS=>L2.hG dS λx H1 I1 r1 q1=>?_;obtain⟨z,rfl,q⟩:=q1;obtain⟨t,rfl⟩:=r1;have fp:∀ b∈[s1.heap.objs.size],y1 X pins H1 b:=λb hb=>by
  have e:b=s1.heap.objs.size:=by simpa using hb
  subst e;exact I1.PF (de _) (I1.bT.fresh (de _))
 cases ha:z.cps.all (· < 128)
 ·exact wpAny_pyIter_wide ha ⟨s1.heap.objs.size,[s1.heap.objs.size],_,_,H1,rfl,I1.kept (t':=s1.toks) λb o e=>fI _ e,sE (.inr rfl),⟨⟨_,kF _ rfl,rfl,rfl⟩,eW _⟩,fp,q⟩
 ·exact wpAny_pyIter_ascii ha ⟨s1.heap.objs.size,[s1.heap.objs.size],_,_,H1,rfl,I1.kept (t':=s1.toks) λb o e=>fI _ e,sE (.inl rfl),⟨⟨_,kF _ rfl,rfl,rfl⟩,eW _⟩,fp,q⟩
end
structure jz(J:It)(its:List V)(cond:Hp->Prop):Prop where
 go:∀ i H,cond H->i<its.length->J.go i H
 n9:∀ i H x H',cond H->i<its.length->J.n9 i H x H'->H'=H/\its[i]? = some x
 stop:∀ H,cond H->J.stop its.length H
def Qh(z:Str):List V:=z.cps.toList.map λc=>.str ⟨#[c]⟩
theorem Ab(z:Str):jz (NV z) (Qh z) (λ_=>True) where
 go:=λi H _ h=>by simpa[Qh,NV] using h
 n9:=λi H x H' _ _ h=>by obtain⟨rfl,c,e,rfl⟩:=h;refine⟨rfl,?_⟩;unfold Qh;rw[qa,oS,e];rfl
 stop:=λH _=>by simp[Qh,NV]
theorem yt(K:aI)(a:ag)(xs:List V):jz (PH K a) xs (λH=>fF K H a xs) where
 go:=λi H h hi=>⟨xs,xs[i],h,by simp[hi]⟩
 n9:=λi H x H' h _ y=>⟨y.1,y.2 xs h⟩
 stop:=λH h=>⟨xs,h,de _⟩
def vG(lo:Int)(n:Nat):List V:=(List.range n).map λi=>.int (lo+(i:Nat))
theorem vp(lo:Int)(n:Nat):jz (G0 lo n) (vG lo n) (λ_=>True) where
 go:=λi H _ h=>by simpa[vG,G0] using h
 n9:=λi H x H' _ hi h=>by
  have hi:i<n:=by simpa[vG] using hi
  obtain⟨rfl,rfl⟩:=h;refine⟨rfl,?_⟩;simp[vG,hi]
 stop:=λH _=>by simp[vG,G0]
def dY'(J:It)(g:TG)(tb:TS)(D:Ends)(σ:St)(H:Hp):Prop :=
 ∃ W:Nat->Nat->St->Hp->Prop,(∃ m,W 0 m σ H)/\∀ i m σ H,W i m σ H -> (J.stop i H/\D.nx σ H)\/(J.go i H/\∃ N:St->Hp->Prop,(∀ ck H',N ck H'->∃ m',m'<m/\W (i+1) m' ck H')/\∀ x H',J.n9 i H x H'->g x σ H' λkS H2=>tb { D with nx:=N,ct:=N,bk:=D.nx } kS H2)
theorem Ca(wi:TI)(g:TG)(tb:TS)(D:Ends)(σ:St)(H:Hp):Vv wi g tb D σ H=wi σ H λJ H1=>dY' J g tb D σ H1:=rfl
def Hg(J:It)(g:TG)(tc:TT)(te:TE)(τ0:St)(H1:Hp)(D:ag)(Q:VK):Prop :=
 ∃ W:Nat->Nat->St->Hp->Prop,(∃ m,W 0 m τ0 (upd H1 D (.lst [])))/\∀ i m τ H,W i m τ H -> (J.stop i H/\Q (.ref D) H)\/(J.go i H/\∃ (N1:St->V->Hp->Prop) (N2:St->Hp->Prop), (∀ nc v H4,N1 nc v H4->∃ ys m',H4 D=some (.lst ys)/\ys.length<bX/\m'<m/\W (i+1) m' nc (upd H4 D (.lst (ys++[v])))) /\ (∀ nc H3,N2 nc H3->∃ m',m'<m/\W (i+1) m' nc H3) /\
   ∀ x H',J.n9 i H x H'->g x τ H' λnc H2=>tc nc H2 λb H3=>if b=true then te nc H3 (N1 nc) else N2 nc H3)
theorem yw(wi:TI)(g:TG)(tc:TT)(te:TE)(tn:Nat)(ix:List Nat)(σ:St)(H:Hp)(Q:VK):xq wi g tc te tn ix σ H Q=wi σ H λJ H1=>∀ D,H1 D=none->Hg J g tc te (mZ tn ix σ) H1 D Q:=rfl
mutual
inductive Rep(K:aI)(H:Hp):PyData->V->Prop
 |none:Rep K H .none .non
 |bool (b:Bool):Rep K H (.bool b) (.bl b)
 |int (i:Int):Rep K H (.int i) (.int i)
 |str (x:Str):Rep K H (.str x) (.str x)
 |list {a:ag} {vs:List V} {ds:List PyData}:fF K H a vs->b9 K H ds vs->Rep K H (.list ds) (.ref a)
 |tuple {a:ag} {vs:List V} {ds:List PyData}:qk K H a vs->b9 K H ds vs->Rep K H (.tuple ds) (.ref a)
inductive b9(K:aI)(H:Hp):List PyData->List V->Prop
 |nil:b9 K H [] []
 |cons {d:PyData} {v:V} {ds:List PyData} {vs:List V}:Rep K H d v->b9 K H ds vs->b9 K H (d :: ds) (v :: vs)
end
section
variable {X:Cx}{pins:List (ag × Obj)}{σ:St}{H:Hp}{s:aE}
mutual
theorem Rep.reads(I:Inv X pins σ H s):∀ {d:PyData} {v:V} {u:ah},Rep X.K H d v->RelV v u->∃ as,Reads s.heap u d as
 |_,_,_,.none,r=>by cases (show _=Value.none from r);exact⟨_,.none⟩
 |_,_,_,.bool b,r=>by cases (show _=Value.bool b from r);exact⟨_,.bool b⟩
 |_,_,_,.int i,r=>by obtain⟨t,e⟩:=r;subst e;exact⟨_,.int i t⟩
 |_,_,_,.str x,r=>by obtain⟨t,e⟩:=r;subst e;exact⟨_,.str x t⟩
 |_,_,_,.list h hs,r=>by cases r;obtain⟨its,rv,pl,_⟩:=I.list h;obtain⟨o,e,c,n,d⟩:=pl.isList;obtain⟨as,q⟩:=b9.reads I hs rv;exact⟨_,.list e c d q⟩
 |_,_,_,.tuple h hs,r=>by cases r;obtain⟨its,rv,⟨o,e,c,n,d⟩,_⟩:=I.tuple h;obtain⟨as,q⟩:=b9.reads I hs rv;exact⟨_,.tuple e c d q⟩
theorem b9.reads(I:Inv X pins σ H s):∀ {ds:List PyData} {vs:List V} {us:List ah},b9 X.K H ds vs->Vals vs us->∃ as,ReadsAll s.heap us ds as
 |_,_,_,.nil,.nil=>⟨_,.nil⟩
 |_,_,_,.cons h hs,.cons r rs=>by obtain⟨as,q⟩:=Rep.reads I h r;obtain⟨bs,q'⟩:=b9.reads I hs rs;exact⟨_,.cons q q'⟩
end
def Te(K:aI):R2:=λx y H Q=>∃ d e,Rep K H d x/\Rep K H e y/\d.canLay0=true/\e.canLay0=true/\d.depth<=60/\Q (.bl (PyData.eqv d e)) H
def Tf(K:aI):R2:=λx y H Q=>∃ d e,Rep K H d x/\Rep K H e y/\d.canLay0=true/\e.canLay0=true/\d.depth<=60/\Q (.bl (!PyData.eqv d e)) H
theorem Fo(hu:X.A.units+64<hX):ez X (gS .Eq) (Te X.K):=by intro pins s σ H x y v u Q I rx ry h;obtain⟨d,e,h1,h2,h3,h4,h5,q⟩:=h;obtain⟨as,r1⟩:=h1.reads I rx;obtain⟨bs,r2⟩:=h2.reads I ry;exact PySem.SeqAt.rcAt_reads r1 r2 h3 h4 (by lia) X.prog X.w X.xe _ ⟨.bl _,H,I,rfl,q⟩
theorem Eu(hu:X.A.units+64<hX):ez X (gS .NotEq) (Tf X.K):=by intro pins s σ H x y v u Q I rx ry h;obtain⟨d,e,h1,h2,h3,h4,h5,q⟩:=h;obtain⟨as,r1⟩:=h1.reads I rx;obtain⟨bs,r2⟩:=h2.reads I ry;exact PySem.SeqAt.rcNeAt_reads r1 r2 h3 h4 (by lia) X.prog X.w X.xe _ ⟨.bl _,H,I,rfl,q⟩
def Qi(K:aI):R2:=λx y H Q=>match x,y with
 |.int i,.int j=>Q (.bl (decide (i=j))) H
 |.str i,.str j=>Q (.bl (decide (i=j))) H
 |.bl i,.bl j=>Q (.bl (decide (i=j))) H
 |_,_=>Te K x y H Q
theorem Ej(hu:X.A.units+64<hX):ez X (gS .Eq) (Qi X.K):=(bL'.or (Fo hu)).imp λx y H Q h=>by
 unfold Qi at h;split at h
 ·refine .inl ⟨rfl,?_⟩;simpa using h
 ·refine .inl ⟨rfl,?_⟩;simpa using h
 ·refine .inl ⟨rfl,?_⟩;simpa using h
 ·exact .inr h
def Qj(K:aI):R2:=λx y H Q=>match x,y with
 |.int i,.int j=>Q (.bl (!decide (i=j))) H
 |.str i,.str j=>Q (.bl (!decide (i=j))) H
 |.bl i,.bl j=>Q (.bl (!decide (i=j))) H
 |_,_=>Tf K x y H Q
theorem DK(hu:X.A.units+64<hX):ez X (gS .NotEq) (Qj X.K):=(bM'.or (Eu hu)).imp λx y H Q h=>by
 unfold Qj at h;split at h
 ·refine .inl ⟨rfl,?_⟩;simpa using h
 ·refine .inl ⟨rfl,?_⟩;simpa using h
 ·refine .inl ⟨rfl,?_⟩;simpa using h
 ·exact .inr h
def Qk(K:aI):List V->Hp->VK->Prop:=λxs H Q=>match xs with
 |[.ref a]=>∃ bs:List Bool,fF K H a (bs.map V.bl)/\Q (.bl (bs.all id)) H
 |_=>False
theorem uO (hc:X.calm=true):nK X (.builtin "all") (Qk X.K):=by
 intro pins s σ H xs us Q I r h;unfold Qk at h;split at h
 ·rename_i a;obtain⟨bs,e,q⟩:=h;obtain⟨u,rfl,ru⟩:=Vals.one r;cases ru;obtain⟨its,rv,pl,hz⟩:=I.list e;have hl:s.heap.IsList a its.toArray:=pl.isList;obtain⟨o,ho,PB,n,HZ⟩:=id hl;have hlen:=rv.length;rw[dn] at hlen;refine call_all_walk (wpAny_pyIter_list hl ?_);have kz:a≠s.heap.objs.size:=gV (eS ho);have Ic:X.A.in1.handled=none:=I.ok.hd hc;refine⟨s.heap.objs.size,_,_,_,_,_,λi=>bs.getD i true,rfl,Walks.list Ic s.heap.objs.size a kz its.toArray,⟨⟨_,kF _ rfl,rfl,rfl⟩,⟨_,fI _ ho,PB,n,HZ⟩⟩,?_,λh' tk hk=>?_⟩
  ·intro i v s' Q' E' hv hq;have hv:its.toArray[i]? = some v:=hv;have u3:its[i]? = some v:=by simpa using hv
   have hi:i<bs.length:=by have:=(nv.mp u3).1;lia
   obtain⟨w',e1,r1⟩:=rv.get (i:=i) (x:=V.bl bs[i]) (by simp[hi]);rw[u3] at e1;cases e1;cases (show v=Value.bool bs[i] from r1);have e2:bs.getD i true=bs[i]:=by simp[List.getD,hi]
   have hq:Q' (bs.getD i true) s':=hq;rw[e2] at hq;exact KL hq
  ·have e3:((List.range its.toArray.size).all λi=>bs.getD i true)=bs.all id:=by
    rw[iA,<- hlen];apply ED.mpr;simp only[B5,rX,id];constructor
    ·intro h b hb;obtain⟨i,hi,rfl⟩:=List.mem_iff_getElem.mp hb;have:=h i hi;simpa[List.getD,hi] using this
    ·intro h i hi;have:=h bs[i] (M8 hi);simpa[List.getD,hi] using this
   rw[e3];refine⟨.bl (bs.all id),H,?_,rfl,q⟩;exact I.kept (t':=tk) λb o e=>hk b o (by simp;exact gV (eS e)) (fI _ e)
 ·exact h.elim
end
end L2
namespace L2
open PySem PySem.Spec PyProof.Rows
def NW(sc:Scope)(names:List (Str × yk)):List (Str × yk):=names.map λy=>if (y.2 == NameKind.free && sc.kind == .function && sc.names.lookup y.1 == some .cell)=true then (y.1,NameKind.cell) else (y.1,y.2)
def NX(o:Option yk):Bool:=o == some .cell || o == some .free
def A_(sc scope:Scope)(N cn:List Str)(ix:List Nat):Bool :=
 scope.kind == .function && scope.names.all (λy=>y.2 != .cell) && scope.names.all (λy=>y.2 != .free || NX (sc.names.lookup y.1)) && scope.names.all (λy=>y.2 != .local || scope.names.lookup y.1 == some .local) &&
 ix.length == cn.length && (List.range ix.length).all (λk=>match ix[k]?,cn[k]? with
  |some j,some y=>N[j]? == some y && NX (sc.names.lookup y) && scope.names.contains (y,NameKind.free) && NX ((NW sc scope.names).lookup y)
  |_,_=>false) &&
 (NW sc scope.names).all (λy=>!(y.2 == .cell || y.2 == .free) || scope.names.contains (y.1,NameKind.free))
theorem p_(h:NX o=true):o=some .cell\/o=some .free:=by unfold NX at h;simpa using h
theorem dC.of{X:Cx}(tJ:X.env.scope=sc)(hN:X.N=N)(h:A_ sc scope N cn ix=true):dC X scope tn cn ix:=by
 unfold A_ at h;simp only[ja] at h;obtain⟨⟨⟨⟨⟨⟨h1,h2⟩,h3⟩,h4⟩,h5⟩,h6⟩,h7⟩:=h;rw[B5] at h2 h3 h4 h6 h7;have Wu:(relabel scope X.env).names=NW sc scope.names:=by unfold relabel NW;rw[<- tJ];rfl
 refine⟨by simpa using h1,λy hy=>by simpa using h2 y hy,λy hy hk=>?_,λy hy hk=>?_,by simpa using h5,λk j hk=>?_,λx hx=>?_⟩
 ·have:=h3 y hy;rw[hk] at this;rw[tJ];exact p_ (by simpa using this)
 ·have:=h4 y hy;rw[hk] at this;simpa using this
 ·have oa:k<ix.length:=(nv.mp hk).1;have:=h6 k (rX.mpr oa);rw[hk] at this
  cases e:cn[k]? with
  |none=>rw[e] at this;cases this
  |some y =>rw[e] at this;simp only[ja] at this;obtain⟨⟨⟨a1,a2⟩,a3⟩,a4⟩:=this;refine⟨y,rfl,by rw[hN];simpa using a1,by rw[tJ];exact p_ a2,by simpa using a3,by rw[Wu];exact p_ a4⟩
 ·rw[Wu] at hx;have mem:∃ k,(x,k)∈NW sc scope.names/\(k=.cell\/k=.free):=by
   rcases hx with hx|hx
   ·exact⟨_,PySem.mem_of_lookup hx,.inl rfl⟩
   ·exact⟨_,PySem.mem_of_lookup hx,.inr rfl⟩
  obtain⟨k,hm,hk⟩:=mem;have:=h7 _ hm;rcases hk with rfl|rfl<;>simpa using this
theorem dC.by{X:Cx}(c:X.env.scope=sc/\X.N=N)(h:A_ sc scope N cn ix=true):dC X scope tn cn ix:=.of c.1 c.2 h
structure Ql(P:dz)(w:dA)(K:aI)(mg:Str->Option ah)(base:cS)(k:Nat)(x:Str)(ps:List Str)(sp:Sp):Prop where
 ex:∃ (g:ag) (fd:xo),mg x=some (.ref g)/\D7 K (.ref g)=true/\Binds K fd ps []/\tf P w K mg base u0 k g fd ps sp
section
variable {X:Cx}{k:Nat}{x:Str}{ps:List Str}{sp:Sp}{p pos:Pos}{e:Expr}{es:List Expr}{t:TA}
theorem Ek (C:Ql X.prog X.w X.K X.mg X.base k x ps sp) (hr:ke k X.A) (ha:PA X (e :: es) t) (hg:Gl X x:=by rfl) (ic:(x == ("__debug__" : Str))=false:=by decide) (he:bS (e :: es) X.env=(false,c9 e X.env) :: bS es X.env:=by rfl) (hU:(iq pos (bS es X.env)).any (·.1)=false:=by rfl):PE X (.Call (.Name x p) (e :: es) [] pos) (HC sp [] E0 t):=by
 obtain⟨g,fd,hm,hk,hb,F⟩:=C.ex;exact VM F hr hg hm hk hb .nil dA' ha ic he hU
end
theorem tF.cal{P:dz}{K:aI}{st:Stmt}{ps:List Str}(F:tF K x qual st f fd)(hm:mg x=some (.ref f))(G:tf P w K mg base u0 k f fd ps sp)(h:∀ (kV doc pm:ah) (an:Option ag) (dr ct:ah) (us:List ah),us.length=ps.length->bindArgs (ui x qual (x3 st) (qo st) (gX st) .none kV doc pm an dr ct) ⟨us,[]⟩=pure (ps.zip us)):Ql P w K mg base k x ps sp :=
 ⟨f,fd,hm,F.kp,F.binds h,G⟩
def Qm(mg:Str->Option ah)(x:Str)(z:Str):Prop:=∃ t,mg x=some (.str z t)
def Mb(mg:Str->Option ah)(x:Str)(i:Int):Prop:=∃ t,mg x=some (.int i t)
theorem G5 {X:Cx} (h:Qm X.mg x z) (hg:Gl X x:=by rfl) (hd:(x == ("__debug__" : Str))=false:=by decide):PE X (.Name x pos) (tC (.str z)):=by obtain⟨t,e⟩:=h;exact EI hg e ⟨t,rfl⟩ hd
theorem Gu {X:Cx} (h:Mb X.mg x i) (hg:Gl X x:=by rfl) (hd:(x == ("__debug__" : Str))=false:=by decide):PE X (.Name x pos) (tC (.int i)):=by obtain⟨t,e⟩:=h;exact EI hg e ⟨t,rfl⟩ hd
theorem Dz:kN "str" = some (.type "str"):=by decide +kernel
theorem zr:kN "int" = some (.type "int"):=by decide +kernel
theorem nj:kN "list" = some (.type "list"):=by decide +kernel
theorem ye:kN "tuple" = some (.type "tuple"):=by decide +kernel
theorem cX:kN "isinstance" = some (.builtin "isinstance"):=by decide +kernel
theorem Dc:kN "all" = some (.builtin "all"):=by decide +kernel
theorem fc:kN "len" = some (.builtin "len"):=by decide +kernel
theorem yN {X:Cx} {T:String} (hm:X.mg x=none) (hv:kN x=some (.type T)) (hg:Gl X x:=by rfl) (hn:x ≠ "__name__" := by decide) (hd:(x == ("__debug__" : Str))=false:=by decide):PE X (.Name x pos) (tC (.ty T)) :=
 aS' hg hm hv rfl hn hd
def A8(i j:Str):Bool:=!(Builtin.Str.occurrences j i 0 j.length 1).isEmpty
theorem Cg(c:Nat)(j:Str):A8 ⟨#[c]⟩ j=decide (c∈j.cps.toList):=PySem.StrLaws.found_one j c
def Iq(K:aI)(neg:Bool):R2:=λx y H Q=>match x,y with
 |.str i,.str j=>Q (.bl (if neg then !A8 i j else A8 i j)) H
 |_,.ref p=>(∃ o,k8 H p x o/\Q (.bl (if neg then !o.isSome else o.isSome)) H)\/NM K neg x y H Q
 |_,_=>False
theorem Eh{X:Cx}(hu:X.A.units+64<hX):ez X (gS .In) (Iq X.K false):=by
 intro pins s σ H x y v u Q I rx ry h;unfold Iq at h;split at h
 ·exact bR' pins s σ H _ _ v u Q I rx ry ⟨_,_,rfl,rfl,h⟩
 ·rcases h with⟨o,g,q⟩|h
  ·cases ry;exact da' (by lia) I g rx λs3 I3=>⟨.bl o.isSome,H,I3,rfl,q⟩
  ·exact cL' pins s σ H _ _ v u Q I rx ry h
 ·exact h.elim
theorem wI{X:Cx}(hu:X.A.units+64<hX):ez X (gS .NotIn) (Iq X.K true):=by
 intro pins s σ H x y v u Q I rx ry h;unfold Iq at h;split at h
 ·exact bT' pins s σ H _ _ v u Q I rx ry ⟨_,_,rfl,rfl,h⟩
 ·rcases h with⟨o,g,q⟩|h
  ·cases ry;exact db' (by lia) I g rx λs3 I3=>⟨.bl (!o.isSome),H,I3,rfl,q⟩
  ·exact cM' pins s σ H _ _ v u Q I rx ry h
 ·exact h.elim
theorem bG.upd(h:bG H H')(hp:H' p=none):bG H (upd H' p o):=λb u e=>by have e':=h b u e;rw[iN (LV e' hp)];exact e'
theorem bG.lst{K:aI}(e:bG H H')(h:fF K H a xs):fF K H' a xs:=e.seq h
theorem bG.tup{K:aI}(e:bG H H')(h:qk K H a xs):qk K H' a xs:=by
 rcases h with(h|⟨o,h⟩)|h
 ·exact .inl (.inl (e _ _ h))
 ·exact .inl (.inr ⟨o,e _ _ h⟩)
 ·exact .inr h
mutual
theorem Rep.same{K:aI}(s:bG H H'):∀ {d:PyData} {v:V},Rep K H d v->Rep K H' d v
 |_,_,.none=>.none
 |_,_,.bool b=>.bool b
 |_,_,.int i=>.int i
 |_,_,.str x=>.str x
 |_,_,.list h hs=>.list (s.lst h) (b9.same s hs)
 |_,_,.tuple h hs=>.tuple (s.tup h) (b9.same s hs)
theorem b9.same{K:aI}(s:bG H H'):∀ {ds:List PyData} {vs:List V},b9 K H ds vs->b9 K H' ds vs
 |_,_,.nil=>.nil
 |_,_,.cons h hs=>.cons (Rep.same s h) (b9.same s hs)
end
section
variable {X:Cx}{K:aI}
theorem og(hK:X.K=K:=by rfl)(hu:X.A.units+64<hX:=by assumption):ez X (gS .Eq) (Qi K):=by subst hK;exact Ej hu
theorem Iy(hK:X.K=K:=by rfl)(hu:X.A.units+64<hX:=by assumption):ez X (gS .NotEq) (Qj K):=by subst hK;exact DK hu
theorem iP(hK:X.K=K:=by rfl)(hu:X.A.units+64<hX:=by assumption):ez X (gS .In) (Iq K false):=by subst hK;exact Eh hu
theorem u9(hK:X.K=K:=by rfl)(hu:X.A.units+64<hX:=by assumption):ez X (gS .NotIn) (Iq K true):=by subst hK;exact wI hu
theorem eb' (hc:X.calm=true:=by rfl) (hK:X.K=K:=by rfl):nK X (.builtin "all") (Qk K):=by subst hK;exact uO hc
end
theorem Lf{α:Type}{a:α}{p:α->Prop}:(∃ v,a=v/\p v)↔p a:=⟨λ⟨_,e,h⟩=>e ▸ h,λh=>⟨a,rfl,h⟩⟩
end L2
namespace L2
open PySem PySem.Spec PyProof.Rows
abbrev Qn:=Array DictEntry
def ve(h:cS)(d:ag)(es:Qn)(ep:Nat):Prop:=∃ o,h.get? d=some o/\o.ExactDict/\o.data=.dict es ep
theorem ve.typ {s:aE} {d:ag} {es:Qn} {ep:Nat} (x:ve s.heap d es ep):s.TypeIs (.ref d) "dict" := let ⟨o,e,c,_⟩:=x;⟨o,e,c.1⟩
section
variable {prog:dz}{w:dA}{A:eJ}{E:ah->aE->Prop}{s:aE}{d it:ag}{es:Qn}{ep i:Nat}
theorem yU{Q:ah->aE->Prop}(lo:(d == vw)=false)(x:ve s.heap d es ep)(q:Q (.ref s.heap.objs.size) { s with heap:=s.heap.push { cls:=.type "dict_keyiterator",data:=.fields #[.ref d,.int 0 0,.int es.size 0,.int ep 0] } }):aT (aS prog w) A (pyIter (.ref d)) Q E s:=by
 obtain⟨o,ho,hc,Qo⟩:=id x;refine wpAny_pyIter_slot x.typ F.slot_dict_iter (D5 F.slot_dict_iter x.typ F.entry_dict_iter ?_ (F.args_dict_iter_1 _));unfold Builtin.«dict.__iter__»;refine ay ?_;unfold Builtin.Dict.dictSlotNone;refine ay (wpAny_notOrdered_dict x.typ ?_);refine(show aT _ _ (pure (Value.ref d)) _ _ s from bI ?_);refine(show aT _ _ (Builtin.Dict.showsAll d >>= _) _ _ s from ?_);unfold Builtin.Dict.showsAll;rw[if_neg (by rw[lo];decide)];refine ay (bI (ay (wpAny_dictEntries ho Qo (ay (wpAny_dictEpoch ho Qo (ay (rS (bI ⟨_,rfl, "dict_keyiterator",_,⟨_,kF _ rfl,rfl⟩,F.slot_dict_keyiterator_next.lookup,?_⟩))))))));simpa[j2] using q
theorem yz(hit:s.heap.IsKeyIter it d i es.size ep)(x:ve s.heap d es ep)(hx:i<es.size)(q:∀ h',h'.IsKeyIter it d (i+1) es.size ep->Heap.SameBut it s.heap h'->Q (some es[i].key) { s with heap:=h' }):aT (aS prog w) A (pyNext (.ref it)) Q E s:=by
 obtain⟨o,ho,hc,hd⟩:=id hit;obtain⟨od,HZ,qh,E3⟩:=id x;have ty:=hit.typeIs;unfold pyNext;refine ay (wpAny_attempt (MR (name:=Str.ofString "__next__") ty F.slot_dict_keyiterator_next (D5 F.slot_dict_keyiterator_next ty F.entry_dict_keyiterator_next ?_ (F.args_dict_keyiterator_next_1 _))));refine ay (bI (ay (ay ?_)));first|refine ay (O3 ty (bI ?_))|refine ay (O4 ty (bI ?_))
 refine ay (wpAny_fieldsOf ho hd ?_);simp only[show Builtin.Dict_items.ownsTuple "dict_keyiterator" = false by decide,hZ,if_false];refine(show aT _ _ (if (Value.ref d == Value.none)=true then _ else _) _ _ s from ?_);rw[if_neg (show ¬ ((Value.ref d == Value.none)=true) by intro h;cases h)];refine ay (bI (ay (wpAny_dictEntries HZ E3 ?_)));rw[if_neg (by intro h;simp at h)];refine ay (bI (ay (wpAny_dictEpoch HZ E3 ?_)));rw[if_neg (by intro h;simp at h)];refine bI ?_;simp only[show ¬ ((i:Int)<0) by lia,if_false,Nk,AJ hx];refine ay ?_;first|refine ay (O3 ty (bI ?_))|refine ay (O4 ty (bI ?_))
 refine ay (wpAny_isOneOf_keyiter ty ?_);refine(show aT _ _ (setField (.ref it) 1 (j2 ((i:Int)+1)) >>= _) _ _ s from ay (wpAny_setField ho hd (by simp) ?_));have Wv:(s.heap.update it (Obj.mapFields (·.setIfInBounds 1 (j2 ((i:Int)+1))))).IsKeyIter it d (i+1) es.size ep :=
  ⟨_,B8 _ ho (Obj.isFreed_of_fields (Obj.data_mapFields hd _)),(Obj.cls_mapFields ..).trans hc,by rw[Obj.data_mapFields hd];simp[j2]⟩
 refine ay (xl (ay (wpAny_isOneOf_keyiter (s:={ s with heap:=s.heap.update it (Obj.mapFields (·.setIfInBounds 1 (j2 ((i:Int)+1)))) }) Wv.typeIs ?_)));refine(show aT _ _ (pure es[i].key) _ _ _ from bI (bI ⟨_,rfl,bI (q _ Wv (Heap.SameBut.update ..))⟩))
theorem yW(hh:A.handled=none)(hit:s.heap.IsKeyIter it d es.size es.size ep)(x:ve s.heap d es ep)(q:∀ h',Heap.ExtBut it s.heap h'->Q none { s with heap:=h' }) :
  aT (aS prog w) A (pyNext (.ref it)) Q E s:=by
 obtain⟨o,ho,hc,hd⟩:=id hit;obtain⟨od,HZ,qh,E3⟩:=id x;have ty:=hit.typeIs;unfold pyNext;refine ay (wpAny_attempt (MR (name:=Str.ofString "__next__") ty F.slot_dict_keyiterator_next (D5 F.slot_dict_keyiterator_next ty F.entry_dict_keyiterator_next ?_ (F.args_dict_keyiterator_next_1 _))));refine ay (bI (ay (ay ?_)));first|refine ay (O3 ty (bI ?_))|refine ay (O4 ty (bI ?_))
 refine ay (wpAny_fieldsOf ho hd ?_);simp only[show Builtin.Dict_items.ownsTuple "dict_keyiterator" = false by decide,hZ,if_false];refine(show aT _ _ (if (Value.ref d == Value.none)=true then _ else _) _ _ s from ?_);rw[if_neg (show ¬ ((Value.ref d == Value.none)=true) by intro h;cases h)];refine ay (bI (ay (wpAny_dictEntries HZ E3 ?_)));rw[if_neg (by intro h;simp at h)];refine ay (bI (ay (wpAny_dictEpoch HZ E3 ?_)));rw[if_neg (by intro h;simp at h)];refine bI ?_;simp only[show ¬ ((es.size:Int)<0) by lia,if_false,Nk,LR (de es.size)];refine ay ?_;first|refine ay (O3 ty (bI ?_))|refine ay (O4 ty (bI ?_))
 refine(show aT _ _ (setField (.ref it) 0 .none >>= _) _ _ s from ay (wpAny_setField ho hd (by simp) ?_));refine(show aT _ _ (newExc (.type "StopIteration") [] >>= _) _ _ _ from ay ?_);simp only[newExc,newTuple];refine ay (rS ?_ (by size_fits));refine ay (m:=firstArgMember _ _) (wpAny_of_eq (a:=Value.none) (by first|rfl|(simp only[firstArgMember];rfl)) (rS ?_ (by size_fits)));simp only[raiseNew];refine ay (wpAny_handled ?_);rw[show A.in1.handled=none from hh];refine ay (bI (wpAny_throw ?_));refine ay (wpAny_isInstance (b:=true) (T := "StopIteration") ⟨_,kF _ rfl,rfl⟩ isSubtype_stop ?_);exact bI (q _ (((Heap.SameBut.update ..).extBut.push _).push _))
theorem ve.at(x:ve h d es ep)(e:∀ o,h.get? d=some o->h'.get? d=some o):ve h' d es ep:=let ⟨o,ho,r⟩:=x;⟨o,e o ho,r⟩
theorem ve.lt(x:ve h d es ep):d<h.objs.size:=let ⟨_,e,_⟩:=x;eS e
theorem v7(hh:A.handled=none)(I:ag)(kz:d≠I):Walks prog w A I [I,d] [I] es.size (λi v=>∃ e,es[i]? = some e/\v=e.key) (λi h=>h.IsKeyIter I d i es.size ep/\ve h d es ep) where
 sub:=λb hb=>by simp at hb;simp[hb]
 frame:=λ_ _ _ st hk=>⟨st.1.at λo e=>hk I (by simp) o e,st.2.at λo e=>hk d (by simp) o e⟩
 item:=λi s Q E hi st hQ=>yz st.1 st.2 hi λh' a b=>hQ _ h' s.toks ⟨es[i],by simp[hi],rfl⟩ ⟨a,st.2.at λo e=>b.extBut d o kz e⟩ λc o hb e=>b.extBut c o (λh=>hb (by simp[h])) e
 done:=λs Q E st hQ=>yW hh st.1 st.2 λh' Qp=>hQ h' s.toks λb o hb e=>Qp b o (λh=>hb (by simp[h])) e
 self:=λ_ _ _ _ st hQ=>wpAny_pyIter_keyiter st.1 hQ
theorem Ay (lo:(d == vw)=false):PySem.W.KdlSrc prog w "dict" d d es.size (λi v=>∃ e,es[i]? = some e/\v=e.key) (λh=>ve h d es ep) where
 type:=λ_ x=>x.typ
 there:=λ_ x=>⟨x.lt,x.lt⟩
 keep:=λ_ _ x hk=>x.at λo e=>hk d (.inl rfl) o e
 notList:=by decide
 notTuple:=by decide
 hint:=λ_ _ _ _ x hq=>PySem.W.kdl_hint_dict x.typ hq
 iter:=λ_ _ hh x=>⟨_,_,(λ_ _ hq=>yU lo x hq),v7 hh _ (gV x.lt),⟨⟨_,kF _ rfl,rfl,rfl⟩,x.at λo e=>fI _ e⟩⟩
end
theorem Paired.n0{α β:Type}{R:α->β->Prop}{bs:List β}(h:Paired R [] bs):bs=[]:=by cases h;rfl
theorem Paired.c{α β:Type}{R:α->β->Prop}{a:α}{as:List α}{bs:List β}(h:Paired R (a :: as) bs):∃ b cs,bs=b :: cs/\R a b/\Paired R as cs:=by
 cases h with
 |cons r t=>exact⟨_,_,rfl,r,t⟩
def cR(H:Hp)(ys:List V)(ks:List (List Key)):Prop:=Paired (λ(v:V) (k:List Key)=>∃ b,v=.ref b/\H b=some (.tup (k.map kV))) ys ks
section
variable {X:Cx}
def rG:List V->Hp->VK->Prop:=λxs H Q=>match xs with
 |[.ref p]=>∃ ae,Rd H p (.dT ae)/\∀ ys l,cR H ys (ae.map (·.1))->H l=none->Q (.ref l) (upd H l (.lst ys))
 |_=>False
theorem Ae (h:Paired (λ(p:List Key × V) (q:List Key × ag × ah)=>p.1=q.1/\H q.2.1=some (.tup (p.1.map kV))/\RelV p.2 q.2.2) ae xs) :
  cR H (xs.map λq=>.ref q.2.1) (ae.map (·.1))/\Vals (xs.map λq=>.ref q.2.1) ((xs.map (entryOfKey (tupleKind (kQ prog w)))).map (·.key)):=by
 induction h with
 |nil=>exact⟨.nil,.nil⟩
 |cons r t ih=>exact⟨.cons ⟨_,rfl,r.2.1⟩ ih.1,.cons rfl ih.2⟩
theorem t7 (hc:X.calm=true):nK X (.type "list") rG:=by
 intro pins s σ H xs us Q I r h;unfold rG at h;split at h
 ·rename_i p;obtain⟨ae,e,q⟩:=h;obtain⟨u,rfl,ru⟩:=Vals.one r;cases ru;obtain⟨z,y,ps,rel,o,es,ep,h1,h2,h3,h4,h5⟩:=(show fS X.prog X.w H s.heap p (.dT ae) from I.rd e)
  obtain⟨ta,va⟩:=Ae (prog:=X.prog) (w:=X.w) rel;have hlen:es.size=ae.length:=by have:=congrArg List.length h4;rw[xv,dn] at this;rw[this];exact rel.length.symm
  refine PySem.W.kdl_call (Ay (es:=es) (ep:=ep) y) (I.ok.hd hc) ⟨o,h1,h2,h3⟩ (by lia) λh' tk acc c kp eo NZ=>?_;have hv:acc.toList=(ps.map (entryOfKey (tupleKind (kQ X.prog X.w)))).map (·.key):=by
   apply M7;intro i;by_cases hi:i<es.size
   ·have pj:i<acc.size:=by rw[NZ.1];exact hi
    obtain⟨en,e1,e2⟩:=NZ.2 i acc[i] (by simp[pj]);rw[<- h4,qa,oS,oS,e1];simp[pj,e2]
   ·rw[<- h4,qa,oS,oS,LR (by rw[NZ.1];lia),LR (by lia)];rfl
  refine⟨.ref s.heap.objs.size,_,I.laid (t':=tk) kp (de _) (show fS X.prog X.w _ h' _ (.lst (ps.map λq=>.ref q.2.1)) from⟨?_,acc.toList,c,?_,?_⟩),rfl,q _ _ ta (I.bT.fresh (de _))⟩
  ·rw[dn,<- rel.length];exact z
  ·rw[hv];exact va
  ·rw[Array.toArray_toList];exact eo
 ·exact h.elim
end
end L2
namespace DC
open PySem PyProof.Rows
def R(r:ah->Int)(xs:Array bP)(i:Nat):Int:=match xs[i]? with
 |some p=>r p.1
 |none=>0
theorem cB(h:xs[i]? = ys[j]?):R r xs i=R r ys j:=by unfold R;rw[h]
def oi(prog:dz)(w:dA)(A:eJ)(s:aE)(κ:sR)(r:ah->Int)(P:ah->Prop):Prop :=
 ∀ x y,P x->P y->∀ (Q:Bool->aE->Prop) (E:ah->aE->Prop),Q (decide (r x<r y)) s->aT (aS prog w) A (keyLt' κ x y) Q E s
def AllP(P:ah->Prop)(xs:Array bP):Prop:=∀ p∈xs.toList,P p.1
theorem AllP.perm{P:ah->Prop}(h:AllP P xs)(hp:ys.Perm xs):AllP P ys:=λp hm=>h p ((R3.mp hp).mem_iff.mp hm)
theorem AllP.at{P:ah->Prop}{xs:Array bP}(h:AllP P xs){i:Nat}{p:bP}(e:xs[i]? = some p):P p.1:=h p (by
 obtain⟨hi,rfl⟩:=Cb.mp e;simp)
structure lS(lo hi:Nat)(st aw:dv):Prop where
 kind:eL aw=eL st
 failed:oQ aw=oQ st
 pend:kc aw=kc st
 perm:(bp aw).Perm (bp st)
 out:∀ k,k<lo\/hi<=k->(bp aw)[k]? = (bp st)[k]?
theorem lS.refl(lo hi:Nat)(st:dv):lS lo hi st st:=⟨rfl,rfl,rfl,Array.Perm.refl _,λ_ _=>rfl⟩
theorem lS.trans{lo hi:Nat}{a b c:dv}(h:lS lo hi a b)(g:lS lo hi b c):lS lo hi a c :=
 ⟨g.kind.trans h.kind,g.failed.trans h.failed,g.pend.trans h.pend,g.perm.trans h.perm,λk hk=>(g.out k hk).trans (h.out k hk)⟩
theorem lS.mono{lo hi IA k9:Nat}{a b:dv}(h:lS lo hi a b)(h1:IA<=lo)(h2:hi<=k9):lS IA k9 a b :=
 ⟨h.kind,h.failed,h.pend,h.perm,λk hk=>h.out k (by lia)⟩
theorem lS.size{lo hi:Nat}{a b:dv}(h:lS lo hi a b):(bp b).size=(bp a).size:=h.perm.size_eq
def Up(r:ah->Int)(xs:Array bP)(lo hi:Nat):Prop:=∀ i j,lo<=i->i<=j->j<hi->R r xs i<=R r xs j
def Down(r:ah->Int)(xs:Array bP)(lo hi:Nat):Prop:=∀ i j,lo<=i->i<=j->j<hi->R r xs j<=R r xs i
theorem qQ(hs:src<xs.size)(hd:d<=src)(k:Nat) :
  R r (bubble xs src d) k=if k=src-d then R r xs src else if src-d<k/\k<=src then R r xs (k-1) else R r xs k:=by
 have e:=getElem?_bubble hs d hd k;by_cases h1:k=src-d
 ·rw[if_pos h1] at e ⊢;exact cB e
 ·rw[if_neg h1] at e ⊢;by_cases h2:src-d<k/\k<=src
  ·rw[if_pos h2] at e ⊢;exact cB e
  ·rw[if_neg h2] at e ⊢;exact cB e
theorem mJ(hj:j<=xs.size)(k:Nat) :
  R r (mirror xs i j ((j-i) / 2)) k=if i<=k/\k<j then R r xs (i+j-1-k) else R r xs k:=by
 have e:=getElem?_mirror_all (i:=i) hj k;by_cases h1:i<=k/\k<j
 ·rw[if_pos h1] at e ⊢;exact cB e
 ·rw[if_neg h1] at e ⊢;exact cB e
theorem bh(hj:j<=xs.size)(heq:∀ k,i<=k->k<j->R r xs k=R r xs (j-1))(k:Nat) :
  R r (mirror xs i j ((j-i) / 2)) k=R r xs k:=by
 rw[mJ hj];split
 ·rw[heq _ (by lia) (by lia),heq k (by lia) (by lia)]
 ·rfl
section
variable {prog:dz}{w:dA}{A:eJ}{E:ah->aE->Prop}{s:aE}{κ:sR}{r:ah->Int}{P:ah->Prop}
theorem oA{st:dv}{x y:bP}{Q:Option Bool->dv->Prop}(C:oi prog w A s κ r P)(hk:eL st=κ)(hx:P x.1)(hy:P y.1)(h:Q (some (decide (r x.1<r y.1))) st) :
  wpS (aS prog w) A E s (lt' x y) Q st:=by
 rw[lt'_eq];refine cx (wpS_get ?_);rw[hk];refine cx (wpS_lift (wpAny_attempt (C x.1 y.1 hx hy _ _ ⟨rfl,?_⟩)));exact df h
theorem aF{xs:Array bP}{i:Nat}{Q:bP->dv->Prop}{st:dv}(hi:i<xs.size)(h:∀ p,xs[i]? = some p->Q p st):wpS (aS prog w) A E s (mI xs i) Q st:=by rw[elem'_eq,getElem?_pos xs i hi];exact df (h _ (getElem?_pos xs i hi))
theorem jw{st:dv}{i j:Nat}{Q:Option Bool->dv->Prop}(C:oi prog w A s κ r P)(hk:eL st=κ)(hP:AllP P (bp st))(hi:i<(bp st).size)(hj:j<(bp st).size)(h:Q (some (decide (R r (bp st) i<R r (bp st) j))) st):wpS (aS prog w) A E s (ltAt' i j) Q st:=by
 rw[ltAt'_eq];refine cx (wpS_get ?_);show wpS _ _ _ _ (do let x <- mI (bp st) i;let y <- mI (bp st) j;lt' x y) Q st;refine cx (aF hi λp ep=>cx (aF hj λq eq=>oA C hk (hP.at ep) (hP.at eq) ?_));have e1:R r (bp st) i=r p.1:=by unfold R;rw[ep]
 have e2:R r (bp st) j=r q.1:=by unfold R;rw[eq]
 rw[<- e1,<- e2];exact h
theorem cD{st:dv}{i j:Nat}{Q:Unit->dv->Prop}(h:Q () (setArr st (mirror (bp st) i j ((j-i) / 2)))) :
  wpS (aS prog w) A E s (reverseSlice' i j) Q st:=by
 rw[reverseSlice'_eq];exact B9 h
theorem d_{st:dv}{i j:Nat}(hj:j<=(bp st).size):lS i j st (setArr st (mirror (bp st) i j ((j-i) / 2))) :=
 ⟨rfl,rfl,rfl,mirror_perm _ _ _ _,λk hk=>by
  have e:=getElem?_mirror_all (i:=i) hj k;rw[if_neg (by lia)] at e;exact e⟩
theorem ud{st:dv}{lo src d:Nat}(hs:src<(bp st).size)(hd:lo+d<=src):lS lo (src+1) st (setArr st (bubble (bp st) src d)) :=
 ⟨rfl,rfl,rfl,bubble_perm _ _ _,λk hk=>by
  have e:=getElem?_bubble hs d (by walk_at "s4") k;rw[if_neg (by lia),if_neg (by lia)] at e;exact e⟩
theorem wpS_binarySort{st:dv}{lo n ok:Nat}{Q:Bool->dv->Prop}(C:oi prog w A s κ r P)(hk:eL st=κ)(hP:AllP P (bp st))(hn:lo+n<=(bp st).size)(bT:ok<=n)(hs:Up r (bp st) lo (lo+ok))(h:∀ aw,lS lo (lo+n) st aw->Up r (bp aw) lo (lo+n)->Q true aw):wpS (aS prog w) A E s (binarySort' lo n ok) Q st:=by
 rw[binarySort'_eq];refine cx (sT (qc (I:=λk c aw=>c=(none,())/\lS lo (lo+n) st aw/\Up r (bp aw) lo (lo+min k n)) (Q:=λc aw=>c=(none,())/\lS lo (lo+n) st aw/\Up r (bp aw) lo (lo+n)) ?step ?fin ?init) ?post)
 case post =>
  rintro c aw ⟨rfl,jv,gi⟩;exact df (h aw jv gi)
 case init =>
  refine⟨rfl,.refl _ _ _,λi j hl kA hj=>?_⟩;by_cases h1:ok=0
  ·have:i=j:=by lia
   subst this;exact xB _
  ·exact hs i j hl kA (by lia)
 case fin =>
  rintro c aw ⟨hc,jv,gi⟩;refine⟨hc,jv,?_⟩;rwa[show min (max (max ok 1) n) n=n by lia] at gi
 case step =>
  rintro k c aw hak hkn ⟨rfl,jv,gi⟩;rw[show min k n=k by lia] at gi;have hsz:=jv.size;have oa:eL aw=κ:=jv.kind.trans hk;have sq:=hP.perm jv.perm;refine cx (sT (qc (I:=λx c y8=>y8=aw/\∃ l r',c=(none,l,r')/\l<=r'/\r'<=k/\r'-l<=k-x /\ (∀ i,lo<=i->i<lo+l->R r (bp aw) i<=R r (bp aw) (lo+k))/\(∀ i,lo+r'<=i->i<lo+k->R r (bp aw) (lo+k)<R r (bp aw) i)) (Q:=λc y8=>y8=aw/\∃ l r',c=(none,l,r')/\l<=k /\ (∀ i,lo<=i->i<lo+l->R r (bp aw) i<=R r (bp aw) (lo+k))/\(∀ i,lo+l<=i->i<lo+k->R r (bp aw) (lo+k)<R r (bp aw) i)) ?ec' ?ed' ?ee') ?ef')
  case ee'=>exact⟨rfl,0,k,rfl,by exact eW _,by exact de _,by exact Nat.sub_le _ _,λi _ hi=>by lia,λi h1 h2=>by lia⟩
  case ed' =>
   rintro c y8 ⟨rfl,l,r',rfl,hlr,Tg,hm,E2,A9⟩;have:l=r':=by lia
   subst this;exact⟨rfl,l,l,rfl,Tg,E2,A9⟩
  case ec' =>
   rintro x c y8 _ hxk ⟨rfl,l,r',rfl,hlr,Tg,hm,E2,A9⟩;dsimp only;by_cases sv:l >= r'
   ·rw[if_pos sv];have:l=r':=by exact Nf ‹_› ‹_›
    subst this;exact df ⟨rfl,l,l,rfl,Tg,E2,A9⟩
   ·rw[if_neg sv];refine cx (jw C oa sq (by lia) (by lia) ?_);by_cases wm:R r (bp y8) (lo+k)<R r (bp y8) (lo+(l+r') / 2)
    ·simp only[wm,decide_true,if_true];refine df ⟨rfl,l,(l+r') / 2,rfl,by lia,by lia,by lia,E2,λi h1 h2=>?_⟩;exact R7 wm (gi _ _ (by exact FY _ _) h1 h2)
    ·simp only[wm,decide_false,hZ,if_false];refine df ⟨rfl,(l+r') / 2+1,r',rfl,by lia,by lia,by lia,λi h0 h1=>?_,A9⟩;exact xA (gi i (lo+(l+r') / 2) h0 (by lia) (by lia)) (Int.not_lt.mp wm)
  case ef' =>
   rintro c y8 ⟨rfl,l,r',rfl,hlk,E2,A9⟩;show wpS _ _ _ _ (do moveDown' (lo+k) (lo+l);pure (ForInStep.yield (none,()))) _ _;rw[moveDown'_eq];have Ti:lo+k<(bp y8).size:=by lia
   refine cx (B9 (df ⟨rfl,jv.trans ((ud (lo:=lo) Ti (by lia)).mono (de _) (by lia)),?_⟩));rw[show min (k+1) n=k+1 by exact Pp ‹_›];intro i j hl kA hj;show R r (bubble (bp y8) (lo+k) (lo+k-(lo+l))) i<=R r (bubble (bp y8) (lo+k) (lo+k-(lo+l))) j;rw[qQ Ti (by exact Nat.sub_le _ _),qQ Ti (by exact Nat.sub_le _ _),show lo+k-(lo+k-(lo+l))=lo+l by lia]
   repeat' split
   all_goals first
    | (exfalso;lia)
    |exact xB _
    |exact E2 _ (by lia) (by lia)
    |exact Ct (A9 _ (by lia) (by lia))
    |exact gi _ _ (by lia) (by lia) (by lia)
end
def ascL(lo a nrem:Nat):StateT dv Sem AscSt :=
 forIn [a:nrem] ((none,a):AscSt) λ_ __s=>do
  let __x ← ltAt' (lo + __s.snd) (lo + __s.snd - 1)
  match __x with
  |some smaller=>if smaller=true then pure (ForInStep.done (none,__s.snd)) else pure (ForInStep.yield (none,__s.snd+1))
  |_=>pure (ForInStep.done (some none,__s.snd))
def pB(lo n nrem:Nat):StateT dv Sem (Option Nat):=do
 reverseSlice' lo (lo+n)
 let __s ← ascL lo n nrem
 match __s.fst with
 |some r=>pure r
 |none=>pure (some __s.snd)
def yq(lo n nrem:Nat):StateT dv Sem DescSt :=
 forIn [n:nrem] ((none,n,0):DescSt) λ_ __s=>do
  let __x ← ltAt' (lo + __s.snd.fst) (lo + __s.snd.fst - 1)
  match __x with
  |some smaller =>
   if smaller=true then
    if __s.snd.snd>0 then do
     reverseSlice' (lo+__s.snd.fst-(__s.snd.snd+1)) (lo+__s.snd.fst)
     pure (ForInStep.yield (none,__s.snd.fst+1,0))
    else pure (ForInStep.yield (none,__s.snd.fst+1,0))
   else do
    let __x ← ltAt' (lo+__s.snd.fst - 1) (lo+__s.snd.fst)
    match __x with
    |some larger =>
     if larger=true then pure (ForInStep.done (none,__s.snd.fst,__s.snd.snd))
     else pure (ForInStep.yield (none,__s.snd.fst+1,__s.snd.snd+1))
    |_=>pure (ForInStep.done (some none,__s.snd.fst,__s.snd.snd))
  |_=>pure (ForInStep.done (some none,__s.snd.fst,__s.snd.snd))
def dZ(lo n nrem:Nat):StateT dv Sem (Option Nat):=do
 liftM (rule "list.sort.descending-run")
 let __s ← yq lo (n+1) nrem
 match __s.fst with
 |some r=>pure r
 |none =>
  if __s.snd.snd>0 then do
   reverseSlice' (lo+__s.snd.fst-(__s.snd.snd+1)) (lo+__s.snd.fst)
   pB lo __s.snd.fst nrem
  else pB lo __s.snd.fst nrem
theorem nQ(lo nrem:Nat):countRun' lo nrem=(do
  let __s ← ascL lo 1 nrem
  match __s.fst with
  |some r=>pure r
  |none =>
   if (__s.snd == nrem)=true then pure (some __s.snd)
   else if __s.snd>1 then do
    let __x ← ltAt' lo (lo+__s.snd - 1)
    match __x with
    |some Ww=>if Ww=true then pure (some __s.snd) else do
      reverseSlice' lo (lo+__s.snd)
      dZ lo __s.snd nrem
    |_=>pure none
   else dZ lo __s.snd nrem):=by
 rw[countRun'_eq];dsimp only;unfold dZ pB yq ascL;congr 1;funext __s;obtain⟨r,n⟩:=__s
 cases r with
 |some r=>rfl
 |none =>
  dsimp only;split
  ·rfl
  ·split
   ·congr 1;funext x
    cases x with
    |none=>rfl
    |some Ww =>
     dsimp only;split
     ·rfl
     ·congr 1;funext _r
      (congr 1;funext _u;congr 1;congr 1;funext s2;obtain⟨r2,n2,q2⟩:=s2;cases r2 with
       |some r2=>rfl
       |none=>(dsimp only;split;(congr 1;funext _v;(congr 1;funext _w;congr 1;(funext s3;obtain⟨r3,n3⟩:=s3;cases r3<;>rfl)));(congr 1;funext _w;congr 1;(funext s3;obtain⟨r3,n3⟩:=s3;cases r3<;>rfl))))
   ·(congr 1;funext _u;congr 1;congr 1;funext s2;obtain⟨r2,n2,q2⟩:=s2;cases r2 with
     |some r2=>rfl
     |none=>(dsimp only;split;(congr 1;funext _v;(congr 1;funext _w;congr 1;(funext s3;obtain⟨r3,n3⟩:=s3;cases r3<;>rfl)));(congr 1;funext _w;congr 1;(funext s3;obtain⟨r3,n3⟩:=s3;cases r3<;>rfl))))
section
variable {prog:dz}{w:dA}{A:eJ}{E:ah->aE->Prop}{s:aE}{κ:sR}{r:ah->Int}{P:ah->Prop}
theorem qZ{st:dv}{lo a nrem:Nat}{Q:AscSt->dv->Prop}(C:oi prog w A s κ r P)(hk:eL st=κ)(hP:AllP P (bp st))(hn:lo+nrem<=(bp st).size)(ha:1<=a)(han:a<=nrem)(hs:Up r (bp st) lo (lo+a))(h:∀ n,a<=n->n<=nrem->Up r (bp st) lo (lo+n)->(n=nrem\/R r (bp st) (lo+n)<R r (bp st) (lo+n-1))->Q (none,n) st) :
  wpS (aS prog w) A E s (ascL lo a nrem) Q st:=by
 unfold ascL;refine qc (I:=λx c aw=>aw=st/\c=(none,x)/\Up r (bp st) lo (lo+x)) ?step ?fin ⟨rfl,rfl,hs⟩;case fin =>
  rintro c aw ⟨rfl,rfl,gi⟩;rw[show max a nrem=nrem by lia] at gi ⊢;exact h nrem han (de _) gi (.inl rfl)
 case step =>
  rintro x c aw Tj hxn ⟨rfl,rfl,gi⟩;dsimp only;refine cx (jw C hk hP (by lia) (by lia) ?_);by_cases wm:R r (bp aw) (lo+x)<R r (bp aw) (lo+x-1)
  ·simp only[wm,decide_true,if_true];exact df (h x Tj (by exact oP ‹_›) gi (.inr wm))
  ·simp only[wm,decide_false,hZ,if_false];refine df ⟨rfl,rfl,λi j hl kA hj=>?_⟩;by_cases N0:j<lo+x
   ·exact gi i j hl kA N0
   ·have x5:j=lo+x:=by lia
    subst x5;by_cases k9:i=lo+x
    ·subst k9;exact xB _
    ·exact xA (gi i (lo+x-1) hl (by lia) (by lia)) (Int.not_lt.mp wm)
theorem lr{st:dv}{lo n nrem:Nat}{Q:Option Nat->dv->Prop}(C:oi prog w A s κ r P)(hk:eL st=κ)(hP:AllP P (bp st))(hn:lo+nrem<=(bp st).size)(h1:1<=n)(DE:n<=nrem)(hs:Down r (bp st) lo (lo+n)) (h:∀ m aw,lS lo (lo+nrem) st aw->1<=m->m<=nrem->Up r (bp aw) lo (lo+m)->Q (some m) aw) :
  wpS (aS prog w) A E s (pB lo n nrem) Q st:=by
 unfold pB;have hsz:lo+n<=(bp st).size:=by lia
 refine cx (cD ?_);have jv:=d_ (i:=lo) hsz;refine cx (qZ C (jv.kind.trans hk) (hP.perm jv.perm) (by rw[jv.size];exact hn) h1 DE ?_ λm vi px Tn _=>df (h m _ (jv.mono (de _) (by lia)) (by walk_at "s1") px Tn));intro i j hl kA hj;show R r (mirror (bp st) lo (lo+n) ((lo+n-lo) / 2)) i<=R r (mirror (bp st) lo (lo+n) ((lo+n-lo) / 2)) j;rw[mJ hsz,mJ hsz,if_pos (by lia),if_pos (by lia)];exact hs _ _ (by lia) (by lia) (by lia)
theorem uQ{st:dv}{lo n nrem:Nat}{Q:DescSt->dv->Prop}(C:oi prog w A s κ r P)(hk:eL st=κ)(hP:AllP P (bp st))(hn:lo+nrem<=(bp st).size)(h1:1<=n)(DE:n<=nrem)(hs:Down r (bp st) lo (lo+n))(h:∀ m sA aw,lS lo (lo+nrem) st aw->n<=m->m<=nrem->Down r (bp aw) lo (lo+m)->sA+1<=m->(∀ i,lo+m-(sA+1)<=i->i<lo+m->R r (bp aw) i=R r (bp aw) (lo+m-1))->Q (none,m,sA) aw) :
  wpS (aS prog w) A E s (yq lo n nrem) Q st:=by
 unfold yq;refine qc (I:=λx c aw=>∃ sA,c=(none,x,sA)/\lS lo (lo+nrem) st aw/\Down r (bp aw) lo (lo+x)/\sA+1<=x /\ (∀ i,lo+x-(sA+1)<=i->i<lo+x->R r (bp aw) i=R r (bp aw) (lo+x-1))) ?step ?fin ⟨0,rfl,.refl _ _ _,hs,by lia,λi h1 h2=>by congr 1;lia⟩
 case fin =>
  rintro c aw ⟨sA,rfl,jv,gi,hq,he⟩;rw[show max n nrem=nrem by lia] at gi hq he ⊢;exact h nrem sA aw jv DE (de _) gi hq he
 case step =>
  rintro x c aw Tj hxn ⟨sA,rfl,jv,gi,hq,he⟩;dsimp only;have hz:=jv.size;have hsz:lo+x<=(bp aw).size:=by lia
  have oa:=jv.kind.trans hk;have sq:=hP.perm jv.perm;refine cx (jw C oa sq (by lia) (by lia) ?_);by_cases wm:R r (bp aw) (lo+x)<R r (bp aw) (lo+x-1)
  ·simp only[wm,decide_true,if_true];have Wx:∀ xs:Array bP,(∀ k,R r xs k=R r (bp aw) k)->Down r xs lo (lo+(x+1)):=by
    intro xs Wy i j hl kA hj;rw[Wy,Wy];by_cases N0:j<lo+x
    ·exact gi i j hl kA N0
    ·have x5:j=lo+x:=by lia
     subst x5;by_cases k9:i=lo+x
     ·subst k9;exact xB _
     ·exact xA (Ct wm) (gi i (lo+x-1) hl (by lia) (by lia))
   by_cases N3:sA>0
   ·rw[if_pos N3];refine cx (cD (df ⟨0,rfl,jv.trans ((d_ hsz).mono (by lia) (by lia)),Wx _ (bh hsz he),by exact vS _,λi h1 h2=>by congr 1;lia⟩))
   ·rw[if_neg N3];exact df ⟨0,rfl,jv,Wx _ (λ_=>rfl),by exact vS _,λi h1 h2=>by congr 1;lia⟩
  ·simp only[wm,decide_false,hZ,if_false];refine cx (jw C oa sq (by lia) (by lia) ?_);by_cases Wz:R r (bp aw) (lo+x-1)<R r (bp aw) (lo+x)
   ·simp only[Wz,decide_true,if_true];exact df (h x sA aw jv Tj (by exact oP ‹_›) gi hq he)
   ·simp only[Wz,decide_false,hZ,if_false];have WC:R r (bp aw) (lo+x)=R r (bp aw) (lo+x-1):=by lia
    refine df ⟨sA+1,rfl,jv,λi j hl kA hj=>?_,by exact EB ‹_›,λi h1 h2=>?_⟩
    ·by_cases N0:j<lo+x
     ·exact gi i j hl kA N0
     ·have x5:j=lo+x:=by lia
      subst x5;by_cases k9:i=lo+x
      ·subst k9;exact xB _
      ·rw[WC];exact gi i (lo+x-1) hl (by lia) (by lia)
    ·rw[show lo+(x+1)-1=lo+x by rfl];by_cases IB:i=lo+x
     ·subst IB;rfl
     ·rw[WC];exact he i (by lia) (by lia)
theorem fZ{st:dv}{lo n nrem:Nat}{Q:Option Nat->dv->Prop}(C:oi prog w A s κ r P)(hk:eL st=κ)(hP:AllP P (bp st))(hn:lo+nrem<=(bp st).size)(DE:n+1<=nrem)(hs:Down r (bp st) lo (lo+(n+1))) (h:∀ m aw,lS lo (lo+nrem) st aw->1<=m->m<=nrem->Up r (bp aw) lo (lo+m)->Q (some m) aw) :
  wpS (aS prog w) A E s (dZ lo n nrem) Q st:=by
 unfold dZ;refine cx (wpS_lift (D6 ⟨rfl,?_⟩));refine cx (uQ C hk hP hn (by exact vS _) DE hs λm sA aw jv vi px gi hq he=>?_);dsimp only;have hz:=jv.size;have hsz:lo+m<=(bp aw).size:=by lia
 have oa:=jv.kind.trans hk;have sq:=hP.perm jv.perm;by_cases N3:sA>0
 ·rw[if_pos N3];have hW:=d_ (i:=lo+m-(sA+1)) hsz;refine cx (cD (lr C (hW.kind.trans oa) (sq.perm hW.perm) (by rw[hW.size,hz];exact hn) (by walk_at "s2") px ?_ λm2 xC N4=>h m2 xC ((jv.trans (hW.mono (by lia) (by lia))).trans N4)));intro i j hl kA hj;show R r (mirror (bp aw) _ _ _) j<=R r (mirror (bp aw) _ _ _) i;rw[bh hsz he,bh hsz he];exact gi i j hl kA hj
 ·rw[if_neg N3];exact lr C oa sq (by rw[hz];exact hn) (by lia) px gi λm2 xC N4=>h m2 xC (jv.trans N4)
theorem wpS_countRun{st:dv}{lo nrem:Nat}{Q:Option Nat->dv->Prop}(C:oi prog w A s κ r P)(hk:eL st=κ)(hP:AllP P (bp st))(hn:lo+nrem<=(bp st).size)(h1:1<=nrem)(h:∀ m aw,lS lo (lo+nrem) st aw->1<=m->m<=nrem->Up r (bp aw) lo (lo+m)->Q (some m) aw) :
  wpS (aS prog w) A E s (countRun' lo nrem) Q st:=by
 rw[nQ];refine cx (qZ C hk hP hn (de 1) h1 (λi j hl kA hj=>by
  have:i=j:=by lia
  subst this;exact xB _) λn WD HP lT hor=>?_)
 dsimp only;by_cases DE:n=nrem
 ·rw[if_pos (by simpa using DE)];exact df (h n st (.refl _ _ _) WD HP lT)
 ·rw[if_neg (by simpa using DE)];have gp:R r (bp st) (lo+n)<R r (bp st) (lo+n-1):=hor.resolve_left DE;by_cases WH:n>1
  ·rw[if_pos WH];refine cx (jw C hk hP (by lia) (by lia) ?_);by_cases WK:R r (bp st) lo<R r (bp st) (lo+n-1)
   ·simp only[WK,decide_true,if_true];exact df (h n st (.refl _ _ _) WD HP lT)
   ·simp only[WK,decide_false,hZ,if_false];have hsz:lo+n<=(bp st).size:=by lia
    have nL:∀ k,lo<=k->k<lo+n->R r (bp st) k=R r (bp st) (lo+n-1):=by intro k hl hk;have a1:=lT lo k (by exact de _) hl hk;have a2:=lT k (lo+n-1) hl (by lia) (by lia);lia
    have hW:=d_ (i:=lo) hsz;refine cx (cD (fZ C (hW.kind.trans hk) (hP.perm hW.perm) (by rw[hW.size];exact hn) (by lia) ?_ λm2 xC N4=>h m2 xC ((hW.mono (de _) (by lia)).trans N4)));intro i j hl kA hj;show R r (mirror (bp st) _ _ _) j<=R r (mirror (bp st) _ _ _) i;rw[bh hsz nL,bh hsz nL];by_cases hjn:j<lo+n
    ·rw[nL i hl (by walk_at "s1"),nL j (by walk_at "s1") hjn];exact xB _
    ·have x5:j=lo+n:=by lia
     subst x5;by_cases k9:i=lo+n
     ·subst k9;exact xB _
     ·rw[nL i hl (by lia)];exact Ct gp
  ·rw[if_neg WH];have el':n=1:=by lia
   subst el';refine fZ C hk hP hn (by lia) ?_ h;intro i j hl kA hj;by_cases k9:i=j
   ·subst k9;exact xB _
   ·have DB:i=lo:=by lia
    have hj1:j=lo+1:=by lia
    subst DB;subst hj1;exact Ct gp
end
def vo(left:Bool)(key:bP)(arr:Array bP)(base i:Nat):StateT dv Sem (Option Bool):=do
 let x ← elem' arr (base+i)
 if left then lt' x key else return (<- lt' key x).map (!·)
def jR:Bool->bP->Array bP->Nat->Nat->Nat->StateT dv Sem (Option Nat):=sortPriv% PySem.Builtin.gallop
section
variable {prog:dz}{w:dA}{A:eJ}{E:ah->aE->Prop}{s:aE}{κ:sR}{r:ah->Int}{P:ah->Prop}
def fE(r:ah->Int)(left:Bool)(key:bP)(arr:Array bP)(base i:Nat):Bool :=
 if left then decide (R r arr (base+i)<r key.1) else !decide (r key.1<R r arr (base+i))
theorem cN{st:dv}{left:Bool}{key:bP}{arr:Array bP}{base i:Nat}{Q:Option Bool->dv->Prop}(C:oi prog w A s κ r P)(hk:eL st=κ)(hP:AllP P arr)(hy:P key.1)(hi:base+i<arr.size)(h:Q (some (fE r left key arr base i)) st):wpS (aS prog w) A E s (vo left key arr base i) Q st:=by
 unfold vo;refine cx (aF hi λp ep=>?_);have e1:R r arr (base+i)=r p.1:=by unfold R;rw[ep]
 unfold fE at h;rw[e1] at h
 cases left with
 |true =>simp only[if_true] at h ⊢;exact oA C hk (hP.at ep) hy h
 |false =>simp only[hZ,if_false] at h ⊢;exact cx (oA C hk hy (hP.at ep) (df h))
theorem yo(hu:Up r arr base (base+n))(kA:i<=j)(hj:j<n)(h:fE r left key arr base j=true):fE r left key arr base i=true:=by
 have q:=hu (base+i) (base+j) (by lia) (by lia) (by lia);unfold fE at h ⊢
 cases left with
 |true=>simp only[if_true,decide_eq_true_eq] at h ⊢;lia
 |false=>simp only[hZ,if_false,RZ,decide_eq_false_iff_not] at h ⊢;lia
theorem bY{st:dv}{left:Bool}{key:bP}{arr:Array bP}{base n hint:Nat}{Q:Option Nat->dv->Prop}(C:oi prog w A s κ r P)(hk:eL st=κ)(hP:AllP P arr)(hy:P key.1)(hn:base+n<=arr.size)(hh:hint<n)(hu:Up r arr base (base+n))(h:∀ k,k<=n->(∀ i,i<k->fE r left key arr base i=true)->(∀ i,k<=i->i<n->fE r left key arr base i=false)->Q (some k) st):wpS (aS prog w) A E s (jR left key arr base n hint) Q st:=by
 have mono:∀ {i j},i<=j->j<n->fE r left key arr base j=true->fE r left key arr base i=true:=λa b c=>yo hu a b c;have Qq:∀ {i j},i<=j->j<n->fE r left key arr base i=false->fE r left key arr base j=false:=λ{i j} a b c=>by
  cases q:fE r left key arr base j with
  |false=>rfl
  |true=>rw[mono a b q] at c;cases c
 refine cx (cN C hk hP hy (by lia) ?_);dsimp only
 cases q0:fE r left key arr base hint with
 |true =>
  simp only[if_true];refine cx (sT (qc (I:=λx c aw=>aw=st/\∃ lst fz,c=(none,lst,fz)/\lst<fz/\lst<n-hint/\x+1<=fz/\fE r left key arr base (hint+lst)=true) (Q:=λc aw=>aw=st/\∃ lst fz,c=(none,lst,fz)/\lst<fz/\lst<n-hint/\fE r left key arr base (hint+lst)=true/\(n-hint<=fz\/fE r left key arr base (hint+fz)=false)) ?step ?fin ?init) ?post)
  case init=>exact⟨rfl,0,1,rfl,by exact vS _,by lia,by exact vS _,q0⟩
  case fin =>
   rintro c aw ⟨rfl,lst,fz,rfl,h1,h2,h3,h4⟩;exact⟨rfl,lst,fz,rfl,h1,h2,h4,.inl (by lia)⟩
  case step =>
   rintro x c aw _ hx ⟨rfl,lst,fz,rfl,h1,h2,h3,h4⟩;dsimp only;by_cases sv:fz >= n-hint
   ·rw[if_pos sv];exact df ⟨rfl,lst,fz,rfl,h1,h2,h4,.inl sv⟩
   ·rw[if_neg sv];refine cx (cN C hk hP hy (by lia) ?_)
    cases q:fE r left key arr base (hint+fz) with
    |true =>simp only[Pu,hZ,if_false];exact df ⟨rfl,_,_,rfl,by lia,by exact Pm ‹_›,by lia,q⟩
    |false =>simp only[Bool.not_false,if_true];exact df ⟨rfl,lst,fz,rfl,h1,h2,h4,.inr q⟩
  case post =>
   rintro c aw ⟨rfl,lst,fz,rfl,h1,h2,h4,h5⟩;dsimp only;generalize aw=st at *
   have hl:∀ i,i<hint+lst+1->fE r left key arr base i=true:=λi hi=>mono (j:=hint+lst) (by lia) (by lia) h4;have A9:∀ i,hint+min fz (n-hint)<=i->i<n->fE r left key arr base i=false:=λi hi oj=>by
    rcases h5 with h5|h5
    ·lia
    ·by_cases z:n-hint<=fz
     ·lia
     ·exact Qq (i:=hint+fz) (by lia) oj h5
   have To:hint+lst+1<=hint+min fz (n-hint):=by lia
   have Tp:hint+min fz (n-hint)<=n:=by lia
   generalize hint+lst+1=lo at *
   generalize hint+min fz (n-hint)=hi at *
   refine cx (sT (qc (I:=λx c aw=>aw=st/\∃ l u,c=(none,l,u)/\l<=u/\u<=n/\u-l<=n-x/\(∀ i,i<l->fE r left key arr base i=true)/\(∀ i,u<=i->i<n->fE r left key arr base i=false)) (Q:=λc aw=>aw=st/\∃ l,c=(none,l,l)/\l<=n/\(∀ i,i<l->fE r left key arr base i=true)/\(∀ i,l<=i->i<n->fE r left key arr base i=false)) ?en' ?eo' ?eq') ?postA)
   case eq'=>exact⟨rfl,lo,hi,rfl,To,Tp,by lia,hl,A9⟩
   case eo' =>
    rintro c aw ⟨rfl,l,u,rfl,h1,h2,h3,h4,h5⟩;have:l=u:=by lia
    subst this;exact⟨rfl,l,rfl,h2,h4,h5⟩
   case en' =>
    rintro x c aw _ hx ⟨rfl,l,u,rfl,h1,h2,h3,h4,h5⟩;dsimp only;by_cases sv:l >= u
    ·rw[if_pos sv];have:l=u:=by exact Nf ‹_› ‹_›
     subst this;exact df ⟨rfl,l,rfl,h2,h4,h5⟩
    ·rw[if_neg sv];refine cx (cN C hk hP hy (by lia) ?_)
     cases q:fE r left key arr base (l+(u-l) / 2) with
     |true =>simp only[if_true];exact df ⟨rfl,_,_,rfl,by lia,by lia,by lia,λi hi=>mono (j:=l+(u-l) / 2) (by lia) (by lia) q,h5⟩
     |false =>simp only[hZ,if_false];exact df ⟨rfl,_,_,rfl,by exact FY _ _,by lia,by lia,h4,λi hi oj=>Qq (i:=l+(u-l) / 2) (by lia) oj q⟩
   case postA =>
    rintro c aw ⟨rfl,l,rfl,h2,h4,h5⟩;exact df (h l h2 h4 h5)
 |false =>
  simp only[hZ,if_false];refine cx (sT (qc (I:=λx c aw=>aw=st/\∃ lst fz,c=(none,lst,fz)/\lst<fz/\lst<hint+1/\x+1<=fz/\fE r left key arr base (hint-lst)=false) (Q:=λc aw=>aw=st/\∃ lst fz,c=(none,lst,fz)/\lst<fz/\lst<hint+1/\fE r left key arr base (hint-lst)=false/\(hint+1<=fz\/fE r left key arr base (hint-fz)=true)) ?er' ?fin2 ?et') ?eu')
  case et'=>exact⟨rfl,0,1,rfl,by exact vS _,by exact vS _,by exact vS _,q0⟩
  case fin2 =>
   rintro c aw ⟨rfl,lst,fz,rfl,h1,h2,h3,h4⟩;exact⟨rfl,lst,fz,rfl,h1,h2,h4,.inl (by walk_at "s2")⟩
  case er' =>
   rintro x c aw _ hx ⟨rfl,lst,fz,rfl,h1,h2,h3,h4⟩;dsimp only;by_cases sv:fz >= hint+1
   ·rw[if_pos sv];exact df ⟨rfl,lst,fz,rfl,h1,h2,h4,.inl sv⟩
   ·rw[if_neg sv];refine cx (cN C hk hP hy (by lia) ?_)
    cases q:fE r left key arr base (hint-fz) with
    |true =>simp only[if_true];exact df ⟨rfl,lst,fz,rfl,h1,h2,h4,.inr q⟩
    |false =>simp only[hZ,if_false];exact df ⟨rfl,_,_,rfl,by lia,by exact Pm ‹_›,by lia,q⟩
  case eu' =>
   rintro c aw ⟨rfl,lst,fz,rfl,h1,h2,h4,h5⟩;dsimp only;generalize aw=st at *
   have hl:∀ i,i<hint+1-min fz (hint+1)->fE r left key arr base i=true:=λi hi=>by
    rcases h5 with h5|h5
    ·lia
    ·by_cases z:hint+1<=fz
     ·lia
     ·exact mono (j:=hint-fz) (by lia) (by lia) h5
   have A9:∀ i,hint-lst<=i->i<n->fE r left key arr base i=false:=λi hi oj=>Qq (i:=hint-lst) (by lia) oj h4;have To:hint+1-min fz (hint+1)<=hint-lst:=by lia
   have Tp:hint-lst<=n:=by lia
   generalize hint+1-min fz (hint+1)=lo at *
   generalize hint-lst=hi at *
   refine cx (sT (qc (I:=λx c aw=>aw=st/\∃ l u,c=(none,l,u)/\l<=u/\u<=n/\u-l<=n-x/\(∀ i,i<l->fE r left key arr base i=true)/\(∀ i,u<=i->i<n->fE r left key arr base i=false)) (Q:=λc aw=>aw=st/\∃ l,c=(none,l,l)/\l<=n/\(∀ i,i<l->fE r left key arr base i=true)/\(∀ i,l<=i->i<n->fE r left key arr base i=false)) ?ev' ?ew' ?ex') ?ey')
   case ex'=>exact⟨rfl,lo,hi,rfl,To,Tp,by lia,hl,A9⟩
   case ew' =>
    rintro c aw ⟨rfl,l,u,rfl,h1,h2,h3,h4,h5⟩;have:l=u:=by lia
    subst this;exact⟨rfl,l,rfl,h2,h4,h5⟩
   case ev' =>
    rintro x c aw _ hx ⟨rfl,l,u,rfl,h1,h2,h3,h4,h5⟩;dsimp only;by_cases sv:l >= u
    ·rw[if_pos sv];have:l=u:=by exact Nf ‹_› ‹_›
     subst this;exact df ⟨rfl,l,rfl,h2,h4,h5⟩
    ·rw[if_neg sv];refine cx (cN C hk hP hy (by lia) ?_)
     cases q:fE r left key arr base (l+(u-l) / 2) with
     |true =>simp only[if_true];exact df ⟨rfl,_,_,rfl,by lia,by lia,by lia,λi hi=>mono (j:=l+(u-l) / 2) (by lia) (by lia) q,h5⟩
     |false =>simp only[hZ,if_false];exact df ⟨rfl,_,_,rfl,by exact FY _ _,by lia,by lia,h4,λi hi oj=>Qq (i:=l+(u-l) / 2) (by lia) oj q⟩
   case ey' =>
    rintro c aw ⟨rfl,l,rfl,h2,h4,h5⟩;exact df (h l h2 h4 h5)
end
abbrev Le(r:ah->Int)(x y:bP):Prop:=r x.1<=r y.1
theorem oo(e:xs[i]? = some p):R r xs i=r p.1:=by unfold R;rw[e]
theorem FQ(h:i<xs.size):R r xs i=r xs[i].1:=oo (getElem?_pos xs i h)
structure MI(r:ah->Int)(a b out:Array bP)(ia ib:Nat):Prop where
 ha:ia<=a.size
 hb:ib<=b.size
 perm:out.toList.Perm (a.toList.take ia++b.toList.take ib)
 up:out.toList.Pairwise (Le r)
 la:∀ x∈out.toList,∀ i,ia<=i->i<a.size->r x.1<=R r a i
 lb:∀ x∈out.toList,∀ j,ib<=j->j<b.size->r x.1<=R r b j
section
variable {r:ah->Int}{a b out:Array bP}{ia ib:Nat}
theorem lz{α:Type}{l:List α}{i:Nat}{x:α}(h:l[i]? = some x):l.take (i+1)=l.take i++[x]:=by rw[Ee,h];rfl
theorem MI.pH(M:MI r a b out ia ib)(hA:Up r a 0 a.size)(hB:Up r b 0 b.size)(e:b[ib]? = some y)(hl:ia<a.size->R r b ib<=R r a ia):MI r a b (out.push y) ia (ib+1):=by
 have WL:ib<b.size:=(Cb.mp e).1;have ey:=oo (r:=r) e;refine⟨M.ha,WL,?_,?_,?_,?_⟩
 ·rw[pd,lz (x:=y) (by simpa using e),<- AB];exact M.perm.append_right _
 ·rw[pd,O9];refine⟨M.up,by simp,λx hx z hz=>?_⟩;have:z=y:=by simpa using hz
  subst this;show r x.1<=r z.1;rw[<- ey];exact M.lb x hx ib (de _) WL
 ·intro x hx i hi Mf;rw[pd] at hx;rcases fh.mp hx with hx|hx
  ·exact M.la x hx i hi Mf
  ·have:x=y:=by simpa using hx
   subst this;rw[<- ey];exact xA (hl (by lia)) (hA ia i (eW _) hi Mf)
 ·intro x hx j hj N5;rw[pd] at hx;rcases fh.mp hx with hx|hx
  ·exact M.lb x hx j (by lia) N5
  ·have:x=y:=by simpa using hx
   subst this;rw[<- ey];exact hB ib j (eW _) (by lia) N5
theorem MI.oV(M:MI r a b out ia ib)(hA:Up r a 0 a.size)(hB:Up r b 0 b.size)(e:a[ia]? = some y)(hl:ib<b.size->R r a ia<=R r b ib):MI r a b (out.push y) (ia+1) ib:=by
 have Mf:ia<a.size:=(Cb.mp e).1;have ey:=oo (r:=r) e;refine⟨Mf,M.hb,?_,?_,?_,?_⟩
 ·rw[pd,lz (x:=y) (by simpa using e),AB];refine(M.perm.append_right [y]).trans ?_;rw[AB];exact List.Perm.append_left _ RG
 ·rw[pd,O9];refine⟨M.up,by simp,λx hx z hz=>?_⟩;have:z=y:=by simpa using hz
  subst this;show r x.1<=r z.1;rw[<- ey];exact M.la x hx ia (de _) Mf
 ·intro x hx i hi pj;rw[pd] at hx;rcases fh.mp hx with hx|hx
  ·exact M.la x hx i (by lia) pj
  ·have:x=y:=by simpa using hx
   subst this;rw[<- ey];exact hA ia i (eW _) (by lia) pj
 ·intro x hx j hj N5;rw[pd] at hx;rcases fh.mp hx with hx|hx
  ·exact M.lb x hx j hj N5
  ·have:x=y:=by simpa using hx
   subst this;rw[<- ey];exact xA (hl (by lia)) (hB ib j (eW _) hj N5)
theorem dN{xs:Array bP}{i k:Nat}(h:i+k<xs.size):xs.extract i (i+(k+1))=(xs.extract i (i+k)).push xs[i+k]:=by apply Nj.mp;rw[pd];simp only[R5,RB];rw[show i+(k+1)-i=k+1 by exact Nat.add_sub_cancel_left ..,show i+k-i=k by exact Nat.add_sub_cancel_left ..,Ee];congr 1;rw[List.getElem?_drop];simp[h]
theorem MI.DF(hA:Up r a 0 a.size)(hB:Up r b 0 b.size):∀ (k:Nat) {out:Array bP} {ia:Nat},MI r a b out ia ib->ia+k<=a.size->(ib<b.size->∀ i,i<k->R r a (ia+i)<=R r b ib)->MI r a b (out++a.extract ia (ia+k)) (ia+k) ib
 |0,out,ia,M,h1,h2=>by have:a.extract ia (ia+0) = #[]:=Ni (by simp only[GL];lia);rw[this];simpa using M
 |k+1,out,ia,M,h1,h2=>by have q:=MI.DF hA hB k M (by exact oP ‹_›) λhb i hi=>h2 hb i (by exact AH ‹_›);have e:a[ia+k]? = some a[ia+k]:=getElem?_pos a (ia+k) (by assumption);have z:=q.oV hA hB e λhb=>h2 hb k (by exact de _);rw[dN (by assumption),Array.append_push];exact z
theorem MI.DH(hA:Up r a 0 a.size)(hB:Up r b 0 b.size):∀ (k:Nat) {out:Array bP} {ib:Nat},MI r a b out ia ib->ib+k<=b.size->(ia<a.size->∀ i,i<k->R r b (ib+i)<=R r a ia)->MI r a b (out++b.extract ib (ib+k)) ia (ib+k)
 |0,out,ib,M,h1,h2=>by have:b.extract ib (ib+0) = #[]:=Ni (by simp only[GL];lia);rw[this];simpa using M
 |k+1,out,ib,M,h1,h2=>by have q:=MI.DH hA hB k M (by exact oP ‹_›) λha i hi=>h2 ha i (by exact AH ‹_›);have e:b[ib+k]? = some b[ib+k]:=getElem?_pos b (ib+k) (by assumption);have z:=q.pH hA hB e λha=>h2 ha k (by exact de _);rw[dN (by assumption),Array.append_push];exact z
def bH(r:ah->Int)(a b out:Array bP):Prop:=out.toList.Perm (a.toList++b.toList)/\out.toList.Pairwise (Le r)
theorem MI.whole(M:MI r a b out a.size b.size):bH r a b out:=by refine⟨?_,M.up⟩;have h:=M.perm;rw[FU (by simp),FU (by simp)] at h;exact h
theorem MI.GD(M:MI r a b out ia b.size)(hA:Up r a 0 a.size)(hB:Up r b 0 b.size):bH r a b (out++a.extract ia a.size++b.extract b.size b.size):=by
 have e:b.extract b.size b.size = #[]:=by simp
 rw[e,R6];have ha:=M.ha;have q:=MI.DF hA hB (a.size-ia) M (by lia) λhb=>absurd hb (uk _);rw[show ia+(a.size-ia)=a.size by exact GA ‹_›] at q;exact q.whole
theorem MI.HX(M:MI r a b out a.size ib)(hA:Up r a 0 a.size)(hB:Up r b 0 b.size):bH r a b (out++a.extract a.size a.size++b.extract ib b.size):=by
 have e:a.extract a.size a.size = #[]:=by simp
 rw[e,R6];have hb:=M.hb;have q:=MI.DH hA hB (b.size-ib) M (by lia) λha=>absurd ha (uk _);rw[show ib+(b.size-ib)=b.size by exact GA ‹_›] at q;exact q.whole
theorem MI.Mh(M:MI r a b out ia ib)(hA:Up r a 0 a.size)(hB:Up r b 0 b.size)(e:ib=b.size):bH r a b (out++a.extract ia a.size++b.extract ib b.size):=by subst e;exact M.GD hA hB
theorem MI.Mi(M:MI r a b out ia ib)(hA:Up r a 0 a.size)(hB:Up r b 0 b.size)(e:ia=a.size):bH r a b (out++a.extract ia a.size++b.extract ib b.size):=by subst e;exact M.HX hA hB
theorem MI.GZ(M:MI r a b out ia ib)(hA:Up r a 0 a.size)(hB:Up r b 0 b.size)(Mf:ia+1=a.size)(hg:∀ j,j<b.size->R r b j<=R r a ia):bH r a b (out++b.extract ib b.size++a.extract ia a.size):=by have hb:=M.hb;have q:=MI.DH hA hB (b.size-ib) M (by lia) λha i hi=>hg _ (by lia);rw[show ib+(b.size-ib)=b.size by exact GA ‹_›] at q;have z:=MI.DF hA hB (a.size-ia) q (by lia) λhb=>absurd hb (uk _);rw[show ia+(a.size-ia)=a.size by lia] at z;exact z.whole
theorem MI.start(hA:Up r a 0 a.size)(hB:Up r b 0 b.size):MI r a b #[] 0 0:=⟨eW _,eW _,by simp,by simp,λx hx=>by simp at hx,λx hx=>by simp at hx⟩
end
def aX:Nat->StateT dv Sem Unit:=sortPriv% PySem.Builtin.setMinGallop
def sH:Array bP->Array bP->StateT dv Sem (Array bP):=sortPriv% PySem.Builtin.mergeLo
def rZ:Array bP->Array bP->StateT dv Sem (Array bP):=sortPriv% PySem.Builtin.mergeHi
theorem iT(g:Nat):aX g=modify λs=>SortSt.mk' (eL s) (bp s) (kc s) g (oQ s):=rfl
def Mg(st aw:dv):Prop:=∃ g,aw=SortSt.mk' (eL st) (bp st) (kc st) g (oQ st)
theorem Mg.refl(st:dv):Mg st st:=⟨gallopOf st,rfl⟩
theorem Mg.kind{st aw:dv}(h:Mg st aw):eL aw=eL st:=by obtain⟨g,rfl⟩:=h;rfl
theorem Mg.set{st aw:dv}(h:Mg st aw)(g:Nat):Mg st (SortSt.mk' (eL aw) (bp aw) (kc aw) g (oQ aw)):=by obtain⟨g',rfl⟩:=h;exact⟨g,rfl⟩
section
variable {prog:dz}{w:dA}{A:eJ}{E:ah->aE->Prop}{s:aE}{r:ah->Int}
theorem gA{st:dv}{g:Nat}{Q:Unit->dv->Prop}(h:Q () (SortSt.mk' (eL st) (bp st) (kc st) g (oQ st))):wpS (aS prog w) A E s (aX g) Q st:=by rw[iT];exact B9 h
theorem xH(h:fE r false key arr base i=true):R r arr (base+i)<=r key.1:=by unfold fE at h;simp only[hZ,if_false,RZ,decide_eq_false_iff_not] at h;lia
theorem vm(h:fE r false key arr base i=false):r key.1<R r arr (base+i):=by unfold fE at h;simp only[hZ,if_false,Bool.not_eq_false',decide_eq_true_eq] at h;exact h
theorem Ce(h:fE r true key arr base i=true):R r arr (base+i)<r key.1:=by unfold fE at h;simp only[if_true,decide_eq_true_eq] at h;exact h
theorem sI(h:fE r true key arr base i=false):r key.1<=R r arr (base+i):=by unfold fE at h;simp only[if_true,decide_eq_false_iff_not] at h;lia
end
theorem Mg.trans{a b c:dv}(h:Mg a b)(g:Mg b c):Mg a c:=by obtain⟨x,rfl⟩:=h;obtain⟨y,rfl⟩:=g;exact⟨y,rfl⟩
theorem Ad{K G:Prop}(pk:K)(h:K->G):G:=h pk
abbrev SM:=StateT dv Sem
abbrev L1:=Option (Array bP) × Array bP × Nat × Nat × Nat
abbrev IC:=Option (Array bP) × Array bP × Nat × Nat × Nat × Nat
abbrev L3:=Option (Array bP) × Array bP × Nat × Nat × Nat × Nat × Nat
def E4(a b out:Array bP)(ia ib:Nat):Array bP:=out++a.extract ia a.size++b.extract ib b.size
def N6(a b out:Array bP)(ia ib:Nat):Array bP:=out++b.extract ib b.size++a.extract ia a.size
def Tq(a b:Array bP)(mg ac bc ia ib:Nat)(out:Array bP):SM (ForInStep L3):=mI a ia >>= λp =>
 if (ia+1+1 == a.size)=true then pure (.done (some (N6 a b (out.push p) (ia+1) ib),out.push p,ia+1,ib,mg,ac,bc))
 else if (decide (ac<7) && decide (bc<7))=true then pure (.done (none,out.push p,ia+1,ib,mg,ac,bc)) else pure (.yield (none,out.push p,ia+1,ib,mg,ac,bc))
def IE(a b:Array bP)(mg ac bc ia ib:Nat)(out:Array bP):SM (ForInStep L3):=mI a ia >>= λp=>jR true p b ib (b.size-ib) 0 >>= λx=>match x with
 |some k=>if k>0 then
   if (ib+k == b.size)=true then pure (.done (some (E4 a b (out++b.extract ib (ib+k)) ia (ib+k)),out++b.extract ib (ib+k),ia,ib+k,mg,ac,k))
   else Tq a b mg ac k ia (ib+k) (out++b.extract ib (ib+k))
  else Tq a b mg ac k ia ib out
 |_=>pure (.done (some (E4 a b out ia ib),out,ia,ib,mg,ac,bc))
def lo1(a b:Array bP)(mg ac bc ia ib:Nat)(out:Array bP):SM (ForInStep L3):=mI b ib >>= λp =>
 if (ib+1 == b.size)=true then pure (.done (some (E4 a b (out.push p) ia (ib+1)),out.push p,ia,ib+1,mg,ac,bc)) else IE a b mg ac bc ia (ib+1) (out.push p)
def Tr(a b:Array bP)(mg ac bc ia ib:Nat)(out:Array bP):SM (ForInStep L3):=aX mg >>= λ_=>mI b ib >>= λp=>jR false p a ia (a.size-ia) 0 >>= λx=>match x with
 |some k=>if k>0 then
   if (ia+k+1 == a.size)=true then pure (.done (some (N6 a b (out++a.extract ia (ia+k)) (ia+k) ib),out++a.extract ia (ia+k),ia+k,ib,mg,k,bc))
   else if (ia+k == a.size)=true then pure (.done (some (E4 a b (out++a.extract ia (ia+k)) (ia+k) ib),out++a.extract ia (ia+k),ia+k,ib,mg,k,bc))
   else lo1 a b mg k bc (ia+k) ib (out++a.extract ia (ia+k))
  else lo1 a b mg k bc ia ib out
 |_=>pure (.done (some (E4 a b out ia ib),out,ia,ib,mg,ac,bc))
def WM(a b:Array bP)(_:Nat)(s:L3):SM (ForInStep L3) :=
 if s.2.2.2.2.1>1 then Tr a b (s.2.2.2.2.1-1) s.2.2.2.2.2.1 s.2.2.2.2.2.2 s.2.2.1 s.2.2.2.1 s.2.1 else Tr a b s.2.2.2.2.1 s.2.2.2.2.2.1 s.2.2.2.2.2.2 s.2.2.1 s.2.2.2.1 s.2.1
def WN(a b:Array bP)(mg bc ia ib:Nat)(out:Array bP):SM (ForInStep IC):=mI b ib >>= λp =>
 if (ib+1 == b.size)=true then pure (.done (some (E4 a b (out.push p) ia (ib+1)),out.push p,ia,ib+1,0,bc+1))
 else if bc+1 >= mg then pure (.done (none,out.push p,ia,ib+1,0,bc+1)) else pure (.yield (none,out.push p,ia,ib+1,0,bc+1))
def WQ(a b:Array bP)(mg ac ia ib:Nat)(out:Array bP):SM (ForInStep IC):=mI a ia >>= λp =>
 if (ia+1+1 == a.size)=true then pure (.done (some (N6 a b (out.push p) (ia+1) ib),out.push p,ia+1,ib,ac+1,0))
 else if ac+1 >= mg then pure (.done (none,out.push p,ia+1,ib,ac+1,0)) else pure (.yield (none,out.push p,ia+1,ib,ac+1,0))
def WR(a b:Array bP)(mg:Nat)(_:Nat)(s:IC):SM (ForInStep IC):=mI b s.2.2.2.1 >>= λpb=>mI a s.2.2.1 >>= λpa=>lt' pb pa >>= λx=>match x with
 |some w=>if w=true then WN a b mg s.2.2.2.2.2 s.2.2.1 s.2.2.2.1 s.2.1 else WQ a b mg s.2.2.2.2.1 s.2.2.1 s.2.2.2.1 s.2.1
 |_=>pure (.done (some (E4 a b s.2.1 s.2.2.1 s.2.2.2.1),s.2.1,s.2.2.1,s.2.2.2.1,s.2.2.2.2.1,s.2.2.2.2.2))
def WU (a b:Array bP) (mg:Nat) (t:IC):SM (ForInStep L1):=(liftM (rule "list.sort.gallop"):SM Unit) >>= λ_ =>
 forIn [:a.size+b.size] ((none,t.2.1,t.2.2.1,t.2.2.2.1,mg+1,t.2.2.2.2.1,t.2.2.2.2.2):L3) (WM a b) >>= λu=>match u.1 with
 |some r=>pure (.done (some r,u.2.1,u.2.2.1,u.2.2.2.1,u.2.2.2.2.1))
 |none=>aX (u.2.2.2.2.1+1) >>= λ_=>pure (.yield (none,u.2.1,u.2.2.1,u.2.2.2.1,u.2.2.2.2.1+1))
def WV(a b:Array bP)(_:Nat)(s:L1):SM (ForInStep L1):=forIn [:a.size+b.size] ((none,s.2.1,s.2.2.1,s.2.2.2.1,0,0):IC) (WR a b s.2.2.2.2) >>= λt=>match t.1 with
 |some r=>pure (.done (some r,t.2.1,t.2.2.1,t.2.2.2.1,s.2.2.2.2))
 |none=>WU a b s.2.2.2.2 t
def loM (a b:Array bP):SM (Array bP):=(liftM (rule "list.sort.merge-lo"):SM Unit) >>= λ_=>mI b 0 >>= λy =>
 if (1 == b.size)=true then pure (E4 a b #[y] 0 1)
 else if (0+1 == a.size)=true then pure (N6 a b #[y] 0 1)
 else get >>= λst=>forIn [:a.size+b.size] ((none,#[y],0,1,gallopOf st):L1) (WV a b) >>= λt=>match t.1 with
 |some r=>pure r
 |none=>(liftM (unsupported (α:=Array bP) "internal:list.sort.merge-bound"):SM (Array bP))
set_option smartUnfolding false in
theorem ug:sH=loM:=rfl
section
variable {prog:dz}{w:dA}{A:eJ}{E:ah->aE->Prop}{s:aE}{κ:sR}{r:ah->Int}{P:ah->Prop}{a b out:Array bP}{mg ac bc ia ib N:Nat}{st:dv}
structure MC(prog:dz)(w:dA)(A:eJ)(s:aE)(κ:sR)(r:ah->Int)(P:ah->Prop)(a b:Array bP):Prop where
 C:oi prog w A s κ r P
 pa:AllP P a
 pb:AllP P b
 hA:Up r a 0 a.size
 hB:Up r b 0 b.size
 hl:∀ i,i<a.size->R r b 0<=R r a i
 hg:∀ j,j<b.size->R r b j<=R r a (a.size-1)
def HS{β:Type}(r:ah->Int)(a b:Array bP)(c:Option (Array bP) × β):Prop:=∃ out rest,c=(some out,rest)/\bH r a b out
def LY(r:ah->Int)(a b:Array bP)(N:Nat)(c:L3):Prop:=∃ out ia ib mg ac bc,c=(none,out,ia,ib,mg,ac,bc)/\MI r a b out ia ib/\ia+1<a.size/\ib<b.size/\N<=ia+ib
def LI(r:ah->Int)(a b:Array bP)(N:Nat)(c:IC):Prop:=∃ out ia ib ac bc,c=(none,out,ia,ib,ac,bc)/\MI r a b out ia ib/\ia+1<a.size/\ib<b.size/\N<=ia+ib
theorem MC.last(c:MC prog w A s κ r P a b)(M:MI r a b out ia ib)(z:ia+1=a.size):bH r a b (N6 a b out ia ib):=M.GZ c.hA c.hB z λj hj=>by have:=c.hg j hj;rwa[show a.size-1=ia by lia] at this
theorem zu(c:MC prog w A s κ r P a b)(M:MI r a b out ia ib)(h1:ia+1<a.size)(lt:R r a ia<=R r b ib)(h2:ib<b.size)(hN:N<=ia+ib)(D:∀ c,HS r a b c->Q (.done c) st)(Y:∀ c,LY r a b N c->Q (.done c) st/\Q (.yield c) st):wpS (aS prog w) A E s (Tq a b mg ac bc ia ib out) Q st:=by
 refine cx (aF (by lia) λp e=>?_);have M2:=M.oV c.hA c.hB e λ_=>lt;by_cases z:ia+1+1=a.size
 ·rw[if_pos (by simpa using z)];exact df (D _ ⟨_,_,rfl,c.last M2 z⟩)
 ·rw[if_neg (by simpa using z)];have y:=Y _ ⟨_,_,_,mg,ac,bc,rfl,M2,by lia,h2,by lia⟩;split
  ·exact df y.1
  ·exact df y.2
theorem Ex(c:MC prog w A s κ r P a b)(hk:eL st=κ)(M:MI r a b out ia ib)(h1:ia+1<a.size)(h2:ib<b.size)(hN:N<=ia+ib)(D:∀ c,HS r a b c->Q (.done c) st)(Y:∀ c,LY r a b N c->Q (.done c) st/\Q (.yield c) st):wpS (aS prog w) A E s (IE a b mg ac bc ia ib out) Q st:=by
 refine cx (aF (by lia) λp e=>cx (bY c.C hk c.pb (c.pa.at e) (by lia) (by lia) (λi j u v w=>c.hB i j (by lia) v (by lia)) λl Mj A6 Mk=>?_));have ra:=oo (r:=r) e;dsimp only;have lt:ib+l<b.size->R r a ia<=R r b (ib+l):=λz=>by have:=sI (Mk l (de _) (by lia));lia
 by_cases l0:l>0
 ·have M5:=MI.DH c.hA c.hB l M (by lia) λ_ i hi=>by have:=Ce (A6 i hi);lia
  rw[if_pos l0];by_cases z:ib+l=b.size
  ·rw[if_pos (by simpa using z)];exact df (D _ ⟨_,_,rfl,M5.Mh c.hA c.hB z⟩)
  ·rw[if_neg (by simpa using z)];exact zu c M5 h1 (lt (by lia)) (by lia) (by lia) D Y
 ·rw[if_neg l0];obtain rfl:l=0:=by lia
  exact zu c M h1 (lt h2) h2 hN D Y
theorem zy(c:MC prog w A s κ r P a b)(hk:eL st=κ)(M:MI r a b out ia ib)(h1:ia+1<a.size)(lt:R r b ib<=R r a ia)(h2:ib<b.size)(hN:N<=ia+ib)(D:∀ c,HS r a b c->Q (.done c) st)(Y:∀ c,LY r a b N c->Q (.done c) st/\Q (.yield c) st):wpS (aS prog w) A E s (lo1 a b mg ac bc ia ib out) Q st:=by
 refine cx (aF h2 λp e=>?_);have M4:=M.pH c.hA c.hB e λ_=>lt;by_cases z:ib+1=b.size
 ·rw[if_pos (by simpa using z)];exact df (D _ ⟨_,_,rfl,M4.Mh c.hA c.hB z⟩)
 ·rw[if_neg (by simpa using z)];exact Ex c hk M4 h1 (by lia) (by lia) D Y
theorem CV(c:MC prog w A s κ r P a b)(hk:eL st=κ)(M:MI r a b out ia ib)(h1:ia+1<a.size)(h2:ib<b.size)(hN:N<=ia+ib)(D:∀ aw,Mg st aw->∀ c,HS r a b c->Q (.done c) aw)(Y:∀ aw,Mg st aw->∀ c,LY r a b N c->Q (.done c) aw/\Q (.yield c) aw):wpS (aS prog w) A E s (Tr a b mg ac bc ia ib out) Q st:=by
 have g:=(Mg.refl st).set mg;refine cx (gA ?_);refine cx (aF h2 λp e=>cx (bY c.C (g.kind.trans hk) c.pa (c.pb.at e) (by lia) (by lia) (λi j u v w=>c.hA i j (by lia) v (by lia)) λk WW E5 IG=>?_));have rb:=oo (r:=r) e;dsimp only;have lt:ia+k<a.size->R r b ib<=R r a (ia+k):=λz=>by have:=vm (IG k (de _) (by lia));lia
 by_cases k0:k>0
 ·have M3:=MI.DF c.hA c.hB k M (by lia) λ_ i hi=>by have:=xH (E5 i hi);lia
  rw[if_pos k0];by_cases z:ia+k+1=a.size
  ·rw[if_pos (by simpa using z)];exact df (D _ g _ ⟨_,_,rfl,c.last M3 z⟩)
  ·rw[if_neg (by simpa using z)];by_cases z2:ia+k=a.size
   ·rw[if_pos (by simpa using z2)];exact df (D _ g _ ⟨_,_,rfl,M3.Mi c.hA c.hB z2⟩)
   ·rw[if_neg (by simpa using z2)];exact zy c (g.kind.trans hk) M3 (by lia) (lt (by lia)) h2 (by lia) (D _ g) (Y _ g)
 ·rw[if_neg k0];obtain rfl:k=0:=by lia
  exact zy c (g.kind.trans hk) M h1 (lt (by lia)) h2 hN (D _ g) (Y _ g)
theorem DP(c:MC prog w A s κ r P a b)(M:MI r a b out ia ib)(h1:ia+1<a.size)(lt:R r b ib<=R r a ia)(h2:ib<b.size)(hN:N<=ia+ib+1)(D:∀ c,HS r a b c->Q (.done c) st)(Y:∀ c,LI r a b N c->Q (.done c) st/\Q (.yield c) st):wpS (aS prog w) A E s (WN a b mg bc ia ib out) Q st:=by
 refine cx (aF h2 λp e=>?_);have M2:=M.pH c.hA c.hB e λ_=>lt;by_cases z:ib+1=b.size
 ·rw[if_pos (by simpa using z)];exact df (D _ ⟨_,_,rfl,M2.Mh c.hA c.hB z⟩)
 ·rw[if_neg (by simpa using z)];have y:=Y _ ⟨_,_,_,0,bc+1,rfl,M2,h1,by lia,hN⟩;split
  ·exact df y.1
  ·exact df y.2
theorem DG(c:MC prog w A s κ r P a b)(M:MI r a b out ia ib)(h1:ia+1<a.size)(lt:R r a ia<=R r b ib)(h2:ib<b.size)(hN:N<=ia+ib+1)(D:∀ c,HS r a b c->Q (.done c) st)(Y:∀ c,LI r a b N c->Q (.done c) st/\Q (.yield c) st):wpS (aS prog w) A E s (WQ a b mg ac ia ib out) Q st:=by
 refine cx (aF (by lia) λp e=>?_);have M2:=M.oV c.hA c.hB e λ_=>lt;by_cases z:ia+1+1=a.size
 ·rw[if_pos (by simpa using z)];exact df (D _ ⟨_,_,rfl,c.last M2 z⟩)
 ·rw[if_neg (by simpa using z)];have y:=Y _ ⟨_,_,_,ac+1,0,rfl,M2,by lia,h2,by lia⟩;split
  ·exact df y.1
  ·exact df y.2
theorem Dn(c:MC prog w A s κ r P a b)(hk:eL st=κ)(M:MI r a b out ia ib)(h1:ia+1<a.size)(h2:ib<b.size)(hN:N<=ia+ib+1)(D:∀ c,HS r a b c->Q (.done c) st)(Y:∀ c,LI r a b N c->Q (.done c) st/\Q (.yield c) st):wpS (aS prog w) A E s (WR a b mg x (none,out,ia,ib,ac,bc)) Q st:=by
 refine cx (aF h2 λpb eb=>cx (aF (show ia<a.size by lia) λpa ea=>cx (oA c.C hk (c.pb.at eb) (c.pa.at ea) ?_)));have rb:R r b ib=r pb.1:=oo eb;have ra:R r a ia=r pa.1:=oo ea;dsimp only;by_cases hw:r pb.1<r pa.1
 ·rw[if_pos (decide_eq_true hw)];exact DP c M h1 (by lia) h2 hN D Y
 ·rw[if_neg (by simpa using hw)];exact DG c M h1 (by lia) h2 hN D Y
theorem Ft(c:MC prog w A s κ r P a b)(hk:eL st=κ)(M:MI r a b out ia ib)(h1:ia+1<a.size)(h2:ib<b.size)(hN:N<=ia+ib)(D:∀ aw,Mg st aw->∀ c,HS r a b c->Q (.done c) aw)(Y:∀ aw,Mg st aw->∀ out ia ib mg,MI r a b out ia ib->ia+1<a.size->ib<b.size->N<=ia+ib->Q (.yield (none,out,ia,ib,mg)) aw):wpS (aS prog w) A E s (WU a b mg (none,out,ia,ib,ac,bc)) Q st:=by
 refine cx (wpS_lift (D6 ⟨rfl,?_⟩));refine cx (sT (qc (I:=λ_ c aw=>Mg st aw/\LY r a b N c) (Q:=λc aw=>Mg st aw/\(HS r a b c\/LY r a b N c)) ?step ?fin ⟨.refl st,_,_,_,_,_,_,rfl,M,h1,h2,hN⟩) ?post);case fin =>
  rintro c aw ⟨hm,q⟩;exact⟨hm,.inr q⟩
 case step =>
  rintro y c1 wo _ _ ⟨hm,out,ia,ib,mg,ac,bc,rfl,M,h1,h2,hN⟩;unfold WM;dsimp only;split<;>exact CV c (hm.kind.trans hk) M h1 h2 hN (λaw g c q=>⟨hm.trans g,.inl q⟩) λaw g c q=>⟨⟨hm.trans g,.inr q⟩,hm.trans g,q⟩
 case post =>
  rintro c aw ⟨hm,⟨o,rest,rfl,hM⟩|⟨out,ia,ib,mg,ac,bc,rfl,M,h1,h2,hN⟩⟩
  ·exact df (D _ hm _ ⟨_,_,rfl,hM⟩)
  ·exact cx (gA (df (Y _ (hm.set _) _ _ _ _ M h1 h2 hN)))
theorem EY(c:MC prog w A s κ r P a b)(hk:eL st=κ)(M:MI r a b out ia ib)(h1:ia+1<a.size)(h2:ib<b.size)(hN:N<=ia+ib)(D:∀ aw,Mg st aw->∀ c,HS r a b c->Q (.done c) aw)(Y:∀ aw,Mg st aw->∀ out ia ib mg,MI r a b out ia ib->ia+1<a.size->ib<b.size->N+1<=ia+ib->Q (.yield (none,out,ia,ib,mg)) aw):wpS (aS prog w) A E s (WV a b x (none,out,ia,ib,mg)) Q st:=by
 refine cx (sT (qc (I:=λy c aw=>aw=st/\LI r a b (N+y) c) (Q:=λc aw=>aw=st/\(HS r a b c\/LI r a b (N+1) c)) ?step ?fin ⟨rfl,_,_,_,_,_,rfl,M,h1,h2,hN⟩) ?post);case fin =>
  rintro c aw ⟨rfl,o,ia',ib',ac,bc,rfl,M',q1,q2,q3⟩;exact⟨rfl,.inr ⟨_,_,_,_,_,rfl,M',q1,q2,by lia⟩⟩
 case step =>
  rintro y c1 wo _ hy ⟨rfl,o,ia',ib',ac,bc,rfl,M',q1,q2,q3⟩;exact Dn (N:=N+y+1) c hk M' q1 q2 (by lia) (λc q=>⟨rfl,.inl q⟩) λc q=>by obtain⟨o,ia,ib,ac,bc,rfl,M,h1,h2,h3⟩:=q;exact⟨⟨rfl,.inr ⟨_,_,_,_,_,rfl,M,h1,h2,by lia⟩⟩,rfl,_,_,_,_,_,rfl,M,h1,h2,by lia⟩
 case post =>
  rintro c1 aw ⟨rfl,⟨o,rest,rfl,hM⟩|⟨o,ia,ib,ac,bc,rfl,M',q1,q2,q3⟩⟩
  ·exact df (D _ (.refl _) _ ⟨_,_,rfl,hM⟩)
  ·exact Ft c hk M' q1 q2 q3 D Y
theorem p6{st:dv}{a b:Array bP}{Q:Array bP->dv->Prop}(C:oi prog w A s κ r P)(hk:eL st=κ)(Ts:AllP P a)(Tt:AllP P b)(hA:Up r a 0 a.size)(hB:Up r b 0 b.size)(na:1<=a.size)(nb:1<=b.size)(h0:R r b 0<=R r a 0) (hg:∀ j,j<b.size->R r b j<=R r a (a.size-1)) (h:∀ out aw,bH r a b out->Mg st aw->Q out aw):wpS (aS prog w) A E s (sH a b) Q st:=by
 have c:MC prog w A s κ r P a b:=⟨C,Ts,Tt,hA,hB,λi hi=>xA h0 (hA 0 i (de _) (eW _) hi),hg⟩
 rw[ug];refine cx (wpS_lift (D6 ⟨rfl,?_⟩));refine cx (aF nb λy0 e0=>?_);have M1:MI r a b #[y0] 0 1:=(MI.start hA hB).pH hA hB e0 λ_=>h0;by_cases c1:1=b.size
 ·rw[if_pos (by simpa using c1)];exact df (h _ _ (M1.Mh hA hB c1) (.refl st))
 ·rw[if_neg (by simpa using c1)];by_cases c2:0+1=a.size
  ·rw[if_pos (by simpa using c2)];exact df (h _ _ (c.last M1 c2) (.refl st))
  ·rw[if_neg (by simpa using c2)];refine cx (wpS_get ?_);refine cx (sT (qc (I:=λx c aw=>Mg st aw/\∃ out ia ib mg,c=(none,out,ia,ib,mg)/\MI r a b out ia ib/\ia+1<a.size/\ib<b.size/\x+1<=ia+ib) (Q:=λc aw=>Mg st aw/\HS r a b c) ?step ?fin ⟨.refl st,_,_,_,_,rfl,M1,by lia,by lia,by exact vS _⟩) ?post)
   case fin =>
    rintro c aw ⟨_,out,ia,ib,mg,rfl,M,h1,h2,h3⟩;lia
   case post =>
    rintro c aw ⟨hm,out,rest,rfl,hM⟩;exact df (h out aw hM hm)
   case step =>
    rintro x c1 wo _ hx ⟨vi,out,ia,ib,mg,rfl,M,h1,h2,h3⟩;exact EY (N:=x+1) c (vi.kind.trans hk) M h1 h2 h3 (λaw g c q=>⟨vi.trans g,q⟩) λaw g out ia ib mg M h1 h2 h3=>⟨vi.trans g,_,_,_,_,rfl,M,h1,h2,h3⟩
end
abbrev Ge(r:ah->Int)(x y:bP):Prop:=r y.1<=r x.1
structure MH(r:ah->Int)(a b out:Array bP)(na nb:Nat):Prop where
 ha:na<=a.size
 hb:nb<=b.size
 perm:out.toList.Perm (a.toList.drop na++b.toList.drop nb)
 down:out.toList.Pairwise (Ge r)
 ga:∀ x∈out.toList,∀ i,i<na->R r a i<=r x.1
 gb:∀ x∈out.toList,∀ j,j<nb->R r b j<=r x.1
section
variable {r:ah->Int}{a b out:Array bP}{na nb:Nat}
theorem o_{α:Type}{l:List α}{i:Nat}{x:α}(h0:0<i)(h:l[i-1]? = some x):l.drop (i-1)=x :: l.drop i:=by obtain⟨hi,e⟩:=nv.mp h;rw[K0 hi,e,show i-1+1=i by exact Nat.sub_add_cancel ‹_›]
theorem MH.oV(M:MH r a b out na nb)(hA:Up r a 0 a.size)(hB:Up r b 0 b.size)(h0:0<na)(e:a[na-1]? = some y)(hl:0<nb->R r b (nb-1)<=R r a (na-1)):MH r a b (out.push y) (na-1) nb:=by
 have ey:=oo (r:=r) e;have ha:=M.ha;have hb:=M.hb;refine⟨by lia,M.hb,?_,?_,?_,?_⟩
 ·rw[pd,o_ (x:=y) h0 (by simpa using e)];refine(M.perm.append_right [y]).trans ?_;exact RG
 ·rw[pd,O9];refine⟨M.down,by simp,λx hx z hz=>?_⟩;have:z=y:=by simpa using hz
  subst this;show r z.1<=r x.1;rw[<- ey];exact M.ga x hx (na-1) (by lia)
 ·intro x hx i hi;rw[pd] at hx;rcases fh.mp hx with hx|hx
  ·exact M.ga x hx i (by lia)
  ·have:x=y:=by simpa using hx
   subst this;rw[<- ey];exact hA i (na-1) (eW _) (by lia) (by lia)
 ·intro x hx j hj;rw[pd] at hx;rcases fh.mp hx with hx|hx
  ·exact M.gb x hx j hj
  ·have:x=y:=by simpa using hx
   subst this;rw[<- ey];exact xA (hB j (nb-1) (eW _) (by lia) (by lia)) (hl (by lia))
theorem MH.pH(M:MH r a b out na nb)(hA:Up r a 0 a.size)(hB:Up r b 0 b.size)(h0:0<nb)(e:b[nb-1]? = some y)(hl:0<na->R r a (na-1)<=R r b (nb-1)):MH r a b (out.push y) na (nb-1):=by
 have ey:=oo (r:=r) e;have ha:=M.ha;have hb:=M.hb;refine⟨M.ha,by lia,?_,?_,?_,?_⟩
 ·rw[pd,o_ (x:=y) h0 (by simpa using e)];refine(M.perm.append_right [y]).trans ?_;rw[AB];exact List.Perm.append_left _ RG
 ·rw[pd,O9];refine⟨M.down,by simp,λx hx z hz=>?_⟩;have:z=y:=by simpa using hz
  subst this;show r z.1<=r x.1;rw[<- ey];exact M.gb x hx (nb-1) (by lia)
 ·intro x hx i hi;rw[pd] at hx;rcases fh.mp hx with hx|hx
  ·exact M.ga x hx i hi
  ·have:x=y:=by simpa using hx
   subst this;rw[<- ey];exact xA (hA i (na-1) (eW _) (by lia) (by lia)) (hl (by lia))
 ·intro x hx j hj;rw[pd] at hx;rcases fh.mp hx with hx|hx
  ·exact M.gb x hx j (by lia)
  ·have:x=y:=by simpa using hx
   subst this;rw[<- ey];exact hB j (nb-1) (eW _) (by lia) (by lia)
theorem jA{xs:Array bP}{i n:Nat}(h:i<n)(hn:n<=xs.size):(xs.extract i n).reverse = #[xs[n-1]'(by lia)]++(xs.extract i (n-1)).reverse:=by
 obtain⟨k,rfl⟩:∃ k,n=i+(k+1):=⟨n-1-i,by lia⟩
 have e3:i+(k+1)-1=i+k:=by rfl
 simp only[e3];rw[dN (by assumption),Array.reverse_push]
theorem MH.DF(hA:Up r a 0 a.size)(hB:Up r b 0 b.size):∀ (k:Nat) {out:Array bP} {na p:Nat},MH r a b out na nb->p+k=na->(0<nb->∀ i,p<=i->i<na->R r b (nb-1)<=R r a i)->MH r a b (out++(a.extract p na).reverse) p nb
 |0,out,na,p,M,h1,h2=>by
  have:a.extract p na = #[]:=Ni (by simp only[GL];lia);have e:na=p:=by walk_at "s1"
  subst e;rw[this];simpa using M
 |k+1,out,na,p,M,h1,h2=>by have ha:=M.ha;have e:a[na-1]? = some (a[na-1]'(by lia)):=getElem?_pos a (na-1) (by lia);have q:=M.oV hA hB (by lia) e λhb=>h2 hb _ (by lia) (by lia);have z:=MH.DF hA hB k (p:=p) q (by lia) λhb i sC pj=>h2 hb i sC (by walk_at "s4");rw[jA (by lia) ha,<- LS];simpa using z
theorem MH.DH(hA:Up r a 0 a.size)(hB:Up r b 0 b.size):∀ (k:Nat) {out:Array bP} {nb p:Nat},MH r a b out na nb->p+k=nb->(0<na->∀ i,p<=i->i<nb->R r a (na-1)<=R r b i)->MH r a b (out++(b.extract p nb).reverse) na p
 |0,out,nb,p,M,h1,h2=>by
  have:b.extract p nb = #[]:=Ni (by simp only[GL];lia);have e:nb=p:=by walk_at "s1"
  subst e;rw[this];simpa using M
 |k+1,out,nb,p,M,h1,h2=>by have hb:=M.hb;have e:b[nb-1]? = some (b[nb-1]'(by lia)):=getElem?_pos b (nb-1) (by lia);have q:=M.pH hA hB (by lia) e λha=>h2 ha _ (by lia) (by lia);have z:=MH.DH hA hB k (p:=p) q (by lia) λha i sC pj=>h2 ha i sC (by walk_at "s4");rw[jA (by lia) hb,<- LS];simpa using z
theorem MH.whole(M:MH r a b out 0 0):bH r a b out.reverse:=by
 refine⟨?_,?_⟩
 ·have h:=M.perm;rw[Pj,Pj] at h;rw[Array.toList_reverse];exact(List.reverse_perm _).trans h
 ·rw[Array.toList_reverse,List.pairwise_reverse];exact M.down
theorem lL(x y:Array bP):(x++y.reverse).reverse=y++x.reverse:=by apply Nj.mp;simp
theorem MH.Mi(M:MH r a b out na nb)(hA:Up r a 0 a.size)(hB:Up r b 0 b.size)(e:na=0):bH r a b (a.extract 0 na++b.extract 0 nb++out.reverse):=by
 subst e;have z:=MH.DH hA hB nb (p:=0) M (by exact LJ ..) λha=>absurd ha (uk _);have q:=z.whole;rw[lL] at q;have e2:a.extract 0 0 = #[]:=by simp
 rw[e2,Array.empty_append];exact q
theorem MH.Mh(M:MH r a b out na nb)(hA:Up r a 0 a.size)(hB:Up r b 0 b.size)(e:nb=0):bH r a b (a.extract 0 na++b.extract 0 nb++out.reverse):=by
 subst e;have z:=MH.DF hA hB na (p:=0) M (by exact LJ ..) λhb=>absurd hb (uk _);have q:=z.whole;rw[lL] at q;have e2:b.extract 0 0 = #[]:=by simp
 rw[e2,R6];exact q
theorem MH.qX(M:MH r a b out na nb)(hA:Up r a 0 a.size)(hB:Up r b 0 b.size)(e:nb=1)(hl:∀ i,i<a.size->R r b 0<=R r a i):bH r a b (b.extract 0 nb++a.extract 0 na++out.reverse):=by subst e;have ha:=M.ha;have z:=MH.DF hA hB na (p:=0) M (by exact LJ ..) λ_ i _ hi=>hl i (by walk_at "s1");have z2:=MH.DH hA hB 1 (p:=0) z (by exact LJ ..) λh=>absurd h (uk _);have q:=z2.whole;rw[lL,lL] at q;rw[LS];exact q
theorem MH.start:MH r a b #[] a.size b.size:=⟨de _,de _,by simp,by simp,λx hx=>by simp at hx,λx hx=>by simp at hx⟩
end
abbrev S1:=Option (Array bP) × Nat × Nat × Array bP × Nat
abbrev S2:=Option (Array bP) × Nat × Nat × Array bP × Nat × Nat
abbrev S3:=Option (Array bP) × Nat × Nat × Array bP × Nat × Nat × Nat
def E6(a b out:Array bP)(na nb:Nat):Array bP:=a.extract 0 na++b.extract 0 nb++out.reverse
def Qr(a b out:Array bP)(na nb:Nat):Array bP:=b.extract 0 nb++a.extract 0 na++out.reverse
def Tv(a b:Array bP)(mg ac bc na nb:Nat)(out:Array bP):SM (ForInStep S3):=mI a (na-1) >>= λp =>
 if (na-1 == 0)=true then pure (.done (some (E6 a b (out.push p) (na-1) nb),na-1,nb,out.push p,mg,ac,bc))
 else if (decide (ac<7) && decide (bc<7))=true then pure (.done (none,na-1,nb,out.push p,mg,ac,bc)) else pure (.yield (none,na-1,nb,out.push p,mg,ac,bc))
def pj(a b:Array bP)(mg ac bc na nb:Nat)(out:Array bP):SM (ForInStep S3):=mI a (na-1) >>= λp=>jR true p b 0 nb (nb-1) >>= λx=>match x with
 |some k=>if nb-k>0 then
   if (k == 1)=true then pure (.done (some (Qr a b (out++(b.extract k nb).reverse) na k),na,k,out++(b.extract k nb).reverse,mg,ac,nb-k))
   else if (k == 0)=true then pure (.done (some (E6 a b (out++(b.extract k nb).reverse) na k),na,k,out++(b.extract k nb).reverse,mg,ac,nb-k))
   else Tv a b mg ac (nb-k) na k (out++(b.extract k nb).reverse)
  else Tv a b mg ac (nb-k) na nb out
 |_=>pure (.done (some (E6 a b out na nb),na,nb,out,mg,ac,bc))
def sC(a b:Array bP)(mg ac bc na nb:Nat)(out:Array bP):SM (ForInStep S3):=mI b (nb-1) >>= λp =>
 if (nb-1 == 1)=true then pure (.done (some (Qr a b (out.push p) na (nb-1)),na,nb-1,out.push p,mg,ac,bc)) else pj a b mg ac bc na (nb-1) (out.push p)
def DB(a b:Array bP)(mg ac bc na nb:Nat)(out:Array bP):SM (ForInStep S3):=aX mg >>= λ_=>mI b (nb-1) >>= λp=>jR false p a 0 na (na-1) >>= λx=>match x with
 |some k=>if na-k>0 then
   if (k == 0)=true then pure (.done (some (E6 a b (out++(a.extract k na).reverse) k nb),k,nb,out++(a.extract k na).reverse,mg,na-k,bc))
   else sC a b mg (na-k) bc k nb (out++(a.extract k na).reverse)
  else sC a b mg (na-k) bc na nb out
 |_=>pure (.done (some (E6 a b out na nb),na,nb,out,mg,ac,bc))
def WY(a b:Array bP)(_:Nat)(s:S3):SM (ForInStep S3) :=
 if s.2.2.2.2.1>1 then DB a b (s.2.2.2.2.1-1) s.2.2.2.2.2.1 s.2.2.2.2.2.2 s.2.1 s.2.2.1 s.2.2.2.1 else DB a b s.2.2.2.2.1 s.2.2.2.2.2.1 s.2.2.2.2.2.2 s.2.1 s.2.2.1 s.2.2.2.1
def WZ(a b:Array bP)(mg ac na nb:Nat)(out:Array bP):SM (ForInStep S2):=mI a (na-1) >>= λp =>
 if (na-1 == 0)=true then pure (.done (some (E6 a b (out.push p) (na-1) nb),na-1,nb,out.push p,ac+1,0))
 else if ac+1 >= mg then pure (.done (none,na-1,nb,out.push p,ac+1,0)) else pure (.yield (none,na-1,nb,out.push p,ac+1,0))
def W0(a b:Array bP)(mg bc na nb:Nat)(out:Array bP):SM (ForInStep S2):=mI b (nb-1) >>= λp =>
 if (nb-1 == 1)=true then pure (.done (some (Qr a b (out.push p) na (nb-1)),na,nb-1,out.push p,0,bc+1))
 else if bc+1 >= mg then pure (.done (none,na,nb-1,out.push p,0,bc+1)) else pure (.yield (none,na,nb-1,out.push p,0,bc+1))
def W3(a b:Array bP)(mg:Nat)(_:Nat)(s:S2):SM (ForInStep S2):=mI b (s.2.2.1-1) >>= λpb=>mI a (s.2.1-1) >>= λpa=>lt' pb pa >>= λx=>match x with
 |some w=>if w=true then WZ a b mg s.2.2.2.2.1 s.2.1 s.2.2.1 s.2.2.2.1 else W0 a b mg s.2.2.2.2.2 s.2.1 s.2.2.1 s.2.2.2.1
 |_=>pure (.done (some (E6 a b s.2.2.2.1 s.2.1 s.2.2.1),s.2.1,s.2.2.1,s.2.2.2.1,s.2.2.2.2.1,s.2.2.2.2.2))
def W4 (a b:Array bP) (mg:Nat) (t:S2):SM (ForInStep S1):=(liftM (rule "list.sort.gallop"):SM Unit) >>= λ_ =>
 forIn [:a.size+b.size] ((none,t.2.1,t.2.2.1,t.2.2.2.1,mg+1,t.2.2.2.2.1,t.2.2.2.2.2):S3) (WY a b) >>= λu=>match u.1 with
 |some r=>pure (.done (some r,u.2.1,u.2.2.1,u.2.2.2.1,u.2.2.2.2.1))
 |none=>aX (u.2.2.2.2.1+1) >>= λ_=>pure (.yield (none,u.2.1,u.2.2.1,u.2.2.2.1,u.2.2.2.2.1+1))
def W5(a b:Array bP)(_:Nat)(s:S1):SM (ForInStep S1):=forIn [:a.size+b.size] ((none,s.2.1,s.2.2.1,s.2.2.2.1,0,0):S2) (W3 a b s.2.2.2.2) >>= λt=>match t.1 with
 |some r=>pure (.done (some r,t.2.1,t.2.2.1,t.2.2.2.1,s.2.2.2.2))
 |none=>W4 a b s.2.2.2.2 t
def hiM (a b:Array bP):SM (Array bP):=(liftM (rule "list.sort.merge-hi"):SM Unit) >>= λ_=>mI a (a.size-1) >>= λy =>
 if (a.size-1 == 0)=true then pure (E6 a b #[y] (a.size-1) b.size)
 else if (b.size == 1)=true then pure (Qr a b #[y] (a.size-1) b.size)
 else get >>= λst=>forIn [:a.size+b.size] ((none,a.size-1,b.size,#[y],gallopOf st):S1) (W5 a b) >>= λt=>match t.1 with
 |some r=>pure r
 |none=>(liftM (unsupported (α:=Array bP) "internal:list.sort.merge-bound"):SM (Array bP))
set_option smartUnfolding false in
theorem tZ:rZ=hiM:=rfl
section
variable {prog:dz}{w:dA}{A:eJ}{E:ah->aE->Prop}{s:aE}{κ:sR}{r:ah->Int}{P:ah->Prop}{a b out:Array bP}{mg ac bc na nb N:Nat}{st:dv}{Q:ForInStep S3->dv->Prop}
def HD(r:ah->Int)(a b:Array bP)(Q:ForInStep S3->dv->Prop)(st:dv):Prop:=∀ o rest,bH r a b o->Q (.done (some o,rest)) st
def HY(r:ah->Int)(a b:Array bP)(N:Nat)(Q:ForInStep S3->dv->Prop)(st:dv):Prop :=
 ∀ o na nb mg ac bc,MH r a b o na nb->1<=na->2<=nb->na+nb<=N->Q (.done (none,na,nb,o,mg,ac,bc)) st/\Q (.yield (none,na,nb,o,mg,ac,bc)) st
theorem zz(c:MC prog w A s κ r P a b)(M:MH r a b out na nb)(h1:0<na)(lt:R r b (nb-1)<=R r a (na-1))(h2:2<=nb)(hN:na+nb<=N)(D:HD r a b Q st)(Y:HY r a b N Q st):wpS (aS prog w) A E s (Tv a b mg ac bc na nb out) Q st:=by
 have ha:=M.ha;refine cx (aF (by lia) λp e=>?_);have M2:=M.oV c.hA c.hB h1 e λ_=>lt;by_cases z:na-1=0
 ·rw[if_pos (by simpa using z)];exact df (D _ _ (M2.Mi c.hA c.hB z))
 ·rw[if_neg (by simpa using z)];have y:=Y _ _ _ mg ac bc M2 (by lia) h2 (by lia);split
  ·exact df y.1
  ·exact df y.2
theorem CT(c:MC prog w A s κ r P a b)(hk:eL st=κ)(M:MH r a b out na nb)(h1:0<na)(h2:2<=nb)(hN:na+nb<=N)(D:HD r a b Q st)(Y:HY r a b N Q st):wpS (aS prog w) A E s (pj a b mg ac bc na nb out) Q st:=by
 have ha:=M.ha;have hb:=M.hb;refine cx (aF (by lia) λp e=>cx (bY c.C hk c.pb (c.pa.at e) (by lia) (by lia) (λi j u v w=>c.hB i j u v (by lia)) λl Mj A6 Mk=>?_));have ra:=oo (r:=r) e;dsimp only;have lt:0<l->R r b (l-1)<=R r a (na-1):=λz=>by have:=Ce (A6 (l-1) (by exact LN ‹_› LM));rw[Pt] at this;lia
 by_cases l0:nb-l>0
 ·have M5:=MH.DH c.hA c.hB (nb-l) (p:=l) M (by exact GA ‹_›) λ_ i sC pj=>by have:=sI (Mk i sC pj);rw[Pt] at this;lia
  rw[if_pos l0];by_cases z4:l=1
  ·rw[if_pos (by simpa using z4)];exact df (D _ _ (M5.qX c.hA c.hB z4 c.hl))
  ·rw[if_neg (by simpa using z4)];by_cases z6:l=0
   ·rw[if_pos (by simpa using z6)];exact df (D _ _ (M5.Mh c.hA c.hB z6))
   ·rw[if_neg (by simpa using z6)];exact zz c M5 h1 (lt (by lia)) (by lia) (by lia) D Y
 ·rw[if_neg l0];obtain rfl:l=nb:=by lia
  exact zz c M h1 (lt (by exact RV ‹_›)) h2 hN D Y
theorem zb(c:MC prog w A s κ r P a b)(hk:eL st=κ)(M:MH r a b out na nb)(h1:0<na)(h2:2<=nb)(lt:R r a (na-1)<=R r b (nb-1))(hN:na+nb<=N)(D:HD r a b Q st)(Y:HY r a b N Q st):wpS (aS prog w) A E s (sC a b mg ac bc na nb out) Q st:=by
 have hb:=M.hb;refine cx (aF (by lia) λp e=>?_);have M4:=M.pH c.hA c.hB (by exact RV ‹_›) e λ_=>lt;by_cases z:nb-1=1
 ·rw[if_pos (by simpa using z)];exact df (D _ _ (M4.qX c.hA c.hB z c.hl))
 ·rw[if_neg (by simpa using z)];exact CT c hk M4 h1 (by lia) (by lia) D Y
theorem Ew(c:MC prog w A s κ r P a b)(hk:eL st=κ)(M:MH r a b out na nb)(h1:0<na)(h2:2<=nb)(hN:na+nb<=N)(D:∀ aw,Mg st aw->HD r a b Q aw)(Y:∀ aw,Mg st aw->HY r a b N Q aw):wpS (aS prog w) A E s (DB a b mg ac bc na nb out) Q st:=by
 have ha:=M.ha;have hb:=M.hb;have g:=(Mg.refl st).set mg;refine cx (gA ?_);refine cx (aF (by lia) λp e=>cx (bY c.C (g.kind.trans hk) c.pa (c.pb.at e) (by lia) (by exact LN ‹_› LM) (λi j u v w=>c.hA i j u v (by lia)) λk WW E5 IG=>?_));have rb:=oo (r:=r) e;dsimp only;have lt:0<k->R r a (k-1)<=R r b (nb-1):=λz=>by have:=xH (E5 (k-1) (by exact LN ‹_› LM));rw[Pt] at this;lia
 by_cases k0:na-k>0
 ·have M3:=MH.DF c.hA c.hB (na-k) (p:=k) M (by exact GA ‹_›) λ_ i sC pj=>by have:=vm (IG i sC pj);rw[Pt] at this;lia
  rw[if_pos k0];by_cases z:k=0
  ·rw[if_pos (by simpa using z)];exact df (D _ g _ _ (M3.Mi c.hA c.hB z))
  ·rw[if_neg (by simpa using z)];exact zb c (g.kind.trans hk) M3 (by lia) h2 (lt (by lia)) (by lia) (D _ g) (Y _ g)
 ·rw[if_neg k0];obtain rfl:k=na:=by lia
  exact zb c (g.kind.trans hk) M h1 h2 (lt h1) hN (D _ g) (Y _ g)
def HI(r:ah->Int)(a b:Array bP)(N:Nat)(c:S2):Prop:=∃ na nb out ac bc,c=(none,na,nb,out,ac,bc)/\MH r a b out na nb/\1<=na/\2<=nb/\na+nb<=N
theorem Fx{Q:ForInStep S2->dv->Prop}(c:MC prog w A s κ r P a b)(M:MH r a b out na nb)(h1:0<na)(lt:R r b (nb-1)<=R r a (na-1))(h2:2<=nb)(hN:na+nb<=N+1)(D:∀ c,HS r a b c->Q (.done c) st)(Y:∀ c,HI r a b N c->Q (.done c) st/\Q (.yield c) st):wpS (aS prog w) A E s (WZ a b mg ac na nb out) Q st:=by
 have ha:=M.ha;refine cx (aF (by lia) λp e=>?_);have M2:=M.oV c.hA c.hB h1 e λ_=>lt;by_cases z:na-1=0
 ·rw[if_pos (by simpa using z)];exact df (D _ ⟨_,_,rfl,M2.Mi c.hA c.hB z⟩)
 ·rw[if_neg (by simpa using z)];have y:=Y _ ⟨_,_,_,ac+1,0,rfl,M2,by lia,h2,by lia⟩;split
  ·exact df y.1
  ·exact df y.2
theorem Dw{Q:ForInStep S2->dv->Prop}(c:MC prog w A s κ r P a b)(M:MH r a b out na nb)(h1:0<na)(lt:R r a (na-1)<=R r b (nb-1))(h2:2<=nb)(hN:na+nb<=N+1)(D:∀ c,HS r a b c->Q (.done c) st)(Y:∀ c,HI r a b N c->Q (.done c) st/\Q (.yield c) st):wpS (aS prog w) A E s (W0 a b mg bc na nb out) Q st:=by
 have hb:=M.hb;refine cx (aF (by lia) λp e=>?_);have M2:=M.pH c.hA c.hB (by exact RV ‹_›) e λ_=>lt;by_cases z:nb-1=1
 ·rw[if_pos (by simpa using z)];exact df (D _ ⟨_,_,rfl,M2.qX c.hA c.hB z c.hl⟩)
 ·rw[if_neg (by simpa using z)];have y:=Y _ ⟨_,_,_,0,bc+1,rfl,M2,h1,by lia,by lia⟩;split
  ·exact df y.1
  ·exact df y.2
theorem Dt{Q:ForInStep S2->dv->Prop}{x:Nat}(c:MC prog w A s κ r P a b)(hk:eL st=κ)(M:MH r a b out na nb)(h1:0<na)(h2:2<=nb)(hN:na+nb<=N+1)(D:∀ c,HS r a b c->Q (.done c) st)(Y:∀ c,HI r a b N c->Q (.done c) st/\Q (.yield c) st):wpS (aS prog w) A E s (W3 a b mg x (none,na,nb,out,ac,bc)) Q st:=by
 have ha:=M.ha;have hb:=M.hb;refine cx (aF (show nb-1<b.size by lia) λpb eb=>cx (aF (show na-1<a.size by lia) λpa ea=>cx (oA c.C hk (c.pb.at eb) (c.pa.at ea) ?_)));have rb:R r b (nb-1)=r pb.1:=oo eb;have ra:R r a (na-1)=r pa.1:=oo ea;dsimp only;by_cases hw:r pb.1<r pa.1
 ·rw[if_pos (decide_eq_true hw)];exact Fx c M h1 (by lia) h2 hN D Y
 ·rw[if_neg (by simpa using hw)];exact Dw c M h1 (by lia) h2 hN D Y
theorem Dd{Q:ForInStep S1->dv->Prop}(c:MC prog w A s κ r P a b)(hk:eL st=κ)(M:MH r a b out na nb)(h1:0<na)(h2:2<=nb)(hN:na+nb<=N)(D:∀ aw,Mg st aw->∀ c,HS r a b c->Q (.done c) aw)(Y:∀ aw,Mg st aw->∀ out na nb mg,MH r a b out na nb->1<=na->2<=nb->na+nb<=N->Q (.yield (none,na,nb,out,mg)) aw):wpS (aS prog w) A E s (W4 a b mg (none,na,nb,out,ac,bc)) Q st:=by
 refine cx (wpS_lift (D6 ⟨rfl,?_⟩));refine cx (sT (qc (I:=λ_ c aw=>Mg st aw/\∃ na nb out mg ac bc,c=(none,na,nb,out,mg,ac,bc)/\MH r a b out na nb/\1<=na/\2<=nb/\na+nb<=N) (Q:=λc aw=>Mg st aw/\(HS r a b c\/∃ na nb out mg ac bc,c=(none,na,nb,out,mg,ac,bc)/\MH r a b out na nb/\1<=na/\2<=nb/\na+nb<=N)) ?step ?fin ⟨.refl st,_,_,_,_,_,_,rfl,M,h1,h2,hN⟩) ?post)
 case fin =>
  rintro c aw ⟨hm,q⟩;exact⟨hm,.inr q⟩
 case step =>
  rintro y c1 wo _ _ ⟨hm,na,nb,out,mg,ac,bc,rfl,M,h1,h2,hN⟩;unfold WY;dsimp only;split<;>exact Ew c (hm.kind.trans hk) M h1 h2 hN (λaw g o rest hM=>⟨hm.trans g,.inl ⟨o,rest,rfl,hM⟩⟩) λaw g o na nb mg ac bc M h1 h2 hN=>⟨⟨hm.trans g,.inr ⟨_,_,_,_,_,_,rfl,M,h1,h2,hN⟩⟩,hm.trans g,_,_,_,_,_,_,rfl,M,h1,h2,hN⟩
 case post =>
  rintro c aw ⟨hm,⟨o,rest,rfl,hM⟩|⟨na,nb,out,mg,ac,bc,rfl,M,h1,h2,hN⟩⟩
  ·exact df (D _ hm _ ⟨_,_,rfl,hM⟩)
  ·exact cx (gA (df (Y _ (hm.set _) _ _ _ _ M h1 h2 hN)))
theorem Dl{Q:ForInStep S1->dv->Prop}{x:Nat}(c:MC prog w A s κ r P a b)(hk:eL st=κ)(M:MH r a b out na nb)(h1:0<na)(h2:2<=nb)(hN:na+nb<=N+1)(D:∀ aw,Mg st aw->∀ c,HS r a b c->Q (.done c) aw)(Y:∀ aw,Mg st aw->∀ out na nb mg,MH r a b out na nb->1<=na->2<=nb->na+nb<=N->Q (.yield (none,na,nb,out,mg)) aw):wpS (aS prog w) A E s (W5 a b x (none,na,nb,out,mg)) Q st:=by
 have ha:=M.ha;have hb:=M.hb;refine cx (sT (qc (I:=λy c aw=>aw=st/\HI r a b (N+1-y) c) (Q:=λc aw=>aw=st/\(HS r a b c\/HI r a b N c)) ?step ?fin ⟨rfl,_,_,_,_,_,rfl,M,h1,h2,hN⟩) ?post);case fin =>
  rintro c aw ⟨rfl,na',oq,o,ac,bc,rfl,M',q1,q2,q3⟩;exact⟨rfl,.inr ⟨_,_,_,_,_,rfl,M',q1,q2,by lia⟩⟩
 case step =>
  rintro y c1 wo _ hy ⟨rfl,na',oq,o,ac,bc,rfl,M',q1,q2,q3⟩;exact Dt (N:=N-y) c hk M' q1 q2 (by lia) (λc q=>⟨rfl,.inl q⟩) λc q=>by obtain⟨na,nb,o,ac,bc,rfl,M,h1,h2,h3⟩:=q;exact⟨⟨rfl,.inr ⟨_,_,_,_,_,rfl,M,h1,h2,by walk_at "s4"⟩⟩,rfl,_,_,_,_,_,rfl,M,h1,h2,by lia⟩
 case post =>
  rintro c1 aw ⟨rfl,⟨o,rest,rfl,hM⟩|⟨na,nb,o,ac,bc,rfl,M',q1,q2,q3⟩⟩
  ·exact df (D _ (.refl _) _ ⟨_,_,rfl,hM⟩)
  ·exact Dd c hk M' q1 q2 q3 D Y
theorem pN{st:dv}{a b:Array bP}{Q:Array bP->dv->Prop}(C:oi prog w A s κ r P)(hk:eL st=κ)(Ts:AllP P a)(Tt:AllP P b)(hA:Up r a 0 a.size)(hB:Up r b 0 b.size)(na:1<=a.size)(nb:1<=b.size)(h0:R r b 0<=R r a 0) (hg:∀ j,j<b.size->R r b j<=R r a (a.size-1)) (h:∀ out aw,bH r a b out->Mg st aw->Q out aw):wpS (aS prog w) A E s (rZ a b) Q st:=by
 have c:MC prog w A s κ r P a b:=⟨C,Ts,Tt,hA,hB,λi hi=>xA h0 (hA 0 i (de _) (eW _) hi),hg⟩
 rw[tZ];refine cx (wpS_lift (D6 ⟨rfl,?_⟩));refine cx (aF (by exact LN ‹_› LM) λy0 e0=>?_);have M1:MH r a b #[y0] (a.size-1) b.size:=MH.start.oV hA hB na e0 λ_=>hg _ (by exact LN ‹_› LM);by_cases c1:a.size-1=0
 ·rw[if_pos (by simpa using c1)];exact df (h _ _ (M1.Mi hA hB c1) (.refl st))
 ·rw[if_neg (by simpa using c1)];by_cases c2:b.size=1
  ·rw[if_pos (by simpa using c2)];exact df (h _ _ (M1.qX hA hB c2 c.hl) (.refl st))
  ·rw[if_neg (by simpa using c2)];refine cx (wpS_get ?_);refine cx (sT (qc (I:=λx c aw=>Mg st aw/\∃ na nb out mg,c=(none,na,nb,out,mg)/\MH r a b out na nb/\1<=na/\2<=nb/\na+nb<=a.size+b.size-x) (Q:=λc aw=>Mg st aw/\HS r a b c) ?step ?fin ⟨.refl st,_,_,_,_,rfl,M1,by lia,by lia,by lia⟩) ?post)
   case fin =>
    rintro c aw ⟨_,na,nb,out,mg,rfl,M,h1,h2,h3⟩;lia
   case post =>
    rintro c aw ⟨hm,out,rest,rfl,hM⟩;exact df (h out aw hM hm)
   case step =>
    rintro x c1 wo _ hx ⟨vi,na,nb,out,mg,rfl,M,h1,h2,h3⟩;exact Dl (N:=a.size+b.size-(x+1)) c (vi.kind.trans hk) M h1 h2 (by lia) (λaw g c q=>⟨vi.trans g,q⟩) λaw g out na nb mg M h1 h2 h3=>⟨vi.trans g,_,_,_,_,rfl,M,h1,h2,h3⟩
end
def wr(p:Nat)(m:List bP)(n:Nat)(xs:Array bP):Array bP:=(m.zipIdx n).foldl (λa (q:bP × Nat)=>a.setIfInBounds (p+q.2) q.1) xs
theorem vI(p:Nat):∀ (m:List bP) (n:Nat) (xs:Array bP),p+n+m.length<=xs.size->∀ k:Nat,(wr p m n xs)[k]? = if p+n<=k/\k<p+n+m.length then m[k-(p+n)]? else xs[k]?
 |[],n,xs,h,k=>by rw[if_neg (by simp only[List.length_nil];lia)];rfl
 |q :: m,n,xs,h,k=>by
  have ih:=vI p m (n+1) (xs.setIfInBounds (p+n) q) (by rw[Array.size_setIfInBounds];simp only[vF] at h;lia) k;have e:wr p (q :: m) n xs=wr p m (n+1) (xs.setIfInBounds (p+n) q):=by unfold wr;rw[List.zipIdx_cons,List.foldl_cons]
  simp only[vF] at h ⊢;rw[e,ih];by_cases h1:p+(n+1)<=k/\k<p+(n+1)+m.length
  ·rw[if_pos h1,if_pos (by lia),show k-(p+n)=(k-(p+(n+1)))+1 by lia,List.getElem?_cons_succ]
  ·rw[if_neg h1];by_cases h2:k=p+n
   ·subst h2;rw[if_pos (by walk_at "s4"),Nat.sub_self,List.getElem?_cons_zero,Array.getElem?_setIfInBounds_self_of_lt (by lia)]
   ·rw[if_neg (by lia),R0 (by walk_at "s1")]
theorem Bk(h:p+m.length<=xs.size):(wr p m 0 xs).toList=xs.toList.take p++m++xs.toList.drop (p+m.length):=by
 have hl:xs.toList.length=xs.size:=by simp
 apply M7;intro k;have e:=vI p m 0 xs h k;rw[LK] at e;rw[oS,e];by_cases h1:k<p
 ·rw[if_neg (by lia),AB,MV (by rw[ly];lia),List.getElem?_take_of_lt h1,oS]
 ·by_cases h2:k<p+m.length
  ·rw[if_pos (by lia),AB,D8 (by rw[ly];lia),ly,show min p xs.toList.length=p by lia,MV (by lia)]
  ·rw[if_neg (by lia),AB,D8 (by rw[ly];lia),ly,show min p xs.toList.length=p by lia,D8 (by lia),List.getElem?_drop,
    show p+m.length+(k-p-m.length)=k by lia,oS]
theorem Dk{p q:Nat}{xs:Array bP}(h:p<=q)(h2:q<=xs.size):xs.toList=xs.toList.take p++(xs.extract p q).toList++xs.toList.drop q:=by
 rw[R5,RB];have e1:xs.toList.take p++(xs.toList.drop p).take (q-p)=xs.toList.take q:=by rw[<- FV p (xs.toList.take q),List.take_take,List.drop_take,Pp h]
 rw[e1,FV]
theorem zX{p q:Nat}{m:List bP}{xs:Array bP}(h:p<=q)(h2:q<=xs.size)(hm:m.Perm (xs.extract p q).toList):(wr p m 0 xs).Perm xs:=by
 have hl:m.length=q-p:=by rw[hm.length_eq];simp;lia
 rw[R3,Bk (by lia),show p+m.length=q by lia];have e:=Dk (xs:=xs) h h2;exact(List.Perm.append_right _ (List.Perm.append_left _ hm)).trans (by rw[<- e])
def Runs(r:ah->Int)(xs:Array bP):List (Nat × Nat × Nat)->Nat->Nat->Prop
 |[],a,b=>a=b
 | (s,n,_) :: rest,a,b=>s=a/\1<=n/\Up r xs s (s+n)/\Runs r xs rest (s+n) b
section
variable {r:ah->Int}{xs ys:Array bP}
theorem Runs.le:∀ {ps:List (Nat × Nat × Nat)} {a b:Nat},Runs r xs ps a b->a+ps.length<=b
 |[],a,b,h=>by simp only[Runs] at h;simp;lia
 | (s,n,p) :: rest,a,b,h=>by obtain⟨rfl,h1,_,h3⟩:=h;have:=Runs.le h3;simp only[vF];lia
theorem Runs.append:∀ {ps qs:List (Nat × Nat × Nat)} {a b:Nat},Runs r xs (ps++qs) a b↔∃ c,Runs r xs ps a c/\Runs r xs qs c b
 |[],qs,a,b=>by simp[Runs]
 | (s,n,p) :: rest,qs,a,b=>by
  simp only[Pa,Runs];constructor
  ·rintro⟨h1,h2,h3,h4⟩;obtain⟨c,h5,h6⟩:=Runs.append.mp h4;exact⟨c,⟨h1,h2,h3,h5⟩,h6⟩
  ·rintro⟨c,⟨h1,h2,h3,h5⟩,h6⟩;exact⟨h1,h2,h3,Runs.append.mpr ⟨c,h5,h6⟩⟩
theorem Up.congr(h:Up r xs a b)(e:∀ k,a<=k->k<b->ys[k]? = xs[k]?):Up r ys a b:=λi j h1 h2 h3=>by rw[cB (e i h1 (by lia)),cB (e j (by lia) h3)];exact h i j h1 h2 h3
theorem Runs.congr:∀ {ps:List (Nat × Nat × Nat)} {a b:Nat},Runs r xs ps a b->(∀ k,a<=k->k<b->ys[k]? = xs[k]?)->Runs r ys ps a b
 |[],a,b,h,_=>h
 | (s,n,p) :: rest,a,b,h,e=>by obtain⟨rfl,h1,h2,h3⟩:=h;have l:=h3.le;exact⟨rfl,h1,h2.congr λk u v=>e k u (by lia),Runs.congr h3 λk u v=>e k (by walk_at "s4") v⟩
theorem Up.glue(h1:Up r xs a b)(h2:Up r xs b c)(h:∀ i j,a<=i->i<b->b<=j->j<c->R r xs i<=R r xs j):Up r xs a c:=λi j u v w=>by
 by_cases hj:j<b
 ·exact h1 i j u v hj
 ·by_cases hi:i<b
  ·exact h i j u hi (by lia) w
  ·exact h2 i j (by lia) v w
end
section
variable {prog:dz}{w:dA}{A:eJ}{E:ah->aE->Prop}{s:aE}{κ:sR}{r:ah->Int}{P:ah->Prop}
theorem AllP.extract(h:AllP P xs)(i j:Nat):AllP P (xs.extract i j):=λp hp=>h p (by
 rw[R5,RB] at hp;exact K2 (Lc hp))
theorem cO(h:i+k<j)(hj:j<=xs.size):R r (xs.extract i j) k=R r xs (i+k):=by apply cB;rw[Pw,if_pos (by lia)]
theorem Up.extract(h:Up r xs i j)(kA:i<=j)(hj:j<=xs.size):Up r (xs.extract i j) 0 (xs.extract i j).size:=λa b _ h2 h3=>by
 have e:(xs.extract i j).size=j-i:=by simp only[GL];lia
 rw[e] at h3;rw[cO (by lia) hj,cO (by lia) hj];exact h _ _ (by lia) (by lia) (by lia)
theorem vU(hz:sa+na+nb<=xs.size)(hk:k<na)(hnb:oq<=nb)(hA:Up r xs sa (sa+na))(hB:Up r xs (sa+na) (sa+na+nb))(lo1:∀ i,i<k->R r xs (sa+i)<=R r xs (sa+na)) (IE:R r xs (sa+na)<R r xs (sa+k)) (sC:∀ i,i<oq->R r xs (sa+na+i)<R r xs (sa+na-1)) (pj:∀ i,oq<=i->i<nb->R r xs (sa+na-1)<=R r xs (sa+na+i))(hm:bH r (xs.extract (sa+k) (sa+na)) (xs.extract (sa+na) (sa+na+oq)) m) :
  Up r (wr (sa+k) m.toList 0 xs) sa (sa+na+nb)/\(wr (sa+k) m.toList 0 xs).Perm xs/\∀ j,j<sa\/sa+na+nb<=j->(wr (sa+k) m.toList 0 xs)[j]? = xs[j]? := by
 obtain⟨mp,mu⟩:=hm;have eab:(xs.extract (sa+k) (sa+na)).toList++(xs.extract (sa+na) (sa+na+oq)).toList=(xs.extract (sa+k) (sa+na+oq)).toList:=by rw[<- Array.toList_append,Array.extract_append_extract,show min (sa+k) (sa+na)=sa+k by lia,show max (sa+na) (sa+na+oq)=sa+na+oq by lia]
 rw[eab] at mp;have ml:m.toList.length=na+oq-k:=by rw[mp.length_eq];simp;lia
 have hw:sa+k+m.toList.length<=xs.size:=by lia
 have get:=vI (sa+k) m.toList 0 xs (by lia);rw[LK,ml] at get
 -- every merged item is one of the kJ'
 have mem:∀ (j:Nat) (p:bP),m.toList[j]? = some p->∃ i,sa+k<=i/\i<sa+na+oq/\r p.1=R r xs i:=λj p e=>by
  have hp:p∈(xs.extract (sa+k) (sa+na+oq)).toList:=mp.mem_iff.mp (vE e);obtain⟨i,hi⟩:=List.getElem?_of_mem hp;rw[oS,Pw] at hi;split at hi
  ·exact⟨sa+k+i,by lia,by lia,(oo hi).symm⟩
  ·cases hi
 have low:∀ i,sa+k<=i->i<sa+na+oq->R r xs (sa+na)<=R r xs i:=λi h1 h2=>by
  by_cases h3:i<sa+na
  ·exact xA (Ct IE) (hA (sa+k) i (by lia) h1 h3)
  ·exact hB (sa+na) i (de _) (by lia) (by lia)
 have high:∀ i,sa+k<=i->i<sa+na+oq->R r xs i<=R r xs (sa+na-1):=λi h1 h2=>by
  by_cases h3:i<sa+na
  ·exact hA i (sa+na-1) (by lia) (by lia) (by lia)
  ·have:=sC (i-(sa+na)) (by lia);rw[show sa+na+(i-(sa+na))=i by lia] at this;lia
 have W6:∀ j,j<na+oq-k->∃ i,sa+k<=i/\i<sa+na+oq/\R r (wr (sa+k) m.toList 0 xs) (sa+k+j)=R r xs i:=λj hj=>by
  have e:=get (sa+k+j);rw[if_pos (by lia),show sa+k+j-(sa+k)=j by lia] at e;have x5:j<m.toList.length:=by lia
  obtain⟨i,h1,h2,h3⟩:=mem j m.toList[j] (uj x5);rw[uj x5] at e;exact⟨i,h1,h2,(oo e).trans h3⟩
 have Ml:∀ j,j<sa+k\/sa+na+oq<=j->(wr (sa+k) m.toList 0 xs)[j]? = xs[j]? := λj hj=>by have e:=get j;rw[if_neg (by lia)] at e;exact e
 refine⟨?_,zX (by lia) (by lia) mp,λj hj=>Ml j (by lia)⟩;have U1:Up r (wr (sa+k) m.toList 0 xs) sa (sa+k):=Up.congr (xs:=xs) (λi j h1 h2 h3=>hA i j h1 h2 (by lia)) λj h1 h2=>Ml j (.inl h2);have U2:Up r (wr (sa+k) m.toList 0 xs) (sa+k) (sa+na+oq):=λi j h1 h2 h3=>by
  have ei:=get i;have ej:=get j;rw[if_pos (by lia)] at ei ej;have li:i-(sa+k)<m.toList.length:=by lia
  have lj:j-(sa+k)<m.toList.length:=by lia
  rw[uj li] at ei;rw[uj lj] at ej;rw[oo ei,oo ej];by_cases kA:i=j
  ·subst kA;exact xB _
  ·exact(MX.mp mu) _ _ li lj (by lia)
 have U3:Up r (wr (sa+k) m.toList 0 xs) (sa+na+oq) (sa+na+nb):=Up.congr (xs:=xs) (λi j h1 h2 h3=>hB i j (by lia) h2 h3) λj h1 h2=>Ml j (.inr h1);refine(U1.glue U2 λi j h1 h2 h3 h4=>?_).glue U3 λi j h1 h2 h3 h4=>?_
 ·obtain⟨q,q1,q2,q3⟩:=W6 (j-(sa+k)) (by lia);rw[show sa+k+(j-(sa+k))=j by lia] at q3;rw[q3,cB (Ml i (.inl h2))];have:=lo1 (i-sa) (by lia);rw[show sa+(i-sa)=i by lia] at this;exact xA this (low q q1 q2)
 ·have e2:=pj (j-(sa+na)) (by lia) (by lia);rw[show sa+na+(j-(sa+na))=j by lia] at e2;rw[cB (Ml j (.inr h3))];by_cases hi:i<sa+k
  ·rw[cB (Ml i (.inl hi))];have:=lo1 (i-sa) (by lia);rw[show sa+(i-sa)=i by lia] at this;have:=low (sa+na-1) (by lia) (by lia);lia
  ·obtain⟨q,q1,q2,q3⟩:=W6 (i-(sa+k)) (by lia);rw[show sa+k+(i-(sa+k))=i by lia] at q3;rw[q3];exact xA (high q q1 q2) e2
structure St(r:ah->Int)(κ:sR)(e9:Array bP)(st:dv)(ps:List (Nat × Nat × Nat))(lo:Nat):Prop where
 kind:eL st=κ
 failed:oQ st=none
 perm:(bp st).Perm e9
 pend:kc st=ps.toArray
 runs:Runs r (bp st) ps 0 lo
theorem St.size{e9:Array bP}{st:dv}{ps:List (Nat × Nat × Nat)}{lo:Nat}(h:St r κ e9 st ps lo):(bp st).size=e9.size:=h.perm.size_eq
theorem yu{ps:List (Nat × Nat × Nat)}(h:i+1<ps.length):∃ pre x y post,ps=pre++x :: y :: post/\pre.length=i:=by refine⟨ps.take i,ps[i],ps[i+1],ps.drop (i+2),?_,by rw[ly];lia⟩;rw[<- K0 (by lia),<- K0 (by lia),FV]
theorem jQ{st:dv}{e9:Array bP}{ps:List (Nat × Nat × Nat)}{lo i:Nat}{Q:Bool->dv->Prop}(C:oi prog w A s κ r P)(hP:AllP P e9)(H:St r κ e9 st ps lo)(E2:lo<=e9.size)(hi:i+1<ps.length)(h:∀ aw iX,St r κ e9 aw iX lo->iX.length+1=ps.length->iX≠[]->(∀ k,lo<=k->(bp aw)[k]? = (bp st)[k]?)->Q true aw):wpS (aS prog w) A E s (mergeAt' i) Q st:=by
 obtain⟨pre,⟨sa,na,pa⟩,⟨sb,nb,pb⟩,post,rfl,EZ⟩:=yu hi;have hz:=H.size;have sq:AllP P (bp st):=hP.perm H.perm;obtain⟨c,W7,N7⟩:=Runs.append.mp H.runs;obtain⟨rfl,n1,u1,rfl,n2,u2,W8⟩:=N7;have le3:=W8.le;have le1:=W7.le
 -- the new pending list
 have eF':((kc st).setIfInBounds i (sa,na+nb,pa)).eraseIdxIfInBounds (i+1)=(pre++(sa,na+nb,pa) :: post).toArray:=by rw[H.pend];apply Nj.mp;simp[<- EZ,List.eraseIdx_append_of_length_le]
 have new:∀ (xs:Array bP) (g:Nat),xs.Perm (bp st)->(∀ j,j<sa\/sa+na+nb<=j->xs[j]? = (bp st)[j]?)->Up r xs sa (sa+(na+nb)) ->
   St r κ e9 (SortSt.mk' (eL st) xs (pre++(sa,na+nb,pa) :: post).toArray g (oQ st)) (pre++(sa,na+nb,pa) :: post) lo:=λxs g hp ho hu =>
  ⟨H.kind,H.failed,hp.trans H.perm,rfl,Runs.append.mpr ⟨sa,W7.congr λk _ hk=>ho k (.inl hk),rfl,by walk_at "s4",hu,by
   rw[show sa+(na+nb)=sa+na+nb by exact(GH ..).symm];exact W8.congr λk hk _=>ho k (.inr hk)⟩⟩
 have len:(pre++(sa,na+nb,pa) :: post).length+1=(pre++(sa,na,pa) :: (sa+na,nb,pb) :: post).length:=by simp;exact GH ..
 have e0:(kc st)[i]? = some (sa,na,pa):=by rw[H.pend,<- EZ];simp
 have e1:(kc st)[i+1]? = some (sa+na,nb,pb):=by rw[H.pend,<- EZ];simp
 refine cx (wpS_get ?_);rw[e0,e1];dsimp only;refine cx (B9 (f:=λ_=>SortSt.mk' (eL st) (bp st) (((kc st).setIfInBounds i (sa,na+nb,pa)).eraseIdxIfInBounds (i+1)) (gallopOf st) (oQ st)) ?_);rw[eF'];refine cx (aF (xs:=bp st) (by lia) λkb W9=>cx (bY (arr:=bp st) C H.kind sq (sq.at W9) (by lia) (by assumption) u1 λk WW E5 IG=>?_));have rkb:=oo (r:=r) W9;dsimp only;by_cases z:na-k=0
 ·rw[if_pos (by simpa using z)];refine df (h _ _ (new (bp st) (gallopOf st) (Array.Perm.refl _) (λ_ _=>rfl) ?_) len (by simp) λ_ _=>rfl);rw[show sa+(na+nb)=sa+na+nb by exact(GH ..).symm];refine u1.glue u2 λi j h1 h2 h3 h4=>?_;have:=xH (E5 (i-sa) (by lia));rw[show sa+(i-sa)=i by exact GA ‹_›] at this;have:=u2 (sa+na) j (de _) h3 h4;lia
 ·rw[if_neg (by simpa using z)];refine cx (aF (xs:=bp st) (by lia) λka W_=>cx (bY (arr:=bp st) C H.kind sq (sq.at W_) (by lia) (by exact LN ‹_› LM) u2 λl Mj A6 Mk=>?_));have rka:=oo (r:=r) W_;rw[show sa+k+(na-k)-1=sa+na-1 by lia] at rka;dsimp only;by_cases z2:l=0
  ·rw[if_pos (by simpa using z2)];refine df (h _ _ (new (bp st) (gallopOf st) (Array.Perm.refl _) (λ_ _=>rfl) ?_) len (by simp) λ_ _=>rfl);rw[show sa+(na+nb)=sa+na+nb by exact(GH ..).symm];refine u1.glue u2 λi j h1 h2 h3 h4=>?_;have:=sI (Mk (j-(sa+na)) (by lia) (by lia));rw[show sa+na+(j-(sa+na))=j by exact GA ‹_›] at this;have:=u1 i (sa+na-1) h1 (by lia) (by lia);lia
  ·rw[if_neg (by simpa using z2)];have lo1:∀ i,i<k->R r (bp st) (sa+i)<=R r (bp st) (sa+na):=λi hi=>by have:=xH (E5 i hi);lia
   have IE:R r (bp st) (sa+na)<R r (bp st) (sa+k):=by have:=vm (IG k (de _) (by lia));lia
   have sC:∀ i,i<l->R r (bp st) (sa+na+i)<R r (bp st) (sa+na-1):=λi hi=>by have:=Ce (A6 i hi);lia
   have pj:∀ i,l<=i->i<nb->R r (bp st) (sa+na-1)<=R r (bp st) (sa+na+i):=λi h1 h2=>by have:=sI (Mk i h1 h2);lia
   have sx:((bp st).extract (sa+k) (sa+na)).size=na-k:=by simp only[GL];lia
   have sy:((bp st).extract (sa+na) (sa+na+l)).size=l:=by simp only[GL];lia
   have ux:Up r ((bp st).extract (sa+k) (sa+na)) 0 ((bp st).extract (sa+k) (sa+na)).size:=Up.extract (λi j h1 h2 h3=>u1 i j (by lia) h2 h3) (by lia) (by lia);have uy:Up r ((bp st).extract (sa+na) (sa+na+l)) 0 ((bp st).extract (sa+na) (sa+na+l)).size:=Up.extract (λi j h1 h2 h3=>u2 i j h1 h2 (by walk_at "s4")) (by exact FY _ _) (by lia);have Za:R r ((bp st).extract (sa+na) (sa+na+l)) 0<=R r ((bp st).extract (sa+k) (sa+na)) 0:=by rw[cO (by lia) (by lia),cO (by lia) (by lia)];exact Ct IE
   have Zb:∀ j,j<((bp st).extract (sa+na) (sa+na+l)).size->R r ((bp st).extract (sa+na) (sa+na+l)) j<=R r ((bp st).extract (sa+k) (sa+na)) (((bp st).extract (sa+k) (sa+na)).size-1):=λj hj=>by rw[sx,cO (by lia) (by lia),cO (by lia) (by lia),show sa+k+(na-k-1)=sa+na-1 by lia];exact Ct (sC j (by lia))
   have fin:∀ out aw,bH r ((bp st).extract (sa+k) (sa+na)) ((bp st).extract (sa+na) (sa+na+l)) out->Mg (SortSt.mk' (eL st) (bp st) (pre++(sa,na+nb,pa) :: post).toArray (gallopOf st) (oQ st)) aw ->
     Q true (SortSt.mk' (eL aw) (wr (sa+k) out.toList 0 (bp aw)) (kc aw) (gallopOf aw) (oQ aw)):=λout aw hm hg=>by
    obtain⟨g,rfl⟩:=hg;obtain⟨m1,m2,m3⟩:=vU (by lia) (by lia) Mj u1 u2 lo1 IE sC pj hm;exact h _ _ (new _ g m2 m3 (by rw[show sa+(na+nb)=sa+na+nb by exact(GH ..).symm];exact m1)) len (by simp) λk hk=>m3 k (.inr (by lia))
   have fin2:∀ out aw,bH r ((bp st).extract (sa+k) (sa+na)) ((bp st).extract (sa+na) (sa+na+l)) out->Mg (SortSt.mk' (eL st) (bp st) (pre++(sa,na+nb,pa) :: post).toArray (gallopOf st) (oQ st)) aw ->
     oQ aw=none:=λout aw _ hg=>by
    obtain⟨g,rfl⟩:=hg;exact H.failed
   by_cases z3:na-k<=l
   ·rw[if_pos z3];refine cx (p6 (a:=(bp st).extract (sa+k) (sa+na)) (b:=(bp st).extract (sa+na) (sa+na+l)) C H.kind (sq.extract _ _) (sq.extract _ _) ux uy (by lia) (by lia) Za Zb λout aw hm hg=>?_);refine cx (B9 (cx (wpS_get ?_)));have f:=fin out aw hm hg;have f2:=fin2 out aw hm hg;refine df ?_;show Q (oQ aw).isNone _;rw[f2];exact f
   ·rw[if_neg z3];refine cx (pN (a:=(bp st).extract (sa+k) (sa+na)) (b:=(bp st).extract (sa+na) (sa+na+l)) C H.kind (sq.extract _ _) (sq.extract _ _) ux uy (by lia) (by lia) Za Zb λout aw hm hg=>?_);refine cx (B9 (cx (wpS_get ?_)));have f:=fin out aw hm hg;have f2:=fin2 out aw hm hg;refine df ?_;show Q (oQ aw).isNone _;rw[f2];exact f
theorem Runs.modify(hf:∀ x,(f x).1=x.1/\(f x).2.1=x.2.1):∀ {ps:List (Nat × Nat × Nat)} {i a b:Nat},Runs r xs ps a b->Runs r xs (ps.modify i f) a b
 |[],_,_,_,h=>by simpa using h
 | (s,n,p) :: rest,0,a,b,h=>by obtain⟨h1,h2⟩:=hf (s,n,p);rw[List.modify_zero_cons];have e:f (s,n,p)=(s,n,(f (s,n,p)).2.2):=Prod.ext h1 (Prod.ext h2 rfl);rw[e];exact h
 | (s,n,p) :: rest,i+1,a,b,h=>by rw[List.modify_succ_cons];obtain⟨h1,h2,h3,h4⟩:=h;exact⟨h1,h2,h3,Runs.modify hf h4⟩
theorem St.win{e9:Array bP}{st aw:dv}{ps:List (Nat × Nat × Nat)}{lo hi:Nat}(H:St r κ e9 st ps lo)(hw:lS lo hi st aw):St r κ e9 aw ps lo :=
 ⟨hw.kind.trans H.kind,hw.failed.trans H.failed,hw.perm.trans H.perm,hw.pend.trans H.pend,H.runs.congr λk _ hk=>hw.out k (.inl hk)⟩
theorem wpS_sortRuns{st:dv}{Q:Unit->dv->Prop}(C:oi prog w A s κ r P)(hk:eL st=κ)(hP:AllP P (bp st))(hp:kc st = #[])(hf:oQ st=none)(h:∀ aw,(bp aw).Perm (bp st)->oQ aw=none->Up r (bp aw) 0 (bp st).size->Q () aw):wpS (aS prog w) A E s sortRuns' Q st:=by
 rw[sortRuns'_eq];refine cx (wpS_get ?_);dsimp only;generalize ha:bp st=e9 at *
 have H0:St r κ e9 st [] 0:=⟨hk,hf,by rw[ha],by rw[hp],rfl⟩
 refine cx (sT (qc (I:=λx c aw=>∃ ps lo,c=(none,lo)/\St r κ e9 aw ps lo/\lo<=e9.size/\x<=lo) (Q:=λc aw=>∃ ps,c=(none,e9.size)/\St r κ e9 aw ps e9.size) ?step ?fin ⟨[],0,rfl,H0,eW _,de _⟩) ?post)
 case fin =>
  rintro c aw ⟨ps,lo,rfl,H,h1,h2⟩;have:lo=e9.size:=by lia
  subst this;exact⟨ps,rfl,H⟩
 case post =>
  rintro c aw ⟨ps,rfl,H⟩;dsimp only;have l0:=H.runs.le;refine cx (sT (qc (I:=λy c aw=>c=(none,())/\∃ iX,St r κ e9 aw iX e9.size/\iX.length+y<=e9.size) (Q:=λc aw=>c=(none,())/\∃ iX,St r κ e9 aw iX e9.size/\iX.length<=1) ?eH' ?Qs ⟨rfl,ps,H,by lia⟩) ?eI')
  case Qs =>
   rintro c aw ⟨rfl,iX,H',hl⟩;exact⟨rfl,iX,H',by lia⟩
  case eI' =>
   rintro c aw ⟨rfl,iX,H',hl⟩;refine df (h aw H'.perm H'.failed ?_);have q:=H'.runs
   match iX,hl,q with
   |[],_,q =>have q:0=e9.size:=q;intro i j _ _ hj;lia
   |[(s',n',p')],_,q =>obtain⟨rfl,_,hu,e⟩:=q;have e:0+n'=e9.size:=e;rw[<- e];exact hu
  case eH' =>
   rintro y c wo _ hy ⟨rfl,iX,H',hl⟩;refine cx (wpS_get ?_);have ep:(kc wo).size=iX.length:=by rw[H'.pend];simp
   by_cases z:(kc wo).size<=1
   ·rw[if_pos z];exact df ⟨rfl,iX,H',by lia⟩
   ·rw[if_neg z];refine cx (jQ C hP H' (de _) (by(repeat' split)<;>lia) λxC ps2 H2 hlen _ _=>?_);rw[if_neg (by simp)];exact df ⟨rfl,ps2,H2,by lia⟩
 case step =>
  rintro x c wo _ hx ⟨ps,lo,rfl,H,h1,h2⟩;dsimp only;by_cases z:lo >= e9.size
  ·rw[if_pos z];have:lo=e9.size:=by lia
   subst this;exact df ⟨ps,rfl,H⟩
  ·rw[if_neg z];have hz:=H.size;refine cx (wpS_countRun C H.kind (hP.perm H.perm) (by lia) (by lia) λm xC hw vi px hu=>?_);have H2:=H.win hw;dsimp only;refine Ad (K:=?K) ?pk λkey=>?main;case main =>
    by_cases z2:m<minRun' e9.size e9.size 0
    ·rw[if_pos z2];refine cx (wpS_lift (D6 ⟨rfl,?_⟩));refine cx (wpS_binarySort C H2.kind (hP.perm H2.perm) (by clear key;have:=H2.size;lia) (by clear key;lia) hu λxD Zc Tw=>?_);have H3:=H2.win Zc;rw[if_neg (by simp)];have b1:1<=min (e9.size-lo) (minRun' e9.size e9.size 0):=by clear key;lia
     have b2:lo+min (e9.size-lo) (minRun' e9.size e9.size 0)<=e9.size:=by clear key;lia
     clear Zc;generalize min (e9.size-lo) (minRun' e9.size e9.size 0)=nn at *
     revert nn xD;exact key
    ·rw[if_neg z2];exact key _ H2 _ hu vi (by lia)
   intro xD H3 nn Tw b1 b2;refine cx (wpS_get ?_);have push:∀ (aw:dv) (iX:List (Nat × Nat × Nat)),St r κ e9 aw iX lo->Up r (bp aw) lo (lo+nn)->∃ ps IA,((none:Option Unit),lo+nn)=(none,IA)/\St r κ e9 (setPending aw ((kc aw).push (lo,nn,0))) ps IA/\IA<=e9.size/\x+1<=IA:=λaw iX G u =>
    ⟨iX++[(lo,nn,0)],lo+nn,rfl,⟨G.kind,G.failed,G.perm,by show(kc aw).push _=_;rw[G.pend];simp,Runs.append.mpr ⟨lo,G.runs,rfl,b1,u,rfl⟩⟩,b2,by lia⟩
   cases hb:(kc xD).back? with
   |none =>dsimp only;exact cx (B9 (df (push xD ps H3 Tw)))
   |some t =>
    obtain⟨s1,n1,p1⟩:=t;dsimp only;generalize power' e9.size (2*s1+n1) (2*s1+n1+n1+nn) e9.size=pw;refine cx (sT (qc (I:=λy c aw=>c=(none,())/\∃ iX,St r κ e9 aw iX lo/\Up r (bp aw) lo (lo+nn)) (Q:=λc aw=>c=(none,())/\∃ iX,St r κ e9 aw iX lo/\Up r (bp aw) lo (lo+nn)) ?_ (λ_ _ q=>q) ⟨rfl,ps,H3,Tw⟩) ?_)
    ·rintro y c wd _ hy ⟨rfl,iX,H4,N8⟩;refine cx (wpS_get ?_);have ep:(kc wd).size=iX.length:=by rw[H4.pend];simp
     by_cases z3:(kc wd).size>1
     ·rw[if_pos z3];have e4:(kc wd)[(kc wd).size-2]? = some ((kc wd)[(kc wd).size-2]'(by lia)):=getElem?_pos _ _ (by lia);rw[e4];generalize (kc wd)[(kc wd).size-2]'(by lia)=tt;obtain⟨t1,t2,eJ'⟩:=tt;dsimp only;by_cases z4:eJ'<=pw
      ·rw[if_pos z4];exact df ⟨rfl,iX,H4,N8⟩
      ·rw[if_neg z4];refine cx (jQ C hP H4 h1 (by lia) λHe ps5 H5 hlen _ DI=>?_);rw[if_neg (by simp)];exact df ⟨rfl,ps5,H5,N8.congr λk hk _=>DI k hk⟩
     ·rw[if_neg z3];exact df ⟨rfl,iX,H4,N8⟩
    ·rintro c wd ⟨rfl,iX,H4,N8⟩;dsimp only;refine cx (B9 (cx (B9 (df ?_))));refine push _ (iX.modify (iX.length-1) λx=>(x.1,x.2.1,pw)) ⟨H4.kind,H4.failed,H4.perm,?_,Runs.modify (f:=λx=>(x.1,x.2.1,pw)) (λ_=>⟨rfl,rfl⟩) H4.runs⟩ N8;show(kc wd).modify ((kc wd).size-1) (λx=>(x.1,x.2.1,pw))=_;rw[H4.pend];simp
def c7 (h:cS) (a:ag) (vs:List ah):cS:=((h.update a (Obj.mapSeq λ_=>#[])).push (seqObj "tuple" vs.toArray 0)).push (seqObj "list" #[] 0)
theorem pZ(hb:b≠a)(gp:b<h.objs.size):(c7 h a vs).get? b=h.get? b:=by
 unfold c7;rw[Pk _ _ _ (by rw[size_push',Pl];exact gV (AH gp)),
  Pk _ _ _ (by rw[Pl];exact gV gp),Heap.get?_update_ne _ _ _ _ hb]
theorem qp(hp:xs.Perm (pairsOf vs))(hs:Up r xs 0 vs.length):(xs.map (·.2)).toList.Perm vs/\(xs.map (·.2)).toList.Pairwise λx y=>r x<=r y:=by
 have hl:xs.toList.Perm (vs.zip vs):=by rw[<- pairsOf_toList];exact R3.mp hp
 have N9:∀ p,p∈xs.toList->p.1=p.2:=λp gu=>(mem_zip_self (hl.mem_iff.mp gu)).1;have e:(xs.map (·.2)).toList=xs.toList.map (·.1):=by rw[Array.toList_map];exact M6 λp gu=>(N9 p gu).symm
 have hsz:xs.size=vs.length:=by rw[hp.size_eq,pairsOf_size]
 rw[e];refine⟨?_,?_⟩
 ·have h1:=hl.map (·.1);rwa[List.map_fst_zip (de _)] at h1
 ·rw[MX];intro i j hi hj kA;have k9:i<xs.size:=by simpa using hi
  have x5:j<xs.size:=by simpa using hj
  have h1:=hs i j (eW _) (oP kA) (by lia);rw[FQ k9,FQ x5] at h1;simpa using h1
theorem oJ {F:PySem.Fin->aE->Prop} (ho:s.heap.get? a=some (seqObj "list" vs.toArray n)) (hsz:vs.length<=bX) (hP:∀ v∈vs,P v)(hk:2<=vs.length->∀ (Q:sR->aE->Prop),Q κ { s with heap:=c7 s.heap a vs }->aT (aS prog w) A (keyKind' vs.toArray) Q E { s with heap:=c7 s.heap a vs }) (C:2<=vs.length->oi prog w A { s with heap:=c7 s.heap a vs } κ r P) (h:∀ out:Array ah,out.toList.Perm vs->(out.toList.Pairwise λx y=>r x<=r y)->F (.done (.ret .none)) { s with heap:=sortedHeap s.heap a vs out }) :
  aT (aS prog w) A (Builtin.«list.sort» ⟨[.ref a],[]⟩) F E s:=by
 rw[list_sort_plain];have ha:a<s.heap.objs.size:=eS ho;refine ay (listItems_at ho rfl ?_);refine ay (listUpdate_at ho rfl ?_ (by simpa using hsz) (eW _));obtain⟨e1,vj⟩:∃ e1,(s.heap.update a (Obj.mapSeq λ_=>#[])).get? a=some (seqObj "list" #[] e1):=⟨_,get?_update_seq ho (λ_=>#[])⟩
 refine ay (seqEpoch_at vj rfl ?_);refine ay (wpAny_newTuple ?_ (by simpa using hsz));refine ay (wpAny_newList ?_ (eW _));refine xl ?_;have Qt:(c7 s.heap a vs).get? a=some (seqObj "list" #[] e1):=by unfold c7;rw[Pk _ _ _ (by rw[size_push',Pl];exact gV (AH ha)),Pk _ _ _ (by rw[Pl];exact gV ha)];exact vj
 show aT (aS prog w) A _ F E { s with heap:=c7 s.heap a vs };dsimp only;have hvz:vs.toArray.size=vs.length:=by simp
 have fin:∀ aw:dv,(bp aw).Perm (pairsOf vs)->Up r (bp aw) 0 vs.length->F (.done (.ret .none)) { s with heap:=sortedHeap s.heap a vs ((bp aw).map (·.2)) }:=by intro aw hp hs;obtain⟨h1,h2⟩:=qp hp hs;exact h _ h1 h2
 by_cases h2:vs.toArray.size<2
 ·rw[if_pos h2,if_pos h2];refine ay (bI ?_);rw[StateT.run_pure];refine ay (bI ?_);dsimp only;refine ay (seqEpoch_at Qt rfl ?_);refine ay (listUpdate_at Qt rfl ?_ (eW _) (by rw[Array.size_map];show(pairsOf vs).size<=_;rw[pairsOf_size];lia));simp only[bne_self_eq_false,hZ,if_false];refine bI (fin (SortSt.mk' general' (vs.toArray.zip vs.toArray) #[] 7 none) (Array.Perm.refl _) ?_);intro i j _ kA hj;have:i=j:=by lia
  subst this;exact xB _
 ·rw[if_neg h2,if_neg h2];refine ay (hk (by lia) _ ?_);refine ay (oD (wpS_sortRuns (st:=SortSt.mk' κ (vs.toArray.zip vs.toArray) #[] 7 none) (Q:=λ_ aw=>(bp aw).Perm (pairsOf vs)/\oQ aw=none/\Up r (bp aw) 0 vs.length) (C (by lia)) rfl (λp hp=>?_) rfl rfl λaw a1 a2 a3=>⟨a1,a2,?_⟩) ?_ λ_ _ e=>e)
  ·have gu:p∈(pairsOf vs).toList:=hp;rw[pairsOf_toList] at gu;exact hP _ (mem_zip_self gu).2
  ·have e:(bp (SortSt.mk' κ (vs.toArray.zip vs.toArray) #[] 7 none)).size=vs.length:=pairsOf_size vs;rw[e] at a3;exact a3
  ·rintro⟨⟨⟩,aw⟩ s' ⟨rfl,hp,hf,hs⟩;dsimp only;refine ay (seqEpoch_at Qt rfl ?_);refine ay (listUpdate_at Qt rfl ?_ (eW _) (by refine i9 (Nat.le_of_eq ((Array.size_map ..).trans (hp.size_eq.trans (pairsOf_size _)))) ?_;lia));rw[hf];simp only[bne_self_eq_false,hZ,if_false];exact bI (fin aw hp hs)
end
end DC
namespace L2
open PySem PySem.Spec PyProof.Rows
def qA:Key->Key->Bool
 |.inl i,.inl j=>decide (i<j)
 |.inr x,.inr y=>qq x y
 |_,_=>false
def iE:List Key->List Key->Bool
 |a :: as,b :: bs=>if a=b then iE as bs else qA a b
 |_,_=>false
def pz:Key->Bool
 |.inl _=>true
 |.inr _=>false
def jI(k:List Key):List Bool:=k.map pz
theorem Bl(x:Str):qq x x=false:=by unfold qq;simp[List.lt_irrefl]
theorem Ef(h:qq x y=true)(g:qq y z=true):qq x z=true:=by
 unfold qq at *
 simp only[decide_eq_true_eq] at *
 exact List.lt_trans h g
theorem vf{x y:Str}(h:x.cps.toList=y.cps.toList):x=y:=by cases x;cases y;simp only at h;rw[Nj.mp h]
theorem z9{x y:Str}(h:qq x y=false)(g:qq y x=false):x=y:=by
 unfold qq at *
 simp only[decide_eq_false_iff_not] at *
 apply vf;exact List.le_antisymm (List.not_lt.mp g) (List.not_lt.mp h)
theorem vL(a:Key):qA a a=false:=by cases a with|inl i=>simp[qA]|inr x=>exact Bl x
theorem FW(h:qA a b=true)(g:qA b c=true):qA a c=true:=by cases a<;>cases b<;>cases c<;>simp only[qA,decide_eq_true_eq] at *<;>first|lia|contradiction|exact Ef h g
theorem Bx(e:pz a=pz b)(h:qA a b=false)(g:qA b a=false):a=b:=by
 cases a<;>cases b<;>simp only[qA,pz,decide_eq_false_iff_not] at *
 ·congr 1;lia
 ·cases e
 ·cases e
 ·congr 1;exact z9 h g
theorem uL:∀ a:List Key,iE a a=false
 |[]=>rfl
 |a :: as=>by unfold iE;rw[if_pos rfl];exact uL as
theorem vh:∀ {a b c:List Key},iE a b=true->iE b c=true->iE a c=true
 |[],_,_,h,_=>by simp[iE] at h
 |_ :: _,[],_,h,_=>by simp[iE] at h
 |_ :: _,_ :: _,[],_,g=>by simp[iE] at g
 |a :: as,b :: bs,c :: cs,h,g=>by
  unfold iE at h g ⊢;by_cases e1:a=b
  ·subst e1;rw[if_pos rfl] at h;by_cases e2:a=c
   ·subst e2;rw[if_pos rfl] at g ⊢;exact vh h g
   ·rw[if_neg e2] at g ⊢;exact g
  ·rw[if_neg e1] at h;by_cases e2:b=c
   ·subst e2;rw[if_neg e1];exact h
   ·rw[if_neg e2] at g;have t:=FW h g;have ne:a≠c:=λe=>by subst e;rw[vL] at t;cases t
    rw[if_neg ne];exact t
theorem pY:∀ {a b:List Key},jI a=jI b->iE a b=false->iE b a=false->a=b
 |[],[],_,_,_=>rfl
 |[],_ :: _,e,_,_=>by simp[jI] at e
 |_ :: _,[],e,_,_=>by simp[jI] at e
 |a :: as,b :: bs,e,h,g=>by
  simp only[jI,gI,List.cons.injEq] at e;unfold iE at h g;by_cases e1:a=b
  ·subst e1;rw[if_pos rfl] at h g;rw[pY (show jI as=jI bs from e.2) h g]
  ·rw[if_neg e1] at h;rw[if_neg (Ne.symm e1)] at g;exact absurd (Bx e.1 h g) e1
theorem count_le{α:Type}(p q:α->Bool):∀ (l:List α),(∀ x∈l,p x=true->q x=true)->l.countP p<=l.countP q
 |[],_=>de _
 |x :: l,h=>by have ih:=count_le p q l λy hy=>h y (eP _ hy);have h1:=h x ft;rw[Pb,Pb];cases hp:p x<;>cases hq:q x<;>simp_all<;>exact RW ‹_›
theorem rJ{α:Type}(p q:α->Bool)(a:α)(ha:p a=false)(hb:q a=true):∀ (l:List α),a∈l->(∀ x∈l,p x=true->q x=true)->l.countP p<l.countP q
 |[],m,_=>by cases m
 |x :: l,m,h=>by
  rw[Pb,Pb];rcases eM.mp m with rfl|m
  ·have:=count_le p q l λy hy=>h y (eP _ hy);rw[ha,hb];simp;exact EB ‹_›
  ·have ih:=rJ p q a ha hb l m λy hy=>h y (eP _ hy);have h1:=h x ft;cases hp:p x<;>cases hq:q x<;>simp_all<;>exact AH ‹_›
def DJ(L:List (List Key))(k:List Key):Int:=(L.countP λj=>iE j k:Nat)
theorem qT(e:jI a=jI b)(ma:a∈L):decide (DJ L a<DJ L b)=iE a b:=by
 unfold DJ
 cases h:iE a b with
 |true =>have:=rJ (λj=>iE j a) (λj=>iE j b) a (uL a) h L ma λx _ hx=>vh hx h;exact decide_eq_true (by lia)
 |false =>
  apply decide_eq_false
  cases g:iE b a with
  |false=>rw[pY e h g];lia
  |true =>have:=count_le (λj=>iE j b) (λj=>iE j a) L λx _ hx=>vh hx g;lia
def Tx:V->Option Key
 |.int i=>some (.inl i)
 |.str x=>some (.inr x)
 |_=>none
theorem Ht(k:Key):Tx (kV k)=some k:=by cases k<;>rfl
theorem zE:∀ k:List Key,(k.map kV).filterMap Tx=k
 |[]=>rfl
 |a :: as=>by rw[gI,AA,Ht,zE as]
def qw(H:Hp):ah->List Key
 |.ref b=>match H b with
  |some (.tup xs)=>xs.filterMap Tx
  |_=>[]
 |_=>[]
theorem cZ(h:H b=some (.tup (k.map kV))):qw H (.ref b)=k:=by simp only[qw,h];exact zE k
section
variable {prog:dz}{w:dA}{A:eJ}{E:ah->aE->Prop}{s:aE}{Q:Bool->aE->Prop}
theorem Er(ru:RelV (kV a) u)(rv:RelV (kV b) v)(e:pz a=pz b)(q:Q (qA a b) s):aT (aS prog w) A (oneLt' false u v) Q E s:=by
 refine PySem.W.kat_one u v ?_
 cases a with
 |inl i =>
  cases b with
  |inr x=>cases e
  |inl j =>obtain⟨t,rfl⟩:=ru;obtain⟨t',rfl⟩:=rv;exact lt_int q
 |inr x =>
  cases b with
  |inl j=>cases e
  |inr y =>obtain⟨t,rfl⟩:=ru;obtain⟨t',rfl⟩:=rv;exact PySem.P.lt_str q
theorem CZ(ru:RelV (kV a) u)(rv:RelV (kV b) v)(e:pz a=pz b)(q:Q (decide (a=b)) s):aT (aS prog w) A (eqBool u v) Q E s:=by
 cases a with
 |inl i =>
  cases b with
  |inr x=>cases e
  |inl j =>obtain⟨t,rfl⟩:=ru;obtain⟨t',rfl⟩:=rv;refine wpAny_eqBool_int ?_;rw[<- Vb];exact q
 |inr x =>
  cases b with
  |inl j=>cases e
  |inr y =>obtain⟨t,rfl⟩:=ru;obtain⟨t',rfl⟩:=rv;refine wpAny_eqBool_str ?_;rw[<- Vc];exact q
theorem yP(k m:List Key)(us vs:List ah)(i:Nat)(ha:Vals (k.map kV) us)(hb:Vals (m.map kV) vs)(e:jI k=jI m)(hf:fin=false)(q:Q (iE k m) s) :
  PySem.W.KatLex prog w A true fin Q (us.zip vs) i s:=by
 induction k generalizing m us vs i with
 |nil =>
  cases m with
  |cons b m=>simp[jI] at e
  |nil =>rw[Paired.n0 ha,Paired.n0 hb];subst hf;exact PySem.W.kat_nil q
 |cons a k ih =>
  cases m with
  |nil=>simp[jI] at e
  |cons b m =>
   obtain⟨u,us,rfl,ra,rk⟩:=Paired.c ha;obtain⟨v,vs,rfl,rb,rm⟩:=Paired.c hb;simp only[jI,gI,List.cons.injEq] at e;rw[Lv];refine PySem.W.kat_cons (CZ ra rb e.1 (PySem.W.kat_go (λh=>PySem.W.kat_yes ?_) (λh=>PySem.W.kat_no ?_)))
   ·have h:=of_decide_eq_true h;subst h;unfold iE at q;rw[if_pos rfl] at q;exact ih m _ _ (i+1) rk rm e.2 q
   ·have h:=of_decide_eq_false h;unfold iE at q;rw[if_neg h] at q;by_cases h0:i=0
    ·subst h0
     cases a with
     |inr x =>
      cases b with
      |inl j=>cases e.1
      |inr y =>obtain⟨t,rfl⟩:=ra;obtain⟨t',rfl⟩:=rb;exact oneLt_str q
     |inl i =>
      cases b with
      |inr x=>cases e.1
      |inl j =>obtain⟨t,rfl⟩:=ra;obtain⟨t',rfl⟩:=rb;exact oneLt_int q
    ·rw[show(true && i == 0)=false by simp[h0]];exact Er ra rb e.1 q
end
section
variable {X:Cx}{pins:List (ag × Obj)}{σ:St}{H:Hp}{s:aE}
theorem Inv.tup(I:Inv X pins σ H s)(h:H b=some (.tup xs)):∃ its:List ah,Vals xs its/\IsTup s.heap b its.toArray:=(I.bT b _ h).2
theorem yK(I:Inv X pins σ H s)(kp:∀ b o,s.heap.get? b=some o->s'.heap.get? b=some o) :
  DC.oi X.prog X.w A s' (tuples' true) (λv=>DJ L (qw H v)) (λv=>∃ b k,v=.ref b/\H b=some (.tup (k.map kV))/\jI k=b0 :: sh/\k∈L):=by
 rintro x y ⟨b,k,rfl,hb,hk,mk⟩ ⟨c,m,rfl,hc,hm,mm⟩ Q E q;obtain⟨us,ru,o,e1,c1,n1,d1⟩:=I.tup hb;obtain⟨vs,rv,o',e2,c2,n2,d2⟩:=I.tup hc;have Tz:jI k=jI m:=hk.trans hm.symm;simp only[cZ hb,cZ hc] at q;rw[qT Tz mk] at q;refine PySem.W.kat_lt (kp _ _ e1) d1 (kp _ _ e2) d2 (yP k m us vs 0 ru rv Tz ?_ q)
 ·have h1:=ru.length;have h2:=rv.length;have h3:k.length=m.length:=by have:=congrArg List.length Tz;simpa[jI] using this
  simp only[dn] at h1 h2;exact decide_eq_false (by simp only[iA];lia)
theorem kat_tups(I:Inv X pins σ H s){s':aE}(kp:∀ b o,s.heap.get? b=some o->s'.heap.get? b=some o){b0:Bool}{sh:List Bool}{ys:List V}{ks:List (List Key)}{vs:List ah}(ht:cR H ys ks)(hv:Vals ys vs)(hs:∀ k∈ks,jI k=b0 :: sh) :
  ∃ fs:List ah,PySem.W.KatTups s'.heap vs fs/\fs.length=vs.length/\∀ f∈fs,(b0=true->∃ i t,f=Value.int i t)/\(b0=false->∃ x t,f=Value.str x t):=by
 induction ys generalizing ks vs with
 |nil =>rw[Paired.n0 hv];exact⟨[],.nil,rfl,by simp⟩
 |cons y ys ih =>
  obtain⟨k,ks,rfl,⟨b,rfl,hb⟩,t⟩:=Paired.c ht;obtain⟨v,vs,rfl,rfl,rs⟩:=Paired.c hv;obtain⟨fs,f1,f2,f3⟩:=ih t rs λj hj=>hs j (eP _ hj);have hk:=hs k ft;obtain⟨us,ru,o,e1,c1,n1,d1⟩:=I.tup hb
  cases k with
  |nil=>simp[jI] at hk
  |cons a k =>
   obtain⟨u,us,rfl,ra,rr⟩:=Paired.c ru;simp only[jI,gI,List.cons.injEq] at hk;refine⟨u :: fs,.cons (kp _ _ e1) c1 d1 rfl f1,by simp[f2],λf hf=>?_⟩;rcases eM.mp hf with rfl|hf
   ·cases a with
    |inr x =>obtain⟨tk,rfl⟩:=ra;exact⟨(λz=>by rw[<- hk.1] at z;cases z),λ_=>⟨_,_,rfl⟩⟩
    |inl i =>obtain⟨tk,rfl⟩:=ra;exact⟨λ_=>⟨_,_,rfl⟩,λz=>by rw[<- hk.1] at z;cases z⟩
   ·exact f3 f hf
end
theorem cR.of{H:Hp}{ks:List (List Key)}(vs:List ah)(h:∀ v∈vs,∃ b k,v=Value.ref b/\H b=some (.tup (k.map kV))/\k∈ks):∃ zs,cR H zs (vs.map (qw H))/\Vals zs vs:=by
 induction vs with
 |nil=>exact⟨[],.nil,.nil⟩
 |cons v vs ih =>obtain⟨zs,a,c⟩:=ih λu hu=>h u (eP _ hu);obtain⟨b,k,rfl,e,_⟩:=h v ft;exact⟨.ref b :: zs,.cons ⟨b,rfl,by rw[cZ e];exact e⟩ a,.cons rfl c⟩
end L2
namespace DC
open PySem PyProof.Rows
end DC
namespace L2
open PySem PySem.Spec PyProof.Rows
def ir:ah->List Key
 |.int i _=>[.inl i]
 |.str x _=>[.inr x]
 |_=>[]
theorem jn(h:RelV (kV k) v):ir v=[k]:=by
 cases k with
 |inl i=>obtain⟨t,rfl⟩:=h;rfl
 |inr x=>obtain⟨t,rfl⟩:=h;rfl
theorem vV:iE [a] [b]=qA a b:=by
 unfold iE;by_cases e:a=b
 ·subst e;rw[if_pos rfl,vL];rfl
 ·rw[if_neg e]
theorem xO{prog:dz}{w:dA}{A:eJ}{s:aE}{b:Bool}{L:List Key} :
  DC.oi prog w A s oneType' (λv=>DJ (L.map λk=>[k]) (ir v)) (λv=>∃ k,RelV (kV k) v/\pz k=b/\k∈L):=by
 rintro x y ⟨k,rk,ik,mk⟩ ⟨m,rm,im,mm⟩ Q E q;simp only[jn rk,jn rm] at q;rw[qT (by simp[jI,ik,im]) (eK.mpr ⟨k,mk,rfl⟩),vV] at q;rw[keyLt'_oneType]
 cases k with
 |inl i =>
  cases m with
  |inr y=>rw[<- im] at ik;cases ik
  |inl j =>obtain⟨t,rfl⟩:=rk;obtain⟨u,rfl⟩:=rm;exact oneLt_int q
 |inr x =>
  cases m with
  |inl y=>rw[<- im] at ik;cases ik
  |inr j =>obtain⟨t,rfl⟩:=rk;obtain⟨u,rfl⟩:=rm;exact oneLt_str q
theorem ints_of{ks:List Key}{vs:List ah}(r:Vals (ks.map kV) vs)(h:∀ k∈ks,pz k=true):∃ ns,IntsAre vs ns:=by
 induction ks generalizing vs with
 |nil=>rw[Paired.n0 r];exact⟨[],.nil⟩
 |cons k ks ih =>
  obtain⟨v,vs,rfl,r,rs⟩:=Paired.c r;obtain⟨ns,q⟩:=ih rs λj hj=>h j (eP _ hj);have:=h k ft
  cases k with
  |inr x=>cases this
  |inl i=>obtain⟨t,rfl⟩:=r;exact⟨_,.cons i t q⟩
theorem Aa{ks:List Key}{vs:List ah}(r:Vals (ks.map kV) vs)(h:∀ k∈ks,pz k=false):∃ ns,StrsAre vs ns:=by
 induction ks generalizing vs with
 |nil=>rw[Paired.n0 r];exact⟨[],.nil⟩
 |cons k ks ih =>
  obtain⟨v,vs,rfl,r,rs⟩:=Paired.c r;obtain⟨ns,q⟩:=ih rs λj hj=>h j (eP _ hj);have:=h k ft
  cases k with
  |inl x=>cases this
  |inr i=>obtain⟨t,rfl⟩:=r;exact⟨_,.cons i t q⟩
theorem uA{prog:dz}{w:dA}{A:eJ}{E:ah->aE->Prop}{s:aE}{b:Bool}{ks:List Key}{vs:List ah}(r:Vals (ks.map kV) vs)(h:∀ k∈ks,pz k=b)(h2:2<=vs.length){Q:sR->aE->Prop}(q:Q oneType' s) :
  aT (aS prog w) A (keyKind' vs.toArray) Q E s:=by
 match vs,h2 with
 |v1 :: v2 :: vs,_ =>
  cases b with
  |true=>obtain⟨ns,hI⟩:=ints_of r h;rw[keyKind_ints hI];exact bI q
  |false=>obtain⟨ns,hI⟩:=Aa r h;rw[keyKind_strs hI];exact bI q
theorem keys_map{ks:List Key}{vs:List ah}(r:Vals (ks.map kV) vs):vs.map ir=ks.map λk=>[k]:=by
 induction ks generalizing vs with
 |nil=>rw[Paired.n0 r];rfl
 |cons k ks ih =>obtain⟨u,vs,rfl,r,rs⟩:=Paired.c r;rw[gI,gI,jn r,ih rs]
theorem pG{ks:List Key}(vs:List ah)(h:∀ v∈vs,∃ k,RelV (kV k) v/\k∈ks):∃ ms:List Key,Vals (ms.map kV) vs:=by
 induction vs with
 |nil=>exact⟨[],.nil⟩
 |cons v vs ih =>obtain⟨ms,r⟩:=ih λu hu=>h u (eP _ hu);obtain⟨k,rk,_⟩:=h v ft;exact⟨k :: ms,.cons rk r⟩
theorem vg:∀ {ms ks:List Key},(ms.map λk=>[k]).Perm (ks.map λk=>[k])->ms.Perm ks:=λ{ms ks} h=>by have:=h.map (λl:List Key=>l.head?);simp only[i7] at this;have e:∀ l:List Key,l.map ((λl:List Key=>l.head?) ∘ λk=>[k])=l.map some:=λl=>M6 λ_ _=>rfl;rw[e,e] at this;have:=this.filterMap id;simpa using this
end L2
namespace L2.Q
open PySem PySem.Spec PyProof.Rows
inductive D where
 |non|bl (b:Bool)|int (i:Int)|str (x:Str)
 |list (xs:List D)|tup (xs:List D)|dK (ae:List (Key × D))|dT (ae:List (List Key × D))
mutual
/-- nothing in it can be changed -/
def D.flat:D->Bool
 |.list _=>false
 |.dK _=>false
 |.dT _=>false
 |.tup xs=>dQ xs
 |_=>true
def dQ:List D->Bool
 |[]=>true
 |x :: xs=>x.flat && dQ xs
end
theorem jq:∀ {xs:List D},dQ xs=true↔∀ x∈xs,x.flat=true
 |[]=>by simp[dQ]
 |x :: xs=>by simp[dQ,jq (xs:=xs)]
theorem iG{xs ys:List D}:dQ (xs++ys)=(dQ xs && dQ ys):=by
 induction xs with
 |nil=>simp[dQ]
 |cons x xs ih=>simp[dQ,ih,Bool.and_assoc]
def y9:Key->Bool
 |.inl _=>true
 |.inr x=>decide (x.length<=bX)
def Qu(ae:List (Key × D)):Prop:=ae.length<=bX/\∀ p∈ae,y9 p.1=true
def Qw(ae:List (List Key × D)):Prop:=ae.length<=bX/\∀ p∈ae,p.1.length<=bX/\∀ k∈p.1,y9 k=true
mutual
inductive Rep(K:aI)(H:Hp):D->V->Prop
 |non:Rep K H .non .non
 |bl (b:Bool):Rep K H (.bl b) (.bl b)
 |int (i:Int):Rep K H (.int i) (.int i)
 |str {x:Str}:x.length<=bX->Rep K H (.str x) (.str x)
 |list {a:ag} {vs:List V} {ds:List D}:vs.length<=bX->fF K H a vs->b9 K H ds vs->Rep K H (.list ds) (.ref a)
 |tup {a:ag} {vs:List V} {ds:List D}:vs.length<=bX->H a=some (.tup vs)->b9 K H ds vs->Rep K H (.tup ds) (.ref a)
 |dK {a:ag} {vs:List V} {ae:List (Key × D)}:Qu ae->Rd H a (.dK ((ae.map (·.1)).zip vs))->b9 K H (ae.map (·.2)) vs->Rep K H (.dK ae) (.ref a)
 |dT {a:ag} {vs:List V} {ae:List (List Key × D)}:Qw ae->Rd H a (.dT ((ae.map (·.1)).zip vs))->b9 K H (ae.map (·.2)) vs->Rep K H (.dT ae) (.ref a)
inductive b9(K:aI)(H:Hp):List D->List V->Prop
 |nil:b9 K H [] []
 |cons {d:D} {v:V} {ds:List D} {vs:List V}:Rep K H d v->b9 K H ds vs->b9 K H (d :: ds) (v :: vs)
end
theorem Rep.ind{K:aI}{H:Hp}{m1:D->V->Prop}{m2:List D->List V->Prop}(h0:m1 .non .non)(hb:∀ b,m1 (.bl b) (.bl b))(hi:∀ i,m1 (.int i) (.int i))(hs:∀ x,x.length<=bX->m1 (.str x) (.str x))(hl:∀ a vs ds,vs.length<=bX->fF K H a vs->b9 K H ds vs->m2 ds vs->m1 (.list ds) (.ref a)) (ht:∀ a vs ds,vs.length<=bX->H a=some (.tup vs)->b9 K H ds vs->m2 ds vs->m1 (.tup ds) (.ref a))(hk:∀ a vs ae,Qu ae->Rd H a (.dK ((ae.map (·.1)).zip vs))->b9 K H (ae.map (·.2)) vs->m2 (ae.map (·.2)) vs->m1 (.dK ae) (.ref a)) (hT:∀ a vs ae,Qw ae->Rd H a (.dT ((ae.map (·.1)).zip vs))->b9 K H (ae.map (·.2)) vs->m2 (ae.map (·.2)) vs->m1 (.dT ae) (.ref a))(hn:m2 [] []) (hc:∀ d v ds vs,Rep K H d v->b9 K H ds vs->m1 d v->m2 ds vs->m2 (d :: ds) (v :: vs)):(∀ {d v},Rep K H d v->m1 d v)/\∀ {ds vs},b9 K H ds vs->m2 ds vs :=
 ⟨λr=>Rep.rec (motive_1:=λd v _=>m1 d v) (motive_2:=λds vs _=>m2 ds vs) h0 hb hi (λh=>hs _ h) (λz s r ih=>hl _ _ _ z s r ih) (λz s r ih=>ht _ _ _ z s r ih) (λz s r ih=>hk _ _ _ z s r ih) (λz s r ih=>hT _ _ _ z s r ih) hn (λr s a b=>hc _ _ _ _ r s a b) r,
  λr=>b9.rec (motive_1:=λd v _=>m1 d v) (motive_2:=λds vs _=>m2 ds vs) h0 hb hi (λh=>hs _ h) (λz s r ih=>hl _ _ _ z s r ih) (λz s r ih=>ht _ _ _ z s r ih) (λz s r ih=>hk _ _ _ z s r ih) (λz s r ih=>hT _ _ _ z s r ih) hn (λr s a b=>hc _ _ _ _ r s a b) r⟩
theorem k8.k'{H:Hp}{a:ag}{ae:List (Key × V)}{k:Key}(e:Rd H a (.dK ae)):k8 H a (kV k) (kX ae k):=.inl ⟨ae,k,e,rfl,rfl⟩
theorem k8.t'{H:Hp}{a b:ag}{ae:List (List Key × V)}{k:List Key}(e:Rd H a (.dT ae))(eb:H b=some (.tup (k.map kV))):k8 H a (.ref b) (kX ae k):=.inr ⟨ae,k,b,e,rfl,eb,rfl⟩
theorem bG.rd{H H':Hp}(s:bG H H'){a:ag}{u:HO}(h:Rd H a u):Rd H' a u:=h.imp (s _ _) λ⟨o,e⟩=>⟨o,s _ _ e⟩
theorem Rep.F_{K:aI}{H H':Hp}(s:bG H H'):(∀ {d:D} {v:V},Rep K H d v->Rep K H' d v)/\∀ {ds:List D} {vs:List V},b9 K H ds vs->b9 K H' ds vs :=
 Rep.ind .non .bl .int (λ_ h=>.str h) (λ_ _ _ z h _ ih=>.list z (s.lst h) ih) (λ_ _ _ z h _ ih=>.tup z (s _ _ h) ih) (λ_ _ _ kk h _ ih=>.dK kk (bG.rd s h) ih) (λ_ _ _ kk h _ ih=>.dT kk (bG.rd s h) ih) .nil λ_ _ _ _ _ _ a b=>.cons a b
theorem Rep.same{K:aI}{H H':Hp}(s:bG H H'){d:D}{v:V}(r:Rep K H d v):Rep K H' d v:=(Rep.F_ s).1 r
theorem b9.same{K:aI}{H H':Hp}(s:bG H H'){ds:List D}{vs:List V}(r:b9 K H ds vs):b9 K H' ds vs:=(Rep.F_ s).2 r
theorem b9.ind{K:aI}{H:Hp}{m:List D->List V->Prop}(hn:m [] [])(hc:∀ d v ds vs,Rep K H d v->b9 K H ds vs->m ds vs->m (d :: ds) (v :: vs)):∀ {ds vs},b9 K H ds vs->m ds vs :=
 λr=>(Rep.ind (m1:=λ_ _=>True) (m2:=m) trivial (λ_=>trivial) (λ_=>trivial) (λ_ _=>trivial) (λ_ _ _ _ _ _ _=>trivial) (λ_ _ _ _ _ _ _=>trivial) (λ_ _ _ _ _ _ _=>trivial) (λ_ _ _ _ _ _ _=>trivial) hn λd v ds vs r s _ b=>hc d v ds vs r s b).2 r
theorem b9.length{K:aI}{H:Hp}{ds:List D}{vs:List V}(r:b9 K H ds vs):ds.length=vs.length :=
 b9.ind (m:=λds vs=>ds.length=vs.length) rfl (λ_ _ _ _ _ _ ih=>by rw[vF,vF,ih]) r
theorem b9.append{K:aI}{H:Hp}{ds es:List D}{vs ws:List V}(r:b9 K H ds vs)(t:b9 K H es ws):b9 K H (ds++es) (vs++ws) :=
 b9.ind (m:=λds vs=>b9 K H (ds++es) (vs++ws)) t (λ_ _ _ _ h _ ih=>.cons h ih) r
theorem b9.get{K:aI}{H:Hp}{ds:List D}{vs:List V}{i:Nat}{d:D}(r:b9 K H ds vs)(e:ds[i]? = some d):∃ v,vs[i]? = some v/\Rep K H d v :=
 b9.ind (m:=λds vs=>∀ i d,ds[i]? = some d->∃ v,vs[i]? = some v/\Rep K H d v) (λi d e=>by simp at e) (λ_ _ _ _ h _ ih i d e=>by
  cases i with
  |zero=>simp at e;subst e;exact⟨_,rfl,h⟩
  |succ i =>
   obtain⟨v,e1,r⟩:=ih i d (by simpa using e);exact⟨v,by simpa using e1,r⟩) r i d e
theorem b9.Zd{K:aI}{H:Hp}{ds:List D}{vs:List V}{i:Nat}{v:V}(r:b9 K H ds vs)(e:vs[i]? = some v):∃ d,ds[i]? = some d/\Rep K H d v :=
 b9.ind (m:=λds vs=>∀ i v,vs[i]? = some v->∃ d,ds[i]? = some d/\Rep K H d v) (λi d e=>by simp at e) (λ_ _ _ _ h _ ih i d e=>by
  cases i with
  |zero=>simp at e;subst e;exact⟨_,rfl,h⟩
  |succ i =>
   obtain⟨v,e1,r⟩:=ih i d (by simpa using e);exact⟨v,by simpa using e1,r⟩) r i v e
theorem b9.drop{K:aI}{H:Hp}{ds:List D}{vs:List V}(n:Nat)(r:b9 K H ds vs):b9 K H (ds.drop n) (vs.drop n) :=
 b9.ind (m:=λds vs=>∀ n,b9 K H (ds.drop n) (vs.drop n)) (λn=>by rw[List.drop_nil,List.drop_nil];exact .nil) (λ_ _ _ _ h hs ih n=>by
  cases n with
  |zero=>exact .cons h hs
  |succ n=>exact ih n) r n
theorem b9.n0{K:aI}{H:Hp}{vs:List V}(h:b9 K H [] vs):vs=[]:=by cases h;rfl
theorem b9.c{K:aI}{H:Hp}{d:D}{ds:List D}{vs:List V}(h:b9 K H (d :: ds) vs):∃ u us,vs=u :: us/\Rep K H d u/\b9 K H ds us:=by
 cases h with
 |cons r rs=>exact⟨_,_,rfl,r,rs⟩
theorem b9.take{K:aI}{H:Hp}{ds:List D}{vs:List V}(n:Nat)(r:b9 K H ds vs):b9 K H (ds.take n) (vs.take n) :=
 b9.ind (m:=λds vs=>∀ n,b9 K H (ds.take n) (vs.take n)) (λn=>by rw[List.take_nil,List.take_nil];exact .nil) (λ_ _ _ _ h hs ih n=>by
  cases n with
  |zero=>exact .nil
  |succ n=>exact .cons h (ih n)) r n
mutual
/-- what is owned: a tree whose lists and kO' stand at As,kP' kQ';its leaves shared (fl: and flat) -/
inductive cw(K:aI)(Hs H:Hp)(fl:Bool):D->V->List ag->Prop
 |sh {d:D} {v:V}:(fl=true->d.flat=true)->Rep K Hs d v->cw K Hs H fl d v []
 |list {a:ag} {vs:List V} {ds:List D} {As:List ag}:vs.length<=bX->H a=some (.lst vs)->az K Hs H fl ds vs As->cw K Hs H fl (.list ds) (.ref a) (a :: As)
 |tup {a:ag} {vs:List V} {ds:List D} {As:List ag}:vs.length<=bX->Hs a=some (.tup vs)->dQ ds=false->az K Hs H fl ds vs As->cw K Hs H fl (.tup ds) (.ref a) As
 |dK {a:ag} {vs:List V} {ae:List (Key × D)} {As:List ag}:Qu ae->H a=some (.dK ((ae.map (·.1)).zip vs))->az K Hs H fl (ae.map (·.2)) vs As->cw K Hs H fl (.dK ae) (.ref a) (a :: As)
 |dT {a:ag} {vs:List V} {ae:List (List Key × D)} {As:List ag}:Qw ae->H a=some (.dT ((ae.map (·.1)).zip vs))->az K Hs H fl (ae.map (·.2)) vs As->cw K Hs H fl (.dT ae) (.ref a) (a :: As)
inductive az(K:aI)(Hs H:Hp)(fl:Bool):List D->List V->List ag->Prop
 |nil:az K Hs H fl [] [] []
 |cons {d:D} {v:V} {ds:List D} {vs:List V} {As Bs:List ag}:cw K Hs H fl d v As->az K Hs H fl ds vs Bs->az K Hs H fl (d :: ds) (v :: vs) (As++Bs)
end
def Own(H:Hp)(a:ag):Prop:=∃ o,H a=some o/\∀ vs,o≠.tup vs
section
variable {K:aI}{Hs ax H H':Hp}{fl:Bool}
theorem Own.ne{a:ag}(h:Own H a):H a≠none:=by obtain⟨_,e,_⟩:=h;rw[e];exact λz=>nomatch z
theorem Own.u5{a:ag}{vs:List V}(h:Own H a):H a≠some (.tup vs):=by obtain⟨_,e,n⟩:=h;rw[e];exact λz=>n vs (Option.some.inj z)
theorem cw.ind{m1:D->V->List ag->Prop}{m2:List D->List V->List ag->Prop}(hs:∀ d v,(fl=true->d.flat=true)->Rep K Hs d v->m1 d v [])(hl:∀ a vs ds As,vs.length<=bX->H a=some (.lst vs)->az K Hs H fl ds vs As->m2 ds vs As->m1 (.list ds) (.ref a) (a :: As)) (ht:∀ a vs ds As,vs.length<=bX->Hs a=some (.tup vs)->dQ ds=false->az K Hs H fl ds vs As->m2 ds vs As->m1 (.tup ds) (.ref a) As)(hk:∀ a vs ae As,Qu ae->H a=some (.dK ((ae.map (·.1)).zip vs))->az K Hs H fl (ae.map (·.2)) vs As->m2 (ae.map (·.2)) vs As->m1 (.dK ae) (.ref a) (a :: As)) (hT:∀ a vs ae As,Qw ae->H a=some (.dT ((ae.map (·.1)).zip vs))->az K Hs H fl (ae.map (·.2)) vs As->m2 (ae.map (·.2)) vs As->m1 (.dT ae) (.ref a) (a :: As))(hn:m2 [] [] []) (hc:∀ d v ds vs As Bs,cw K Hs H fl d v As->az K Hs H fl ds vs Bs->m1 d v As->m2 ds vs Bs->m2 (d :: ds) (v :: vs) (As++Bs)):(∀ {d v As},cw K Hs H fl d v As->m1 d v As)/\∀ {ds vs As},az K Hs H fl ds vs As->m2 ds vs As :=
 ⟨λr=>cw.rec (motive_1:=λd v As _=>m1 d v As) (motive_2:=λds vs As _=>m2 ds vs As) (λf r=>hs _ _ f r) (λz s r ih=>hl _ _ _ _ z s r ih) (λz s n r ih=>ht _ _ _ _ z s n r ih) (λz s r ih=>hk _ _ _ _ z s r ih) (λz s r ih=>hT _ _ _ _ z s r ih) hn (λr s a b=>hc _ _ _ _ _ _ r s a b) r,
  λr=>az.rec (motive_1:=λd v As _=>m1 d v As) (motive_2:=λds vs As _=>m2 ds vs As) (λf r=>hs _ _ f r) (λz s r ih=>hl _ _ _ _ z s r ih) (λz s n r ih=>ht _ _ _ _ z s n r ih) (λz s r ih=>hk _ _ _ _ z s r ih) (λz s r ih=>hT _ _ _ _ z s r ih) hn (λr s a b=>hc _ _ _ _ _ _ r s a b) r⟩
theorem zh{a:ag}{p:Prop}(h:a∈([]:List ag)):p:=absurd h FX
theorem cw.Ze:(∀ {d:D} {v:V} {As:List ag},cw K Hs H fl d v As->∀ a∈As,Own H a)/\∀ {ds:List D} {vs:List V} {As:List ag},az K Hs H fl ds vs As->∀ a∈As,Own H a :=
 cw.ind (m1:=λ_ _ As=>∀ a∈As,Own H a) (m2:=λ_ _ As=>∀ a∈As,Own H a) (λ_ _ _ _ a h=>zh h) (λ_ _ _ _ _ e _ ih a h=>(eM.mp h).elim (λz=>z ▸ ⟨_,e,λ_ z=>nomatch z⟩) (ih a)) (λ_ _ _ _ _ _ _ _ ih=>ih) (λ_ _ _ _ _ e _ ih a h=>(eM.mp h).elim (λz=>z ▸ ⟨_,e,λ_ z=>nomatch z⟩) (ih a)) (λ_ _ _ _ _ e _ ih a h=>(eM.mp h).elim (λz=>z ▸ ⟨_,e,λ_ z=>nomatch z⟩) (ih a)) (λa h=>zh h) λ_ _ _ _ _ _ _ _ i1 i2 a h=>(fh.mp h).elim (i1 a) (i2 a)
theorem cw.own{d:D}{v:V}{As:List ag}(r:cw K Hs H fl d v As):∀ a∈As,Own H a:=cw.Ze.1 r
theorem az.own{ds:List D}{vs:List V}{As:List ag}(r:az K Hs H fl ds vs As):∀ a∈As,Own H a:=cw.Ze.2 r
theorem cw.Dg(s:bG Hs ax):(∀ {d:D} {v:V} {As:List ag},cw K Hs H fl d v As->(∀ a∈As,H' a=H a)->cw K ax H' fl d v As)/\∀ {ds:List D} {vs:List V} {As:List ag},az K Hs H fl ds vs As->(∀ a∈As,H' a=H a)->az K ax H' fl ds vs As :=
 cw.ind (m1:=λd v As=>(∀ a∈As,H' a=H a)->cw K ax H' fl d v As) (m2:=λds vs As=>(∀ a∈As,H' a=H a)->az K ax H' fl ds vs As) (λ_ _ f r _=>.sh f (r.same s)) (λ_ _ _ _ z e _ ih k=>.list z ((k _ ft).trans e) (ih λa h=>k a (eP _ h))) (λ_ _ _ _ z e n _ ih k=>.tup z (s _ _ e) n (ih k)) (λ_ _ _ _ z e _ ih k=>.dK z ((k _ ft).trans e) (ih λa h=>k a (eP _ h))) (λ_ _ _ _ z e _ ih k=>.dT z ((k _ ft).trans e) (ih λa h=>k a (eP _ h))) (λ_=>.nil) λ_ _ _ _ _ _ _ _ i1 i2 k=>.cons (i1 λa h=>k a (j3 _ h)) (i2 λa h=>k a (fA _ h))
theorem cw.fN(s:bG Hs ax){d:D}{v:V}{As:List ag}(r:cw K Hs H fl d v As)(k:∀ a∈As,H' a=H a):cw K ax H' fl d v As:=(cw.Dg s).1 r k
theorem az.fN(s:bG Hs ax){ds:List D}{vs:List V}{As:List ag}(r:az K Hs H fl ds vs As)(k:∀ a∈As,H' a=H a):az K ax H' fl ds vs As:=(cw.Dg s).2 r k
theorem cw.grow{d:D}{v:V}{As:List ag}(s:bG Hs ax)(t:bG H H')(r:cw K Hs H fl d v As):cw K ax H' fl d v As :=
 r.fN s λa h=>by
  cases e:H a with
  |none=>exact absurd e (r.own a h).ne
  |some o=>exact t a o e
theorem az.grow{ds:List D}{vs:List V}{As:List ag}(s:bG Hs ax)(t:bG H H')(r:az K Hs H fl ds vs As):az K ax H' fl ds vs As :=
 r.fN s λa h=>by
  cases e:H a with
  |none=>exact absurd e (r.own a h).ne
  |some o=>exact t a o e
theorem cw.rep2{G:Hp}(s:bG Hs G):(∀ {d:D} {v:V} {As:List ag},cw K Hs H fl d v As->(∀ a∈As,G a=H a)->Rep K G d v)/\∀ {ds:List D} {vs:List V} {As:List ag},az K Hs H fl ds vs As->(∀ a∈As,G a=H a)->b9 K G ds vs :=
 cw.ind (m1:=λd v As=>(∀ a∈As,G a=H a)->Rep K G d v) (m2:=λds vs As=>(∀ a∈As,G a=H a)->b9 K G ds vs) (λ_ _ _ r _=>r.same s) (λ_ _ _ _ z e _ ih k=>.list z (.inl (.inl ((k _ ft).trans e))) (ih λa h=>k a (eP _ h))) (λ_ _ _ _ z e n _ ih k=>.tup z (s _ _ e) (ih k)) (λ_ _ _ _ z e _ ih k=>.dK z (.inl ((k _ ft).trans e)) (ih λa h=>k a (eP _ h))) (λ_ _ _ _ z e _ ih k=>.dT z (.inl ((k _ ft).trans e)) (ih λa h=>k a (eP _ h))) (λ_=>.nil) λ_ _ _ _ _ _ _ _ i1 i2 k=>.cons (i1 λa h=>k a (j3 _ h)) (i2 λa h=>k a (fA _ h))
theorem cw.rep{G:Hp}(s:bG Hs G){d:D}{v:V}{As:List ag}(r:cw K Hs H fl d v As)(k:∀ a∈As,G a=H a):Rep K G d v:=(cw.rep2 s).1 r k
theorem az.reps{G:Hp}(s:bG Hs G){ds:List D}{vs:List V}{As:List ag}(r:az K Hs H fl ds vs As)(k:∀ a∈As,G a=H a):b9 K G ds vs:=(cw.rep2 s).2 r k
theorem Rep.vB{G:Hp}(t:∀ a vs,H a=some (.tup vs)->G a=some (.tup vs)):(∀ {d:D} {v:V},Rep K H d v->d.flat=true->Rep K G d v)/\∀ {ds:List D} {vs:List V},b9 K H ds vs->dQ ds=true->b9 K G ds vs :=
 Rep.ind (m1:=λd v=>d.flat=true->Rep K G d v) (m2:=λds vs=>dQ ds=true->b9 K G ds vs) (λ_=>.non) (λb _=>.bl b) (λi _=>.int i) (λ_ h _=>.str h) (λ_ _ _ _ _ _ _ f=>by simp[D.flat] at f) (λ_ _ _ z e _ ih f=>.tup z (t _ _ e) (ih (by simpa[D.flat] using f))) (λ_ _ _ _ _ _ _ f=>by simp[D.flat] at f) (λ_ _ _ _ _ _ _ f=>by simp[D.flat] at f) (λ_=>.nil) λ_ _ _ _ _ _ i1 i2 f=>by simp only[dQ,ja] at f;exact .cons (i1 f.1) (i2 f.2)
theorem Rep.gm{G:Hp}(t:∀ a vs,H a=some (.tup vs)->G a=some (.tup vs)){d:D}{v:V}(r:Rep K H d v)(f:d.flat=true):Rep K G d v:=(Rep.vB t).1 r f
theorem b9.gm{G:Hp}(t:∀ a vs,H a=some (.tup vs)->G a=some (.tup vs)){ds:List D}{vs:List V}(r:b9 K H ds vs)(f:dQ ds=true):b9 K G ds vs:=(Rep.vB t).2 r f
theorem b9.owned{ds:List D}{vs:List V}(r:b9 K Hs ds vs)(f:dQ ds=true):az K Hs H fl ds vs [] :=
 b9.ind (m:=λds vs=>dQ ds=true->az K Hs H fl ds vs []) (λ_=>.nil) (λ_ _ _ _ h _ ih f=>by
  simp only[dQ,ja] at f;exact .cons (As:=[]) (.sh (λ_=>f.1) h) (ih f.2)) r f
theorem b9.Fy{ds:List D}{vs:List V}(r:b9 K Hs ds vs):az K Hs H false ds vs [] :=
 b9.ind (m:=λds vs=>az K Hs H false ds vs []) .nil (λ_ _ _ _ h _ ih=>.cons (As:=[]) (.sh (λz=>Bool.noConfusion z) h) ih) r
theorem cw.Zf:(∀ {d:D} {v:V} {As:List ag},cw K Hs H fl d v As->cw K Hs H false d v As)/\∀ {ds:List D} {vs:List V} {As:List ag},az K Hs H fl ds vs As->az K Hs H false ds vs As :=
 cw.ind (λ_ _ _ r=>.sh (λz=>Bool.noConfusion z) r) (λ_ _ _ _ z e _ ih=>.list z e ih) (λ_ _ _ _ z e n _ ih=>.tup z e n ih) (λ_ _ _ _ z e _ ih=>.dK z e ih) (λ_ _ _ _ z e _ ih=>.dT z e ih) .nil λ_ _ _ _ _ _ _ _ a b=>.cons a b
theorem cw.Qx{d:D}{v:V}{As:List ag}(r:cw K Hs H fl d v As):cw K Hs H false d v As:=cw.Zf.1 r
theorem az.Qx{ds:List D}{vs:List V}{As:List ag}(r:az K Hs H fl ds vs As):az K Hs H false ds vs As:=cw.Zf.2 r
theorem cw.Aq{G:Hp}(t:∀ a vs,Hs a=some (.tup vs)->G a=some (.tup vs)):(∀ {d:D} {v:V} {As:List ag},cw K Hs H true d v As->cw K G H true d v As)/\∀ {ds:List D} {vs:List V} {As:List ag},az K Hs H true ds vs As->az K G H true ds vs As :=
 cw.ind (λ_ _ f r=>.sh f (r.gm t (f rfl))) (λ_ _ _ _ z e _ ih=>.list z e ih) (λ_ _ _ _ z e n _ ih=>.tup z (t _ _ e) n ih) (λ_ _ _ _ z e _ ih=>.dK z e ih) (λ_ _ _ _ z e _ ih=>.dT z e ih) .nil λ_ _ _ _ _ _ _ _ a b=>.cons a b
theorem cw.leaves{G:Hp}(t:∀ a vs,Hs a=some (.tup vs)->G a=some (.tup vs)){d:D}{v:V}{As:List ag}(r:cw K Hs H true d v As):cw K G H true d v As:=(cw.Aq t).1 r
theorem az.ind{m:List D->List V->List ag->Prop}(hn:m [] [] [])(hc:∀ d v ds vs As Bs,cw K Hs H fl d v As->az K Hs H fl ds vs Bs->m ds vs Bs->m (d :: ds) (v :: vs) (As++Bs)):∀ {ds vs As},az K Hs H fl ds vs As->m ds vs As :=
 λr=>(cw.ind (m1:=λ_ _ _=>True) (m2:=m) (λ_ _ _ _=>trivial) (λ_ _ _ _ _ _ _ _=>trivial) (λ_ _ _ _ _ _ _ _ _=>trivial) (λ_ _ _ _ _ _ _ _=>trivial) (λ_ _ _ _ _ _ _ _=>trivial) hn λd v ds vs As Bs r s _ b=>hc d v ds vs As Bs r s b).2 r
theorem az.append{ds es:List D}{vs ws:List V}{As Bs:List ag}(r:az K Hs H fl ds vs As)(t:az K Hs H fl es ws Bs):az K Hs H fl (ds++es) (vs++ws) (As++Bs) :=
 az.ind (m:=λds vs As=>az K Hs H fl (ds++es) (vs++ws) (As++Bs)) t (λ_ _ _ _ _ _ h _ ih=>by
  rw[AB];exact .cons h ih) r
theorem az.n0{vs:List V}{As:List ag}(h:az K Hs H fl [] vs As):vs=[]/\As=[]:=by cases h;exact⟨rfl,rfl⟩
theorem az.c{d:D}{ds:List D}{vs:List V}{As:List ag}(h:az K Hs H fl (d :: ds) vs As):∃ u us A B,vs=u :: us/\As=A++B/\cw K Hs H fl d u A/\az K Hs H fl ds us B:=by
 cases h with
 |cons r rs=>exact⟨_,_,_,_,rfl,rfl,r,rs⟩
theorem az.length{ds:List D}{vs:List V}{As:List ag}(r:az K Hs H fl ds vs As):ds.length=vs.length :=
 az.ind (m:=λds vs _=>ds.length=vs.length) rfl (λ_ _ _ _ _ _ _ _ ih=>by rw[vF,vF,ih]) r
end
def eL':HO->Prop
 |.dK _=>False
 |.dT _=>False
 |.mM _ _=>False
 |_=>True
def Zg(H H':Hp):Prop:=∀ a o,eL' o->H a=some o->H' a=some o
structure Zh where
 is:Hp->Hp->ag->List ag->Prop
 fN:∀ {Hs ax H H':Hp} {a:ag} {As:List ag},Zg Hs ax->(∀ b∈As,H' b=H b)->is Hs H a As->is ax H' a As
 own:∀ {Hs H:Hp} {a:ag} {As:List ag},is Hs H a As->∀ b∈As,Own H b
theorem qy{H H':Hp}(s:bG H H'):Zg H H':=λa o _ e=>s a o e
inductive Sl where
 /-- shared;owned;owned and walked by a loop just now (at a) -/
 |sh (d:D)|ow (fl:Bool) (d:D)|lk (a:ag) (fl:Bool) (d:D)
 /-- an exception,at a -/
 |xc (a:ag)
 /-- an object,at a -/
 |ob (a:ag) (p:Zh)
abbrev Env:=List (Option Sl)
inductive SR(K:aI)(Hs H:Hp):Env->St->List ag->Prop
 |nil:SR K Hs H [] [] []
 |non {ρ:Env} {σ:St} {ai:List ag} {o:Option V}:SR K Hs H ρ σ ai->SR K Hs H (none :: ρ) (o :: σ) ai
 |sh {ρ:Env} {σ:St} {ai:List ag} {d:D} {v:V}:Rep K Hs d v->SR K Hs H ρ σ ai->SR K Hs H (some (.sh d) :: ρ) (some v :: σ) ai
 |xc {ρ:Env} {σ:St} {ai:List ag} {a:ag}:SR K Hs H ρ σ ai->SR K Hs H (some (.xc a) :: ρ) (some (.ref a) :: σ) ai
 |ow {ρ:Env} {σ:St} {ai As:List ag} {fl:Bool} {d:D} {v:V}:As≠[]->cw K Hs H fl d v As->SR K Hs H ρ σ ai->SR K Hs H (some (.ow fl d) :: ρ) (some v :: σ) (As++ai)
 |lk {ρ:Env} {σ:St} {ai As:List ag} {a:ag} {fl:Bool} {d:D}:As≠[]->cw K Hs H fl d (.ref a) As->SR K Hs H ρ σ ai->SR K Hs H (some (.lk a fl d) :: ρ) (some (.ref a) :: σ) (As++ai)
 |ob {ρ:Env} {σ:St} {ai As:List ag} {a:ag} {p:Zh}:p.is Hs H a As->SR K Hs H ρ σ ai->SR K Hs H (some (.ob a p) :: ρ) (some (.ref a) :: σ) (As++ai)
structure Wf(Hs H:Hp):Prop where
 sub:bG Hs H
 iO:∀ a vs,H a=some (.tup vs)->Hs a=some (.tup vs)
structure eB(K:aI)(Hs:Hp)(ρ:Env)(σ:St)(H:Hp)(ai:List ag):Prop where
 sr:SR K Hs H ρ σ ai
 wf:Wf Hs H
 tN:ai.Nodup
 own:∀ a∈ai,Hs a=none
structure eT(Hs H ax H':Hp):Prop where
 all:bG H H'
 sh:bG Hs ax
 wf:Wf ax H'
 new:∀ a,ax a≠none->Hs a≠none\/H a=none
section
variable {K:aI}{Hs H ax H' Zi Zj:Hp}
theorem eT.refl(w:Wf Hs H):eT Hs H Hs H:=⟨bG.refl _,bG.refl _,w,λ_ h=>.inl h⟩
theorem eT.trans(a:eT Hs H ax H')(b:eT ax H' Zi Zj):eT Hs H Zi Zj :=
 ⟨a.all.trans b.all,a.sh.trans b.sh,b.wf,λc h=>by
  rcases b.new c h with h|h
  ·exact a.new c h
  ·exact .inr (a.all.free h)⟩
theorem eT.lT(g:eT Hs H ax H'){a:ag}(h:Hs a=none)(h':H a≠none):ax a=none:=by
 cases e:ax a with
 |none=>rfl
 |some o =>
  rcases g.new a (by rw[e];exact λz=>nomatch z) with z|z
  ·exact absurd h z
  ·exact absurd z h'
theorem SR.own{ρ:Env}{σ:St}{ai:List ag}(s:SR K Hs H ρ σ ai):∀ a∈ai,Own H a:=by
 induction s with
 |nil=>exact λa h=>zh h
 |non _ ih=>exact ih
 |sh _ _ ih=>exact ih
 |xc _ ih=>exact ih
 |ow _ r _ ih=>exact λa h=>(fh.mp h).elim (r.own a) (ih a)
 |lk _ r _ ih=>exact λa h=>(fh.mp h).elim (r.own a) (ih a)
 |@ob _ _ _ _ _ p r _ ih=>exact λa h=>(fh.mp h).elim (p.own r a) (ih a)
theorem SR.fN(s:bG Hs ax){ρ:Env}{σ:St}{ai:List ag}(r:SR K Hs H ρ σ ai):(∀ a∈ai,H' a=H a)->SR K ax H' ρ σ ai:=by
 induction r with
 |nil=>exact λ_=>.nil
 |non _ ih=>exact λk=>.non (ih k)
 |sh h _ ih=>exact λk=>.sh (h.same s) (ih k)
 |xc _ ih=>exact λk=>.xc (ih k)
 |ow ne h _ ih=>exact λk=>.ow ne (h.fN s λa m=>k a (j3 _ m)) (ih λa m=>k a (fA _ m))
 |lk ne h _ ih=>exact λk=>.lk ne (h.fN s λa m=>k a (j3 _ m)) (ih λa m=>k a (fA _ m))
 |@ob _ _ _ _ _ p h _ ih=>exact λk=>.ob (p.fN (qy s) (λa m=>k a (j3 _ m)) h) (ih λa m=>k a (fA _ m))
theorem eB.grow{ρ:Env}{σ:St}{ai:List ag}(r:eB K Hs ρ σ H ai)(g:eT Hs H ax H'):eB K ax ρ σ H' ai :=
 ⟨r.sr.fN g.sh λa h=>by
  cases e:H a with
  |none=>exact absurd e (r.sr.own a h).ne
  |some o=>exact g.all a o e,g.wf,r.tN,λa h=>g.lT (r.own a h) (r.sr.own a h).ne⟩
theorem SR.length{ρ:Env}{σ:St}{ai:List ag}(s:SR K Hs H ρ σ ai):ρ.length=σ.length:=by
 induction s with
 |nil=>rfl
 |non _ ih=>exact congrArg (· + 1) ih
 |sh _ _ ih=>exact congrArg (· + 1) ih
 |xc _ ih=>exact congrArg (· + 1) ih
 |ow _ _ _ ih=>exact congrArg (· + 1) ih
 |lk _ _ _ ih=>exact congrArg (· + 1) ih
 |ob _ _ ih=>exact congrArg (· + 1) ih
def yZ(K:aI)(Hs H:Hp)(ai:List ag)(sl:Sl)(v:V):Prop:=match sl with
 |.sh d=>Rep K Hs d v
 |.ow fl d=>∃ As,As≠[]/\cw K Hs H fl d v As/\∀ a∈As,a∈ai
 |.lk a fl d=>∃ As,As≠[]/\cw K Hs H fl d v As/\v=.ref a/\∀ a∈As,a∈ai
 |.xc a=>v=.ref a
 |.ob a p=>v=.ref a/\∃ As,p.is Hs H a As/\∀ a∈As,a∈ai
theorem yZ.mono{ai cy:List ag}{sl:Sl}{v:V}(h:yZ K Hs H ai sl v)(m:∀ a∈ai,a∈cy):yZ K Hs H cy sl v:=by
 cases sl with
 |sh d=>exact h
 |xc a=>exact h
 |ow fl d =>obtain⟨As,ne,r,q⟩:=h;exact⟨As,ne,r,λa ha=>m a (q a ha)⟩
 |lk a fl d =>obtain⟨As,ne,r,e,q⟩:=h;exact⟨As,ne,r,e,λa ha=>m a (q a ha)⟩
 |ob a p =>obtain⟨e,As,r,q⟩:=h;exact⟨e,As,r,λa ha=>m a (q a ha)⟩
theorem SR.get{ρ:Env}{σ:St}{ai:List ag}{i:Nat}{sl:Sl}(s:SR K Hs H ρ σ ai)(e:ρ[i]? = some (some sl)):∃ v,σ[i]? = some (some v)/\yZ K Hs H ai sl v:=by
 induction s generalizing i with
 |nil=>simp at e
 |non s ih =>
  cases i with
  |zero=>simp at e
  |succ i=>exact ih e
 |sh r s ih =>
  cases i with
  |zero=>simp at e;subst e;exact⟨_,rfl,r⟩
  |succ i=>exact ih e
 |xc s ih =>
  cases i with
  |zero=>simp at e;subst e;exact⟨_,rfl,rfl⟩
  |succ i=>exact ih e
 |ow ne r s ih =>
  cases i with
  |zero=>simp at e;subst e;exact⟨_,rfl,_,ne,r,λa m=>j3 _ m⟩
  |succ i =>obtain⟨v,e1,h⟩:=ih e;exact⟨v,e1,h.mono λa m=>fA _ m⟩
 |lk ne r s ih =>
  cases i with
  |zero=>simp at e;subst e;exact⟨_,rfl,_,ne,r,rfl,λa m=>j3 _ m⟩
  |succ i =>obtain⟨v,e1,h⟩:=ih e;exact⟨v,e1,h.mono λa m=>fA _ m⟩
 |ob r s ih =>
  cases i with
  |zero=>simp at e;subst e;exact⟨_,rfl,rfl,_,r,λa m=>j3 _ m⟩
  |succ i =>obtain⟨v,e1,h⟩:=ih e;exact⟨v,e1,h.mono λa m=>fA _ m⟩
end
inductive Md where
 |sh|ow (fl:Bool)|bo|fr
def Bi(Hs H:Hp)(As:List ag):Hp:=λa=>if a∈As then H a else match Hs a with
 |some (.tup vs)=>some (.tup vs)
 |_=>none
theorem qN{Hs H G:Hp}{As:List ag}(t:∀ a vs,Hs a=some (.tup vs)->G a=some (.tup vs))(g:∀ a∈As,∀ o,H a=some o->G a=some o):bG (Bi Hs H As) G:=λa o e=>by
 unfold Bi at e;by_cases m:a∈As
 ·rw[if_pos m] at e;exact g a m o e
 ·rw[if_neg m] at e;split at e
  ·rename_i vs h;cases e;exact t a vs h
  ·cases e
theorem qF{Hs H:Hp}{As:List ag}(o:∀ a∈As,Own H a)(w:bG Hs H){a:ag}{vs:List V}(h:Hs a=some (.tup vs)):Bi Hs H As a=some (.tup vs):=by unfold Bi;rw[if_neg λm=>(o a m).u5 (w _ _ h),h]
def RM(K:aI)(Hs H:Hp):Md->D->V->List ag->Prop
 |.sh,d,v,As=>As=[]/\Rep K Hs d v
 |.ow fl,d,v,As=>cw K Hs H fl d v As/\As≠[]
 |.bo,d,v,As=>As=[]/\Rep K H d v
 |.fr,d,v,As=>(∀ a∈As,Own H a)/\Rep K (Bi Hs H As) d v
inductive zi(K:aI)(Hs H:Hp):List (Md × D)->List V->List ag->Prop
 |nil:zi K Hs H [] [] []
 |cons {m:Md} {d:D} {v:V} {ps:List (Md × D)} {vs:List V} {As Bs:List ag}:RM K Hs H m d v As->zi K Hs H ps vs Bs->zi K Hs H ((m,d) :: ps) (v :: vs) (As++Bs)
section
variable {K:aI}{Hs H ax H':Hp}
theorem RM.own{m:Md}{d:D}{v:V}{As:List ag}(r:RM K Hs H m d v As):∀ a∈As,Own H a:=by
 cases m with
 |sh=>obtain⟨rfl,_⟩:=r;exact λa h=>zh h
 |ow fl=>exact cw.own r.1
 |bo=>obtain⟨rfl,_⟩:=r;exact λa h=>zh h
 |fr=>exact r.1
theorem RM.grow{m:Md}{d:D}{v:V}{As:List ag}(r:RM K Hs H m d v As)(g:eT Hs H ax H'):RM K ax H' m d v As:=by
 have ow:(∀ a∈As,Own H a)->∀ a∈As,Own H' a:=λz a h=>let ⟨o,e,n⟩:=z a h;⟨o,g.all _ _ e,n⟩
 cases m with
 |sh=>exact⟨r.1,r.2.same g.sh⟩
 |ow fl=>exact⟨cw.grow g.sh g.all r.1,r.2⟩
 |bo=>exact⟨r.1,r.2.same g.all⟩
 |fr=>exact⟨ow r.1,r.2.same (qN (λa vs e=>qF (ow r.1) g.wf.sub (g.sh _ _ e)) λa m o e=>by unfold Bi;rw[if_pos m];exact g.all _ _ e)⟩
theorem RM.rep{m:Md}{d:D}{v:V}{As:List ag}(w:Wf Hs H)(r:RM K Hs H m d v As):Rep K H d v:=by
 cases m with
 |sh=>exact r.2.same w.sub
 |ow fl=>exact cw.rep w.sub r.1 λ_ _=>rfl
 |bo=>exact r.2
 |fr=>exact r.2.same (qN (λ_ _ e=>w.sub _ _ e) λ_ _ _ e=>e)
theorem RM.flat{m:Md}{d:D}{v:V}{As:List ag}(w:Wf Hs H)(r:RM K Hs H m d v As)(f:d.flat=true):Rep K Hs d v:=(r.rep w).gm w.iO f
theorem zi.reps(w:Wf Hs H){ps:List (Md × D)}{vs:List V}{As:List ag}(r:zi K Hs H ps vs As):b9 K H (ps.map (·.2)) vs:=by
 induction r with
 |nil=>exact .nil
 |cons r _ ih=>exact .cons (r.rep w) ih
end
abbrev WE:=Env->(Md->D->Prop)->Prop
abbrev WT:=Env->(Bool->Prop)->Prop
abbrev WA:=Env->(List (Md × D)->Prop)->Prop
structure iW where
 nx:Env->Prop
 rt:Md->D->Prop
 bk:Env->Prop:=fun _=>False
 ct:Env->Prop:=fun _=>False
abbrev WS:=iW->Env->Prop
def bL(ax H:Hp)(As:List ag):Prop:=As.Nodup/\∀ a∈As,ax a=none/\H a=none
def nS(K:aI)(t:WE):TE:=λσ H Qv=>∃ Hs ρ ai Q,eB K Hs ρ σ H ai/\t ρ Q /\
 ∀ v H' ax m d As,eT Hs H ax H'->RM K ax H' m d v As->bL ax H As->Q m d->Qv v H'
def E7(K:aI)(t:WT):TT:=λσ H Qv=>∃ Hs ρ ai Q,eB K Hs ρ σ H ai/\t ρ Q/\∀ b H' ax,eT Hs H ax H'->Q b->Qv b H'
def Qy(K:aI)(t:WA):TA:=λσ H Qv=>∃ Hs ρ ai Q,eB K Hs ρ σ H ai/\t ρ Q /\
 ∀ vs H' ax ps As,eT Hs H ax H'->zi K ax H' ps vs As->bL ax H As->Q ps->Qv vs H'
def zk(K:aI)(L:Str->Hp->Prop)(t:WS):TS:=λD σ H=>∃ Hs ρ ai E,eB K Hs ρ σ H ai/\t E ρ /\ (∀ ck H' ax da cy,bG Hs ax->eB K ax da ck H' cy->E.nx da->D.nx ck H') /\ (∀ ck H' ax da cy,bG Hs ax->eB K ax da ck H' cy->E.bk da->D.bk ck H') /\ (∀ ck H' ax da cy,bG Hs ax->eB K ax da ck H' cy->E.ct da->D.ct ck H') /\ (∀ v H' ax m d As,bG Hs ax->Wf ax H'->RM K ax H' m d v As->As.Nodup->(∀ a∈As,ax a=none)->E.rt m d->D.rt v H') /\
 ∀ n H',bG Hs H'->E.rt (.ow false) (.str n)->L n H'
theorem fL{K:aI}{L:Str->Hp->Prop}{t:WS}{D:Ends}{σ:St}{H:Hp}{G:Prop}(x:zk K L t D σ H)(k:∀ Hs ρ ai E,eB K Hs ρ σ H ai->t E ρ -> (∀ ck H' ax da cy,bG Hs ax->eB K ax da ck H' cy->E.nx da->D.nx ck H') -> (∀ ck H' ax da cy,bG Hs ax->eB K ax da ck H' cy->E.bk da->D.bk ck H') -> (∀ ck H' ax da cy,bG Hs ax->eB K ax da ck H' cy->E.ct da->D.ct ck H') -> (∀ v H' ax m d As,bG Hs ax->Wf ax H'->RM K ax H' m d v As->As.Nodup->(∀ a∈As,ax a=none)->E.rt m d->D.rt v H') -> (∀ n H',bG Hs H'->E.rt (.ow false) (.str n)->L n H')->G):G :=
 by
 obtain⟨Hs,ρ,ai,E,sr,h,k1,k2,k3,k4,kx⟩:=x;exact k Hs ρ ai E sr h k1 k2 k3 k4 kx
theorem cI{K:aI}{L:Str->Hp->Prop}{t:WS}{D:Ends}{σ:St}{H:Hp}{G:Prop}(x:zk K L t D σ H)(k:∀ Hs ρ ai E,eB K Hs ρ σ H ai->t E ρ -> (∀ ck H' ax da cy,bG Hs ax->eB K ax da ck H' cy->E.nx da->D.nx ck H') -> (∀ ck H' ax da cy,bG Hs ax->eB K ax da ck H' cy->E.bk da->D.bk ck H') -> (∀ ck H' ax da cy,bG Hs ax->eB K ax da ck H' cy->E.ct da->D.ct ck H') -> (∀ v H' ax m d As,bG Hs ax->Wf ax H'->RM K ax H' m d v As->As.Nodup->(∀ a∈As,ax a=none)->E.rt m d->D.rt v H')->G):G :=
 fL x λHs ρ ai E sr h k1 k2 k3 k4 _=>k Hs ρ ai E sr h k1 k2 k3 k4
theorem kB{α β γ δ:Type _}{A B C:α->β->γ->δ->Prop}{G:Prop}(x:∃ a b c d,A a b c d/\B a b c d/\C a b c d)(k:∀ a b c d,A a b c d->B a b c d->C a b c d->G):G :=
 by
 obtain⟨a,b,c,d,p,q,r⟩:=x;exact k a b c d p q r
abbrev QE(X:Cx)(K:aI)(e:Expr)(t:WE):Prop:=PE X e (nS K t)
abbrev QT(X:Cx)(K:aI)(e:Expr)(t:WT):Prop:=PT X e (E7 K t)
abbrev QW(X:Cx)(K:aI)(e:Expr)(t:WT):Prop:=PW X e (E7 K t)
abbrev QA(X:Cx)(K:aI)(es:List Expr)(t:WA):Prop:=PA X es (Qy K t)
abbrev QS(X:Cx)(K:aI)(L:Str->Hp->Prop)(st:Stmt)(t:WS):Prop:=PS X st (zk K L t)
abbrev tP(X:Cx)(K:aI)(L:Str->Hp->Prop)(st:List Stmt)(t:WS):Prop:=mP X st (zk K L t)
abbrev L0:Str->Hp->Prop:=λ_ _=>True
end L2.Q
namespace L2.Q
open PySem PySem.Spec PyProof.Rows
structure Kt{α:Type}(f:α->Prop):Type where
def cq{α:Type}(a:α){f:α->Prop}(_:Kt f):Prop:=f a
mutual
def D.py:D->PyData
 |.non=>.none
 |.bl b=>.bool b
 |.int i=>.int i
 |.str x=>.str x
 |.list xs=>.list (vk xs)
 |.tup xs=>.tuple (vk xs)
 |.dK _=>.none
 |.dT _=>.none
def vk:List D->List PyData
 |[]=>[]
 |x :: xs=>x.py :: vk xs
end
def dE:Nat->D->Bool
 |_,.non=>true
 |_,.bl _=>true
 |_,.int _=>true
 |_,.str x=>PyData.strOk x
 |n+1,.list xs=>xs.all (dE n)
 |n+1,.tup xs=>xs.all (dE n)
 |_,_=>false
def kC(x y:D):Bool:=PyData.eqv x.py y.py
def D.ty:D->String
 |.non => "NoneType"
 |.bl _ => "bool"
 |.int _ => "int"
 |.str _ => "str"
 |.list _ => "list"
 |.tup _ => "tuple"
 |.dK _ => "dict"
 |.dT _ => "dict"
def D.key1:D->Option Key
 |.int i=>some (.inl i)
 |.str x=>some (.inr x)
 |_=>none
def dG:List D->Option (List Key)
 |[]=>some []
 |x :: xs=>match x.key1,dG xs with
  |some k,some ks=>some (k :: ks)
  |_,_=>none
section
variable {κ:Type}[DecidableEq κ]{β:Type}
def fP(ae:List (κ × β))(k:κ):Option β:=(ae.find? λkv=>decide (kv.1=k)).map (·.2)
def nV(ae:List (κ × β))(k:κ)(v:β):List (κ × β) :=
 if (ae.any λkv=>decide (kv.1=k))=true then ae.map (λkv=>if kv.1=k then (kv.1,v) else kv) else ae++[(k,v)]
end
theorem Rep.l22{K:aI}{H:Hp}:(∀ {d:D} {v:V},Rep K H d v->∀ n,dE n d=true->L2.Rep K H d.py v)/\∀ {ds:List D} {vs:List V},b9 K H ds vs->∀ n,(∀ d∈ds,dE n d=true)->L2.b9 K H (vk ds) vs :=
 Rep.ind (m1:=λd v=>∀ n,dE n d=true->L2.Rep K H d.py v) (m2:=λds vs=>∀ n,(∀ d∈ds,dE n d=true)->L2.b9 K H (vk ds) vs) (λ_ _=>.none) (λb _ _=>.bool b) (λi _ _=>.int i) (λ_ _ _ _=>.str _) (λ_ _ _ _ h _ ih n o=>by
   cases n with
   |zero=>simp[dE] at o
   |succ n=>exact .list h (ih n (by simpa[dE] using o)))
  (λ_ _ _ _ h _ ih n o=>by
   cases n with
   |zero=>simp[dE] at o
   |succ n=>exact .tuple (.inl (.inl h)) (ih n (by simpa[dE] using o)))
  (λ_ _ _ _ _ _ _ n o=>by cases n<;>simp[dE] at o) (λ_ _ _ _ _ _ _ n o=>by cases n<;>simp[dE] at o) (λ_ _=>.nil)
  λ_ _ _ _ _ _ i1 i2 n o=>.cons (i1 n (o _ ft)) (i2 n λd m=>o d (eP _ m))
theorem Rep.l2{K:aI}{H:Hp}{n:Nat}{d:D}{v:V}(r:Rep K H d v)(o:dE n d=true):L2.Rep K H d.py v:=Rep.l22.1 r n o
theorem vZ{n:Nat}(ih:∀ d,dE n d=true->d.py.canLay0=true/\d.py.depth<=n)(xs:List D)(h:∀ x∈xs,dE n x=true):PyData.canLayAll0 (vk xs)=true/\PyData.depthAll (vk xs)<=n:=by
 induction xs with
 |nil=>exact⟨rfl,eW _⟩
 |cons x xs TB =>have h1:=ih x (h x ft);have h2:=TB λy hy=>h y (eP _ hy);simp only[vk,PyData.canLayAll0,PyData.depthAll,h1.1,h2.1,Bool.and_self,true_and];lia
theorem rP(n:Nat):∀ (d:D),dE n d=true->d.py.canLay0=true/\d.py.depth<=n:=by
 have st:∀ (n:Nat) (x:Str),dE n (.str x)=true->(D.str x).py.canLay0=true/\(D.str x).py.depth<=n:=λn x h=>by
  have h:PyData.strOk x=true:=by cases n<;>simpa[dE] using h
  exact⟨by simpa[D.py,PyData.canLay0] using h,eW _⟩
 induction n with
 |zero =>
  intro d h
  cases d with
  |str x=>exact st _ x h
  |non=>exact⟨rfl,eW _⟩
  |bl _=>exact⟨rfl,eW _⟩
  |int _=>exact⟨rfl,eW _⟩
  |_=>simp[dE] at h
 |succ n ih =>
  intro d h
  cases d with
  |str x=>exact st _ x h
  |non=>exact⟨rfl,eW _⟩
  |bl _=>exact⟨rfl,eW _⟩
  |int _=>exact⟨rfl,eW _⟩
  |list xs =>
   have h:∀ x∈xs,dE n x=true:=by simpa[dE] using h
   have:=vZ ih xs h;simp only[D.py,PyData.canLay0,PyData.depth];exact⟨this.1,by lia⟩
  |tup xs =>
   have h:∀ x∈xs,dE n x=true:=by simpa[dE] using h
   have:=vZ ih xs h;simp only[D.py,PyData.canLay0,PyData.depth];exact⟨this.1,by lia⟩
  |dK _=>simp[dE] at h
  |dT _=>simp[dE] at h
mutual
def D.nb:D->Bool
 |.bl _=>false
 |.list xs=>qB xs
 |.tup xs=>qB xs
 |.dK _=>false
 |.dT _=>false
 |_=>true
def qB:List D->Bool
 |[]=>true
 |x :: xs=>x.nb && qB xs
end
mutual
theorem lZ:∀ (x y:D),x.nb=true->y.nb=true->(kC x y=true↔x=y)
 |.non,y,_,hy=>by cases y<;>simp_all [kC,D.py,PyData.eqv,D.nb]
 |.bl _,y,hx,_=>by simp[D.nb] at hx
 |.int i,y,_,hy=>by cases y<;>simp_all [kC,D.py,PyData.eqv,D.nb]
 |.str i,y,_,hy=>by cases y<;>simp_all [kC,D.py,PyData.eqv,D.nb]
 |.dK _,y,hx,_=>by simp[D.nb] at hx
 |.dT _,y,hx,_=>by simp[D.nb] at hx
 |.list xs,y,hx,hy=>by
  cases y with
  |list ys =>have:=mC xs ys (by simpa[D.nb] using hx) (by simpa[D.nb] using hy);simp only[kC,D.py,PyData.eqv,D.list.injEq];exact this
  |_=>simp_all [kC,D.py,PyData.eqv,D.nb]
 |.tup xs,y,hx,hy=>by
  cases y with
  |tup ys =>have:=mC xs ys (by simpa[D.nb] using hx) (by simpa[D.nb] using hy);simp only[kC,D.py,PyData.eqv,D.tup.injEq];exact this
  |_=>simp_all [kC,D.py,PyData.eqv,D.nb]
theorem mC:∀ (xs ys:List D),qB xs=true->qB ys=true->(PyData.eqvAll (vk xs) (vk ys)=true↔xs=ys)
 |[],[],_,_=>by simp[vk,PyData.eqvAll]
 |[],_ :: _,_,_=>by simp[vk,PyData.eqvAll]
 |_ :: _,[],_,_=>by simp[vk,PyData.eqvAll]
 |x :: xs,y :: ys,hx,hy=>by simp only[qB,ja] at hx hy;have h1:=lZ x y hx.1 hy.1;have h2:=mC xs ys hx.2 hy.2;simp only[vk,PyData.eqvAll,ja,List.cons.injEq];exact and_congr h1 h2
end
section
variable {K:aI}{H:Hp}
theorem Rep.key{d:D}{v:V}{k:Key}(r:Rep K H d v)(h:d.key1=some k):v=kV k:=by cases r<;>simp[D.key1] at h<;>subst h<;>rfl
theorem b9.keys{ds:List D}{vs:List V}{ks:List Key}(r:b9 K H ds vs)(h:dG ds=some ks):vs=ks.map kV:=by
 induction ds generalizing vs ks with
 |nil=>simp[dG] at h;subst h;exact r.n0
 |cons d ds ih =>
  obtain⟨u,us,rfl,r,rs⟩:=r.c;unfold dG at h
  cases e1:d.key1 with
  |none=>rw[e1] at h;simp at h
  |some k =>
   cases e2:dG ds with
   |none=>rw[e1,e2] at h;simp at h
   |some eI =>rw[e1,e2] at h;simp at h;subst h;rw[gI,r.key e1,ih rs e2]
theorem Rep.mh{ds:List D}{v:V}{ks:List Key}(r:Rep K H (.tup ds) v)(h:dG ds=some ks):∃ b,v=.ref b/\H b=some (.tup (ks.map kV)):=by
 cases r with
 |tup _ e rs=>exact⟨_,rfl,by rw[e,rs.keys h]⟩
end
section
variable {κ:Type}[DecidableEq κ]{K:aI}{H:Hp}
theorem zip_get{k:κ}{ae:List (κ × D)}{vs:List V}(h:b9 K H (ae.map (·.2)) vs):match fP ae k with
  |some d=>∃ v,kX ((ae.map (·.1)).zip vs) k=some v/\Rep K H d v
  |none=>kX ((ae.map (·.1)).zip vs) k=none:=by
 induction ae generalizing vs with
 |nil=>rfl
 |cons p ae ih =>
  obtain⟨u,us,rfl,r,rs⟩:=b9.c (d:=p.2) h;by_cases e:p.1=k
  ·have e1:fP (p :: ae) k=some p.2:=by simp[fP,e]
   rw[e1];exact⟨_,by simp only[gI,Lv];exact P9 e,r⟩
  ·have e1:fP (p :: ae) k=fP ae k:=by simp[fP,e]
   rw[e1];have:=ih rs;simp only[gI,Lv,P_ (p:=(p.1,_)) e];exact this
theorem Bb{k:κ}{ae:List (κ × D)}{vs:List V}(h:ae.length=vs.length):((ae.map (·.1)).zip vs).any (λkv=>decide (kv.1=k))=ae.any λkv=>decide (kv.1=k):=by
 induction ae generalizing vs with
 |nil=>rfl
 |cons p ae ih =>
  cases vs with
  |nil=>simp at h
  |cons v vs =>simp only[gI,Lv,B6];rw[ih (vs:=vs) (by simpa using h)]
end
section
variable {K:aI}{Hs H:Hp}
theorem Qz{p:ag}{o:HO}(w:Wf Hs H)(hp:H p=none)(ho:∀ vs,o≠.tup vs):eT Hs H Hs (upd H p o) :=
 ⟨(bG.refl H).upd hp,bG.refl _,⟨w.sub.upd hp,λa vs e=>by
  by_cases h:a=p
  ·subst h;rw[ki] at e;exact absurd (Option.some.inj e) (ho vs)
  ·rw[iN h] at e;exact w.iO a vs e⟩,λ_ h=>.inl h⟩
theorem N_{p:ag}{vs:List V}(w:Wf Hs H)(hp:H p=none):eT Hs H (upd Hs p (.tup vs)) (upd H p (.tup vs)) :=
 ⟨(bG.refl H).upd hp,(bG.refl Hs).upd (w.sub.free hp),⟨λa o e=>by
  by_cases h:a=p
  ·subst h;rw[ki] at e ⊢;exact e
  ·rw[iN h] at e ⊢;exact w.sub a o e,λa vs e=>by
  by_cases h:a=p
  ·subst h;rw[ki] at e ⊢;exact e
  ·rw[iN h] at e ⊢;exact w.iO a vs e⟩,λa h=>by
  by_cases e:a=p
  ·subst e;exact .inr hp
  ·rw[iN e] at h;exact .inl h⟩
theorem bL.nil:bL Hs H []:=⟨mG,λa h=>nomatch h⟩
theorem bL.of{H':Hp}{As:List ag}(s:bG H H')(f:bL Hs H' As):bL Hs H As:=⟨f.1,λa h=>⟨(f.2 a h).1,s.free (f.2 a h).2⟩⟩
abbrev Fin(K:aI)(Hs H:Hp)(Qd:Md->D->Prop)(Qv:VK):Prop:=∀ v H' ax m d As,eT Hs H ax H'->RM K ax H' m d v As->bL ax H As->Qd m d->Qv v H'
theorem Fin.after{ax H':Hp}{Qd:Md->D->Prop}{Qv:VK}(f:Fin K Hs H Qd Qv)(g:eT Hs H ax H'):Fin K ax H' Qd Qv:=λv H2 bq m d As g2 r fr q=>f v H2 bq m d As (g.trans g2) r (fr.of g.all) q
theorem Fin.sh{Qd:Md->D->Prop}{Qv:VK}{d:D}{v:V}(f:Fin K Hs H Qd Qv)(w:Wf Hs H)(r:Rep K Hs d v)(q:Qd .sh d):Qv v H:=f v H Hs .sh d [] (eT.refl w) ⟨rfl,r⟩ bL.nil q
theorem Fin.flat{Qd:Md->D->Prop}{Qv:VK}{d:D}{v:V}(f:Fin K Hs H Qd Qv)(w:Wf Hs H)(r:Rep K H d v)(hf:d.flat=true)(q:Qd .sh d):Qv v H:=f.sh w (r.gm w.iO hf) q
theorem Fin.bo{Qd:Md->D->Prop}{Qv:VK}{d:D}{v:V}(f:Fin K Hs H Qd Qv)(w:Wf Hs H)(r:Rep K H d v)(q:Qd .bo d):Qv v H:=f v H Hs .bo d [] (eT.refl w) ⟨rfl,r⟩ bL.nil q
def pE(m:Md)(d:D):Md:=match m with
 |.sh=>.sh
 |_=>bif d.flat then .sh else .bo
theorem Fin.pE{Qd:Md->D->Prop}{Qv:VK}{m:Md}{d:D}{v:V}(f:Fin K Hs H Qd Qv)(w:Wf Hs H)(r:Rep K H d v)(rs:m=.sh->Rep K Hs d v)(q:Qd (pE m d) d):Qv v H:=by
 have o:Qd (bif d.flat then .sh else .bo) d->Qv v H:=λq=>by
  cases hf:d.flat with
  |true=>exact f.flat w r hf (by simpa[hf] using q)
  |false=>exact f.bo w r (by simpa[hf] using q)
 cases m with
 |sh=>exact f.sh w (rs rfl) q
 |_=>exact o q
theorem Fin.lst{Qd:Md->D->Prop}{Qv:VK}{ds:List D}{vs:List V}(f:Fin K Hs H Qd Qv)(w:Wf Hs H)(hz:ds.length<=bX)(r:b9 K H ds vs)(hf:dQ ds=true)(q:Qd (.ow true) (.list ds)):∀ p,H p=none->Qv (.ref p) (upd H p (.lst vs)):=λp hp =>
 f _ _ Hs (.ow true) (.list ds) [p] (Qz w hp λ_ z=>nomatch z) ⟨.list (by rw[<- r.length];exact hz) ki ((r.gm w.iO hf).owned hf),by simp⟩ ⟨by simp,λa h=>by
  obtain rfl:a=p:=by simpa using h
  exact⟨w.sub.free hp,hp⟩⟩ q
theorem Fin.QB{Qd:Md->D->Prop}{Qv:VK}{ds:List D}{vs:List V}(f:Fin K Hs H Qd Qv)(w:Wf Hs H)(hz:ds.length<=bX)(r:b9 K Hs ds vs)(q:Qd (.ow false) (.list ds)):∀ p,H p=none->Qv (.ref p) (upd H p (.lst vs)):=λp hp =>
 f _ _ Hs (.ow false) (.list ds) [p] (Qz w hp λ_ z=>nomatch z) ⟨.list (by rw[<- r.length];exact hz) ki r.Fy,by simp⟩ ⟨by simp,λa h=>by
  obtain rfl:a=p:=by simpa using h
  exact⟨w.sub.free hp,hp⟩⟩ q
theorem Fin.tup{Qd:Md->D->Prop}{Qv:VK}{ds:List D}{vs:List V}(f:Fin K Hs H Qd Qv)(w:Wf Hs H)(hz:ds.length<=bX)(r:b9 K H ds vs)(hf:dQ ds=true)(q:Qd .sh (.tup ds)):∀ p,H p=none->Qv (.ref p) (upd H p (.tup vs)):=λp hp =>
 f _ _ (upd Hs p (.tup vs)) .sh (.tup ds) [] (N_ w hp) ⟨rfl,.tup (by rw[<- r.length];exact hz) ki ((r.gm w.iO hf).same ((bG.refl Hs).upd (w.sub.free hp)))⟩ bL.nil q
end
section
variable {X:Cx}{K:aI}
theorem PE.imp{e:Expr}{te qE:TE}(h:PE X e te)(i:∀ σ H Q,qE σ H Q->te σ H Q):PE X e qE:=λpins s σ H Q I q=>h pins s σ H Q I (i σ H Q q)
theorem PT.imp{e:Expr}{te qE:TT}(h:PT X e te)(i:∀ σ H Q,qE σ H Q->te σ H Q):PT X e qE:=λpins s σ H Q I q=>h pins s σ H Q I (i σ H Q q)
theorem PW.imp{e:Expr}{te qE:TT}(h:PW X e te)(i:∀ σ H Q,qE σ H Q->te σ H Q):PW X e qE:=λwh pins s σ H Q I q=>h wh pins s σ H Q I (i σ H Q q)
theorem PA.imp{e:List Expr}{te qE:TA}(h:PA X e te)(i:∀ σ H Q,qE σ H Q->te σ H Q):PA X e qE:=λp pins s σ H Q I q=>h p pins s σ H Q I (i σ H Q q)
def Oa:Option (Option Sl)->(Md->D->Prop)->Prop
 |some (some (.sh d)),Q=>Q .sh d
 |some (some (.ow _ d)),Q=>Q .bo d
 |some (some (.lk _ _ d)),Q=>Q .bo d
 |_,_=>False
def av(i:Nat):WE:=λρ Q=>Oa ρ[i]? Q
theorem GJ{i:Nat}{e:Expr}(h:PE X e (AW i)):QE X K e (av i):=by
 refine PE.imp h λσ H Qv hx=>kB hx λHs ρ ai Q sr h f=>?_;unfold av at h
 cases e:ρ[i]? with
 |none=>rw[e] at h;exact h.elim
 |some o =>
  cases o with
  |none=>rw[e] at h;exact h.elim
  |some sl =>
   obtain⟨v,e1,r⟩:=sr.sr.get e;rw[e] at h
   cases sl with
   |sh d=>exact⟨v,e1,Fin.sh f sr.wf r h⟩
   |xc a=>exact h.elim
   |ob a p=>exact h.elim
   |ow fl d =>obtain⟨As,_,r,_⟩:=r;exact⟨v,e1,Fin.bo f sr.wf (r.rep sr.wf.sub λ_ _=>rfl) h⟩
   |lk a fl d =>obtain⟨As,_,r,_⟩:=r;exact⟨v,e1,Fin.bo f sr.wf (r.rep sr.wf.sub λ_ _=>rfl) h⟩
theorem qv (i:Nat) {x:Str} {pos:Pos} (hN:X.N[i]? = some x:=by rfl) (hv:Np X.env.scope x:=by first|exact Or.inl rfl|exact Or.inr (Or.inl rfl)|exact Or.inr (Or.inr rfl)) (hd:(x == ("__debug__" : Str))=false:=by decide) (qh:(x == ("__classdict__" : Str))=false:=by decide):QE X K (.Name x pos) (av i):=GJ (Vm hN hv hd qh)
def wC(d:D):WE:=λ_ Q=>Q .sh d
theorem tU{e:Expr}{v:V}{d:D}(h:PE X e (tC v))(r:∀ H,Rep K H d v):QE X K e (wC d) :=
 PE.imp h λσ H Qv hx=>kB hx λHs ρ ai Q sr h f=>Fin.sh f sr.wf (r _) h
theorem aq{i j pos}:QE X K (.Constant (.int i) j pos) (wC (.int i)):=tU aO' λ_=>.int i
theorem aK{i j pos}(h:i.length<=bX:=by decide):QE X K (.Constant (.str i) j pos) (wC (.str i)):=tU aR' λ_=>.str h
theorem ng{i j pos}:QE X K (.Constant (.bool i) j pos) (wC (.bl i)):=tU aP' λ_=>.bl i
theorem uq{j pos}:QE X K (.Constant .none j pos) (wC .non):=tU aQ' λ_=>.non
theorem Zk {x z:Str} {pos:Pos} (h:Qm X.mg x z) (hg:Gl X x:=by rfl) (hd:(x == ("__debug__" : Str))=false:=by decide) (hz:z.length<=bX:=by decide):QE X K (.Name x pos) (wC (.str z)):=tU (G5 h hg hd) λ_=>.str hz
theorem QC {x:Str} {i:Int} {pos:Pos} (h:Mb X.mg x i) (hg:Gl X x:=by rfl) (hd:(x == ("__debug__" : Str))=false:=by decide):QE X K (.Name x pos) (wC (.int i)):=tU (Gu h hg hd) λ_=>.int i
abbrev W2:=Md->D->Md->D->(Md->D->Prop)->Prop
abbrev W1:=Md->D->(Md->D->Prop)->Prop
def nh(K:aI)(r:R2)(f:W2):Prop:=∀ Hs H m x v As n y u Bs Qd Qv,Wf Hs H->RM K Hs H m x v As->RM K Hs H n y u Bs->f m x n y Qd->Fin K Hs H Qd Qv->r v u H Qv
def Zm(K:aI)(r:V->Hp->VK->Prop)(f:W1):Prop:=∀ Hs H m x v As Qd Qv,Wf Hs H->RM K Hs H m x v As->f m x Qd->Fin K Hs H Qd Qv->r v H Qv
def aC(f:W2)(ta tb:WE):WE:=λρ Q=>ta ρ λm x=>tb ρ λn y=>f m x n y Q
def iF(f:W1)(ta:WE):WE:=λρ Q=>ta ρ λm x=>f m x Q
variable {a b:Expr}{ta tb tc:WE}{pos:Pos}
theorem mH{r:R2}{f:W2}(br:nh K r f)(σ:St)(H:Hp)(Qv:VK)(h:nS K (aC f ta tb) σ H Qv):Nz r (nS K ta) (nS K tb) σ H Qv:=by obtain⟨Hs,ρ,ai,Q,sr,h,fin⟩:=h;refine⟨Hs,ρ,ai,_,sr,h,λv H1 bE m x As g1 r1 f1 q1=>⟨bE,ρ,ai,_,sr.grow g1,q1,λu H2 bq n y Bs g2 r2 f2 q2=>?_⟩⟩;exact br bq H2 m x v As n y u Bs Q Qv g2.wf (r1.grow g2) r2 q2 (Fin.after fin (g1.trans g2))
theorem Ob{op:Operator}{r:R2}{f:W2}(ho:ez X (p9 op) r)(br:nh K r f)(ha:QE X K a ta)(hb:QE X K b tb):QE X K (.BinOp a op b pos) (aC f ta tb):=PE.imp (bC' ho ha hb) (mH br)
theorem wZ{op:CmpOp}{r:R2}{f:W2}(ho:ez X (gS op) r)(br:nh K r f)(ha:QE X K a ta)(hb:QE X K b tb)(hm:KS op b=false:=by first|exact VD _|rfl):QE X K (.Compare a [op] [b] pos) (aC f ta tb):=PE.imp (bU' ho ha hb hm) (mH br)
def wB(t:WE):WT:=λρ Q=>t ρ λ_ x=>match x with
 |.bl b=>Q b
 |_=>False
theorem yI{t:WE}(σ:St)(H:Hp)(Qv:Bool->Hp->Prop)(h:E7 K (wB t) σ H Qv):Sv (nS K t) σ H Qv:=by
 obtain⟨Hs,ρ,ai,Q,sr,h,fin⟩:=h;refine⟨Hs,ρ,ai,_,sr,h,λv H1 bE m x As g1 r1 f1 q1=>?_⟩;have r:=r1.rep g1.wf
 cases r with
 |bl b=>exact⟨b,rfl,fin b H1 bE g1 q1⟩
 |_=>exact q1.elim
theorem aJ{op:CmpOp}{r:R2}{f:W2}(ho:ez X (gS op) r)(br:nh K r f)(ha:QE X K a ta)(hb:QE X K b tb)(hm:KS op b=false:=by first|exact VD _|rfl):QT X K (.Compare a [op] [b] pos) (wB (aC f ta tb)):=by
 refine PT.imp (bV' ho ha hb hm) λσ H Qv h=>?_;obtain⟨Hs,ρ,ai,Q,sr,h,fin⟩:=h;refine mH br σ H _ ⟨Hs,ρ,ai,_,sr,h,λv H1 bE m x As g1 r1 f1 q1=>?_⟩;have r:=r1.rep g1.wf
 cases r with
 |bl b=>exact⟨b,rfl,fin b H1 bE g1 q1⟩
 |_=>exact q1.elim
theorem pL{t:WE}(h:QE X K a t)(he:∀ whole,isTrue a X.env whole=(do let v <- whole;standAt a.pos;holding [v] (truthy v)):=by intro _;rfl):QT X K a (wB t):=PT.imp (aT' h he) yI
def oW(f g:W2)(ta tb tc:WE):WE:=λρ Q=>ta ρ λm x=>tb ρ λn y=>f m x n y λ_ z=>match z with
 |.bl k=>if k=true then tc ρ λl w=>g n y l w Q else Q .sh (.bl false)
 |_=>False
end
end L2.Q
namespace L2.Q
open PySem PySem.Spec PyProof.Rows
section
variable {X:Cx}{K:aI}{a b c:Expr}{ta tb tc:WE}{pos:Pos}
theorem tV(br:nh K r f)(TC:nh K r' g)(σ:St)(H:Hp)(Qv:VK)(h:nS K (oW f g ta tb tc) σ H Qv):VF r r' (nS K ta) (nS K tb) (nS K tc) σ H Qv:=by
 obtain⟨Hs,ρ,ai,Q,sr,h,fin⟩:=h;refine⟨Hs,ρ,ai,_,sr,h,λv H1 bE m x As g1 r1 f1 q1=>⟨bE,ρ,ai,_,sr.grow g1,q1,λu H2 bq n y Bs g2 r2 f2 q2=>?_⟩⟩;refine br bq H2 m x v As n y u Bs _ _ g2.wf (r1.grow g2) r2 q2 λz H3 fe m3 d3 IH g3 r3 f3 q3=>?_;have rr:=r3.rep g3.wf
 cases rr with
 |bl k =>
  refine⟨k,rfl,?_⟩;have Qs:Fin K fe H3 Q Qv:=Fin.after fin ((g1.trans g2).trans g3)
  cases k with
  |false=>exact Qs.sh g3.wf (.bl false) q3
  |true =>refine⟨fe,ρ,ai,_,((sr.grow g1).grow g2).grow g3,q3,λw H4 Mm l z Mp g4 r4 f4 q4=>?_⟩;exact TC Mm H4 n y u Bs l z w Mp Q Qv g4.wf ((r2.grow g3).grow g4) r4 q4 (Fin.after Qs g4)
 |_=>exact q3.elim
theorem yX(ho:ez X (gS op) r)(nI:ez X (gS op') r')(br:nh K r f)(TC:nh K r' g)(ha:QE X K a ta)(hb:QE X K b tb)(hc:QE X K c tc)(hm:lastMarks [op,op'] [b,c]=false:=by with_unfolding_all rfl):QT X K (.Compare a [op,op'] [b,c] pos) (wB (oW f g ta tb tc)):=by
 refine PT.imp (bW' ho nI ha hb hc hm) λσ H Qv h=>?_;obtain⟨Hs,ρ,ai,Q,sr,h,fin⟩:=h;refine tV br TC σ H _ ⟨Hs,ρ,ai,_,sr,h,λv H1 bE m x As g1 r1 f1 q1=>?_⟩;have r:=r1.rep g1.wf
 cases r with
 |bl b=>exact⟨b,rfl,fin b H1 bE g1 q1⟩
 |_=>exact q1.elim
def Mq(t u:WT):WT:=λρ Q=>t ρ λc=>if c=true then Q true else u ρ Q
def II(t:WT):WT:=λρ Q=>t ρ λc=>Q (!c)
variable {tA tB:WT}{rest:List Expr}
theorem qO{t u:WT}{f:Bool->TT}{σ:St}{H:Hp}{Qv:Bool->Hp->Prop}{G:Bool->(Bool->Prop)->Env->Prop}(h:E7 K (λρ Q=>t ρ λc=>G c Q ρ) σ H Qv)(i:∀ c H1 bE ρ ai Q,eB K bE ρ σ H1 ai->G c Q ρ->(∀ b H' ax,eT bE H1 ax H'->Q b->Qv b H')->f c σ H1 Qv):E7 K t σ H λc H1=>f c σ H1 Qv:=by
 obtain⟨Hs,ρ,ai,Q,sr,h,fin⟩:=h;exact⟨Hs,ρ,ai,_,sr,h,λc H1 bE g1 q1=>i c H1 bE ρ ai Q (sr.grow g1) q1 λb H' ax g2=>fin b H' ax (g1.trans g2)⟩
theorem uY(ha:QT X K a tA):QW X K (.BoolOp .Or [a] pos) tA:=pw_or1 ha
theorem yC(ha:QT X K a tA)(hb:QW X K (.BoolOp .Or (b :: rest) pos) tB):QW X K (.BoolOp .Or (a :: b :: rest) pos) (Mq tA tB):=by
 refine PW.imp (pw_or ha hb) λσ H Qv h=>?_;refine qO (u:=tB) (f:=λc σ H1 Q=>if c=true then Q true H1 else E7 K tB σ H1 Q) h λc H1 bE ρ ai Q sr q fin=>?_
 cases c with
 |true=>exact fin true H1 bE (eT.refl sr.wf) q
 |false=>exact⟨bE,ρ,ai,Q,sr,q,fin⟩
theorem TF(h:QW X K a tA):QT X K a tA:=h _
theorem pD(ha:QT X K a tA):QT X K (.UnaryOp .Not a pos) (II tA):=by refine PT.imp (aW' ha) λσ H Qv h=>?_;exact qO (u:=tA) (f:=λc σ H1 Q=>Q (!c) H1) h λc H1 bE ρ ai Q sr q fin=>fin _ H1 bE (eT.refl sr.wf) q
def uF(ta tb:WE):WE:=λρ Q=>ta ρ λ_ x=>match x with
 |.bl c=>if c=true then tb ρ Q else Q .sh (.bl false)
 |_=>False
theorem Hd{op}(h:QE X K a ta):QE X K (.BoolOp op [a] pos) ta:=aY' h
theorem DQ(ha:QE X K a ta)(hb:QE X K (.BoolOp .And (b :: rest) pos) tb):QE X K (.BoolOp .And (a :: b :: rest) pos) (uF ta tb):=by
 refine PE.imp (aZ' ha hb) λσ H Qv hx=>kB hx λHs ρ ai Q sr h fin=>?_;refine⟨Hs,ρ,ai,_,sr,h,λv H1 bE m x As g1 r1 f1 q1=>?_⟩;have r:=r1.rep g1.wf
 cases r with
 |bl c =>
  refine⟨c,rfl,?_⟩
  cases c with
  |true=>exact⟨bE,ρ,ai,Q,sr.grow g1,q1,Fin.after fin g1⟩
  |false=>exact Fin.sh (Fin.after fin g1) g1.wf (.bl false) q1
 |_=>exact q1.elim
def eN':D->Option Bool
 |.non=>some false
 |.bl b=>some b
 |.int i=>some (i != 0)
 |.str x=>some ((x.length:Int) != 0)
 |.list xs=>some !xs.isEmpty
 |.tup xs=>some !xs.isEmpty
 |.dK ae=>none
 |.dT ae=>none
end
def g9:W2:=λm x n y Q=>match x,y with
 |.int i,.int j=>Q .sh (.int (i+j))
 |.str i,.str j=>i.length+j.length<=bX/\Q .sh (.str (i++j))
 |.list xs,.list ys=>xs.length+ys.length<=bX/\((dQ xs=true/\dQ ys=true/\Q (.ow true) (.list (xs++ys)))\/(m=.sh/\n=.sh/\Q (.ow false) (.list (xs++ys))))
 |.tup xs,.tup ys=>xs≠[]/\xs.length+ys.length<=bX/\dQ xs=true/\dQ ys=true/\Q .sh (.tup (xs++ys))
 |_,_=>False
def Oc(P:Int->Int->(Md->D->Prop)->Prop):W2:=λ_ x _ y Q=>match x,y with
 |.int i,.int j=>P i j Q
 |_,_=>False
def TH(P:Int->Int->(Md->D->Prop)->Prop)(S:Str->Str->(Md->D->Prop)->Prop):W2:=λ_ x _ y Q=>match x,y with
 |.int i,.int j=>P i j Q
 |.str i,.str j=>S i j Q
 |_,_=>False
def tS:W2:=Oc λi j Q=>L5 i j/\Q .sh (.int (i*j))
def ox:W2:=Oc λi j Q=>(0<j/\j<1073741824)/\Q .sh (.int (i / j))
def i5:W2:=Oc λi j Q=>0<j/\Q .sh (.int (i % j))
def E8:W2:=TH (λi j Q=>Q .sh (.bl (decide (i<j)))) λi j Q=>Q .sh (.bl (qq i j))
def Od:W2:=TH (λi j Q=>Q .sh (.bl (decide (i<=j)))) λi j Q=>Q .sh (.bl (!qq j i))
def Oe:W2:=Oc λi j Q=>Q .sh (.bl (decide (j<i)))
def kD:W2:=λ_ x _ y Q=>match x,y with
 |.int i,.int j=>Q .sh (.bl (decide (i=j)))
 |.str i,.str j=>Q .sh (.bl (decide (i=j)))
 |.bl i,.bl j=>Q .sh (.bl (decide (i=j)))
 |_,_=>dE 12 x=true/\dE 12 y=true/\Q .sh (.bl (kC x y))
def vn:W2:=λ_ x _ y Q=>match x,y with
 |.int i,.int j=>Q .sh (.bl (!decide (i=j)))
 |.str i,.str j=>Q .sh (.bl (!decide (i=j)))
 |.bl i,.bl j=>Q .sh (.bl (!decide (i=j)))
 |_,_=>dE 12 x=true/\dE 12 y=true/\Q .sh (.bl (!kC x y))
def D.QD:D->Bool
 |.non=>true
 |_=>false
def Bc:W2:=λ_ x _ y Q=>match y with
 |.non=>Q .sh (.bl (!x.QD))
 |_=>False
def dU:D->Bool
 |.non=>true
 |.bl _=>true
 |.int _=>true
 |.str _=>true
 |_=>false
def inD(x:D)(ys:List D):Bool:=ys.any λy=>kC y x
def zo(neg:Bool):W2:=λ_ x _ y Q=>match y with
 |.str j=>match x with
  |.str i=>Q .sh (.bl (if neg then !A8 i j else A8 i j))
  |_=>False
 |.list ys=>dU x=true/\ys.all dU=true/\Q .sh (.bl (if neg then !inD x ys else inD x ys))
 |.tup ys=>dU x=true/\ys.all dU=true/\Q .sh (.bl (if neg then !inD x ys else inD x ys))
 |.dK ae=>∃ k,x.key1=some k/\Q .sh (.bl (if neg then !(fP ae k).isSome else (fP ae k).isSome))
 |.dT ae=>match x with
  |.tup xs=>∃ ks,dG xs=some ks/\Q .sh (.bl (if neg then !(fP ae ks).isSome else (fP ae ks).isSome))
  |_=>False
 |_=>False
section
variable {K:aI}
theorem wR(f:Fin K Hs H Qd Qv)(w:Wf Hs H)(h:x.length<=bX)(q:Qd .sh (.str x)):Qv (.str x) H:=f.sh w (.str h) q
theorem bw(i j:Str):(i++j).length=i.length+j.length:=by show((i++j).cps.size)=_;show(i.cps++j.cps).size=_;simp[Str.length]
theorem DW:nh K (λx y H Q=>yj K x y H Q\/SD K x y H Q) g9:=by
 intro Hs H m x v As n y u Bs Qd Qv w rx ry h f;have r1:=rx.rep w;have r2:=ry.rep w;unfold g9 at h
 cases r1 with
 |int i=>cases r2 with
  |int j=>exact .inl (f.sh w (.int _) h)
  |_=>exact h.elim
 |str hi=>cases r2 with
  |str hj=>exact .inl ⟨h.1,wR f w (by rw[bw];exact h.1) h.2⟩
  |_=>exact h.elim
 |list z1 s1 q1=>cases r2 with
  |list z2 s2 q2 =>
   have l1:=q1.length;have l2:=q2.length;have hz:=h.1;rcases h.2 with⟨f1,f2,q⟩|⟨rfl,rfl,q⟩
   ·refine .inl ⟨_,_,s1,s2,by lia,?_⟩;exact f.lst w (by rw[ny];exact hz) (q1.append q2) (by rw[iG,f1,f2];rfl) q
   ·obtain⟨_,rx⟩:=rx;obtain⟨_,ry⟩:=ry
    cases rx with
    |list z1' s1' Mr=>cases ry with
     |list z2' s2' Zn =>have l1:=Mr.length;have l2:=Zn.length;refine .inl ⟨_,_,bG.seq w.sub s1',bG.seq w.sub s2',by lia,?_⟩;exact f.QB w (by rw[ny];exact hz) (Mr.append Zn) q
  |_=>exact h.elim
 |tup t1 s1 q1=>cases r2 with
  |tup t2 s2 q2 =>
   have l1:=q1.length;have l2:=q2.length;obtain⟨kz,hz,f1,f2,q⟩:=h;refine .inr ⟨_,_,_,_,rfl,rfl,.inl (.inl s1),.inl (.inl s2),?_,by lia,?_⟩
   ·intro e;subst e;exact kz (O8.mp l1)
   ·refine⟨λe=>?_,λ_=>f.tup w (by rw[ny];exact hz) (q1.append q2) (by rw[iG,f1,f2];rfl) q⟩;subst e;cases q2;rw[kE] at q;exact f.flat w (.tup t1 s1 q1) (by simpa[D.flat] using f1) q
  |_=>exact h.elim
 |_=>exact h.elim
theorem zj{H:Hp}{x y:D}{v u:V}{m n:Md}{P:Int->Int->(Md->D->Prop)->Prop}{S:Str->Str->(Md->D->Prop)->Prop}{Q:Md->D->Prop}{G:Prop}(r1:Rep K H x v)(r2:Rep K H y u)(h:TH P S m x n y Q)(k:∀ i j,v=.int i->u=.int j->P i j Q->G)(ks:∀ i j,v=.str i->u=.str j->S i j Q->G):G:=by
 cases r1 with
 |int i=>cases r2 with
  |int j=>exact k i j rfl rfl h
  |_=>exact h.elim
 |str hi=>cases r2 with
  |str hj=>exact ks _ _ rfl rfl h
  |_=>exact h.elim
 |_=>exact h.elim
theorem lO{H:Hp}{x y:D}{v u:V}{m n:Md}{P:Int->Int->(Md->D->Prop)->Prop}{Q:Md->D->Prop}{G:Prop}(r1:Rep K H x v)(r2:Rep K H y u)(h:Oc P m x n y Q)(k:∀ i j,v=.int i->u=.int j->P i j Q->G):G:=by
 cases r1 with
 |int i=>cases r2 with
  |int j=>exact k i j rfl rfl h
  |_=>exact h.elim
 |_=>exact h.elim
theorem Dm:nh K Bp tS:=by
 intro Hs H m x v As n y u Bs Qd Qv w rx ry h f;exact lO (rx.rep w) (ry.rep w) h λi j e1 e2 q=>by subst e1 e2;exact⟨q.1,f.sh w (.int _) q.2⟩
theorem Dr:nh K BP ox:=by
 intro Hs H m x v As n y u Bs Qd Qv w rx ry h f;exact lO (rx.rep w) (ry.rep w) h λi j e1 e2 q=>by subst e1 e2;exact⟨q.1,f.sh w (.int _) q.2⟩
theorem FJ:nh K Av i5:=by
 intro Hs H m x v As n y u Bs Qd Qv w rx ry h f;exact lO (rx.rep w) (ry.rep w) h λi j e1 e2 q=>by subst e1 e2;exact⟨q.1,f.sh w (.int _) q.2⟩
theorem Az:nh K Tb Oe:=by
 intro Hs H m x v As n y u Bs Qd Qv w rx ry h f;exact lO (rx.rep w) (ry.rep w) h λi j e1 e2 q=>by subst e1 e2;exact f.sh w (.bl _) q
theorem uJ:nh K S_ E8:=by
 intro Hs H m x v As n y u Bs Qd Qv w rx ry h f;exact zj (rx.rep w) (ry.rep w) h (λi j e1 e2 q=>by
  subst e1 e2;exact f.sh w (.bl _) q) λi j e1 e2 q=>by
  subst e1 e2;exact f.sh w (.bl _) q
theorem Ey:nh K Ta Od:=by
 intro Hs H m x v As n y u Bs Qd Qv w rx ry h f;exact zj (rx.rep w) (ry.rep w) h (λi j e1 e2 q=>by
  subst e1 e2;exact f.sh w (.bl _) q) λi j e1 e2 q=>by
  subst e1 e2;exact f.sh w (.bl _) q
theorem eq_data(w:Wf Hs H)(rx:Rep K H x v)(ry:Rep K H y u)(f:Fin K Hs H Qd Qv)(h:dE 12 x=true/\dE 12 y=true/\Qd .sh (.bl (kC x y))):Te K v u H Qv:=by obtain⟨h1,h2,q⟩:=h;have l1:=rP 12 x h1;have l2:=rP 12 y h2;exact⟨x.py,y.py,rx.l2 h1,ry.l2 h2,l1.1,l2.1,by lia,f.sh w (.bl _) q⟩
theorem ne_data(w:Wf Hs H)(rx:Rep K H x v)(ry:Rep K H y u)(f:Fin K Hs H Qd Qv)(h:dE 12 x=true/\dE 12 y=true/\Qd .sh (.bl (!kC x y))):Tf K v u H Qv:=by obtain⟨h1,h2,q⟩:=h;have l1:=rP 12 x h1;have l2:=rP 12 y h2;exact⟨x.py,y.py,rx.l2 h1,ry.l2 h2,l1.1,l2.1,by lia,f.sh w (.bl _) q⟩
theorem dw:nh K (Qi K) kD:=by
 intro Hs H m x v As n y u Bs Qd Qv w rx ry h f;have r1:=rx.rep w;have r2:=ry.rep w;have d:=λh=>eq_data (Qd:=Qd) (Qv:=Qv) w r1 r2 f h
 cases r1 with
 |int i=>cases r2 with
  |int j=>exact f.sh w (.bl _) h
  |_=>exact d h
 |str i=>cases r2 with
  |str j=>exact f.sh w (.bl _) h
  |_=>exact d h
 |bl i=>cases r2 with
  |bl j=>exact f.sh w (.bl _) h
  |_=>exact d h
 |_=>exact d h
theorem pR:nh K (Qj K) vn:=by
 intro Hs H m x v As n y u Bs Qd Qv w rx ry h f;have r1:=rx.rep w;have r2:=ry.rep w;have d:=λh=>ne_data (Qd:=Qd) (Qv:=Qv) w r1 r2 f h
 cases r1 with
 |int i=>cases r2 with
  |int j=>exact f.sh w (.bl _) h
  |_=>exact d h
 |str i=>cases r2 with
  |str j=>exact f.sh w (.bl _) h
  |_=>exact d h
 |bl i=>cases r2 with
  |bl j=>exact f.sh w (.bl _) h
  |_=>exact d h
 |_=>exact d h
theorem Ai(r:Rep K H x v):decide (v=V.non)=x.QD:=by cases r<;>first|rfl|exact decide_eq_false (λz=>nomatch z)
theorem Bg:nh K (λx y H Q=>y=.non/\Q (.bl (!decide (x=.non))) H) Bc:=by
 intro Hs H m x v As n y u Bs Qd Qv w rx ry h f;have r1:=rx.rep w;have r2:=ry.rep w;have e:=Ai r1
 cases r2 with
 |non=>exact⟨rfl,by rw[e];exact f.sh w (.bl _) h⟩
 |_=>exact h.elim
theorem jF(r:Rep K H x v)(h:dU x=true):A5 v=true:=by cases r<;>first|rfl|(simp[dU] at h)
theorem Cw(r:Rep K H x v)(s:Rep K H y u)(h:dU x=true)(g:dU y=true):Dp v u=kC x y:=by cases r<;>simp[dU] at h<;>cases s<;>simp[dU] at g<;>rfl
theorem DN(r:Rep K H x v)(h:dU x=true)(rs:b9 K H ys us)(g:ys.all dU=true):us.all A5=true/\P5 v us=inD x ys:=by
 induction ys generalizing us with
 |nil=>rw[rs.n0];exact⟨rfl,rfl⟩
 |cons y ys ih =>
  obtain⟨u,us,rfl,s,ss⟩:=rs.c;simp only[r0,ja] at g;obtain⟨e1,e2⟩:=ih ss g.2;refine⟨by simp only[r0,jF s g.1,e1,Bool.and_self],?_⟩;unfold P5 inD at *
  rw[B6,B6,e2,Cw s r g.1 h]
theorem pI{κ:Type}[DecidableEq κ]{H:Hp}{k:κ}{ae:List (κ × D)}{vs:List V}(r:b9 K H (ae.map (·.2)) vs):(kX ((ae.map (·.1)).zip vs) k).isSome=(fP ae k).isSome:=by
 have:=zip_get (k:=k) r;split at this
 ·rename_i e;obtain⟨v,e1,_⟩:=this;rw[e1,e];rfl
 ·rename_i e;rw[this,e];rfl
theorem u_:nh K (Iq K neg) (zo neg):=by
 intro Hs H m x v As n y u Bs Qd Qv w rx ry h f;have r1:=rx.rep w;have r2:=ry.rep w
 cases r2 with
 |str j=>cases r1 with
  |str i=>exact f.sh w (.bl _) h
  |_=>exact h.elim
 |list z s q =>
  obtain⟨h1,h2,h3⟩:=h;obtain⟨e1,e2⟩:=DN r1 h1 q h2;have h4:=jF r1 h1;have g:NM K neg v (.ref _) H Qv:=⟨_,_,rfl,.inl s,h4,e1,by rw[e2];exact f.sh w (.bl _) h3⟩
  cases r1<;>exact .inr g
 |tup _ s q =>
  obtain⟨h1,h2,h3⟩:=h;obtain⟨e1,e2⟩:=DN r1 h1 q h2;have h4:=jF r1 h1;have g:NM K neg v (.ref _) H Qv:=⟨_,_,rfl,.inr (.inl (.inl s)),h4,e1,by rw[e2];exact f.sh w (.bl _) h3⟩
  cases r1<;>exact .inr g
 |dK kk e q =>obtain⟨k,hk,h3⟩:=h;have ev:=r1.key hk;subst ev;have eg:=pI (k:=k) q;cases k<;>exact .inl ⟨_,k8.k' e,by rw[eg];exact f.sh w (.bl _) h3⟩
 |dT kk e q =>
  cases r1 with
  |tup t1 e1 q1 =>obtain⟨ks,hk,h3⟩:=h;obtain⟨b,eb,e2⟩:=Rep.mh (.tup t1 e1 q1) hk;cases eb;have eg:=pI (k:=ks) q;exact .inl ⟨_,k8.t' e e2,by rw[eg];exact f.sh w (.bl _) h3⟩
  |_=>exact h.elim
 |_=>exact h.elim
end
section
variable {X:Cx}{K:aI}{a b:Expr}{ta tb:WE}{pos:Pos}
theorem HR(hK:X.K=K:=by rfl):ez X (p9 .Add) (λx y H Q=>yj K x y H Q\/SD K x y H Q):=by subst hK;exact Ag.or cz'
theorem bF(ha:QE X K a ta)(hb:QE X K b tb)(hK:X.K=K:=by rfl):QE X K (.BinOp a .Add b pos) (aC g9 ta tb):=Ob (HR hK) DW ha hb
theorem iK(ha:QE X K a ta)(hb:QE X K b tb):QE X K (.BinOp a .Mult b pos) (aC tS ta tb):=Ob BZ Dm ha hb
theorem eU(ha:QE X K a ta)(hb:QE X K b tb):QE X K (.BinOp a .FloorDiv b pos) (aC ox ta tb):=Ob zV Dr ha hb
theorem bK(ha:QE X K a ta)(hb:QE X K b tb):QE X K (.BinOp a .Mod b pos) (aC i5 ta tb):=Ob Cj FJ ha hb
end
def cE:WA:=λ_ Q=>Q []
def ak(te:WE)(t:WA):WA:=λρ Q=>te ρ λm x=>t ρ λps=>Q ((m,x) :: ps)
def zt:Md × D->Bool
 | (.sh,_)=>true
 | (_,d)=>d.flat
def IJ:Md × D->Bool
 | (.bo,d)=>d.flat
 | (.fr,d)=>d.flat
 |_=>true
def E9:Md × D->Bool
 | (.ow true,_)=>true
 | (_,d)=>d.flat
def uf(ps:List (Md × D)):Md:=bif ps.all zt then .sh else bif ps.all IJ then .ow (ps.all E9) else .bo
def BV(ps:List (Md × D)):Md:=bif ps.all IJ then .ow (ps.all E9) else .bo
def oy(t:WA):WE:=λρ Q=>t ρ λps=>ps.length<=bX/\Q (uf ps) (.tup (ps.map (·.2)))
def kG(t:WA):WE:=λρ Q=>t ρ λps=>ps.length<=bX/\Q (BV ps) (.list (ps.map (·.2)))
section
variable {X:Cx}{K:aI}{e:Expr}{es:List Expr}{te:WE}{t:WA}{pos:Pos}{Hs H:Hp}
theorem au:QA X K [] cE:=PA.imp si λσ H Qv hx=>kB hx λHs ρ ai Q sr h f=>f [] H Hs [] [] (eT.refl sr.wf) .nil bL.nil h
theorem bL.app{bE bq H1:Hp}{As Bs:List ag}(f1:bL bE H As)(o:∀ a∈As,H1 a≠none)(f2:bL bq H1 Bs)(s:bG H H1)(k:∀ a,bE a=none->H1 a≠none->bq a=none):bL bq H (As++Bs) :=
 ⟨i6.mpr ⟨f1.1,f2.1,λa ha b hb e=>by subst e;exact o a ha (f2.2 a hb).2⟩,λa h=>by
  rcases fh.mp h with h|h
  ·exact⟨k a (f1.2 a h).1 (o a h),(f1.2 a h).2⟩
  ·exact⟨(f2.2 a h).1,s.free (f2.2 a h).2⟩⟩
theorem aa(ha:QE X K e te)(hr:QA X K es t)(hs:bS (e :: es) X.env=(false,c9 e X.env) :: bS es X.env:=by rfl):QA X K (e :: es) (ak te t):=by refine PA.imp (kU ha hr hs) λσ H Qv hx=>kB hx λHs ρ ai Q sr h f=>?_;refine⟨Hs,ρ,ai,_,sr,h,λv H1 bE m x As g1 r1 f1 q1=>⟨bE,ρ,ai,_,sr.grow g1,q1,λvs H2 bq ps Bs g2 r2 f2 q2=>?_⟩⟩;exact f (v :: vs) H2 bq _ _ (g1.trans g2) (.cons (r1.grow g2) r2) (f1.app (λa h=>(r1.own a h).ne) f2 g1.all λa h1 h2=>g2.lT h1 h2) q2
theorem zi.sh(w:Wf Hs H){ps:List (Md × D)}{vs:List V}{As:List ag}(r:zi K Hs H ps vs As):ps.all zt=true->b9 K Hs (ps.map (·.2)) vs:=by
 induction r with
 |nil=>exact λ_=>.nil
 |@cons m d v ps vs As Bs r rs ih =>
  intro h;simp only[r0,ja] at h;refine .cons ?_ (ih h.2)
  cases m with
  |sh=>exact r.2
  |_=>exact r.flat w h.1
theorem zi.ow{fl:Bool}(w:Wf Hs H){ps:List (Md × D)}{vs:List V}{As:List ag}(r:zi K Hs H ps vs As):ps.all IJ=true->(fl=true->ps.all E9=true)->∃ Bs,Bs.Sublist As/\(ps.all zt=false->Bs≠[])/\az K Hs H fl (ps.map (·.2)) vs Bs:=by
 induction r with
 |nil=>exact λ_ _=>⟨[],AF _,(λz=>Bool.noConfusion z),.nil⟩
 |@cons m d v ps vs A1 Cs r rs ih =>
  intro h hf;simp only[r0,ja] at h hf;obtain⟨Bs,sb,ne,q⟩:=ih h.2 λz=>(hf z).2;have sk:([]++Bs).Sublist (A1++Cs):=by simpa using sb.trans (k6 _ _)
  have AO:d.flat=true->zt (m,d)=true->∃ Bs,Bs.Sublist (A1++Cs)/\(((m,d) :: ps).all zt=false->Bs≠[])/\az K Hs H fl (((m,d) :: ps).map (·.2)) (v :: vs) Bs:=λhd ho =>
   ⟨[]++Bs,sk,λz=>ne (by rw[r0,ho] at z;simpa using z),.cons (.sh (λ_=>hd) (r.flat w hd)) q⟩
  cases m with
  |sh=>exact⟨[]++Bs,sk,λz=>ne (by simpa[zt] using z),.cons (.sh (λz=>(hf z).1) r.2) q⟩
  |bo=>exact AO h.1 h.1
  |fr=>exact AO h.1 h.1
  |ow b =>
   cases hd:d.flat with
   |true=>exact AO hd hd
   |false =>
    refine⟨A1++Bs,sb.append_left _,λ_ z=>r.2 (MZ.mp z).1,.cons ?_ q⟩
    cases fl with
    |false=>exact cw.Qx r.1
    |true =>
     have:=(hf rfl).1
     cases b with
     |true=>exact r.1
     |false=>simp[E9,hd] at this
theorem mY:∀ {ps:List (Md × D)},dQ (ps.map (·.2))=true->ps.all zt=true
 |[],_=>rfl
 | (m,d) :: ps,h=>by simp only[gI,dQ,ja] at h;simp only[r0,ja];exact⟨by cases m<;>simp[zt,h.1],mY h.2⟩
theorem dH{x1}(h:QA X K es t):QE X K (.Tuple es x1 pos) (oy t):=by
 refine PE.imp (PR h) λσ H Qv hx=>kB hx λHs ρ ai Q sr h f=>?_;refine⟨Hs,ρ,ai,_,sr,h,λvs H1 bE ps As g1 r1 f1 q1=>?_⟩;obtain⟨hz,q⟩:=q1;have rl:=(r1.reps g1.wf)
 have hl:=rl.length;rw[dn] at hl;refine⟨by lia,λp hp=>?_⟩;have g2:=N_ (vs:=vs) g1.wf hp;have fin:=Fin.after f g1;unfold uf at q
 cases h1:ps.all zt with
 |true =>rw[h1] at q;exact fin _ _ _ .sh _ [] g2 ⟨rfl,.tup (by lia) ki ((r1.sh g1.wf h1).same g2.sh)⟩ bL.nil q
 |false =>
  rw[h1] at q
  cases h2:ps.all IJ with
  |false =>rw[h2] at q;exact fin _ _ _ .bo _ [] g2 ⟨rfl,.tup (by lia) ki (rl.same g2.all)⟩ bL.nil q
  |true =>
   rw[h2] at q;obtain⟨Bs,sb,nz,ro⟩:=r1.ow (fl:=ps.all E9) g1.wf h2 λz=>z;have kz:dQ (ps.map (·.2))=false:=by
    cases hf:dQ (ps.map (·.2)) with
    |false=>rfl
    |true=>rw[mY hf] at h1;cases h1
   have own:=ro.own;refine f _ _ _ (.ow _) _ Bs (g1.trans g2) ⟨.tup (by lia) ki kz (ro.grow g2.sh g2.all),nz h1⟩ ⟨sb.nodup f1.1,λa ha=>⟨?_,(f1.2 a (sb.subset ha)).2⟩⟩ q;exact g2.lT (f1.2 a (sb.subset ha)).1 (own a ha).ne
theorem cz(h:QA X K es t):QE X K (.List es pos) (kG t):=by
 refine PE.imp (cd' h) λσ H Qv hx=>kB hx λHs ρ ai Q sr h f=>?_;refine⟨Hs,ρ,ai,_,sr,h,λvs H1 bE ps As g1 r1 f1 q1=>?_⟩;obtain⟨hz,q⟩:=q1;have rl:=(r1.reps g1.wf)
 have hl:=rl.length;rw[dn] at hl;refine⟨by lia,λp hp=>?_⟩;have g2:=Qz (o:=.lst vs) g1.wf hp λ_ z=>nomatch z;have fin:=Fin.after f g1;unfold BV at q
 cases h2:ps.all IJ with
 |false =>rw[h2] at q;exact fin _ _ _ .bo _ [] g2 ⟨rfl,.list (by lia) (.inl (.inl ki)) (rl.same g2.all)⟩ bL.nil q
 |true =>
  rw[h2] at q;obtain⟨Bs,sb,nz,ro⟩:=r1.ow (fl:=ps.all E9) g1.wf h2 λz=>z;have own:=ro.own;refine f _ _ _ (.ow _) _ (p :: Bs) (g1.trans g2) ⟨.list (by lia) ki (ro.grow g2.sh g2.all),by simp⟩ ⟨nE.mpr ⟨λm=>(own p m).ne hp,sb.nodup f1.1⟩,λa ha=>?_⟩ q;rcases eM.mp ha with rfl|ha
  ·exact⟨g1.wf.sub.free hp,g1.all.free hp⟩
  ·exact⟨g2.lT (f1.2 a (sb.subset ha)).1 (own a ha).ne,(f1.2 a (sb.subset ha)).2⟩
end
theorem b9.fT{K:aI}{H:Hp}{ds:List D}{vs:List V}{i:Int}{d:D}(r:b9 K H ds vs)(h:fT ds i=some d):∃ v,L2.fT vs i=some v/\Rep K H d v:=by
 unfold L2.fT at *
 rw[<- r.length]
 cases e:ti ds.length i with
 |none=>rw[e] at h;cases h
 |some j =>rw[e] at h;exact r.get h
def cK:W2:=λm x _ y Q=>match x with
 |.list xs=>match y with
  |.int i=>∃ d,fT xs i=some d/\cq d (f:=λd=>Q (pE m d) d) ⟨⟩
  |_=>False
 |.tup xs=>match y with
  |.int i=>∃ d,fT xs i=some d/\cq d (f:=λd=>Q (pE m d) d) ⟨⟩
  |_=>False
 |.str z=>match y with
  |.int i=>∃ c,fT z.cps.toList i=some c/\Q .sh (.str ⟨#[c]⟩)
  |_=>False
 |.dK ae=>∃ k d,y.key1=some k/\fP ae k=some d/\cq d (f:=λd=>Q (pE m d) d) ⟨⟩
 |.dT ae=>match y with
  |.tup ys=>∃ ks d,dG ys=some ks/\fP ae ks=some d/\cq d (f:=λd=>Q (pE m d) d) ⟨⟩
  |_=>False
 |_=>False
def TJ(K:aI):R2:=λx y H Q=>Tc K x y H Q\/∃ a v,x=.ref a/\k8 H a y (some v)/\Q v H
theorem vq(c:Nat):(⟨#[c]⟩:Str).length<=bX:=by show 1<=bX;decide
theorem RM.here{K:aI}{Hs H:Hp}{m:Md}{d:D}{v:V}{As:List ag}(w:Wf Hs H)(r:RM K Hs H m d v As):(m=.sh/\Rep K Hs d v)\/(m≠.sh/\Rep K H d v):=by
 cases m with
 |sh=>exact .inl ⟨rfl,r.2⟩
 |_=>exact .inr ⟨(λz=>nomatch z),r.rep w⟩
section
variable {X:Cx}{K:aI}
theorem Hr:nh K (TJ K) cK:=by
 intro Hs H m x v As n y u Bs Qd Qv w rx ry h f;have r2:=ry.rep w;have core:∀ G:Hp,bG G H->(∀ d v,Rep K G d v->Rep K H d v/\(m=.sh->Rep K Hs d v))->Rep K G x v->TJ K v u H Qv:=by
  intro G sg up r1
  cases r1 with
  |list z s q =>
   cases r2 with
   |int i =>obtain⟨d,e,h⟩:=h;obtain⟨v',e',r'⟩:=q.fT e;obtain⟨u1,u2⟩:=up _ _ r';exact .inl (.inl ⟨_,v',bG.seq sg s,e',f.pE w u1 u2 h⟩)
   |_=>exact h.elim
  |tup _ s q =>
   cases r2 with
   |int i =>obtain⟨d,e,h⟩:=h;obtain⟨v',e',r'⟩:=q.fT e;obtain⟨u1,u2⟩:=up _ _ r';exact .inl (.inr ⟨_,v',.inl (.inl (sg _ _ s)),e',f.pE w u1 u2 h⟩)
   |_=>exact h.elim
  |str hz =>
   cases r2 with
   |int i =>obtain⟨c,e,h⟩:=h;exact .inl ⟨hz,c,e,f.sh w (.str (vq c)) h⟩
   |_=>exact h.elim
  |dK kk s q =>obtain⟨k,d,hk,hg,h⟩:=h;have ev:=r2.key hk;subst ev;have z:=zip_get (k:=k) q;rw[hg] at z;obtain⟨v',e',r'⟩:=z;obtain⟨u1,u2⟩:=up _ _ r';exact .inr ⟨_,v',rfl,by rw[<- e'];exact k8.k' (bG.rd sg s),f.pE w u1 u2 h⟩
  |dT kk s q =>
   cases r2 with
   |tup t2 e2 q2 =>obtain⟨ks,d,hk,hg,h⟩:=h;obtain⟨b,eb,e3⟩:=Rep.mh (.tup t2 e2 q2) hk;cases eb;have z:=zip_get (k:=ks) q;rw[hg] at z;obtain⟨v',e',r'⟩:=z;obtain⟨u1,u2⟩:=up _ _ r';exact .inr ⟨_,v',rfl,by rw[<- e'];exact k8.t' (bG.rd sg s) e3,f.pE w u1 u2 h⟩
   |_=>exact h.elim
  |_=>exact h.elim
 rcases rx.here w with⟨hm,r⟩|⟨hm,r⟩
 ·exact core Hs w.sub (λd v q=>And.intro (q.same w.sub) λ_=>q) r
 ·exact core H (bG.refl H) (λd v q=>And.intro q λz=>absurd z hm) r
theorem Zo(hu:X.A.units+64<hX)(hK:X.K=K:=by rfl):xS X (TJ K):=by subst hK;refine xS.or Fz ?_;intro value slice pins s σ H x y v u Q I rx ry h hs;obtain⟨a,w,rfl,g,q⟩:=h;cases rx;exact tail_any (df' I g) F.slot_dict_getitem.lookup (cY' (by lia) I g ry λw' s3 I3 mS=>⟨w,H,I3,mS,q⟩) hs
variable {a b:Expr}{ta tb:WE}{pos:Pos}
theorem dc(ha:QE X K a ta)(hb:QE X K b tb)(hs:SJ b:=by exact λ_ _=>rfl)(hK:X.K=K:=by rfl)(hu:X.A.units+64<hX:=by assumption):QE X K (.Subscript a b pos) (aC cK ta tb):=PE.imp (V2 (Zo hu hK) ha hb hs) (mH Hr)
end
def hV{α:Type}(xs:List α)(lo hi:Option Int):List α:=(xs.drop (HT.cv xs.length 0 lo)).take (HT.cv xs.length xs.length hi-HT.cv xs.length 0 lo)
abbrev WO:=Env->(Option Int->Prop)->Prop
def cT:WO:=λ_ Q=>Q none
def fQ(t:WE):WO:=λρ Q=>t ρ λ_ x=>match x with
 |.int i=>Q (some i)
 |_=>False
def Og(m:Md)(x:D)(lo hi:Option Int)(Q:Md->D->Prop):Prop:=match x with
 |.str z=>Q .sh (.str (ky z lo hi))
 |.list xs=>(dQ xs=true/\Q (.ow true) (.list (hV xs lo hi)))\/(m=.sh/\Q (.ow false) (.list (hV xs lo hi)))
 |.tup xs=>dQ xs=true/\¬ (HT.cv xs.length 0 lo=0/\HT.cv xs.length xs.length hi=xs.length)/\Q .sh (.tup (hV xs lo hi))
 |_=>False
def zv(te:WE)(tl th:WO):WE:=λρ Q=>te ρ λm x=>tl ρ λlo=>th ρ λhi=>Og m x lo hi Q
def tpO(K:aI)(t:WO):TO:=λσ H Qv=>∃ Hs ρ ai Q,eB K Hs ρ σ H ai/\t ρ Q/\∀ o H' ax,eT Hs H ax H'->Q o->Qv o H'
abbrev QO(X:Cx)(K:aI)(e:Option Expr)(t:WO):Prop:=PO X e (tpO K t)
theorem xU(z:Str)(lo hi:Option Int):(ky z lo hi).length<=z.length:=by unfold ky Str.length;simp only[iA,ly,xt,xv];lia
theorem gf{α:Type}(xs:List α)(lo hi:Option Int):(hV xs lo hi).length<=xs.length:=by unfold hV;rw[ly,xt];lia
theorem oh{xs:List D}{lo hi:Option Int}(h:dQ xs=true):dQ (hV xs lo hi)=true:=by
 rw[jq] at *
 intro x hx;exact h x (K2 (Lc hx))
section
variable {X:Cx}{K:aI}{e:Expr}{lo hi:Option Expr}{te:WE}{tl th:WO}{pos p2:Pos}
theorem fH:QO X K none cT:=λpins s σ H Q I h=>cu' pins s σ H Q I (by
 obtain⟨Hs,ρ,ai,Qd,sr,h,f⟩:=h;exact f none H Hs (eT.refl sr.wf) h)
theorem b7(h:QE X K e te):QO X K (some e) (fQ te):=λpins s σ H Q I hh=>cv' h pins s σ H Q I (by
 obtain⟨Hs,ρ,ai,Qd,sr,h,f⟩:=hh;refine⟨Hs,ρ,ai,_,sr,h,λv H1 bE m x As g1 r1 f1 q1=>?_⟩;have r:=r1.rep g1.wf
 cases r with
 |int i=>exact⟨i,rfl,f _ H1 bE g1 q1⟩
 |_=>exact q1.elim)
theorem ji{H:Hp}{ds:List D}{vs:List V}{lo hi:Option Int}(r:b9 K H ds vs):b9 K H (hV ds lo hi) (CM vs lo hi):=by unfold hV CM;rw[r.length];exact(r.drop _).take _
theorem eR'(hK:X.K=K:=by rfl):L6 X (λx lo hi H Q=>Td K x lo hi H Q\/V1 K x lo hi H Q):=by
 subst hK;intro pins s σ H x v vl vu lo hi sl Q I rx hs pl pu h;rcases h with h|h
 ·exact El pins s σ H x v vl vu lo hi sl Q I rx hs pl pu h
 ·exact cy' pins s σ H x v vl vu lo hi sl Q I rx hs pl pu h
theorem cV(he:QE X K e te)(hl:QO X K lo tl)(hh:QO X K hi th)(hK:X.K=K:=by rfl):QE X K (.Subscript e (.Slice lo hi none p2) pos) (zv te tl th):=by
 refine PE.imp (cx' (eR' hK) he hl hh) λσ H Qv hx=>kB hx λHs ρ ai Q sr h f=>?_;refine⟨Hs,ρ,ai,_,sr,h,λv H1 bE m x As g1 r1 f1 q1=>⟨bE,ρ,ai,_,sr.grow g1,q1,λl H2 bq g2 q2=>⟨bq,ρ,ai,_,(sr.grow g1).grow g2,q2,λu H3 fe g3 q3=>?_⟩⟩⟩;have r3:=(r1.grow g2).grow g3;have fin:Fin K fe H3 Q Qv:=Fin.after f ((g1.trans g2).trans g3);have rr:=r3.rep g3.wf
 cases rr with
 |str hz=>exact .inl ⟨hz,fin.sh g3.wf (.str (i9 (xU _ _ _) hz)) q3⟩
 |list z s q =>
  have hz:=q.length;rcases q3 with⟨hf,q3⟩|⟨rfl,q3⟩
  ·exact .inl ⟨_,s,fin.lst g3.wf (i9 (gf _ _ _) (by lia)) (ji q) (oh hf) q3⟩
  ·obtain⟨_,r3⟩:=r3
   cases r3 with
   |list z' s' q' =>have hz:=q'.length;exact .inl ⟨_,bG.seq g3.wf.sub s',fin.QB g3.wf (i9 (gf _ _ _) (by lia)) (ji q') q3⟩
 |tup z s q =>have hz:=q.length;obtain⟨hf,hn,q3⟩:=q3;exact .inr ⟨_,_,rfl,.inl (.inl s),by rw[<- hz];exact hn,fin.tup g3.wf (i9 (gf _ _ _) (by lia)) (ji q) (oh hf) q3⟩
 |_=>exact q3.elim
end
def sD:W1:=λ_ x Q=>match x with
 |.str z=>Q .sh (.int z.length)
 |.list xs=>Q .sh (.int xs.length)
 |.tup xs=>Q .sh (.int xs.length)
 |.dK ae=>Q .sh (.int ae.length)
 |.dT ae=>Q .sh (.int ae.length)
 |_=>False
def Oh(T:String):W1:=λ_ x Q=>Q .sh (.bl (Ma x.ty T))
def IL(K:aI)(r:List V->Hp->VK->Prop)(f:W1):Prop:=∀ Hs H m x v As Qd Qv,Wf Hs H->RM K Hs H m x v As->f m x Qd->Fin K Hs H Qd Qv->r [v] H Qv
section
variable {X:Cx}{K:aI}{e:Expr}{te:WE}{pos p:Pos}{x:Str}{id T:String}
theorem lA{r:List V->Hp->VK->Prop}{f:W1}(br:IL K r f)(σ:St)(H:Hp)(Qv:VK)(h:nS K (iF f te) σ H Qv):Sz r (VJ (nS K te) VH) σ H Qv:=by obtain⟨Hs,ρ,ai,Q,sr,h,fin⟩:=h;exact⟨Hs,ρ,ai,_,sr,h,λv H1 bE m x As g1 r1 f1 q1=>br bE H1 m x v As Q Qv g1.wf r1 q1 (Fin.after fin g1)⟩
theorem cC{r:List V->Hp->VK->Prop}{f:W1}(hc:nK X (.builtin id) r)(br:IL K r f)(hm:X.mg x=none)(hv:kN x=some (.builtin id))(he:QE X K e te)(hs:bS [e] X.env=(false,c9 e X.env) :: bS [] X.env:=by rfl) (hn:x ≠ "__name__" := by decide) (ic:(x == ("__debug__" : Str))=false:=by decide) (hg:Gl X x:=by rfl):QE X K (.Call (.Name x p) [e] [] pos) (iF f te) :=
 PE.imp (PY hc hg hm hv (kU he si hs) hn ic hs) (lA br)
theorem jg{r:List V->Hp->VK->Prop}{f:W1}(hc:nK X (.type T) r)(br:IL K r f)(hm:X.mg x=none)(hv:kN x=some (.type T))(he:QE X K e te)(hs:bS [e] X.env=(false,c9 e X.env) :: bS [] X.env:=by rfl) (hn:x ≠ "__name__" := by decide) (ic:(x == ("__debug__" : Str))=false:=by decide) (hg:Gl X x:=by rfl):QE X K (.Call (.Name x p) [e] [] pos) (iF f te) :=
 PE.imp (ci' hc hg hm hv (kU he si hs) hn ic hs) (lA br)
theorem BL{prog:dz}{w:dA}{A:eJ}{E:ah->aE->Prop}{s:aE}{d:ag}{es:Qn}{ep:Nat}{Q:ah->aE->Prop}(hd:(d == vw)=false)(x:ve s.heap d es ep)(Ms:(es.size:Int)<2 ^ 63)(h:∀ t t',Q (.int es.size t) { s with toks:=t' }):aT (aS prog w) A (call (.builtin "len") [.ref d]) Q E s:=by
 refine Calls.call_function_entry kind_len plain_len entry_len (args_len1 _) ?_;have mt:MeetsIn prog w (Builtin.«dict.__len__» ⟨[.ref d],[]⟩) (λ_ R s=>ve s.heap d es ep/\R (.ok (.ret (.int es.size s.toks))) { s with toks:=s.toks+1 }):=.of_wp λA R s d5=>by obtain⟨hm,h⟩:=d5;obtain⟨o,ho,hc,Qo⟩:=hm;show aT _ _ (dictSize d >>= _) _ _ s;unfold dictSize;refine ay (ay (wpAny_dictEntries ho Qo (bI ?_)));show aT _ _ (Builtin.Dict.pendingCount d >>= _) _ _ s;refine ay (wpAny_pendingCount_other hd ?_);refine wpAny_ret_mkInt ?_;rw[LK];exact h
 unfold Builtin.«len»;refine ay (m:=oneArg "len" _) (bI ?_);refine ay (m:=callSpecial? (.ref d) (Str.ofString "__len__")) (MR (name:=Str.ofString "__len__") x.typ F.slot_dict_len (call_meetsIn F.slot_dict_len x.typ F.entry_dict_len (F.args_dict_len_1 _) mt ⟨x,?_⟩))
 show aT _ _ _ _ _ { s with toks:=s.toks+1 };refine ay (xl (bI ?_));refine ay (wpAny_letGo ?_);show aT _ _ (if ((es.size:Nat):Int)<0 then _ else _) _ _ _;rw[if_neg (by lia)];show aT _ _ (if ((es.size:Nat):Int) >= 2 ^ 63 then _ else _) _ _ _;rw[if_neg (by lia)];exact ay (wpAny_mkInt (bI ⟨_,rfl,h _ _⟩))
theorem aO (hK:X.K=K:=by rfl):nK X (.builtin "len") (λxs H Q=>Qg K xs H Q\/∃ a ae,xs=[.ref a]/\Rd H a (.dT ae)/\Q (.int ae.length) H):=by
 subst hK;intro pins s σ H xs us Q I r h;rcases h with h|⟨a,ae,rfl,ha,q⟩
 ·exact wN pins s σ H xs us Q I r h
 ·obtain⟨u,rfl,ru⟩:=Vals.one r;cases ru;obtain⟨z,hd,ys,rel,o,es,ep,h1,h2,h3,h4,h5⟩:=(show fS X.prog X.w H s.heap a (.dT ae) from I.rd ha)
  have hl:es.size=ae.length:=by have:=congrArg List.length h4;rw[xv,dn] at this;rw[this];exact rel.length.symm
  exact BL hd ⟨o,h1,h2,h3⟩ (by rw[kP] at z;lia) λt t'=>⟨.int ae.length,H,I.tok _,⟨t,by rw[hl]⟩,q⟩
theorem e_:IL K (λxs H Q=>Qg K xs H Q\/∃ a ae,xs=[.ref a]/\Rd H a (.dT ae)/\Q (.int ae.length) H) sD:=by
 intro Hs H m x v As Qd Qv w rx h f;have r1:=rx.rep w
 cases r1 with
 |str hz=>exact .inl ⟨hz,f.sh w (.int _) h⟩
 |list z s q=>exact .inl (.inl ⟨_,s,by rw[<- q.length];exact f.sh w (.int _) h⟩)
 |tup _ s q=>exact .inl (.inr (.inl ⟨_,.inl (.inl s),by rw[<- q.length];exact f.sh w (.int _) h⟩))
 |dK kk s q=>exact .inl (.inr (.inr ⟨_,s,by
   have:=q.length;rw[dn] at this;rw[M9,dn,<- this,Ng];exact f.sh w (.int _) h⟩))
 |dT kk s q=>exact .inr ⟨_,_,rfl,s,by
   have:=q.length;rw[dn] at this;rw[M9,dn,<- this,Ng];exact f.sh w (.int _) h⟩
 |_=>exact h.elim
end
section
variable {X:Cx}{K:aI}{e e2:Expr}{te:WE}{pos p:Pos}{T:String}
theorem wH (hK:X.K=K:=by rfl):nK X (.builtin "isinstance") (λxs H Q=>∃ x d T,xs=[x,.ty T]/\Rep K H d x/\S9 T=true/\Q (.bl (Ma d.ty T)) H):=by
 subst hK;intro pins s σ H xs us Q I r h;obtain⟨x,d,T,rfl,rd,hT,q⟩:=h;obtain⟨u,v,rfl,ru,rv⟩:=Vals.two r;obtain rfl:v=Value.type T:=rv;have hb:T∈["str", "int", "bool", "list", "tuple", "dict"]:=by simpa[S9] using hT
 have fin:∀ tk,EP X pins σ Q (.bool (Ma d.ty T)) { s with toks:=tk }:=λtk=>⟨.bl (Ma d.ty T),H,I.tok tk,rfl,q⟩
 cases rd with
 |non=>exact NB I ru .non (iz X.K _ T (by simp) hb) fin
 |bl b=>exact NB I ru (.bl b) (iz X.K _ T (by simp) hb) fin
 |int i=>exact NB I ru (.int i) (iz X.K _ T (by simp) hb) fin
 |str y=>exact NB I ru (.str _) (iz X.K _ T (by simp) hb) fin
 |list z s' q' =>cases ru;obtain⟨its,_,pl,_⟩:=I.list s';obtain⟨o,h1,h2,_⟩:=pl.isList;exact ua Rx I.iP ⟨o,h1,h2⟩ (iz X.K "list" T (by simp) hb) (λz=>nomatch z) fin
 |tup _ s' q'=>exact NB I ru (.tup s') (iz X.K _ T (by simp) hb) fin
 |dK _ s' q' =>cases ru;obtain⟨_,_,vs,_,p⟩:=I.rd s';obtain⟨o,es,ep,h1,h2,_⟩:=p;exact ua O6 I.iP ⟨o,h1,h2.1⟩ (iz X.K "dict" T (by simp) hb) (λz=>nomatch z) fin
 |dT _ s' q' =>cases ru;obtain⟨_,_,xs,_,o,es,ep,h1,h2,_⟩:=I.rd s';exact ua O6 I.iP ⟨o,h1,h2.1⟩ (iz X.K "dict" T (by simp) hb) (λz=>nomatch z) fin
theorem Bm (hm:X.mg "isinstance" = none) (he:QE X K e te) (ht:PE X e2 (tC (.ty T))) (hT:S9 T=true:=by rfl) (hg:Gl X "isinstance" := by rfl) (hK:X.K=K:=by rfl) (hs:bS (e :: [e2]) X.env=(false,c9 e X.env) :: bS [e2] X.env:=by rfl) (lI:bS (e2 :: []) X.env=(false,c9 e2 X.env) :: bS [] X.env:=by rfl) (hU:(iq pos (bS [e2] X.env)).any (·.1)=false:=by rfl) :
  QE X K (.Call (.Name "isinstance" p) [e,e2] [] pos) (iF (Oh T) te):=by
 refine PE.imp (PY (wH hK) hg hm cX (kU he (kU ht si lI) hs) (by decide) (by decide) hs hU) λσ H Qv hx=>kB hx λHs ρ ai Q sr h f=>?_;refine⟨Hs,ρ,ai,_,sr,h,λv H1 bE m x As g1 r1 f1 q1=>⟨v,x,T,rfl,r1.rep g1.wf,hT,Fin.sh (Fin.after f g1) g1.wf (.bl _) q1⟩⟩
end
def qS:Key->D
 |.inl i=>.int i
 |.inr x=>.str x
def pW:W1:=λm x Q=>match x with
 |.list xs=>(dQ xs=true/\Q (.ow true) (.list xs))\/(m=.sh/\Q (.ow false) (.list xs))
 |.tup xs=>(dQ xs=true/\Q (.ow true) (.list xs))\/(m=.sh/\Q (.ow false) (.list xs))
 |.dT ae=>Q (.ow true) (.list (ae.map λkv=>.tup (kv.1.map qS)))
 |_=>False
section
variable {X:Cx}{K:aI}
theorem nF:∀ {ks:List Key},(∀ k∈ks,y9 k=true)->b9 K H (ks.map qS) (ks.map kV)
 |[],_=>.nil
 |k :: ks,h=>by
  refine .cons ?_ (nF λj m=>h j (eP _ m));have:=h k ft
  cases k with
  |inl i=>exact .int i
  |inr x=>exact .str (by simpa[y9] using this)
theorem jP:∀ (ks:List Key),dQ (ks.map qS)=true
 |[]=>rfl
 |k :: ks=>by simp only[gI,dQ,jP ks,yA];cases k<;>rfl
theorem rQ(t:cR H ys ks)(h:∀ l∈ks,l.length<=bX/\∀ k∈l,y9 k=true):b9 K H (ks.map λl=>.tup (l.map qS)) ys:=by
 induction ys generalizing ks with
 |nil=>rw[show ks=[] from Paired.n0 t];exact .nil
 |cons y ys ih =>obtain⟨k,ks,rfl,⟨b,rfl,e⟩,t2⟩:=Paired.c t;exact .cons (.tup (by rw[dn];exact(h _ ft).1) e (nF (h _ ft).2)) (ih t2 λl m=>h l (eP _ m))
theorem jo:∀ (ks:List (List Key)),dQ (ks.map λl=>.tup (l.map qS))=true
 |[]=>rfl
 |l :: ks=>by simp only[gI,dQ,jo ks,yA,D.flat,jP]
theorem gP (hc:X.calm=true:=by rfl) (hK:X.K=K:=by rfl):nK X (.type "list") (λxs H Q=>(∃ p ys,xs=[.ref p]/\(fF K H p ys\/qk K H p ys)/\∀ l,H l=none->Q (.ref l) (upd H l (.lst ys)))\/rG xs H Q):=by subst hK;exact cN'.or (t7 hc)
theorem qb:IL K (λxs H Q=>(∃ p ys,xs=[.ref p]/\(fF K H p ys\/qk K H p ys)/\∀ l,H l=none->Q (.ref l) (upd H l (.lst ys)))\/rG xs H Q) pW:=by
 intro Hs H m x v As Qd Qv w rx h f;have r1:=rx.rep w
 cases r1 with
 |list z s q =>
  have hl:=q.length;rcases h with⟨hf,h⟩|⟨rfl,h⟩
  ·exact .inl ⟨_,_,rfl,.inl s,f.lst w (by lia) q hf h⟩
  ·obtain⟨_,rx⟩:=rx
   cases rx with
   |list z' s' q' =>have hl:=q'.length;exact .inl ⟨_,_,rfl,.inl (bG.seq w.sub s'),f.QB w (by lia) q' h⟩
 |tup z s q =>
  have hl:=q.length;rcases h with⟨hf,h⟩|⟨rfl,h⟩
  ·exact .inl ⟨_,_,rfl,.inr (.inl (.inl s)),f.lst w (by lia) q hf h⟩
  ·obtain⟨_,rx⟩:=rx
   cases rx with
   |tup z' s' q' =>have hl:=q'.length;exact .inl ⟨_,_,rfl,.inr (.inl (.inl (w.sub _ _ s'))),f.QB w (by lia) q' h⟩
 |@dT _ vs ae kk s q =>
  refine .inr ⟨_,s,λys l ht hl=>?_⟩;have hlen:=q.length;rw[dn] at hlen;have e:((ae.map (·.1)).zip vs).map (·.1)=ae.map (·.1):=List.map_fst_zip (by rw[dn];exact Nat.le_of_eq hlen);rw[e] at ht;have rr:=rQ (K:=K) ht (λl m=>by
   obtain⟨p,hp,rfl⟩:=eK.mp m;exact kk.2 p hp)
  have ff:=jo (ae.map (·.1));rw[i7] at rr ff;exact f.lst w (by rw[dn];exact kk.1) rr ff h l hl
 |_=>exact h.elim
end
section
variable {K:aI}{Hs H:Hp}
theorem SR.zm{d:D}{v:V}(r:Rep K Hs d v){ρ:Env}{σ:St}{ai:List ag}(i:Nat)(s:SR K Hs H ρ σ ai):∃ cy,cy.Sublist ai/\SR K Hs H (ρ.set i (some (.sh d))) (σ.set i (some v)) cy:=by
 induction s generalizing i with
 |nil=>exact⟨[],AF _,.nil⟩
 |non s ih =>
  cases i with
  |zero=>exact⟨_,List.Sublist.refl _,.sh r s⟩
  |succ i=>obtain⟨t,a,b⟩:=ih i;exact⟨t,a,.non b⟩
 |sh q s ih =>
  cases i with
  |zero=>exact⟨_,List.Sublist.refl _,.sh r s⟩
  |succ i=>obtain⟨t,a,b⟩:=ih i;exact⟨t,a,.sh q b⟩
 |xc s ih =>
  cases i with
  |zero=>exact⟨_,List.Sublist.refl _,.sh r s⟩
  |succ i=>obtain⟨t,a,b⟩:=ih i;exact⟨t,a,.xc b⟩
 |ow ne q s ih =>
  cases i with
  |zero=>exact⟨_,k6 _ _,.sh r s⟩
  |succ i=>obtain⟨t,a,b⟩:=ih i;exact⟨_,a.append_left _,.ow ne q b⟩
 |lk ne q s ih =>
  cases i with
  |zero=>exact⟨_,k6 _ _,.sh r s⟩
  |succ i=>obtain⟨t,a,b⟩:=ih i;exact⟨_,a.append_left _,.lk ne q b⟩
 |ob q s ih =>
  cases i with
  |zero=>exact⟨_,k6 _ _,.sh r s⟩
  |succ i=>obtain⟨t,a,b⟩:=ih i;exact⟨_,a.append_left _,.ob q b⟩
theorem lu{As ai:List ag}(nd:As.Nodup)(n:ai.Nodup)(dj:∀ a∈As,a∉ai):(As++ai).Nodup:=i6.mpr ⟨nd,n,λa ha b hb e=>dj a ha (e ▸ hb)⟩
theorem bZ{As ai B t:List ag}(n:(B++ai).Nodup)(dj:∀ a∈As,a∉B++ai)(a:t.Nodup)(b:∀ x∈t,x∈ai\/x∈As):(B++t).Nodup/\∀ x∈B++t,x∈B++ai\/x∈As:=by
 obtain⟨n1,n2,n3⟩:=i6.mp n;refine⟨i6.mpr ⟨n1,a,λx hx y hy e=>?_⟩,λx hx=>?_⟩
 ·subst e;rcases b x hy with z|z
  ·exact n3 x hx x z rfl
  ·exact dj x z (j3 _ hx)
 ·rcases fh.mp hx with z|z
  ·exact .inl (j3 _ z)
  ·exact(b x z).imp (λz=>fA _ z) λz=>z
theorem SR.D_{d:D}{v:V}{fl:Bool}{As:List ag}(ne:As≠[])(r:cw K Hs H fl d v As)(nd:As.Nodup){ρ:Env}{σ:St}{ai:List ag}(i:Nat)(s:SR K Hs H ρ σ ai):ai.Nodup->(∀ a∈As,a∉ai) ->
  ∃ cy,cy.Nodup/\(∀ a∈cy,a∈ai\/a∈As)/\SR K Hs H (ρ.set i (some (.ow fl d))) (σ.set i (some v)) cy:=by
 induction s generalizing i with
 |nil=>exact λn _=>⟨[],mG,(λa h=>zh h),.nil⟩
 |non s ih =>
  intro n dj
  cases i with
  |zero=>exact⟨_,lu nd n dj,λa h=>(fh.mp h).symm,.ow ne r s⟩
  |succ i=>obtain⟨t,a,b,c⟩:=ih i n dj;exact⟨t,a,b,.non c⟩
 |sh q s ih =>
  intro n dj
  cases i with
  |zero=>exact⟨_,lu nd n dj,λa h=>(fh.mp h).symm,.ow ne r s⟩
  |succ i=>obtain⟨t,a,b,c⟩:=ih i n dj;exact⟨t,a,b,.sh q c⟩
 |xc s ih =>
  intro n dj
  cases i with
  |zero=>exact⟨_,lu nd n dj,λa h=>(fh.mp h).symm,.ow ne r s⟩
  |succ i=>obtain⟨t,a,b,c⟩:=ih i n dj;exact⟨t,a,b,.xc c⟩
 |ow ne' q s ih =>
  intro n dj;obtain⟨n1,n2,n3⟩:=i6.mp n;have Fc:=λa ha m=>dj a ha (fA _ m)
  cases i with
  |zero=>exact⟨_,lu nd n2 Fc,λa h=>(fh.mp h).symm.imp (λz=>fA _ z) λz=>z,.ow ne r s⟩
  |succ i=>obtain⟨t,a,b,c⟩:=ih i n2 Fc;exact⟨_,(bZ n dj a b).1,(bZ n dj a b).2,.ow ne' q c⟩
 |lk ne' q s ih =>
  intro n dj;obtain⟨n1,n2,n3⟩:=i6.mp n;have Fc:=λa ha m=>dj a ha (fA _ m)
  cases i with
  |zero=>exact⟨_,lu nd n2 Fc,λa h=>(fh.mp h).symm.imp (λz=>fA _ z) λz=>z,.ow ne r s⟩
  |succ i=>obtain⟨t,a,b,c⟩:=ih i n2 Fc;exact⟨_,(bZ n dj a b).1,(bZ n dj a b).2,.lk ne' q c⟩
 |ob q s ih =>
  intro n dj;obtain⟨n1,n2,n3⟩:=i6.mp n;have Fc:=λa ha m=>dj a ha (fA _ m)
  cases i with
  |zero=>exact⟨_,lu nd n2 Fc,λa h=>(fh.mp h).symm.imp (λz=>fA _ z) λz=>z,.ow ne r s⟩
  |succ i=>obtain⟨t,a,b,c⟩:=ih i n2 Fc;exact⟨_,(bZ n dj a b).1,(bZ n dj a b).2,.ob q c⟩
theorem SR.Ar{ρ:Env}{σ:St}{ai:List ag}:∀ (i:Nat),SR K Hs H ρ σ ai->∃ cy,cy.Sublist ai/\SR K Hs H (ρ.set i none) σ cy:=by
 intro i s
 induction s generalizing i with
 |nil=>exact⟨[],AF _,.nil⟩
 |non s ih =>
  cases i with
  |zero=>exact⟨_,List.Sublist.refl _,.non s⟩
  |succ i=>obtain⟨t,a,b⟩:=ih i;exact⟨t,a,.non b⟩
 |sh q s ih =>
  cases i with
  |zero=>exact⟨_,List.Sublist.refl _,.non s⟩
  |succ i=>obtain⟨t,a,b⟩:=ih i;exact⟨t,a,.sh q b⟩
 |xc s ih =>
  cases i with
  |zero=>exact⟨_,List.Sublist.refl _,.non s⟩
  |succ i=>obtain⟨t,a,b⟩:=ih i;exact⟨t,a,.xc b⟩
 |ow ne q s ih =>
  cases i with
  |zero=>exact⟨_,k6 _ _,.non s⟩
  |succ i=>obtain⟨t,a,b⟩:=ih i;exact⟨_,a.append_left _,.ow ne q b⟩
 |lk ne q s ih =>
  cases i with
  |zero=>exact⟨_,k6 _ _,.non s⟩
  |succ i=>obtain⟨t,a,b⟩:=ih i;exact⟨_,a.append_left _,.lk ne q b⟩
 |ob q s ih =>
  cases i with
  |zero=>exact⟨_,k6 _ _,.non s⟩
  |succ i=>obtain⟨t,a,b⟩:=ih i;exact⟨_,a.append_left _,.ob q b⟩
def asg:Md->D->Option Sl
 |.sh,d=>some (.sh d)
 |.ow fl,d=>some (.ow fl d)
 |_,d=>bif d.flat then some (.sh d) else none
theorem eB.set{ρ:Env}{σ:St}{ai As:List ag}{m:Md}{d:D}{v:V}{sl:Sl}(i:Nat)(s:eB K Hs ρ σ H ai)(r:RM K Hs H m d v As)(nd:As.Nodup)(dj:∀ a∈As,Hs a=none/\a∉ai)(e:asg m d=some sl) :
  ∃ cy,eB K Hs (ρ.set i (some sl)) (σ.set i (some v)) H cy:=by
 have Zq:Rep K Hs d v->∃ cy,eB K Hs (ρ.set i (some (.sh d))) (σ.set i (some v)) H cy:=λr=>by obtain⟨t,a,b⟩:=s.sr.zm r i;exact⟨t,b,s.wf,a.nodup s.tN,λx hx=>s.own x (a.subset hx)⟩
 cases m with
 |sh=>cases e;exact Zq r.2
 |ow fl =>cases e;obtain⟨t,a,b,c⟩:=SR.D_ r.2 r.1 nd i s.sr s.tN λa ha=>(dj a ha).2;exact⟨t,c,s.wf,a,λx hx=>(b x hx).elim (s.own x) λz=>(dj x z).1⟩
 |_ =>
  cases hf:d.flat with
  |true =>simp only[asg,hf,cond_true,Option.some.injEq] at e;subst e;exact Zq (r.flat s.wf hf)
  |false=>simp[asg,hf] at e
end
section
variable {X:Cx}{K:aI}{e c:Expr}{te:WE}{tc:WT}{pos:Pos}{st:Stmt}{a b rest:List Stmt}{t u:WS}
theorem PS.imp{te qE:TS}(h:PS X st te)(i:∀ D σ H,qE D σ H->te D σ H):PS X st qE:=λpins s σ H D I q=>h pins s σ H D I (i D σ H q)
theorem mP.imp{te qE:TS}(h:mP X a te)(i:∀ D σ H,qE D σ H->te D σ H):mP X a qE:=λpins s σ H D I q=>h pins s σ H D I (i D σ H q)
def a_:WS:=λE ρ=>E.nx ρ
def cp(t u:WS):WS:=λE ρ=>t { E with nx:=u E } ρ
def oz(te:WE):WS:=λE ρ=>te ρ E.rt
def eh(i:Nat)(te:WE):WS:=λE ρ=>te ρ λm d=>match asg m d with
 |some sl=>E.nx (ρ.set i (some sl))
 |none=>False
def gv(c:WT)(t u:WS):WS:=λE ρ=>c ρ λb=>if b=true then t E ρ else u E ρ
theorem aD:tP X K L [] a_:=mP.imp Sh λD σ H hx=>cI hx λHs ρ ai E sr h k1 _ _ _=>k1 σ H Hs ρ ai (bG.refl _) sr h
theorem xx{D:Ends}{σ:St}{H:Hp}(h:zk K L (cp t u) D σ H):Vp (zk K L t) (zk K L u) D σ H:=by
 obtain⟨Hs,ρ,ai,E,sr,h,k1,k2,k3,k4,kx⟩:=h;refine⟨Hs,ρ,ai,{ E with nx:=u E },sr,h,λck H' ax da cy s TK q=>?_,k2,k3,k4,kx⟩;exact⟨ax,da,cy,E,TK,q,λkS H2 bq jS fi s2=>k1 kS H2 bq jS fi (s.trans s2),λkS H2 bq jS fi s2=>k2 kS H2 bq jS fi (s.trans s2),λkS H2 bq jS fi s2=>k3 kS H2 bq jS fi (s.trans s2),
  λv H2 bq m d As s2=>k4 v H2 bq m d As (s.trans s2),λn H2 s2=>kx n H2 (s.trans s2)⟩
theorem aj(h1:QS X K L st t)(h2:tP X K L rest u):tP X K L (st :: rest) (cp t u):=mP.imp (bd' h1 h2) λD σ H h=>xx h
theorem ao(h1:QS X K L st t):tP X K L [st] t:=Vq h1
theorem bN(he:QE X K e te):QS X K L (.Return (some e) pos) (oz te):=PS.imp (Nx he) λD σ H hx=>cI hx λHs ρ ai E sr h k1 k2 k3 k4 =>
 ⟨Hs,ρ,ai,_,sr,h,λv H1 bE m d As g1 r1 f1 q1=>k4 v H1 bE m d As g1.sh g1.wf r1 f1.1 (λa ha=>(f1.2 a ha).1) q1⟩
def gQ(i:Nat):WS:=λE ρ=>match ρ[i]? with
 |some (some (.sh d))=>E.rt .sh d
 |some (some (.ow fl d))=>E.rt (.ow fl) d
 |_=>False
theorem SR.at{ρ:Env}{σ:St}{ai:List ag}{i:Nat}{fl:Bool}{d:D}{Hs H:Hp}(s:SR K Hs H ρ σ ai)(e:ρ[i]? = some (some (.ow fl d))):∃ v As,σ[i]? = some (some v)/\As≠[]/\cw K Hs H fl d v As/\As.Sublist ai:=by
 induction s generalizing i with
 |nil=>simp at e
 |non s ih =>
  cases i with
  |zero=>simp at e
  |succ i=>exact ih e
 |sh r s ih =>
  cases i with
  |zero=>simp at e
  |succ i=>exact ih e
 |xc s ih =>
  cases i with
  |zero=>simp at e
  |succ i=>exact ih e
 |ow ne r s ih =>
  cases i with
  |zero=>simp at e;obtain⟨rfl,rfl⟩:=e;exact⟨_,_,rfl,ne,r,MY _ _⟩
  |succ i =>obtain⟨v,As,a,b,c,d⟩:=ih e;exact⟨v,As,a,b,c,d.trans (k6 _ _)⟩
 |lk ne r s ih =>
  cases i with
  |zero=>simp at e
  |succ i =>obtain⟨v,As,a,b,c,d⟩:=ih e;exact⟨v,As,a,b,c,d.trans (k6 _ _)⟩
 |ob r s ih =>
  cases i with
  |zero=>simp at e
  |succ i =>obtain⟨v,As,a,b,c,d⟩:=ih e;exact⟨v,As,a,b,c,d.trans (k6 _ _)⟩
theorem cL{i:Nat}(he:PE X e (AW i)):QS X K L (.Return (some e) pos) (gQ i):=PS.imp (Nx he) λD σ H hx=>cI hx λHs ρ ai E sr h k1 k2 k3 k4=>by
 unfold gQ at h;split at h
 ·rename_i d e1;obtain⟨v,e2,r⟩:=sr.sr.get e1;exact⟨v,e2,k4 v H Hs .sh d [] (bG.refl _) sr.wf ⟨rfl,r⟩ mG (λa ha=>nomatch ha) h⟩
 ·rename_i fl d e1;obtain⟨v,As,e2,ne,r,sb⟩:=sr.sr.at e1;exact⟨v,e2,k4 v H Hs (.ow fl) d As (bG.refl _) sr.wf ⟨r,ne⟩ (sb.nodup sr.tN) (λa ha=>sr.own a (sb.subset ha)) h⟩
 ·exact h.elim
theorem aA(i:Nat){x:Str}{pos':Pos}(he:QE X K e te)(hs:rU e (some (.Name x pos')) pos.line X.env=pure false:=by rfl) (hf:X.fn x=true\/X.env.scope.names.lookup x=some .local:=by first|exact .inl rfl|exact .inr rfl|assumption) (hN:X.N.Nodup:=by assumption) (hi:X.N[i]? = some x:=by rfl) (hx:Loc X.env.scope x:=by first|exact .inl rfl|exact .inr rfl):QS X K L (.Assign [.Name x pos'] e pos) (eh i te):=PS.imp (PD hN hi hx he hs hf) λD σ H hx=>cI hx λHs ρ ai E sr h k1 k2 k3 k4=>by
 refine⟨Hs,ρ,ai,_,sr,h,λv H1 bE m d As g1 r1 f1 q1=>?_⟩
 have q1:match asg m d with
  |some sl=>E.nx (ρ.set i (some sl))
  |none=>False:=q1
 cases e:asg m d with
 |none=>rw[e] at q1;exact q1.elim
 |some sl =>rw[e] at q1;obtain⟨cy,s'⟩:=(sr.grow g1).set i r1 f1.1 (λa ha=>⟨(f1.2 a ha).1,λm=>(sr.sr.own a m).ne (f1.2 a ha).2⟩) e;exact k1 _ H1 bE _ cy g1.sh s' q1
theorem aR(hc:QT X K c tc)(ha:tP X K L a t)(hb:tP X K L b u):QS X K L (.If c a b pos) (gv tc t u):=PS.imp (bh' hc ha hb) λD σ H hx=>fL hx λHs ρ ai E sr h k1 k2 k3 k4 kx=>by
 refine⟨Hs,ρ,ai,_,sr,h,λk H1 bE g1 q1=>?_⟩;have Zr:∀ ck H' ax da cy,bG bE ax->eB K ax da ck H' cy->E.nx da->D.nx ck H':=λkS H2 bq jS fi s2=>k1 kS H2 bq jS fi (g1.sh.trans s2);have Zt:∀ ck H' ax da cy,bG bE ax->eB K ax da ck H' cy->E.bk da->D.bk ck H':=λkS H2 bq jS fi s2=>k2 kS H2 bq jS fi (g1.sh.trans s2);have Zu:∀ ck H' ax da cy,bG bE ax->eB K ax da ck H' cy->E.ct da->D.ct ck H':=λkS H2 bq jS fi s2=>k3 kS H2 bq jS fi (g1.sh.trans s2)
 cases k with
 |true=>exact⟨bE,ρ,ai,E,sr.grow g1,q1,Zr,Zt,Zu,(λv H2 bq m d As s2=>k4 v H2 bq m d As (g1.sh.trans s2)),λn H2 s2=>kx n H2 (g1.sh.trans s2)⟩
 |false=>exact⟨bE,ρ,ai,E,sr.grow g1,q1,Zr,Zt,Zu,(λv H2 bq m d As s2=>k4 v H2 bq m d As (g1.sh.trans s2)),λn H2 s2=>kx n H2 (g1.sh.trans s2)⟩
def wq(Hs H:Hp)(As:List ag):Hp:=λa=>if a∈As then H a else Hs a
theorem gj{Hs H:Hp}{As:List ag}(n:∀ a∈As,Hs a=none):bG Hs (wq Hs H As):=λa o e=>by unfold wq;rw[if_neg λm=>by rw[n a m] at e;cases e];exact e
theorem zc{Hs H:Hp}{As:List ag}(w:Wf Hs H)(o:∀ a∈As,Own H a):Wf (wq Hs H As) H:=⟨λa u e=>by
  unfold wq at e;by_cases m:a∈As
  ·rw[if_pos m] at e;exact e
  ·rw[if_neg m] at e;exact w.sub a u e,λa vs e=>by
  unfold wq;rw[if_neg λm=>(o a m).u5 e];exact w.iO a vs e⟩
def Oi:Sl->Sl
 |.sh d=>.sh d
 |.ow _ d=>.sh d
 |.lk a fl d=>.lk a fl d
 |.xc a=>.xc a
 |.ob a p=>.ob a p
def TL:Sl->Sl
 |.sh d=>.sh d
 |.ow _ d=>.sh d
 |.lk _ _ d=>.sh d
 |.xc a=>.xc a
 |.ob a _=>.xc a
def Oj(i:Nat)(ρ:Env):Env:=match ρ[i]? with
 |some (some sl)=>ρ.set i (some (Oi sl))
 |_=>ρ
theorem qL{As ai B t:List ag}(n:(B++ai).Nodup)(a:As.Sublist ai)(c:∀ x∈As,x∉t):∀ x∈As,x∉B++t:=λx hx m=>by
 obtain⟨n1,n2,n3⟩:=i6.mp n;rcases fh.mp m with z|z
 ·exact n3 x z x (a.subset hx) rfl
 ·exact c x hx z
theorem SR.mM{Hs H:Hp}{ρ:Env}{σ:St}{ai:List ag}(i:Nat){fl:Bool}{d:D}(s:SR K Hs H ρ σ ai):ρ[i]? = some (some (.ow fl d))->ai.Nodup ->
  ∃ (As cy:List ag),As.Sublist ai/\cy.Sublist ai/\(∀ a∈As,a∉cy)/\∀ ax,bG Hs ax->(∀ a∈As,ax a=H a)->SR K ax H (ρ.set i (some (.sh d))) σ cy:=by
 induction s generalizing i with
 |nil=>intro e;simp at e
 |non q ih =>
  intro e n
  cases i with
  |zero=>simp at e
  |succ i =>obtain⟨As,t,a,b,c,d⟩:=ih i e n;exact⟨As,t,a,b,c,λax s k=>.non (d ax s k)⟩
 |sh r q ih =>
  intro e n
  cases i with
  |zero=>simp at e
  |succ i =>obtain⟨As,t,a,b,c,d⟩:=ih i e n;exact⟨As,t,a,b,c,λax s k=>.sh (r.same s) (d ax s k)⟩
 |xc q ih =>
  intro e n
  cases i with
  |zero=>simp at e
  |succ i =>obtain⟨As,t,a,b,c,d⟩:=ih i e n;exact⟨As,t,a,b,c,λax s k=>.xc (d ax s k)⟩
 |ow ne r q ih =>
  intro e n;obtain⟨n1,n2,n3⟩:=i6.mp n
  cases i with
  |zero =>simp at e;obtain⟨rfl,rfl⟩:=e;exact⟨_,_,MY _ _,k6 _ _,λa h m=>n3 a h a m rfl,λax s k=>.sh (r.rep s k) (q.fN s λ_ _=>rfl)⟩
  |succ i =>obtain⟨As,t,a,b,c,d⟩:=ih i e n2;exact⟨As,_,a.trans (k6 _ _),b.append_left _,qL n a c,λax s k=>.ow ne (r.fN s λ_ _=>rfl) (d ax s k)⟩
 |lk ne r q ih =>
  intro e n;obtain⟨n1,n2,n3⟩:=i6.mp n
  cases i with
  |zero=>simp at e
  |succ i =>obtain⟨As,t,a,b,c,d⟩:=ih i e n2;exact⟨As,_,a.trans (k6 _ _),b.append_left _,qL n a c,λax s k=>.lk ne (r.fN s λ_ _=>rfl) (d ax s k)⟩
 |@ob _ _ _ _ _ p r q ih =>
  intro e n;obtain⟨n1,n2,n3⟩:=i6.mp n
  cases i with
  |zero=>simp at e
  |succ i =>obtain⟨As,t,a,b,c,d⟩:=ih i e n2;exact⟨As,_,a.trans (k6 _ _),b.append_left _,qL n a c,λax s k=>.ob (p.fN (qy s) (λ_ _=>rfl) r) (d ax s k)⟩
theorem eB.mM{ρ:Env}{σ:St}{ai:List ag}{Hs H:Hp}(i:Nat)(s:eB K Hs ρ σ H ai):∃ ax cy,bG Hs ax/\eB K ax (Oj i ρ) σ H cy:=by
 unfold Oj;split
 ·rename_i sl e;have keep:Oi sl=sl->∃ ax cy,bG Hs ax/\eB K ax (ρ.set i (some (Oi sl))) σ H cy:=λhs=>by
   have e2:ρ.set i (some (Oi sl))=ρ:=by
    apply M7;intro j;rw[List.getElem?_set];by_cases h:i=j
    ·subst h;rw[if_pos rfl,e];have:i<ρ.length:=(nv.mp e).1;simp[this,hs]
    ·rw[if_neg h]
   rw[e2];exact⟨Hs,ai,bG.refl _,s⟩
  cases sl with
  |sh d=>exact keep rfl
  |xc a=>exact keep rfl
  |lk a fl d=>exact keep rfl
  |ob a p=>exact keep rfl
  |ow fl d =>obtain⟨As,t,a,b,c,g⟩:=SR.mM i s.sr e s.tN;have hn:∀ a∈As,Hs a=none:=λx hx=>s.own x (a.subset hx);have ho:∀ a∈As,Own H a:=λx hx=>s.sr.own x (a.subset hx);refine⟨wq Hs H As,t,gj hn,g _ (gj hn) λx hx=>by unfold wq;rw[if_pos hx],zc s.wf ho,b.nodup s.tN,λx hx=>?_⟩;unfold wq;rw[if_neg λm=>c x m hx];exact s.own x (b.subset hx)
 ·exact⟨Hs,ai,bG.refl _,s⟩
def kH(i:Nat)(t:WS):WS:=λE ρ=>t E (Oj i ρ)
theorem yF{i:Nat}{D:Ends}{σ:St}{H:Hp}(h:zk K L (kH i t) D σ H):zk K L t D σ H:=by
 obtain⟨Hs,ρ,ai,E,sr,h,k1,k2,k3,k4,kx⟩:=h;obtain⟨ax,cy,s,TK⟩:=sr.mM i;exact⟨ax,_,cy,E,TK,h,λkS H2 bq jS fi s2=>k1 kS H2 bq jS fi (s.trans s2),λkS H2 bq jS fi s2=>k2 kS H2 bq jS fi (s.trans s2),λkS H2 bq jS fi s2=>k3 kS H2 bq jS fi (s.trans s2),
  λv H2 bq m d As s2=>k4 v H2 bq m d As (s.trans s2),λn H2 s2=>kx n H2 (s.trans s2)⟩
theorem bf(i:Nat)(h:QS X K L st t):QS X K L st (kH i t):=PS.imp h λD σ H h=>yF h
def jT(bE H1 ax H':Hp):Hp:=λa=>match H' a with
 |some (.tup vs)=>some (.tup vs)
 |_=>match H1 a with
  |none=>ax a
  |some _=>bE a
theorem b_{bE H1 ax H':Hp}(w:Wf bE H1)(s:bG H1 ax)(w':Wf ax H'):eT bE H1 (jT bE H1 ax H') H':=by
 have sa:bG H1 H':=s.trans w'.sub;have tp:∀ a vs,H' a=some (.tup vs)->jT bE H1 ax H' a=some (.tup vs):=λa vs e=>by unfold jT;rw[e]
 have nt:∀ a,(∀ vs,H' a≠some (.tup vs))->jT bE H1 ax H' a=match H1 a with
  |none=>ax a
  |some _=>bE a:=λa h=>by
  unfold jT;split
  ·rename_i vs e;exact absurd e (h vs)
  ·rfl
 refine⟨sa,λa o e=>?_,⟨λa o e=>?_,tp⟩,λa h=>?_⟩
 ·have e1:=w.sub a o e;have e2:=sa a o e1;by_cases ht:∃ vs,o=.tup vs
  ·obtain⟨vs,rfl⟩:=ht;exact tp a vs e2
  ·rw[nt a λvs z=>ht ⟨vs,by rw[e2] at z;exact Option.some.inj z⟩,e1];exact e
 ·by_cases ht:∃ vs,H' a=some (.tup vs)
  ·obtain⟨vs,z⟩:=ht;rw[tp a vs z] at e;rw[z];exact e
  ·rw[nt a λvs z=>ht ⟨vs,z⟩] at e
   cases q:H1 a with
   |none=>rw[q] at e;exact w'.sub a o e
   |some u =>rw[q] at e;have:=w.sub a o e;exact sa a o this
 ·cases q:H1 a with
  |none=>exact .inr rfl
  |some u =>
   refine .inl ?_;by_cases ht:∃ vs,H' a=some (.tup vs)
   ·obtain⟨vs,z⟩:=ht;have:=sa a u q;rw[z] at this;cases this;rw[w.iO a vs q];exact λz=>nomatch z
   ·rw[nt a λvs z=>ht ⟨vs,z⟩,q] at h;exact h
theorem oK{bE H1 ax H':Hp}{a:ag}(s:bG H1 ax)(h:ax a=none)(o:Own H' a):jT bE H1 ax H' a=none/\H1 a=none:=by
 have h1:=s.free h;refine⟨?_,h1⟩;unfold jT;split
 ·rename_i vs e;exact absurd e o.u5
 ·rw[h1];exact h
def qV:Md->D->Md
 |.ow true,_=>.ow true
 |.fr,_=>.fr
 |_,d=>bif d.flat then .sh else .bo
theorem lU{bE H1 ax H':Hp}{m:Md}{d:D}{v:V}{As:List ag}(w:Wf bE H1)(s:bG H1 ax)(w':Wf ax H')(r:RM K ax H' m d v As)(nd:As.Nodup)(own:∀ a∈As,ax a=none) :
  ∃ gy,RM K (jT bE H1 ax H') H' (qV m d) d v gy/\bL (jT bE H1 ax H') H1 gy:=by
 have g:=b_ w s w';have other:∃ gy,RM K (jT bE H1 ax H') H' (bif d.flat then .sh else .bo) d v gy/\bL (jT bE H1 ax H') H1 gy:=by
  cases hf:d.flat with
  |true=>exact⟨[],⟨rfl,(r.rep w').gm g.wf.iO hf⟩,bL.nil⟩
  |false=>exact⟨[],⟨rfl,r.rep w'⟩,bL.nil⟩
 cases m with
 |sh=>exact other
 |bo=>exact other
 |fr=>exact⟨As,⟨r.1,r.2.same (qN (λa vs e=>qF r.1 g.wf.sub (g.wf.iO a vs (w'.sub _ _ e))) λa m o e=>by unfold Bi;rw[if_pos m];exact e)⟩,nd,λa h=>oK s (own a h) (r.own a h)⟩
 |ow fl =>
  cases fl with
  |false=>exact other
  |true=>exact⟨As,⟨cw.leaves (λa vs e=>g.wf.iO a vs (w'.sub _ _ e)) r.1,r.2⟩,nd,λa h=>oK s (own a h) (r.own a h)⟩
abbrev fo:=List D->(Md->D->Prop)->Prop
def eZ(K:aI)(sp:fo):Sp:=λvs H Qv _=>∃ ds Qd,b9 K H ds vs/\sp ds Qd /\
 ∀ v H' ax m d As,bG H ax->Wf ax H'->RM K ax H' m d v As->As.Nodup->(∀ a∈As,ax a=none)->Qd m d->Qv v H'
def aH(n:Nat)(ds:List D):Env:=ds.map (λd=>some (.sh d))++List.replicate (n-ds.length) none
theorem SR.start{H:Hp}{ds:List D}{vs:List V}{n:Nat}(r:b9 K H ds vs):SR K H H (ds.map (λd=>some (.sh d))++List.replicate n none) (vs.map some++List.replicate n none) []:=by
 induction ds generalizing vs with
 |nil =>
  rw[r.n0]
  induction n with
  |zero=>exact .nil
  |succ n ih=>exact .non ih
 |cons d ds ih =>obtain⟨u,us,rfl,r,rs⟩:=r.c;exact .sh r (ih rs)
theorem v9{sp:fo}{N:List Str}{vs:List V}{H:Hp}{Qv:VK}{E:XK}(h:eZ K sp vs H Qv E)(hp:∀ ds Q,sp ds Q->t { nx:=λ_=>Q .sh .non,rt:=Q } (aH N.length ds)) :
  zk K L0 t { nx:=λ_ H'=>Qv .non H',rt:=Qv } (start N vs) H:=by
 obtain⟨ds,Qd,rs,hs,fin⟩:=h;have hl:=rs.length;refine⟨H,aH N.length ds,[],{ nx:=λ_=>Qd .sh .non,rt:=Qd },⟨?_,⟨bG.refl _,λ_ _ e=>e⟩,mG,λa h=>nomatch h⟩,hp ds Qd hs,?_,?_,?_,?_,λ_ _ _ _=>trivial⟩
 ·unfold aH start;rw[hl];exact SR.start rs
 ·exact λck H' ax da cy s sr q=>fin .non H' ax .sh .non [] s sr.wf ⟨rfl,.non⟩ mG (λa h=>nomatch h) q
 ·exact λck H' ax da cy s sr q=>q.elim
 ·exact λck H' ax da cy s sr q=>q.elim
 ·exact λv H' ax m d As s w r nd own q=>fin v H' ax m d As s w r nd own q
theorem TN.ok{P:dz}{w:dA}{mg:Str->Option ah}{base:cS}{x qual:Str}{st:Stmt}{f:ag}{fd:xo}{N ps:List Str}{k:Nat}{sp:fo}{t:WS}(F:tF K x qual st f fd)(S:HG N ps (gX st))(len:∀ ds Q,sp ds Q->ds.length=ps.length)(y6:∀ (dr:ah) (A:eJ) (outer:List PySem.Env) (s:aE) (H:Hp) (E:XK),ke k (A.deeper (k7 qual (gX st) s.heap.objs.size f dr))->tP (pf u0 P w K mg base N qual (gX st) f dr A outer s H E).EJ K L0 (qo st) t)(hp:∀ ds Q,sp ds Q->t { nx:=λ_=>Q .sh .non,rt:=Q } (aH N.length ds)):tf P w K mg base u0 (k+1) f fd ps (eZ K sp) :=
 F.ok S (λvs H Q E ⟨ds,Qd,rs,hs,_⟩=>by rw[<- rs.length];exact len ds Qd hs) λdr A outer s H vs Q E hr hs=>⟨_,y6 dr A outer s H E hr,v9 hs hp⟩
def aP(sp:fo)(t:WA):WE:=λρ Q=>t ρ λps=>sp (ps.map (·.2)) λm d=>cq (m,d) (f:=λp=>Q (qV p.1 p.2) p.2) ⟨⟩
theorem uM{sp:fo}{t:WA}{σ:St}{H:Hp}{Qv:VK}{E:XK}(h:nS K (aP sp t) σ H Qv):HC (eZ K sp) [] E (Qy K t) σ H Qv:=by obtain⟨Hs,ρ,ai,Q,sr,h,f⟩:=h;refine⟨Hs,ρ,ai,_,sr,h,λvs H1 bE ps As g1 r1 f1 q1=>?_⟩;refine⟨_,_,by rw[kE];exact r1.reps g1.wf,q1,λv H' ax m d As s w r nd own q=>?_⟩;obtain⟨gy,r',fr⟩:=lU g1.wf s w r nd own;exact Fin.after f g1 v H' _ (qV m d) d gy (b_ g1.wf s w) r' fr q
theorem aY {k:Nat} {x:Str} {ps:List Str} {sp:fo} {p:Pos} {es:List Expr} {t:WA} (C:Ql X.prog X.w X.K X.mg X.base k x ps (eZ K sp)) (ha:QA X K (e :: es) t) (hg:Gl X x:=by rfl) (ic:(x == ("__debug__" : Str))=false:=by decide) (he:bS (e :: es) X.env=(false,c9 e X.env) :: bS es X.env:=by rfl) (hU:(iq pos (bS es X.env)).any (·.1)=false:=by rfl) (hr:ke k X.A:=by exact ke.mono (by assumption) (by decide)):QE X K (.Call (.Name x p) (e :: es) [] pos) (aP sp t):=PE.imp (Ek C hr ha hg ic he hU) λσ H Qv h=>uM h
end
abbrev WG:=D->Env->(Env->Prop)->Prop
def Zv(K:aI)(g:WG):TG:=λv σ H Qv=>∃ Hs ρ ai d Q,eB K Hs ρ σ H ai/\Rep K Hs d v/\g d ρ Q/\∀ ck da cy,eB K Hs da ck H cy->(∀ a∈cy,a∈ai)->Q da->Qv ck H
abbrev QG(X:Cx)(K:aI)(e:Expr)(g:WG):Prop:=PG X e (Zv K g)
def gN(i:Nat):WG:=λd ρ Q=>Q (ρ.set i (some (.sh d)))
abbrev IQ:=List D->Env->(Env->Prop)->Prop
def eS'(K:aI)(g:IQ):GY:=λvs σ H Qv=>∃ Hs ρ ai ds Q,eB K Hs ρ σ H ai/\b9 K Hs ds vs/\g ds ρ Q/\∀ ck da cy,eB K Hs da ck H cy->(∀ a∈cy,a∈ai)->Q da->Qv ck H
abbrev QF(X:Cx)(K:aI)(es:List Expr)(g:IQ):Prop:=AX X es (eS' K g)
def qj:IQ:=λds ρ Q=>ds=[]/\Q ρ
def cQ(g:WG)(gs:IQ):IQ:=λds ρ Q=>match ds with
 |d :: ds=>g d ρ λda=>gs ds da Q
 |[]=>False
def gT(n:Nat)(gs:IQ):WG:=λd ρ Q=>match d with
 |.tup ds=>ds.length=n/\gs ds ρ Q
 |_=>False
section
variable {X:Cx}{K:aI}{e:Expr}{es:List Expr}{g:WG}{gs:IQ}{pos:Pos}
theorem PG.imp{t t':TG}(h:PG X e t)(i:∀ v σ H Q,t' v σ H Q->t v σ H Q):PG X e t':=λpins s σ H v u Q I r q=>h pins s σ H v u Q I r (i v σ H Q q)
theorem AX.imp{t t':GY}(h:AX X es t)(i:∀ v σ H Q,t' v σ H Q->t v σ H Q):AX X es t':=λpins s σ H v u Q I r q=>h pins s σ H v u Q I r (i v σ H Q q)
theorem eB.GX{ρ:Env}{σ:St}{ai:List ag}{Hs H:Hp}{d:D}{v:V}(i:Nat)(s:eB K Hs ρ σ H ai)(r:Rep K Hs d v):∃ cy,(∀ a∈cy,a∈ai)/\eB K Hs (ρ.set i (some (.sh d))) (σ.set i (some v)) H cy:=by obtain⟨t,a,b⟩:=s.sr.zm r i;exact⟨t,λx hx=>a.subset hx,b,s.wf,a.nodup s.tN,λx hx=>s.own x (a.subset hx)⟩
theorem aB(i:Nat){x:Str}(hf:X.fn x=true\/X.env.scope.names.lookup x=some .local:=by first|exact .inl rfl|exact .inr rfl|assumption)(hN:X.N.Nodup:=by assumption)(hi:X.N[i]? = some x:=by rfl)(hx:Loc X.env.scope x:=by first|exact .inl rfl|exact .inr rfl):QG X K (.Name x pos) (gN i) :=
 PG.imp (bi' hN hi hx hf) λv σ H Qv d5=>by obtain⟨Hs,ρ,ai,d,Q,sr,r,h,k⟩:=d5;obtain⟨t,m,s⟩:=sr.GX i r;exact k _ _ t s m h
theorem mW:QF X K [] qj:=AX.imp bl' λv σ H Qv d5=>by obtain⟨Hs,ρ,ai,ds,Q,sr,r,h,k⟩:=d5;obtain⟨rfl,h⟩:=h;cases r;exact⟨rfl,k σ ρ ai sr (λ_ z=>z) h⟩
theorem bB(h1:QG X K e g)(h2:QF X K es gs)(hs:(B3 (e :: es) X.env).map (·.2)=assign e X.env :: (B3 es X.env).map (·.2):=by rfl):QF X K (e :: es) (cQ g gs) :=
 AX.imp (bm' h1 h2 hs) λv σ H Qv d5=>by
  obtain⟨Hs,ρ,ai,ds,Q,sr,r,h,k⟩:=d5
  cases r with
  |nil=>exact h.elim
  |cons r rs=>exact⟨_,_,rfl,Hs,ρ,ai,_,_,sr,r,h,λkS jS fi lh m2 q2=>⟨Hs,jS,fi,_,Q,lh,rs,q2,λAY Mt eT' sr3 m3=>k AY Mt eT' sr3 λa h=>m2 a (m3 a h)⟩⟩
theorem rH{k n:Nat}(h:QF X K es gs)(hn:(B3 es X.env).length=n:=by rfl)(kR:(B3 es X.env).findIdx? (·.1)=none:=by rfl)(hc:X.calm=true:=by rfl):QG X K (.Tuple es k pos) (gT n gs) :=
 PG.imp (bp' hc h hn kR) λv σ H Qv d5=>by
  obtain⟨Hs,ρ,ai,d,Q,sr,r,h,k⟩:=d5
  cases r with
  |tup z e rs=>exact⟨_,_,rfl,.inl (.inl (sr.wf.sub _ _ e)),by rw[<- rs.length];exact h.1,Hs,ρ,ai,_,Q,sr,rs,h.2,k⟩
  |_=>exact h.elim
end
abbrev WI:=Env->(List D->Prop)->Prop
structure pM(K:aI)(J:It)(ds:List D)(C:Hp->Hp->Prop):Prop where
 go:∀ i Hs H,C Hs H->Wf Hs H->i<ds.length->J.go i H
 n9:∀ i Hs H x H' d,C Hs H->Wf Hs H->ds[i]? = some d->J.n9 i H x H'->∃ ax,eT Hs H ax H'/\Rep K ax d x
 stop:∀ Hs H,C Hs H->Wf Hs H->J.stop ds.length H
abbrev wK(K:aI)(Hs:Hp)(J:It)(ds:List D):Prop:=pM K J ds λG _=>bG Hs G
section
variable {K:aI}{Hs:Hp}{J:It}{ds:List D}{C C':Hp->Hp->Prop}{a:ag}
theorem pM.imp(S:pM K J ds C)(h:∀ Hs H,C' Hs H->C Hs H):pM K J ds C':=⟨λi Hs H c=>S.go i Hs H (h _ _ c),λi Hs H x H' d c=>S.n9 i Hs H x H' d (h _ _ c),λHs H c=>S.stop Hs H (h _ _ c)⟩
theorem pM.seq{vs:List V}(rs:b9 K Hs ds vs)(S:jz J vs λH=>bG Hs H):wK K Hs J ds where
 go:=λi G H s w h=>S.go i H (s.trans w.sub) (by rw[<- rs.length];exact h)
 n9:=λi G H x H' d s w h y=>by
  have hi:i<ds.length:=by
   rcases Nat.lt_or_ge i ds.length with q|q
   ·exact q
   ·rw[D9 q] at h;cases h
  obtain⟨e,z⟩:=S.n9 i H x H' (s.trans w.sub) (by rw[<- rs.length];exact hi) y;subst e;obtain⟨d',ed,rd⟩:=rs.Zd z;rw[h] at ed;cases ed;exact⟨G,eT.refl w,rd.same s⟩
 stop:=λG H s w=>by rw[rs.length];exact S.stop H (s.trans w.sub)
abbrev za(K:aI)(a:ag)(ds:List D)(C:Hp->Hp->Prop):Prop:=∀ Hs H,C Hs H->Wf Hs H->∃ vs,fF K H a vs/\b9 K Hs ds vs
theorem pM.list(h:za K a ds C):pM K (PH K a) ds C where
 go:=λi G H c w hi=>by obtain⟨vs,q,rs⟩:=h G H c w;exact⟨vs,vs[i]'(by rw[<- rs.length];exact hi),q,by simp⟩
 n9:=λi G H x H' d c w hd y=>by obtain⟨vs,q,rs⟩:=h G H c w;obtain⟨rfl,y⟩:=y;obtain⟨d',ed,rd⟩:=rs.Zd (y vs q);rw[hd] at ed;cases ed;exact⟨G,eT.refl w,rd⟩
 stop:=λG H c w=>by obtain⟨vs,q,rs⟩:=h G H c w;exact⟨vs,q,by rw[rs.length];exact de _⟩
theorem vy{vs:List V}(s:fF K Hs a vs)(rs:b9 K Hs ds vs):za K a ds λG _=>bG Hs G:=λG H c w=>⟨vs,bG.seq (c.trans w.sub) s,rs.same c⟩
end
def tpI(K:aI)(wi:WI):TI:=λσ H R=>∃ Hs ρ ai Q,eB K Hs ρ σ H ai/\wi ρ Q/\∀ J H' ax ds,eT Hs H ax H'->wK K ax J ds->ds.length<=bX->Q ds->R J H'
abbrev QI(X:Cx)(K:aI)(tg iter:Expr)(wi:WI):Prop:=PI X tg iter (tpI K wi)
def jZ:Md->Prop
 |.bo=>False
 |_=>True
def dM(te:WE):WI:=λρ Q=>te ρ λm d=>jZ m/\match d with
 |.list xs=>Q xs
 |_=>False
def TQ(z:Str):List D:=z.cps.toList.map λc=>.str ⟨#[c]⟩
def yD(te:WE):WI:=λρ Q=>te ρ λ_ d=>match d with
 |.str z=>Q (TQ z)
 |_=>False
def eQ(lo:Int)(n:Nat):List D:=(List.range n).map λi=>.int (lo+(i:Nat))
def dB(te:WE):WI:=λρ Q=>te ρ λ_ d=>match d with
 |.int j=>j<=16777216/\-(2 ^ 62)<=j/\Q (eQ 0 j.toNat)
 |_=>False
def oU(ta tb:WE):WI:=λρ Q=>ta ρ λ_ x=>tb ρ λ_ y=>match x,y with
 |.int i,.int j=>j-i<=16777216/\(-(2 ^ 62)<=i/\i<2 ^ 62/\-(2 ^ 62)<=j/\j<2 ^ 62)/\Q (eQ i (j-i).toNat)
 |_,_=>False
section
variable {X:Cx}{K:aI}{e e2 tg:Expr}{te Ol:WE}{pos p:Pos}
theorem PI.imp{iter:Expr}{t t':TI}(h:PI X tg iter t)(i:∀ σ H R,t' σ H R->t σ H R):PI X tg iter t':=λpins s σ H R I q=>h pins s σ H R I (i σ H R q)
theorem jz.imp{J:It}{vs:List V}{c c':Hp->Prop}(s:jz J vs c)(h:∀ H,c' H->c H):jz J vs c':=⟨λi H q=>s.go i H (h H q),λi H x H' q=>s.n9 i H x H' (h H q),λH q=>s.stop H (h H q)⟩
theorem RM.wF{Hs H bE H1:Hp}{m:Md}{d:D}{v:V}{As:List ag}(g:eT Hs H bE H1)(r:RM K bE H1 m d v As)(f:bL bE H As)(h:jZ m):∃ bq,eT Hs H bq H1/\Rep K bq d v:=by
 have n:∀ a∈As,bE a=none:=λa ha=>(f.2 a ha).1;have Zw:Rep K (wq bE H1 As) d v->∃ bq,eT Hs H bq H1/\Rep K bq d v:=λz=>by
  refine⟨wq bE H1 As,⟨g.all,g.sh.trans (gj n),zc g.wf r.own,λa h=>?_⟩,z⟩;unfold wq at h;by_cases m:a∈As
  ·exact .inr (f.2 a m).2
  ·rw[if_neg m] at h;exact g.new a h
 cases m with
 |sh=>exact⟨bE,g,r.2⟩
 |bo=>exact h.elim
 |ow fl=>exact Zw (cw.rep (gj n) r.1 λa ha=>by unfold wq;rw[if_pos ha])
 |fr=>exact Zw (r.2.same (qN (λa vs e=>gj n _ _ e) λa m o e=>by unfold wq;rw[if_pos m];exact e))
theorem dI(he:QE X K e te)(hK:X.K=K:=by rfl):QI X K tg e (dM te):=by
 subst hK;refine PI.imp (Vt he) λσ H R hx=>kB hx λHs ρ ai Q sr h k=>⟨Hs,ρ,ai,_,sr,h,λv H1 bE m d As g1 r1 f1 q1=>?_⟩
 obtain⟨nb,q1⟩:=q1;obtain⟨bq,g2,r2⟩:=r1.wF g1 f1 nb
 cases r2 with
 |list z s rs=>exact⟨_,rfl,⟨_,bG.seq g2.wf.sub s⟩,k _ H1 bq _ g2 (.seq rs (jz.imp (yt X.K _ _) λH' s'=>bG.seq s' s)) (by rw[rs.length];exact z) q1⟩
 |_=>exact q1.elim
theorem qP{H:Hp}:∀ (l:List Nat),b9 K H (l.map λc=>.str ⟨#[c]⟩) (l.map λc=>V.str ⟨#[c]⟩)
 |[]=>.nil
 |c :: l=>.cons (.str (vq c)) (qP l)
theorem Di(he:QE X K e te):QI X K tg e (yD te):=by
 refine PI.imp (CP he) λσ H R hx=>kB hx λHs ρ ai Q sr h k=>⟨Hs,ρ,ai,_,sr,h,λv H1 bE m d As g1 r1 f1 q1=>?_⟩
 have r:=r1.rep g1.wf
 cases r with
 |str hz=>exact⟨_,rfl,k _ H1 bE _ g1 (.seq (qP _) (jz.imp (Ab _) λ_ _=>trivial)) (by rw[dn,xv];exact hz) q1⟩
 |_=>exact q1.elim
theorem jH{H:Hp}(lo:Int):∀ (l:List Nat),b9 K H (l.map λi=>.int (lo+(i:Nat))) (l.map λi=>V.int (lo+(i:Nat)))
 |[]=>.nil
 |c :: l=>.cons (.int _) (jH lo l)
theorem cW (hm:X.mg "range" = none) (he:QE X K e te) (hg:Gl X "range" := by rfl) (hs:bS [e] X.env=(false,c9 e X.env) :: bS [] X.env:=by rfl) (gi:bS [e] X.env=[(false,c9 e X.env)]:=by rfl):QI X K tg (.Call (.Name "range" p) [e] [] pos) (dB te):=by
 refine PI.imp (bw' hg hm (kU he si hs) gi) λσ H R hx=>kB hx λHs ρ ai Q sr h k=>⟨Hs,ρ,ai,_,sr,h,λv H1 bE m d As g1 r1 f1 q1=>?_⟩
 have r:=r1.rep g1.wf
 cases r with
 |int j =>obtain⟨h1,h2,q1⟩:=q1;exact⟨j,rfl,h2,by lia,k _ H1 bE _ g1 (.seq (jH 0 _) (jz.imp (vp _ _) λ_ _=>trivial)) (by rw[dn,Lz,kP];lia) q1⟩
 |_=>exact q1.elim
theorem uX (hm:X.mg "range" = none) (he:QE X K e te) (he2:QE X K e2 Ol) (hg:Gl X "range" := by rfl) (hs:bS (e :: [e2]) X.env=(false,c9 e X.env) :: bS [e2] X.env:=by rfl) (lI:bS (e2 :: []) X.env=(false,c9 e2 X.env) :: bS [] X.env:=by rfl) (gi:bS [e,e2] X.env=[(false,c9 e X.env),(false,c9 e2 X.env)]:=by rfl) (eX':bS [e2] X.env=[(false,c9 e2 X.env)]:=by rfl):QI X K tg (.Call (.Name "range" p) [e,e2] [] pos) (oU te Ol):=by
 refine PI.imp (bx' hg hm (kU he (kU he2 si lI) hs) gi eX') λσ H R hx=>kB hx λHs ρ ai Q sr h k=>⟨Hs,ρ,ai,_,sr,h,λv H1 bE m d As g1 r1 f1 q1=>⟨bE,ρ,ai,_,sr.grow g1,q1,λu H2 bq n y Bs g2 r2 f2 q2=>?_⟩⟩
 have r:=(r1.grow g2).rep g2.wf;have r':=r2.rep g2.wf
 cases r with
 |int i=>cases r' with
  |int j =>obtain⟨h1,h2,q2⟩:=q2;exact⟨i,j,rfl,h2,k _ H2 bq _ (g1.trans g2) (.seq (jH i _) (jz.imp (vp _ _) λ_ _=>trivial)) (by rw[dn,Lz,kP];lia) q2⟩
  |_=>exact q2.elim
 |_=>cases r'<;>exact q2.elim
section
variable {X:Cx}{K:aI}{e tg:Expr}{te:WE}
def Zx(K:aI)(wi:WI):TI:=λσ H R=>∃ Hs ρ ai Q,eB K Hs ρ σ H ai/\wi ρ Q/\∀ J H' ax ds,eT Hs H ax H'->wK K H' J ds->ds.length<=bX->Q ds->R J H'
abbrev QH(X:Cx)(K:aI)(tg iter:Expr)(wi:WI):Prop:=PI X tg iter (Zx K wi)
theorem lH{iter:Expr}{wi:WI}(h:QI X K tg iter wi):QH X K tg iter wi:=PI.imp h λσ H R hx=>kB hx λHs ρ ai Q sr h k=>⟨Hs,ρ,ai,Q,sr,h,λJ H' ax ds g w z q=>k J H' ax ds g (w.imp λG H s=>g.wf.sub.trans s) z q⟩
def fV(te:WE):WI:=λρ Q=>te ρ λ_ d=>match d with
 |.list xs=>Q xs
 |_=>False
theorem gK(he:QE X K e te)(hK:X.K=K:=by rfl):QH X K tg e (fV te):=by
 subst hK;refine PI.imp (Vt he) λσ H R hx=>kB hx λHs ρ ai Q sr h k=>⟨Hs,ρ,ai,_,sr,h,λv H1 bE m d As g1 r1 f1 q1=>?_⟩
 have r:=r1.rep g1.wf
 cases r with
 |list z s rs=>exact⟨_,rfl,⟨_,s⟩,k _ H1 bE _ g1 (.list (vy s rs)) (by rw[rs.length];exact z) q1⟩
 |_=>exact q1.elim
end
def oF(g:WG)(b:WS)(E:iW):List D->Env->Prop
 |[],ρ=>E.nx ρ
 |x :: xs,ρ=>g x ρ λwt=>b { E with nx:=oF g b E xs,ct:=oF g b E xs,bk:=E.nx } wt
def sF(wi:WI)(g:WG)(b:WS):WS:=λE ρ=>wi ρ λds=>oF g b E ds ρ
variable {wi:WI}{g:WG}{b:WS}{body:List Stmt}
theorem cG{iter:Expr}(hi:QI X K tg iter wi)(hg:QG X K tg g)(hb:tP X K L body b)(hs:∀ x,FK iter X.env x=pure x:=by intro _;rfl)(hp:PassesOwn (aS X.prog X.w) X.A X.env X.xe:=by first|exact PassesOwn.never|exact PassesOwn.leaving)(hc:X.calm=true:=by rfl) :
  QS X K L (.For tg iter body [] pos) (sF wi g b):=by
 refine PS.imp (bz' hp hc hi hg hb hs) λD σ H hx=>fL hx λHs ρ ai E sr h k1 k2 k3 k4 kx=>?_;rw[Ca];refine⟨Hs,ρ,ai,_,sr,h,λJ H1 bE ds g1 S hz q1=>?_⟩;refine⟨λi m σ H=>m=ds.length-i/\i<=ds.length/\∃ ax da cy,bG bE ax/\eB K ax da σ H cy/\oF g b E (ds.drop i) da,⟨ds.length,by simp,eW _,bE,ρ,ai,bG.refl _,sr.grow g1,by simpa using q1⟩,?_⟩;rintro i m kS H2 ⟨rfl,hi,bq,jS,fi,s2,lh,q2⟩;by_cases gp:i<ds.length
 ·refine .inr ⟨S.go i bq H2 s2 lh.wf gp,λAY H3=>∃ ax da cy,bG bE ax/\eB K ax da AY H3 cy/\oF g b E (ds.drop (i+1)) da,λAY H3 h3=>⟨ds.length-(i+1),by lia,rfl,gp,h3⟩,λx H3 y=>?_⟩;obtain⟨fe,g3,rd⟩:=S.n9 i bq H2 x H3 ds[i] s2 lh.wf (by simp[gp]) y;rw[K0 gp] at q2;have s3:=s2.trans g3.sh;refine⟨fe,jS,fi,ds[i],_,lh.grow g3,rd,q2,λσ4 w9 TR QJ _ q4=>?_⟩;refine⟨fe,w9,TR,_,QJ,q4,?_,?_,?_,?_,λn H5 s5=>kx n H5 ((g1.sh.trans s3).trans s5)⟩
  ·exact λTV H5 Bn Om Oo s5 Oq q5=>⟨Bn,Om,Oo,s3.trans s5,Oq,q5⟩
  ·exact λTV H5 Bn Om Oo s5 Oq q5=>k1 TV H5 Bn Om Oo ((g1.sh.trans s3).trans s5) Oq q5
  ·exact λTV H5 Bn Om Oo s5 Oq q5=>⟨Bn,Om,Oo,s3.trans s5,Oq,q5⟩
  ·exact λv H5 Bn m d As s5=>k4 v H5 Bn m d As ((g1.sh.trans s3).trans s5)
 ·have e:i=ds.length:=by lia
  subst e;refine .inl ⟨S.stop bq H2 s2 lh.wf,?_⟩;rw[RT] at q2;exact k1 kS H2 bq jS fi (g1.sh.trans s2) lh q2
theorem bA{g:WG}{b:WS}{E:iW}(xs:List D)(Pv:Nat->Env->Prop){ρ:Env}(h0:Pv 0 ρ)(hs:∀ i x ρ,xs[i]? = some x->Pv i ρ->∀ N:Env->Prop,(∀ da,Pv (i+1) da->N da)->g x ρ λwt=>b { E with nx:=N,ct:=N,bk:=E.nx } wt) (hd:∀ ρ,Pv xs.length ρ->E.nx ρ):oF g b E xs ρ:=by
 have go:∀ (k i:Nat) (ρ:Env),i+k=xs.length->Pv i ρ->oF g b E (xs.drop i) ρ:=by
  intro k
  induction k with
  |zero =>
   intro i ρ e p;have:i=xs.length:=by lia
   subst this;rw[RT];exact hd ρ p
  |succ k ih =>
   intro i ρ e p;have hi:i<xs.length:=by lia
   rw[K0 hi];exact hs i xs[i] ρ (by simp[hi]) p _ λjS h2=>ih (i+1) jS (by lia) h2
 have:=go xs.length 0 ρ (by exact LJ ..) h0;simpa using this
end
def x6:WT:=λ_ Q=>Q true
def TX(m:Md)(d:D):Prop:=d.flat=true\/m=.ow true
def il(g:WG)(tc:WT)(te:WE):List D->Env->(List D->Prop)->Prop
 |[],_,k=>k []
 |x :: xs,ρ,k=>g x ρ λwt=>tc wt λb=>if b=true then te wt λm d=>TX m d/\il g tc te xs wt (λout=>k (d :: out)) else il g tc te xs wt k
def Ax(tn:Nat)(ix:List Nat)(ρ:Env):Env:=List.replicate tn none++ix.map λj=>(ρ[j]?).join.map TL
def eX(wi:WI)(g:WG)(tc:WT)(te:WE)(tn:Nat)(ix:List Nat):WE:=λρ Q=>wi ρ λds=>il g tc te ds (Ax tn ix ρ) λout=>Q (.ow true) (.list out)
section
variable {X:Cx}{K:aI}
theorem k_{Hs H G:Hp}(sr:eB K Hs ρ σ H ai)(G':Hp):∀ (ix:List Nat),SR K H G' (ix.map λj=>(ρ[j]?).join.map TL) (ix.map λj=>(σ[j]?).join) []
 |[]=>.nil
 |j :: ix=>by
  have ih:=k_ sr G' ix (G:=G);simp only[gI]
  cases e:ρ[j]? with
  |none=>exact .non ih
  |some o =>
   cases o with
   |none=>exact .non ih
   |some sl =>
    obtain⟨v,e1,r⟩:=sr.sr.get e;rw[e1]
    cases sl with
    |sh d=>exact .sh (Rep.same sr.wf.sub r) ih
    |xc a=>subst r;exact .xc ih
    |ob a p=>obtain⟨r,_⟩:=r;subst r;exact .xc ih
    |ow fl d =>obtain⟨As,_,r,_⟩:=r;exact .sh (r.rep sr.wf.sub λ_ _=>rfl) ih
    |lk a fl d =>obtain⟨As,_,r,_⟩:=r;exact .sh (r.rep sr.wf.sub λ_ _=>rfl) ih
theorem nR(s:SR K H G ρ σ []):∀ (n:Nat),SR K H G (List.replicate n none++ρ) (List.replicate n none++σ) []
 |0=>s
 |n+1=>.non (nR s n)
theorem SR.heap(s:SR K Hs H ρ σ []):SR K Hs H' ρ σ []:=s.fN (bG.refl _) λa h=>nomatch h
theorem zN(w:Wf Hs H)(n:Hs p=none)(ho:∀ vs,o≠.tup vs):Wf Hs (upd H p o):=⟨λb u q=>by
  rw[iN (λz=>by subst z;rw[n] at q;cases q)];exact w.sub b u q,λb us q=>by
  by_cases hb:b=p
  ·subst hb;rw[ki] at q;exact absurd (Option.some.inj q) (ho us)
  ·rw[iN hb] at q;exact w.iO b us q⟩
structure CompI(K:aI)(H1:Hp)(b:ag)(acc:List D)(ys:List V)(As:List ag)(Hs:Hp)(ρ:Env)(τ:St)(H:Hp):Prop where
 sm:bG H1 Hs
 sr:eB K Hs ρ τ H []
 eD:H b=some (.lst ys)
 nD:Hs b=none
 ra:az K Hs H true acc ys As
 nd:(b :: As).Nodup
 own:∀ a∈As,Hs a=none
theorem CompI.grow(c:CompI K H1 b acc ys As Hs ρ τ H)(g:eT Hs H ax H'):CompI K H1 b acc ys As ax ρ τ H' :=
 ⟨c.sm.trans g.sh,c.sr.grow g,g.all _ _ c.eD,g.lT c.nD (by rw[c.eD];exact λz=>nomatch z),c.ra.grow g.sh g.all,c.nd,λa ha=>g.lT (c.own a ha) (c.ra.own a ha).ne⟩
theorem CompI.push(c:CompI K H1 b acc ys As Hs ρ τ H)(r:RM K Hs H m d v Bs)(ok:TX m d)(nb:Bs.Nodup)(fb:∀ a∈Bs,Hs a=none/\a∉b :: As):∃ gy,CompI K H1 b (acc++[d]) (ys++[v]) gy Hs ρ τ (upd H b (.lst (ys++[v]))):=by
 obtain⟨B,sb,rb⟩:∃ B,B.Sublist Bs/\cw K Hs H true d v B:=by
  rcases ok with hf|rfl
  ·exact⟨[],AF _,.sh (λ_=>hf) (r.flat c.sr.wf hf)⟩
  ·exact⟨Bs,List.Sublist.refl _,r.1⟩
 obtain⟨na,nA⟩:=nE.mp c.nd;have QK:=λa ha=>fb a (sb.subset ha);refine⟨As++(B++[]),c.sm,⟨c.sr.sr.heap,zN c.sr.wf c.nD (λ_ z=>nomatch z),mG,λa h=>nomatch h⟩,ki,c.nD,(c.ra.fN (H':=upd H b (.lst (ys++[v]))) (bG.refl _) λa ha=>iN λz=>na (by subst z;exact ha)).append (.cons (rb.fN (bG.refl _) λa ha=>iN λz=>(QK a ha).2 (by subst z;exact ft)) .nil),?_,?_⟩
 ·rw[kE];refine nE.mpr ⟨λm=>(fh.mp m).elim na λm=>(QK b m).2 ft,i6.mpr ⟨nA,sb.nodup nb,λx hx y hy e=>(QK y hy).2 (e ▸ eP _ hx)⟩⟩
 ·rw[kE];exact λa ha=>(fh.mp ha).elim (c.own a) λm=>(QK a m).1
theorem oG(h:nS K (eX wi g tc te tn ix) σ H Qv):xq (Zx K wi) (Zv K g) (E7 K tc) (nS K te) tn ix σ H Qv:=by
 obtain⟨Hs,ρ,ai,Q,sr,h,f⟩:=h;rw[yw];refine⟨Hs,ρ,ai,_,sr,h,λJ H1 bE ds g1 S hz q1 b hb=>?_⟩;have st:CompI K H1 b [] [] [] H1 (Ax tn ix ρ) (mZ tn ix σ) (upd H1 b (.lst [])):=by
  refine⟨bG.refl _,⟨nR (k_ (G:=H1) (sr.grow g1) _ ix) tn,⟨(bG.refl H1).upd hb,λa xs e=>?_⟩,mG,λa h=>nomatch h⟩,ki,hb,.nil,by simp,λa h=>nomatch h⟩;by_cases ha:a=b
  ·subst ha;rw[ki] at e;cases e
  ·rw[iN ha] at e;exact e
 refine⟨λi m τ H2=>m=ds.length-i/\i<=ds.length/\∃ bq jS acc ys As,CompI K H1 b acc ys As bq jS τ H2/\acc.length<=i/\il g tc te (ds.drop i) jS (λout=>Q (.ow true) (.list (acc++out))), ⟨ds.length,by simp,eW _,H1,_,[],[],[],st,de _,by simpa using q1⟩,?_⟩
 rintro i m τ H2 ⟨rfl,hi,bq,jS,acc,ys,As,c,la,q2⟩;by_cases gp:i<ds.length
 ·refine .inr ⟨S.go i bq H2 c.sm c.sr.wf gp,
   λMu v H4=>∃ Mm w9 d,CompI K H1 b acc ys As Mm w9 Mu H4/\(∃ gy,CompI K H1 b (acc++[d]) (ys++[v]) gy Mm w9 Mu (upd H4 b (.lst (ys++[v]))))/\il g tc te (ds.drop (i+1)) w9 (λout=>Q (.ow true) (.list (acc++d :: out))),
   λMu H3=>∃ fe Mt,CompI K H1 b acc ys As fe Mt Mu H3/\il g tc te (ds.drop (i+1)) Mt (λout=>Q (.ow true) (.list (acc++out))),?_,?_,?_⟩
  ·rintro Mu v H4 ⟨Mm,w9,d,c4,⟨gy,c5⟩,q4⟩;have lya:=c4.ra.length;exact⟨ys,ds.length-(i+1),c4.eD,by lia,by lia,rfl,gp,Mm,w9,acc++[d],ys++[v],gy,c5,by rw[ny];simpa using la,by simpa using q4⟩
  ·rintro Mu H3 ⟨fe,Mt,c3,q3⟩;exact⟨ds.length-(i+1),by lia,rfl,gp,fe,Mt,acc,ys,As,c3,by lia,q3⟩
  ·intro x H3 y;obtain⟨fe,g3,rd⟩:=S.n9 i bq H2 x H3 ds[i] c.sm c.sr.wf (by simp[gp]) y;rw[K0 gp] at q2;have c3:=c.grow g3;refine⟨fe,jS,[],ds[i],_,c3.sr,rd,q2,λτ4 w9 TR QJ m4 q4=>?_⟩;have t4:TR=[]:=List.eq_nil_iff_forall_not_mem.mpr λa ha=>nomatch m4 a ha;subst t4;have c4:CompI K H1 b acc ys As fe w9 τ4 H3:=⟨c3.sm,QJ,c3.eD,c3.nD,c3.ra,c3.nd,c3.own⟩
   refine⟨fe,w9,[],_,QJ,q4,λk H5 Bn g5 q5=>?_⟩;have c5:=c4.grow g5
   cases k with
   |false=>exact⟨Bn,w9,c5,q5⟩
   |true =>
    refine⟨Bn,w9,[],_,c5.sr,q5,λv H6 Hs6 m6 d6 As6 g6 r6 f6 q6=>?_⟩;have c6:=c5.grow g6;refine⟨Hs6,w9,d6,c6,c6.push r6 q6.1 f6.1 λa ha=>⟨(f6.2 a ha).1,λm=>?_⟩,q6.2⟩;rcases eM.mp m with rfl|m
    ·have:=(f6.2 _ ha).2;rw[c5.eD] at this;cases this
    ·exact(c5.ra.own a m).ne (f6.2 a ha).2
 ·have e:i=ds.length:=by lia
  subst e;refine .inl ⟨S.stop bq H2 c.sm c.sr.wf,?_⟩;rw[RT] at q2;have q2:Q (.ow true) (.list (acc++[])):=q2;rw[kE] at q2;have lya:=c.ra.length;have rm:RM K bq H2 (.ow true) (.list acc) (.ref b) (b :: As):=⟨.list (by lia) c.eD c.ra,by simp⟩
  obtain⟨gy,r',fr⟩:=lU g1.wf c.sm c.sr.wf rm c.nd λa ha=>(eM.mp ha).elim (λz=>z ▸ c.nD) (c.own a);exact Fin.after f g1 (.ref b) H2 _ (.ow true) (.list acc) gy (b_ g1.wf c.sm c.sr.wf) r' fr q2
theorem A7.imp(h:A7 X ifs t)(i:∀ σ H Q,t' σ H Q->t σ H Q):A7 X ifs t':=λpins s σ H Q I q=>h pins s σ H Q I (i σ H Q q)
abbrev QL(X:Cx)(K:aI)(ifs:List Expr)(t:WT):Prop:=A7 X ifs (E7 K t)
theorem cM:QL X K [] x6:=A7.imp B_ λσ H Qv hx=>kB hx λHs ρ ai Q sr h k=>k true H Hs (eT.refl sr.wf) h
theorem xf(h:QT X K c t):QL X K [c] t:=Ao h
theorem fu(hi:QH X K tg iter wi)(hg:∀ {C fp g7 iS} {q:(tn++cn).Nodup},QG (aN X scope C (tn++cn) fp g7 iS) K tg g) (xI:∀ {C fp g7 iS},QL (aN X scope C (tn++cn) fp g7 iS) K ifs tc) (he:∀ {C fp g7 iS},QE (aN X scope C (tn++cn) fp g7 iS) K elt te)(hs:∀ x,FK iter X.env x=pure x:=by intro _;rfl) (nd:(tn++cn).Nodup:=by decide +kernel) (O:dC X scope tn cn ix:=by exact dC.by (by assumption) (by decide +kernel)) (hc:X.calm=true:=by rfl):QE X K (.ListComp elt [⟨tg,iter,ifs,0⟩] scope pos) (eX wi g tc te tn.length ix) :=
 PE.imp (Cd hc hi O (λ_ _ _ _=>hg (q:=nd)) (λ_ _ _ _=>xI) (λ_ _ _ _=>he) hs) λσ H Qv h=>oG h
end
theorem aQ(p:D->Bool)(f:D->D)(Iv:Env->Prop):∀ (xs:List D) (ρ:Env) (k:List D->Prop),Iv ρ -> (∀ x∈xs,∀ ρ,Iv ρ->∀ N1:Env->Prop,∀ N2:Env->D->Prop,(∀ da,Iv da->p x=false->N1 da)->(∀ da,Iv da->p x=true->N2 da (f x))->g x ρ λwt=>tc wt λb=>if b=true then te wt λm d=>TX m d/\N2 wt d else N1 wt) ->
  k ((xs.filter p).map f)->il g tc te xs ρ k
 |[],_,k,_,_,h=>h
 |x :: xs,ρ,k,iv,hs,h=>by
  refine hs x ft ρ iv _ _ (λda TY hp=>?_) (λda TY hp=>?_)
  ·exact aQ p f Iv xs da k TY (λy hy=>hs y (eP _ hy)) (by simpa[hp] using h)
  ·exact aQ p f Iv xs da _ TY (λy hy=>hs y (eP _ hy)) (by simpa[hp] using h)
def Upd(K:aI)(Hs H:Hp)(σ:St)(fl:Bool)(v:V)(up:Bool->D->Env)(gy:List ag):Prop:=∀ bq H2 fl2 d2 gE,bG Hs bq->Wf bq H2->(∀ a,Hs a=none->H a≠none->bq a=none)->(fl2=true->fl=true) ->
  cw K bq H2 fl2 d2 v gE->gE≠[]->gE.Nodup->(∀ a∈gE,bq a=none/\(a∈gy\/H a=none))->(∀ a,H a≠none->a∉gy->H2 a=H a)->∃ fi,eB K bq (up fl2 d2) σ H2 fi
structure Place(K:aI)(Hs H:Hp)(σ:St)(fl:Bool)(d:D)(v:V)(up:Bool->D->Env):Prop where
 ex:∃ gy,cw K Hs H fl d v gy/\gy≠[]/\gy.Nodup/\(∀ a∈gy,Hs a=none)/\Upd K Hs H σ fl v up gy
theorem Upd.node{K:aI}{Hs H bq H2:Hp}{σ:St}{fl fl2:Bool}{up:Bool->D->Env}{a:ag}{A C:List ag}{o:HO}{d2:D}(k:Upd K Hs H σ fl (.ref a) up (a :: A))(g:eT Hs H bq H2)(own:∀ x∈a :: A,Hs x=none/\H x≠none)(ho:∀ vs,o≠.tup vs)(hf:fl2=true->fl=true)(r:cw K bq (upd H2 a o) fl2 d2 (.ref a) (a :: C)) (nC:C.Nodup) (QN:a∉C) (hC:∀ x∈C,x∈A\/(bq x=none/\H x=none)):∃ fi,eB K bq (up fl2 d2) σ (upd H2 a o) fi:=by
 have hn:∀ x∈a :: A,bq x=none:=λx hx=>g.lT (own x hx).1 (own x hx).2;refine k bq _ fl2 d2 (a :: C) g.sh (zN g.wf (hn a ft) ho) (λb h1 h2=>g.lT h1 h2) hf r (Pg _ _) (nE.mpr ⟨QN,nC⟩) (λb hb=>?_) λb h1 h2=>?_
 ·rcases eM.mp hb with rfl|hb
  ·exact⟨hn _ ft,.inl ft⟩
  ·exact(hC b hb).elim (λq=>⟨hn b (eP _ q),.inl (eP _ q)⟩) λq=>⟨q.1,.inr q.2⟩
 ·rw[iN λz=>h2 (by subst z;exact ft)]
  cases q:H b with
  |none=>exact absurd q h1
  |some o=>exact g.all b o q
abbrev WP:=Env->(Bool->D->(Bool->D->Env)->Prop)->Prop
def tpP(K:aI)(t:WP):TE:=λσ H Qv=>∃ Hs ρ ai Q,eB K Hs ρ σ H ai/\t ρ Q/\∀ v H' ax fl d up,eT Hs H ax H'->Place K ax H' σ fl d v up->Q fl d up->Qv v H'
abbrev QP(X:Cx)(K:aI)(e:Expr)(t:WP):Prop:=PE X e (tpP K t)
section
variable {K:aI}{Hs H ax H':Hp}{σ:St}{fl:Bool}{d:D}{v:V}{up:Bool->D->Env}
theorem Place.grow(p:Place K Hs H σ fl d v up)(g:eT Hs H ax H'):Place K ax H' σ fl d v up:=by
 obtain⟨gy,r,ne,nd,own,k⟩:=p.ex;refine⟨gy,r.grow g.sh g.all,ne,nd,λa h=>g.lT (own a h) (r.own a h).ne,λbq H2 fl2 d2 gE s2 w2 n2 hf r2 ne2 kK o2 st=>?_⟩;refine k bq H2 fl2 d2 gE (g.sh.trans s2) w2 (λa h1 h2=>n2 a (g.lT h1 h2) ?_) hf r2 ne2 kK (λa h=>⟨(o2 a h).1,(o2 a h).2.imp id g.all.free⟩) λa h1 h2=>?_
 ·cases e:H a with
  |none=>exact absurd e h2
  |some o=>rw[g.all a o e];exact λz=>nomatch z
 ·cases e:H a with
  |none=>exact absurd e h1
  |some o =>have:=g.all a o e;rw[<- this];exact st a (by rw[this];exact λz=>nomatch z) h2
theorem cw.ne2:(∀ {d:D} {v:V} {As:List ag},cw K Hs H true d v As->d.flat=false->As≠[])/\∀ {ds:List D} {vs:List V} {As:List ag},az K Hs H true ds vs As->dQ ds=false->As≠[] :=
 cw.ind (m1:=λd _ As=>d.flat=false->As≠[]) (m2:=λds _ As=>dQ ds=false->As≠[]) (λ_ _ f _ h=>by rw[f rfl] at h;cases h) (λ_ _ _ _ _ _ _ _ _=>Pg _ _) (λ_ _ _ _ _ _ n _ ih _=>ih n) (λ_ _ _ _ _ _ _ _ _=>Pg _ _) (λ_ _ _ _ _ _ _ _ _=>Pg _ _) (λh=>by simp[dQ] at h) λd _ _ _ _ _ _ _ i1 i2 h=>by
   cases e:d.flat with
   |false=>exact λz=>i1 e (MZ.mp z).1
   |true =>simp only[dQ,e,Bool.true_and] at h;exact λz=>i2 h (MZ.mp z).2
theorem cw.ne{d:D}{v:V}{As:List ag}(r:cw K Hs H true d v As)(h:d.flat=false):As≠[]:=cw.ne2.1 r h
theorem cw.nil_of{fl:Bool}{d:D}{v:V}{As:List ag}(r:cw K Hs H fl d v As)(h:d.flat=true):As=[]:=by
 cases r with
 |sh _ _=>rfl
 |tup _ _ n _=>simp[D.flat,n] at h
 |_=>simp[D.flat] at h
def pS(i:Nat):WP:=λρ Q=>match ρ[i]? with
 |some (some (.ow fl d))=>Q fl d λfl2 d2=>ρ.set i (some (.ow fl2 d2))
 |_=>False
theorem SR.put{Hs H:Hp}{fl:Bool}{d:D}{ρ:Env}{σ:St}{ai:List ag}(i:Nat)(s:SR K Hs H ρ σ ai):ρ[i]? = some (some (.ow fl d))->ai.Nodup ->
  ∃ (v:V) (As cy:List ag),σ[i]? = some (some v)/\As≠[]/\cw K Hs H fl d v As/\As.Sublist ai/\∀ bq H2 fl2 d2 gE,bG Hs bq->cw K bq H2 fl2 d2 v gE->gE≠[]->gE.Nodup->(∀ a∈gE,a∈ai->a∈As)->(∀ a∈ai,a∉As->H2 a=H a) ->
   ∃ fi,fi.Nodup/\(∀ a∈fi,a∈ai\/a∈gE)/\SR K bq H2 (ρ.set i (some (.ow fl2 d2))) σ fi:=by
 induction s generalizing i with
 |nil=>intro e;simp at e
 |@non ρ σ ai o q ih =>
  intro e n
  cases i with
  |zero=>simp at e
  |succ i =>obtain⟨v,As,t,a,b,c,d,g⟩:=ih i (by simpa using e) n;refine⟨v,As,t,by simpa using a,b,c,d,λbq H2 fl2 d2 gE s2 r2 ne2 kK dj st=>?_⟩;obtain⟨t2,x,y,z⟩:=g bq H2 fl2 d2 gE s2 r2 ne2 kK dj st;exact⟨t2,x,y,.non z⟩
 |sh r q ih =>
  intro e n
  cases i with
  |zero=>simp at e
  |succ i =>obtain⟨v,As,t,a,b,c,d,g⟩:=ih i (by simpa using e) n;refine⟨v,As,t,by simpa using a,b,c,d,λbq H2 fl2 d2 gE s2 r2 ne2 kK dj st=>?_⟩;obtain⟨t2,x,y,z⟩:=g bq H2 fl2 d2 gE s2 r2 ne2 kK dj st;exact⟨t2,x,y,.sh (r.same s2) z⟩
 |xc q ih =>
  intro e n
  cases i with
  |zero=>simp at e
  |succ i =>obtain⟨v,As,t,a,b,c,d,g⟩:=ih i (by simpa using e) n;refine⟨v,As,t,by simpa using a,b,c,d,λbq H2 fl2 d2 gE s2 r2 ne2 kK dj st=>?_⟩;obtain⟨t2,x,y,z⟩:=g bq H2 fl2 d2 gE s2 r2 ne2 kK dj st;exact⟨t2,x,y,.xc z⟩
 |@ow ρ σ t2 B fl0 d0 v ne r q ih =>
  intro e n;obtain⟨n1,n2,n3⟩:=i6.mp n
  cases i with
  |zero =>
   simp at e;obtain⟨rfl,rfl⟩:=e;refine⟨v,B,t2,rfl,ne,r,MY _ _,λbq H2 fl2 d2 gE s2 r2 ne2 kK dj st=>⟨gE++t2,i6.mpr ⟨kK,n2,λa ha b hb e=>?_⟩,λa h=>?_,.ow ne2 r2 (q.fN s2 λa h=>st a (fA _ h) λz=>n3 a z a h rfl)⟩⟩
   ·subst e;exact n3 a (dj a ha (fA _ hb)) a hb rfl
   ·exact(fh.mp h).symm.imp (λz=>fA _ z) id
  |succ i =>
   obtain⟨v,As,t,a,b,c,d,g⟩:=ih i (by simpa using e) n2;have hB:∀ x∈B,x∉As:=λx hx m=>n3 x hx x (d.subset m) rfl;refine⟨v,As,B++t,by simpa using a,b,c,d.trans (k6 _ _),λbq H2 fl2 d2 gE s2 r2 ne2 kK dj st=>?_⟩;obtain⟨t2,x,y,z⟩:=g bq H2 fl2 d2 gE s2 r2 ne2 kK (λa ha m=>dj a ha (fA _ m)) λa ha m=>st a (fA _ ha) m;refine⟨B++t2,i6.mpr ⟨n1,x,λa ha b hb e=>?_⟩,λa h=>?_,.ow ne (r.fN s2 λa h=>st a (j3 _ h) (hB a h)) z⟩
   ·subst e;rcases y a hb with w|w
    ·exact n3 a ha a w rfl
    ·exact hB a ha (dj a w (j3 _ ha))
   ·rcases fh.mp h with w|w
    ·exact .inl (j3 _ w)
    ·exact(y a w).imp (λw=>fA _ w) id
 |@lk ρ σ t2 B a0 fl0 d0 ne r q ih =>
  intro e n;obtain⟨n1,n2,n3⟩:=i6.mp n
  cases i with
  |zero=>simp at e
  |succ i =>
   obtain⟨v,As,t,a,b,c,d,g⟩:=ih i (by simpa using e) n2;have hB:∀ x∈B,x∉As:=λx hx m=>n3 x hx x (d.subset m) rfl;refine⟨v,As,B++t,by simpa using a,b,c,d.trans (k6 _ _),λbq H2 fl2 d2 gE s2 r2 ne2 kK dj st=>?_⟩;obtain⟨t2,x,y,z⟩:=g bq H2 fl2 d2 gE s2 r2 ne2 kK (λa ha m=>dj a ha (fA _ m)) λa ha m=>st a (fA _ ha) m;refine⟨B++t2,i6.mpr ⟨n1,x,λa ha b hb e=>?_⟩,λa h=>?_,.lk ne (r.fN s2 λa h=>st a (j3 _ h) (hB a h)) z⟩
   ·subst e;rcases y a hb with w|w
    ·exact n3 a ha a w rfl
    ·exact hB a ha (dj a w (j3 _ ha))
   ·rcases fh.mp h with w|w
    ·exact .inl (j3 _ w)
    ·exact(y a w).imp (λw=>fA _ w) id
 |@ob ρ σ t2 B a0 p0 r q ih =>
  intro e n;obtain⟨n1,n2,n3⟩:=i6.mp n
  cases i with
  |zero=>simp at e
  |succ i =>
   obtain⟨v,As,t,a,b,c,d,g⟩:=ih i (by simpa using e) n2;have hB:∀ x∈B,x∉As:=λx hx m=>n3 x hx x (d.subset m) rfl;refine⟨v,As,B++t,by simpa using a,b,c,d.trans (k6 _ _),λbq H2 fl2 d2 gE s2 r2 ne2 kK dj st=>?_⟩;obtain⟨t2,x,y,z⟩:=g bq H2 fl2 d2 gE s2 r2 ne2 kK (λa ha m=>dj a ha (fA _ m)) λa ha m=>st a (fA _ ha) m;refine⟨B++t2,i6.mpr ⟨n1,x,λa ha b hb e=>?_⟩,λa h=>?_,.ob (p0.fN (qy s2) (λa h=>st a (j3 _ h) (hB a h)) r) z⟩
   ·subst e;rcases y a hb with w|w
    ·exact n3 a ha a w rfl
    ·exact hB a ha (dj a w (j3 _ ha))
   ·rcases fh.mp h with w|w
    ·exact .inl (j3 _ w)
    ·exact(y a w).imp (λw=>fA _ w) id
theorem bu{X:Cx}{i:Nat}{e:Expr}(h:PE X e (AW i)):QP X K e (pS i):=PE.imp h λσ H Qv hx=>kB hx λHs ρ ai Q sr h f=>by
 unfold pS at h;split at h
 ·rename_i fl d e1;obtain⟨v,As,t,e2,ne,r,sb,g⟩:=SR.put i sr.sr e1 sr.tN;refine⟨v,e2,f v H Hs fl d _ (eT.refl sr.wf) ⟨As,r,ne,sb.nodup sr.tN,λa h=>sr.own a (sb.subset h),λbq H2 fl2 d2 gE s2 w2 n2 _ r2 ne2 kK o2 st=>?_⟩ h⟩;obtain⟨t2,x,y,z⟩:=g bq H2 fl2 d2 gE s2 r2 ne2 kK (λa ha m=>(o2 a ha).2.elim id λq=>absurd q (sr.sr.own a m).ne) λa ha m=>st a (sr.sr.own a ha).ne m;exact⟨t2,z,w2,x,λa h=>(y a h).elim (λq=>n2 a (sr.own a q) (sr.sr.own a q).ne) λq=>(o2 a q).1⟩
 ·exact h.elim
theorem cw.wk{fl fl2:Bool}{d:D}{v:V}{As:List ag}(h:fl2=true->fl=true)(r:cw K Hs H fl d v As):cw K Hs H fl2 d v As:=by
 cases fl2 with
 |false=>exact r.Qx
 |true=>rw[h rfl] at r;exact r
theorem az.wk{fl fl2:Bool}{d:List D}{v:List V}{As:List ag}(h:fl2=true->fl=true)(r:az K Hs H fl d v As):az K Hs H fl2 d v As:=by
 cases fl2 with
 |false=>exact r.Qx
 |true=>rw[h rfl] at r;exact r
theorem az.at{fl:Bool}{ds:List D}{vs:List V}{As:List ag}{j:Nat}{d:D}(r:az K Hs H fl ds vs As)(e:ds[j]? = some d)(n:As.Nodup) :
  ∃ (v:V) (B:List ag),vs[j]? = some v/\cw K Hs H fl d v B/\B.Sublist As/\∀ bq H2 fl2 d2 B2,bG Hs bq->(fl2=true->fl=true)->cw K bq H2 fl2 d2 v B2->B2.Nodup->(∀ a∈B2,a∈As->a∈B)->(∀ a∈As,a∉B->H2 a=H a) ->
   ∃ gE,gE.Nodup/\(∀ a∈gE,(a∈As/\a∉B)\/a∈B2)/\(B2≠[]->gE≠[])/\az K bq H2 fl2 (ds.set j d2) vs gE:=by
 induction ds generalizing vs As j with
 |nil=>simp at e
 |cons x ds ih =>
  obtain⟨v,us,A,B,rfl,rfl,r,rs⟩:=r.c;obtain⟨n1,n2,n3⟩:=i6.mp n
  cases j with
  |zero =>
   simp at e;subst e;refine⟨v,A,rfl,r,MY _ _,λbq H2 fl2 d2 B2 s2 hf r2 kK dj st=>⟨B2++B,i6.mpr ⟨kK,n2,λa ha b hb e=>?_⟩,λa h=>?_,λne z=>ne (MZ.mp z).1,.cons r2 ((rs.wk hf).fN s2 λa h=>st a (fA _ h) λz=>n3 a z a h rfl)⟩⟩
   ·subst e;exact n3 a (dj a ha (fA _ hb)) a hb rfl
   ·rcases fh.mp h with w|w
    ·exact .inr w
    ·exact .inl ⟨fA _ w,λz=>n3 a z a w rfl⟩
  |succ j =>
   obtain⟨v,C,a,b,c,g⟩:=ih (j:=j) rs (by simpa using e) n2;have hA:∀ x∈A,x∉C:=λx hx m=>n3 x hx x (c.subset m) rfl;refine⟨v,C,by simpa using a,b,c.trans (k6 _ _),λbq H2 fl2 d2 B2 s2 hf r2 kK dj st=>?_⟩;obtain⟨gE,x,y,w,z⟩:=g bq H2 fl2 d2 B2 s2 hf r2 kK (λa ha m=>dj a ha (fA _ m)) λa ha m=>st a (fA _ ha) m;refine⟨A++gE,i6.mpr ⟨n1,x,λa ha b hb e=>?_⟩,λa h=>?_,λne q=>w ne (MZ.mp q).2,.cons ((r.wk hf).fN s2 λa h=>st a (j3 _ h) (hA a h)) z⟩
   ·subst e;rcases y a hb with q|q
    ·exact n3 a ha a q.1 rfl
    ·exact hA a ha (dj a q (j3 _ ha))
   ·rcases fh.mp h with q|q
    ·exact .inl ⟨j3 _ q,hA a q⟩
    ·exact(y a q).imp (λq=>⟨fA _ q.1,q.2⟩) id
def QQ(p:WP)(t:WE):WP:=λρ Q=>p ρ λfl d up=>t ρ λ_ y=>fl=true/\match y with
 |.int i=>match d with
  |.list ds=>∃ j d',ti ds.length i=some j/\ds[j]? = some d'/\d'.flat=false/\Q true d' λfl2 d2=>up fl2 (.list (ds.set j d2))
  |.tup ds=>∃ j d',ti ds.length i=some j/\ds[j]? = some d'/\d'.flat=false/\Q true d' λfl2 d2=>up fl2 (.tup (ds.set j d2))
  |_=>False
 |_=>False
theorem CQ{α:Type}{xs:List α}{i:Int}{j:Nat}{x:α}(h:ti xs.length i=some j)(e:xs[j]? = some x):fT xs i=some x:=by unfold L2.fT;rw[h];exact e
theorem xW{ds:List D}{j:Nat}{d:D}(e:ds[j]? = some d)(h:d.flat=false):dQ ds=false:=by
 cases q:dQ ds with
 |false=>rfl
 |true=>rw[jq.mp q d (vE e)] at h;cases h
theorem wX{ds:List D}{j:Nat}{d d2:D}(e:ds[j]? = some d)(h:d2.flat=false):dQ (ds.set j d2)=false:=by have hj:j<ds.length:=(nv.mp e).1;exact xW (j:=j) (d:=d2) (by simp[hj]) h
theorem Gz{X:Cx}{a b:Expr}{p:WP}{t:WE}{pos:Pos}(ha:QP X K a p)(hb:QE X K b t)(hs:SJ b:=by exact λ_ _=>rfl)(hK:X.K=K:=by rfl)(hu:X.A.units+64<hX:=by assumption):QP X K (.Subscript a b pos) (QQ p t):=by
 refine PE.imp (V2 (Zo hu hK) ha hb hs) λσ H Qv hx=>kB hx λHs ρ ai Q sr h f=>?_;refine⟨Hs,ρ,ai,_,sr,h,λv H1 bE fl d up g1 p1 q1=>⟨bE,ρ,ai,_,sr.grow g1,q1,λu H2 bq m y As g2 r2 f2 q2=>?_⟩⟩;have p2:=p1.grow g2;have gg:=g1.trans g2;obtain⟨rfl,q2⟩:=q2;have ry:=r2.rep g2.wf
 cases ry with
 |int i =>
  obtain⟨gy,r,ne,nd,own,k⟩:=p2.ex
  cases r with
  |sh hf _=>exact absurd rfl ne
  |@list a0 vs0 ds0 A0 hz e rs =>
   obtain⟨j,d',e1,e2,hd,q⟩:=q2;obtain⟨na,nb⟩:=nE.mp nd;obtain⟨w,B,e3,r3,sb,g⟩:=rs.at e2 nb;refine .inl (.inl ⟨_,w,.inl (.inl e),CQ (by rw[<- rs.length];exact e1) e3,f w H2 bq true d' _ gg ⟨B,r3,r3.ne hd,sb.nodup nb,λa h=>own a (eP _ (sb.subset h)),λfe H3 Ot d3 IH s3 w3 n3 hf r4 ne3 T1 o3 st=>?_⟩ q⟩);have aw:∀ x∈A0,x∉B->H3 x=H2 x:=λx hx m=>st x (rs.own x hx).ne m;obtain⟨Mp,x4,y4,z4,r5⟩:=g fe H3 Ot d3 IH s3 hf r4 T1 (λa ha m=>(o3 a ha).2.elim id λq=>absurd q (rs.own a m).ne) aw;have eA:H3 a0=H2 a0:=st a0 (by rw[e];exact λz=>nomatch z) λm=>na (sb.subset m);have cl:∀ a∈Mp,fe a=none/\(a∈a0 :: A0\/H2 a=none):=λa h=>by
    rcases y4 a h with⟨m,_⟩|m
    ·exact⟨n3 a (own a (eP _ m)) (rs.own a m).ne,.inl (eP _ m)⟩
    ·exact⟨(o3 a m).1,(o3 a m).2.imp (λq=>eP _ (sb.subset q)) id⟩
   refine k fe H3 Ot (.list _) (_ :: Mp) s3 w3 n3 hf (.list hz (eA.trans e) r5) (by simp) (nE.mpr ⟨λm=>?_,x4⟩) (λa h=>?_) λa h1 h2=>st a h1 λm=>h2 (eP _ (sb.subset m))
   ·rcases y4 _ m with⟨q,_⟩|q
    ·exact na q
    ·rcases (o3 _ q).2 with q|q
     ·exact na (sb.subset q)
     ·rw[e] at q;cases q
   ·rcases eM.mp h with rfl|h
    ·exact⟨n3 _ (own _ ft) (by rw[e];exact λz=>nomatch z),.inl ft⟩
    ·exact cl a h
  |tup hz e hn rs =>
   obtain⟨j,d',e1,e2,hd,q⟩:=q2;obtain⟨w,B,e3,r3,sb,g⟩:=rs.at e2 nd;refine .inl (.inr ⟨_,w,.inl (.inl (g2.wf.sub _ _ e)),CQ (by rw[<- rs.length];exact e1) e3,f w H2 bq true d' _ gg ⟨B,r3,r3.ne hd,sb.nodup nd,λa h=>own a (sb.subset h),λfe H3 Ot d3 IH s3 w3 n3 hf r4 ne3 T1 o3 st=>?_⟩ q⟩);obtain⟨Mp,x4,y4,z4,r5⟩:=g fe H3 Ot d3 IH s3 hf r4 T1 (λa ha m=>(o3 a ha).2.elim id λq=>absurd q (rs.own a m).ne) (λx hx m=>st x (rs.own x hx).ne m);have HP:dQ (List.set _ j d3)=false:=wX e2 (by
    cases hh:d3.flat with
    |false=>rfl
    |true=>exact absurd (r4.nil_of hh) ne3)
   refine k fe H3 Ot (.tup _) Mp s3 w3 n3 hf (.tup hz (s3 _ _ e) HP r5) (z4 ne3) x4 (λa h=>?_) λa h1 h2=>st a h1 λm=>h2 (sb.subset m);rcases y4 a h with⟨m,_⟩|m
   ·exact⟨n3 a (own a m) (rs.own a m).ne,.inl m⟩
   ·exact⟨(o3 a m).1,(o3 a m).2.imp (λq=>sb.subset q) id⟩
  |_=>exact q2.elim
 |_=>exact q2.elim
end
section
variable {X:Cx}{K:aI}{e:Expr}{p:WP}{te:WE}{apos dy pos:Pos}
def kW(fl:Bool)(m:Md)(d:D):Option Bool:=match m with
 |.sh=>some (fl && d.flat)
 |.ow b=>some (fl && b)
 |_=>bif d.flat then some fl else none
def Bz(p:WP)(te:WE):WS:=λE ρ=>p ρ λfl d up=>match d with
 |.list xs=>te ρ λm x=>xs.length<bX/\match kW fl m x with
  |some fl2=>E.nx (up fl2 (.list (xs++[x])))
  |none=>False
 |_=>False
theorem xN{Hs H:Hp}{fl fl2:Bool}{m:Md}{d:D}{v:V}{As:List ag}(w:Wf Hs H)(r:RM K Hs H m d v As)(h:kW fl m d=some fl2):(fl2=true->fl=true)/\∃ B,B.Sublist As/\cw K Hs H fl2 d v B:=by
 cases m with
 |sh =>cases h;exact⟨λz=>by cases fl<;>simp_all,[],AF _,.sh (λz=>by cases fl<;>simp_all) r.2⟩
 |ow b =>cases h;refine⟨λz=>by cases fl<;>simp_all,As,List.Sublist.refl _,r.1.wk λz=>by cases fl<;>simp_all⟩
 |_ =>
  cases hf:d.flat with
  |true =>simp only[kW,hf,cond_true,Option.some.injEq] at h;subst h;exact⟨id,[],AF _,.sh (λ_=>hf) (r.flat w hf)⟩
  |false=>simp[kW,hf] at h
theorem Place.put{bE H1 bq H2:Hp}{σ:St}{fl:Bool}{xs:List D}{v:V}{up:Bool->D->Env}(pl:Place K bE H1 σ fl (.list xs) v up)(g:eT bE H1 bq H2) :
  ∃ a vs A,v=.ref a/\H2 a=some (.lst vs)/\H1 a=some (.lst vs)/\az K bq H2 fl xs vs A/\(a :: A).Nodup/\(∀ x∈a :: A,bq x=none/\H1 x≠none) /\
   ∀ fl2 ys ws C,(fl2=true->fl=true)->az K bq H2 fl2 ys ws C->ws.length<=bX->C.Nodup->a∉C->(∀ x∈C,x∈A\/(bq x=none/\H1 x=none))->∃ fi,eB K bq (up fl2 (.list ys)) σ (upd H2 a (.lst ws)) fi:=by
 obtain⟨gy,r,ne,nd,own,k⟩:=pl.ex
 cases r with
 |sh hf _=>exact absurd rfl ne
 |@list a vs _ A hz e rs =>
  have e2:=g.all _ _ e;have QR:=rs.grow g.sh g.all;have hw:∀ x∈a :: A,bE x=none/\H1 x≠none:=λx hx=>⟨own x hx,by
   rcases eM.mp hx with rfl|hx
   ·rw[e];exact λz=>nomatch z
   ·exact(rs.own x hx).ne⟩
  exact⟨a,vs,A,rfl,e2,e,QR,nd,λx hx=>⟨g.lT (hw x hx).1 (hw x hx).2,(hw x hx).2⟩,λfl2 ys ws C hf mS hz ndC QN hC=>k.node g hw (λ_ z=>by cases z) hf (.list hz ki (mS.fN (bG.refl _) λb hb=>iN λz=>QN (by subst z;exact hb))) ndC QN hC⟩
theorem Place.T2{bE H1:Hp}{σ:St}{fl:Bool}{xs:List D}{v:V}{up:Bool->D->Env}(w:Wf bE H1)(pl:Place K bE H1 σ fl (.list xs) v up):∃ a vs,v=.ref a/\fF K H1 a vs:=by
 obtain⟨gy,r,ne,nd,own,k⟩:=pl.ex
 cases r with
 |sh hf _=>exact absurd rfl ne
 |list hz e rs=>exact⟨_,_,rfl,.inl (.inl e)⟩
theorem jx (ho:QP X K e p) {e2:Expr} (he:QE X K e2 te) (hK:X.K=K:=by rfl) (hs:rU (.Call (.Attribute e "append" apos) [e2] [] dy) none pos.line X.env=pure false:=by rfl) (tq:Au e "append" X.env (c9 e X.env)=c9 e X.env:=by rfl) (wc:((iq dy (bS [e2] X.env)).all (λx=>!x.1) && (backToKw dy (FT [] X.env)).all (λx=>x.1.isSome)
   && decide ([e2].length+([]:List t9).length+(if ([]:List t9).isEmpty then 0 else 1)<30))=true:=by rfl)
  (hline:(apos.endLine == dy.line)=true:=by rfl) (zC:bS (e2 :: []) X.env=(false,c9 e2 X.env) :: bS [] X.env:=by rfl) (Dx:(iq dy (bS [] X.env)).any (·.1)=false:=by rfl) :
  QS X K L (.Expr (.Call (.Attribute e "append" apos) [e2] [] dy) pos) (Bz p te):=by
 subst hK;refine PS.imp (LZ (P6 PySem.F.plainAttrs_list PySem.F.slot_list_append PySem.F.type_list_append V_ ho (kU he si zC) tq wc hline zC Dx) hs) λD σ H hx=>cI hx λHs ρ ai E sr h k1 k2 k3 k4=>?_;refine⟨Hs,ρ,ai,_,sr,h,λv H1 bE fl d up g1 p1 q1=>?_⟩
 cases d with
 |list xs =>
  obtain⟨a1,Zy,e1,s1⟩:=p1.T2 g1.wf;subst e1;refine⟨.inl ⟨rfl,_,s1⟩,bE,ρ,ai,_,sr.grow g1,q1,λy H2 bq m x As g2 r2 f2 q2=>?_⟩;obtain⟨hz,q2⟩:=q2;obtain⟨a,vs,A,ea,e2,_,rs,nd,hn,k⟩:=p1.put g2;cases ea;have hl:=rs.length;refine⟨a1,vs,y,rfl,rfl,e2,by lia,?_⟩
  cases hp:kW fl m x with
  |none=>rw[hp] at q2;exact q2.elim
  |some fl2 =>
   rw[hp] at q2;obtain⟨hf,B,sb,rb⟩:=xN g2.wf r2 hp;obtain⟨na,nA⟩:=nE.mp nd;have fB:∀ x∈B,bq x=none/\H1 x=none:=λx hx=>f2.2 x (sb.subset hx);have c1:(A++(B++[])).Nodup:=by rw[kE];exact i6.mpr ⟨nA,sb.nodup f2.1,λx hx z hz e=>by subst e;exact(hn x (eP _ hx)).2 (fB x hz).2⟩
   have c2:a1∉A++(B++[]):=by
    rw[kE];intro m;rcases fh.mp m with m|m
    ·exact na m
    ·exact(hn _ ft).2 (fB _ m).2
   have c3:∀ x∈A++(B++[]),x∈A\/(bq x=none/\H1 x=none):=by rw[kE];intro x hx;exact(fh.mp hx).imp id λz=>fB x z
   obtain⟨fi,lh⟩:=k fl2 (xs++[x]) (vs++[y]) (A++(B++[])) hf ((rs.wk hf).append (.cons rb .nil)) (by rw[ny];simp;lia) c1 c2 c3;exact k1 σ _ bq _ fi (g1.sh.trans g2.sh) lh q2
 |_=>exact q1.elim
def sX(p:WP):WS:=λE ρ=>p ρ λfl d up=>match d with
 |.list xs=>E.nx (up fl (.list []))
 |_=>False
theorem yQ (ho:QP X K e p) (hK:X.K=K:=by rfl) (hs:rU (.Call (.Attribute e "clear" apos) [] [] dy) none pos.line X.env=pure false:=by rfl) (tq:Au e "clear" X.env (c9 e X.env)=c9 e X.env:=by rfl) (hline:(apos.endLine == dy.line)=true:=by rfl):QS X K L (.Expr (.Call (.Attribute e "clear" apos) [] [] dy) pos) (sX p):=by
 subst hK;refine PS.imp (LZ (V8 PySem.F.plainAttrs_list PySem.F.slot_list_clear PySem.F.type_list_clear cW' ho tq hline) hs) λD σ H hx=>cI hx λHs ρ ai E sr h k1 k2 k3 k4=>?_;refine⟨Hs,ρ,ai,_,sr,h,λv H1 bE fl d up g1 p1 q1=>?_⟩
 cases d with
 |list xs =>obtain⟨a,vs,A,ea,e2,_,rs,nd,hn,k⟩:=p1.put (eT.refl g1.wf);subst ea;refine⟨.inl ⟨rfl,_,.inl (.inl e2)⟩,a,vs,rfl,rfl,e2,?_⟩;obtain⟨fi,lh⟩:=k fl [] [] [] id .nil (eW _) mG (by simp) (λx hx=>nomatch hx);exact k1 σ _ bE _ fi g1.sh lh q1
 |_=>exact q1.elim
def rR:WE:=λ_ Q=>Q (.ow true) (.dK [])
theorem uZ:QE X K (.Dict [] [] pos) rR:=PE.imp dl' λσ H Qv hx=>kB hx λHs ρ ai Q sr h f=>λa ha =>
 f _ _ Hs (.ow true) (.dK []) [a] (Qz sr.wf ha λ_ z=>nomatch z) ⟨.dK (vs:=[]) ⟨eW _,λp hp=>nomatch hp⟩ ki .nil,by simp⟩ ⟨by simp,λb hb=>by
  obtain rfl:b=a:=by simpa using hb
  exact⟨sr.wf.sub.free ha,ha⟩⟩ h
section
variable {κ:Type}[DecidableEq κ]
theorem uw{Hs H:Hp}{fl:Bool}{k:κ}{d:D}{v:V}(r:cw K Hs H fl d v []){ae:List (κ × D)}{vs:List V}{As:List ag}(qs:az K Hs H fl (ae.map (·.2)) vs As):∃ ws Bs,Bs.Sublist As /\
  az K Hs H fl ((ae.map λkv=>if kv.1=k then (kv.1,d) else kv).map (·.2)) ws Bs/\((ae.map (·.1)).zip vs).map (λkv=>if kv.1=k then (kv.1,v) else kv)=(((ae.map λkv=>if kv.1=k then (kv.1,d) else kv)).map (·.1)).zip ws:=by
 induction ae generalizing vs As with
 |nil=>exact⟨[],[],AF _,.nil,rfl⟩
 |cons p ae ih =>
  obtain⟨u,vs,A,B,rfl,rfl,q,qs⟩:=az.c (d:=p.2) qs;obtain⟨ws,Bs,sb,rs,e⟩:=ih qs;by_cases h:p.1=k
  ·refine⟨v :: ws,[]++Bs,by simpa using sb.trans (k6 _ _),?_,?_⟩
   ·simp only[gI,h,if_true];exact .cons r rs
   ·simp only[gI,Lv,h,if_true,e]
  ·refine⟨u :: ws,A++Bs,sb.append_left _,?_,?_⟩
   ·simp only[gI,h,if_false];exact .cons q rs
   ·simp only[gI,Lv,h,if_false,e]
theorem xF{Hs H:Hp}{fl:Bool}{k:κ}{d:D}{v:V}(r:cw K Hs H fl d v []){ae:List (κ × D)}{vs:List V}{As:List ag}(q:az K Hs H fl (ae.map (·.2)) vs As) :
  ∃ ws Bs,Bs.Sublist As/\az K Hs H fl ((nV ae k d).map (·.2)) ws Bs/\putK ((ae.map (·.1)).zip vs) k v=((nV ae k d).map (·.1)).zip ws:=by
 have hl:=q.length;rw[dn] at hl;unfold putK nV;rw[Bb hl]
 cases h:ae.any λkv=>decide (kv.1=k) with
 |true =>simp only[if_true];exact uw r q
 |false =>
  simp only[hZ,if_false];refine⟨vs++[v],As++([]++[]),by simp,?_,?_⟩
  ·rw[oI];exact q.append (.cons r .nil)
  ·rw[oI,List.zip_append (by rw[dn];exact hl)];rfl
theorem qt{Hs H:Hp}{fl:Bool}{k:κ}{d:D}{v:V}(r:Rep K Hs d v)(hd:d.flat=true){ae:List (κ × D)}{vs:List V}{As:List ag}(q:az K Hs H fl (ae.map (·.2)) vs As) :
  ∃ ws Bs,Bs.Sublist As/\az K Hs H fl ((nV ae k d).map (·.2)) ws Bs/\putK ((ae.map (·.1)).zip vs) k v=((nV ae k d).map (·.1)).zip ws:=xF (.sh (λ_=>hd) r) q
theorem gF{β:Type}(ae:List (κ × β))(k:κ)(v:β):(nV ae k v).length<=ae.length+1:=by
 unfold nV;split
 ·rw[dn];exact FY _ _
 ·simp
theorem lY{β:Type}{ae:List (κ × β)}{k:κ}{v:β}{p:κ × β}(h:p∈nV ae k v):p.1=k\/p.1∈ae.map (·.1):=by
 unfold nV at h;split at h
 ·obtain⟨q,hq,e⟩:=eK.mp h;by_cases hk:q.1=k
  ·rw[if_pos hk] at e;subst e;exact .inl hk
  ·rw[if_neg hk] at e;subst e;exact .inr (eK.mpr ⟨q,hq,rfl⟩)
 ·rcases fh.mp h with h|h
  ·exact .inr (eK.mpr ⟨p,h,rfl⟩)
  ·have:p=(k,v):=by simpa using h
   subst this;exact .inl rfl
end
def yV(p:WP)(tk tv:WE):WS:=λE ρ=>tv ρ λ_ x=>p ρ λfl d up=>tk ρ λ_ y=>x.flat=true/\match d with
 |.dK ae=>∃ k,y.key1=some k/\ae.length<bX/\E.nx (up fl (.dK (nV ae k x)))
 |.dT ae=>match y with
  |.tup ys=>∃ ks,dG ys=some ks/\ae.length<bX/\E.nx (up fl (.dT (nV ae ks x)))
  |_=>False
 |_=>False
theorem qJ{H:Hp}{d:D}{v:V}{k:Key}(r:Rep K H d v)(h:d.key1=some k):y9 k=true:=by
 cases r<;>simp[D.key1] at h<;>subst h
 ·rfl
 ·rename_i hz;simp[y9,hz]
theorem xP{H:Hp}{ds:List D}{vs:List V}{ks:List Key}(r:b9 K H ds vs)(h:dG ds=some ks):ks.length=ds.length/\∀ k∈ks,y9 k=true:=by
 induction ds generalizing vs ks with
 |nil=>simp[dG] at h;subst h;exact⟨rfl,λk hk=>nomatch hk⟩
 |cons d ds ih =>
  obtain⟨u,us,rfl,r,rs⟩:=r.c;unfold dG at h
  cases e1:d.key1 with
  |none=>rw[e1] at h;simp at h
  |some k =>
   cases e2:dG ds with
   |none=>rw[e1,e2] at h;simp at h
   |some eI =>
    rw[e1,e2] at h;simp at h;subst h;obtain⟨a,b⟩:=ih rs e2;refine⟨by simp[a],λj hj=>?_⟩;rcases eM.mp hj with rfl|hj
    ·exact qJ r e1
    ·exact b j hj
theorem Ah{a b c:Expr}{tk tv:WE}{pos':Pos}(ho:QP X K a p)(hi:QE X K b tk)(hv:QE X K c tv)(hs:rU c (some (.Subscript a b pos')) pos.line X.env=pure false:=by rfl)(hu:X.A.units+64<hX:=by assumption) :
  QS X K L (.Assign [.Subscript a b pos'] c pos) (yV p tk tv):=by
 refine PS.imp (dh' (by lia) ho hi hv hs) λD σ H hx=>cI hx λHs ρ ai E sr h k1 k2 k3 k4=>?_;refine⟨Hs,ρ,ai,_,sr,h,λv H1 bE m1 x As1 g1 r1 f1 q1=>⟨bE,ρ,ai,_,sr.grow g1,q1,λu H2 bq fl d up g2 p2 q2=>⟨bq,ρ,ai,_,(sr.grow g1).grow g2,q2,λy H3 fe m3 yd IH g3 r3 f3 q3=>?_⟩⟩⟩;obtain⟨hx,q3⟩:=q3;have rx:Rep K fe x v:=((r1.grow g2).grow g3).flat g3.wf hx;have ry:=r3.rep g3.wf;obtain⟨gy,r,ne,nd,own,k⟩:=p2.ex;have sm:bG Hs fe:=(g1.sh.trans g2.sh).trans g3.sh;have lv:∀ x∈gy,bq x=none/\H2 x≠none:=λx hx=>⟨own x hx,(r.own x hx).ne⟩
 cases r with
 |sh hf _=>exact absurd rfl ne
 |@dK a0 vs ae A kk e rs =>
  obtain⟨key,hk,hz,q⟩:=q3;have ey:=ry.key hk;subst ey;obtain⟨na,nA⟩:=nE.mp nd;obtain⟨ws,Bs,sb,mS,ew⟩:=qt (k:=key) rx hx (rs.grow g3.sh g3.all);have hl:ae.length=vs.length:=by have:=rs.length;rwa[dn] at this
  refine⟨a0,_,rfl,EX.k (g3.all _ _ e) (by rw[M9,dn,<- hl,Ng];exact hz),?_⟩;rw[ew];have nB:a0∉Bs:=λz=>na (sb.subset z);obtain⟨fi,lh⟩:=k.node (fl2:=fl) (d2:=.dK (nV ae key x)) g3 lv (λ_ z=>by cases z) id (.dK ⟨i9 (gF _ _ _) hz,λp hp=>(lY hp).elim (λz=>by rw[z];exact qJ ry hk) λz=>by obtain⟨p',gu,e'⟩:=eK.mp z;rw[<- e'];exact kk.2 p' gu⟩ ki (mS.fN (bG.refl _) λb hb=>iN λz=>nB (by subst z;exact hb))) (sb.nodup nA) nB λb hb=>.inl (sb.subset hb)
  exact k1 σ _ fe _ fi sm lh q
 |@dT a0 vs ae A kk e rs =>
  cases ry with
  |tup t1 e1 Mr =>
   obtain⟨key,hk,hz,q⟩:=q3;obtain⟨b,eb,e5⟩:=Rep.mh (.tup t1 e1 Mr) hk;cases eb;obtain⟨kl,ko⟩:=xP Mr hk;obtain⟨na,nA⟩:=nE.mp nd;obtain⟨ws,Bs,sb,mS,ew⟩:=qt (k:=key) rx hx (rs.grow g3.sh g3.all);have hl:ae.length=vs.length:=by have:=rs.length;rwa[dn] at this
   refine⟨a0,_,rfl,EX.t (g3.all _ _ e) e5 (by rw[M9,dn,<- hl,Ng];exact hz),?_⟩;rw[ew];have nB:a0∉Bs:=λz=>na (sb.subset z);have l1:=Mr.length;obtain⟨fi,lh⟩:=k.node (fl2:=fl) (d2:=.dT (nV ae key x)) g3 lv (λ_ z=>by cases z) id (.dT ⟨i9 (gF _ _ _) hz,λp hp=>(lY hp).elim (λz=>by rw[z];exact⟨by lia,ko⟩) λz=>by obtain⟨p',gu,e'⟩:=eK.mp z;rw[<- e'];exact kk.2 p' gu⟩ ki (mS.fN (bG.refl _) λb hb=>iN λz=>nB (by subst z;exact hb))) (sb.nodup nA) nB λb hb=>.inl (sb.subset hb)
   exact k1 σ _ fe _ fi sm lh q
  |_=>exact q3.elim
 |_=>exact q3.elim
end
abbrev WJ:=Env->Str->(Str->Prop)->Prop
section
variable {X:Cx}{K:aI}{e:Expr}{te:WE}{j:WJ}
def jG:List D->Option (List Str)
 |[]=>some []
 |.str x :: xs=>(jG xs).map (x :: ·)
 |_ :: _=>none
def rK(to te:WE):WE:=λρ Q=>to ρ λ_ x=>match x with
 |.str z=>te ρ λ_ y=>match y with
  |.list ys=>∃ zs,jG ys=some zs/\(zs.map (·.length)).sum+zs.length*z.length<=16777216/\Q .sh (.str (Str.join z zs))
  |_=>False
 |_=>False
theorem xu(r:b9 K H ds vs)(q:Vals vs us)(h:jG ds=some zs):StrsAre us zs:=by
 induction ds generalizing vs us zs with
 |nil =>simp[jG] at h;subst h;have:=r.n0;subst this;rw[Paired.n0 q];exact .nil
 |cons d ds ih =>
  obtain⟨v,vs,rfl,r1,rs⟩:=r.c;obtain⟨u,us,rfl,q1,qs⟩:=Paired.c q
  cases r1 with
  |str hz =>
   simp only[jG] at h
   cases e:jG ds with
   |none=>rw[e] at h;cases h
   |some ys =>rw[e] at h;cases h;obtain⟨t,rfl⟩:=q1;exact .cons _ t (ih rs qs e)
  |_=>simp[jG] at h
theorem Bq (hK:X.K=K:=by rfl):P4 X "str.join" (λx xs H Q=>∃ z a ds vs zs,x=.str z/\xs=[.ref a]/\fF K H a vs/\b9 K H ds vs/\jG ds=some zs/\(zs.map (·.length)).sum+zs.length*z.length<=16777216/\Q (.str (Str.join z zs)) H):=by subst hK;intro pins s σ H x xs v us Q I rx rs h;obtain⟨z,a,ds,vs,zs,rfl,rfl,hs,rr,e,hz,q⟩:=h;obtain⟨t,rfl⟩:=rx;obtain⟨u,rfl,ru⟩:=Vals.one rs;cases ru;obtain⟨its,rv,pl,_⟩:=I.list hs;exact join_list pl.isList (by simpa using xu rr rv e) hz λt' k=>⟨.str _,H,I.tok _,⟨t',rfl⟩,by rw[show Txt.join z zs=Str.join z zs from StrLaws.glued_eq_join z zs];exact q⟩
theorem sO:∀ {zs:List Str},(Str.join z zs).length<=(zs.map (·.length)).sum+zs.length*z.length
 |[]=>by show Str.empty.length<=_;exact i9 (show Str.empty.length<=0 by decide) (eW _)
 |[x]=>by simp[Str.join]
 |x :: y :: r=>by have ih:=sO (z:=z) (zs:=y :: r);show(x++z++Str.join z (y :: r)).length<=_;rw[bw,bw];simp only[gI,List.sum_cons,vF,Nat.add_mul,Nat.one_mul] at ih ⊢;lia
theorem Df(ho:QE X K o to)(he:QE X K e te)(hK:X.K=K:=by rfl) (tq:Au o "join" X.env (c9 o X.env)=c9 o X.env:=by rfl) (wc:((iq dy (bS [e] X.env)).all (λx=>!x.1) && (backToKw dy (FT [] X.env)).all (λx=>x.1.isSome)
   && decide ([e].length+([]:List t9).length+(if ([]:List t9).isEmpty then 0 else 1)<30))=true:=by rfl)
  (hline:(apos.endLine == dy.line)=true:=by rfl) (zC:bS (e :: []) X.env=(false,c9 e X.env) :: bS [] X.env:=by rfl) (Dx:(iq dy (bS [] X.env)).any (·.1)=false:=by rfl) :
  QE X K (.Call (.Attribute o "join" apos) [e] [] dy) (rK to te):=by
 subst hK;refine PE.imp (P6 PySem.F.plainAttrs_str PySem.F.slot_str_join PySem.F.type_str_join Bq ho (kU he si zC) tq wc hline zC Dx) λσ H Qv hx=>kB hx λHs ρ ai Q sr h f=>?_;refine⟨Hs,ρ,ai,_,sr,h,λv H1 bE m x As g1 r1 f1 q1=>?_⟩;have r:=r1.rep g1.wf
 cases r with
 |str hz =>
  refine⟨rfl,bE,ρ,ai,_,sr.grow g1,q1,λy H2 bq m2 x2 gE g2 r2 f2 q2=>?_⟩;have rr:=r2.rep g2.wf
  cases rr with
  |list z s rs =>obtain⟨zs,e,hz,q⟩:=q2;exact⟨_,_,_,_,zs,rfl,rfl,s,rs,e,hz,Fin.sh (Fin.after f (g1.trans g2)) g2.wf (.str (i9 sO (by rw[kP];exact hz))) q⟩
  |_=>exact q2.elim
 |_=>exact q1.elim
def mh(k:List Key):D:=.tup (k.map qS)
def Ij:W1:=λ_ x Q=>match x with
 |.list xs=>∃ ks sh,xs=ks.map mh/\(∀ k∈ks,jI k=true :: sh)/\∀ ms:List (List Key),ms.Perm ks->(ms.Pairwise λa b=>iE b a=false)->Q (.ow true) (.list (ms.map mh))
 |_=>False
theorem wu{H:Hp}{ks:List Key}{vs:List V}(r:b9 K H (ks.map qS) vs):vs=ks.map kV/\∀ k∈ks,y9 k=true:=by
 induction ks generalizing vs with
 |nil=>exact⟨r.n0,λk h=>nomatch h⟩
 |cons k ks ih =>
  obtain⟨u,us,rfl,r1,rs⟩:=b9.c (d:=qS k) r;obtain⟨e,o⟩:=ih rs;subst e
  cases k with
  |inl i=>cases r1;exact⟨rfl,λj hj=>by rcases eM.mp hj with rfl|hj;rfl;exact o j hj⟩
  |inr x =>
   cases r1 with
   |str hz=>exact⟨rfl,λj hj=>by rcases eM.mp hj with rfl|hj;simp[y9,hz];exact o j hj⟩
theorem Al{H:Hp}{ks:List (List Key)}{vs:List V}(r:b9 K H (ks.map mh) vs):cR H vs ks/\∀ k∈ks,k.length<=bX/\∀ j∈k,y9 j=true:=by
 induction ks generalizing vs with
 |nil=>rw[r.n0];exact⟨.nil,λk h=>nomatch h⟩
 |cons k ks ih =>
  obtain⟨u,us,rfl,r1,rs⟩:=b9.c (d:=mh k) r;obtain⟨t,o⟩:=ih rs
  cases r1 with
  |tup hz e q =>
   obtain⟨e2,o2⟩:=wu q;subst e2;exact⟨.cons ⟨_,rfl,e⟩ t,λj hj=>by
    rcases eM.mp hj with rfl|hj
    ·exact⟨by simpa using hz,o2⟩
    ·exact o j hj⟩
theorem oZ:kN "sorted" = some (.builtin "sorted"):=by decide +kernel
end
def Zz(A:List ag)(F:Nat->List ag):Nat->List ag
 |0=>A
 |i+1=>F i
def IU(K:aI)(Hs H:Hp)(ρ:Env)(σ:St)(ai:List ag)(F:Nat->List ag):Prop:=(∀ i fl d,ρ[i]? = some (some (.ow fl d))->∃ v,σ[i]? = some (some v)/\F i≠[]/\cw K Hs H fl d v (F i)) /\ (∀ i,(F i).Sublist ai)/\∀ i j,i≠j->∀ a∈F i,a∉F j
theorem IU.skip{K:aI}{F:Nat->List ag}(h:IU K Hs H ρ σ ai F)(no:∀ fl d,o≠some (.ow fl d)):IU K Hs H (o :: ρ) (u :: σ) ai (Zz [] F):=by
 obtain⟨a,b,c⟩:=h;refine⟨λi fl d e=>?_,λi=>?_,λi j ne x hx=>?_⟩
 ·cases i with
  |zero=>simp at e;exact absurd e (no fl d)
  |succ i=>exact a i fl d (by simpa using e)
 ·cases i with
  |zero=>exact AF _
  |succ i=>exact b i
 ·cases i with
  |zero=>exact zh hx
  |succ i =>
   cases j with
   |zero=>exact λz=>zh z
   |succ j=>exact c i j (λz=>ne (by rw[z])) x hx
theorem IU.own{K:aI}{ai B:List ag}{F:Nat->List ag}(h:IU K Hs H ρ σ ai F)(n:(B++ai).Nodup)(hs:∀ fl d,sl=.ow fl d->B≠[]/\cw K Hs H fl d v B):IU K Hs H (some sl :: ρ) (some v :: σ) (B++ai) (Zz B F):=by
 obtain⟨a,b,c⟩:=h;obtain⟨n1,n2,n3⟩:=i6.mp n;refine⟨λi fl d e=>?_,λi=>?_,λi j ne x hx=>?_⟩
 ·cases i with
  |zero=>simp at e;exact⟨v,rfl,hs fl d e⟩
  |succ i=>exact a i fl d (by simpa using e)
 ·cases i with
  |zero=>exact MY _ _
  |succ i=>exact(b i).trans (k6 _ _)
 ·cases i with
  |zero =>
   cases j with
   |zero=>exact absurd rfl ne
   |succ j=>exact λz=>n3 x hx x ((b j).subset z) rfl
  |succ i =>
   cases j with
   |zero=>exact λz=>n3 x z x ((b i).subset hx) rfl
   |succ j=>exact c i j (λz=>ne (by rw[z])) x hx
theorem SR.addrs{K:aI}(s:SR K Hs H ρ σ ai):ai.Nodup->∃ F:Nat->List ag,IU K Hs H ρ σ ai F:=by
 induction s with
 |nil=>exact λ_=>⟨λ_=>[],λi fl d e=>by simp at e,λi=>AF _,λi j _ a h=>zh h⟩
 |non s ih =>intro n;obtain⟨F,h⟩:=ih n;exact⟨_,h.skip λfl d z=>by cases z⟩
 |sh r s ih =>intro n;obtain⟨F,h⟩:=ih n;exact⟨_,h.skip λfl d z=>by cases z⟩
 |xc s ih =>intro n;obtain⟨F,h⟩:=ih n;exact⟨_,h.skip λfl d z=>by cases z⟩
 |ow ne r s ih =>intro n;obtain⟨F,h⟩:=ih (i6.mp n).2.1;exact⟨_,h.own n λfl d e=>by cases e;exact⟨ne,r⟩⟩
 |lk ne r s ih =>intro n;obtain⟨F,h⟩:=ih (i6.mp n).2.1;exact⟨_,h.own n λfl d e=>by cases e⟩
 |ob r s ih =>intro n;obtain⟨F,h⟩:=ih (i6.mp n).2.1;exact⟨_,h.own n λfl d e=>by cases e⟩
abbrev Plan:=List (WE ⊕ Nat)
def QV:Plan->List Nat
 |[]=>[]
 |.inl _ :: r=>QV r
 |.inr i :: r=>i :: QV r
def QX:Option (Option Sl)->Option (Md × D)
 |some (some (.sh d))=>some (.sh,d)
 |some (some (.ow fl d))=>some (.ow fl,d)
 |_=>none
def jy:Plan->Env->(List (Md × D)->Prop)->Prop
 |[],_,Q=>Q []
 |.inl t :: r,ρ,Q=>t ρ λm x=>jy r ρ λps=>Q ((m,x) :: ps)
 |.inr i :: r,ρ,Q=>match QX ρ[i]? with
  |some p=>jy r ρ λps=>Q (p :: ps)
  |none=>False
def tpM(K:aI)(pl:Plan):TA:=λσ H Qv=>∃ (Hs:Hp) (ρ:Env) (ai:List ag) (F:Nat->List ag) (Q:List (Md × D)->Prop),eB K Hs ρ σ H ai/\(∀ i fl d,ρ[i]? = some (some (.ow fl d))->∃ v,σ[i]? = some (some v)/\F i≠[]/\cw K Hs H fl d v (F i))/\(∀ i,(F i).Sublist ai)/\(∀ i j,i≠j->∀ a∈F i,a∉F j) /\
 jy pl ρ Q/\∀ vs H' ax ps As,eT Hs H ax H'->zi K ax H' ps vs As->As.Nodup->(∀ a∈As,ax a=none/\(H a=none\/∃ i∈QV pl,a∈F i))->Q ps->Qv vs H'
abbrev QM(X:Cx)(K:aI)(es:List Expr)(pl:Plan):Prop:=PA X es (tpM K pl)
section
variable {X:Cx}{K:aI}{e:Expr}{es:List Expr}{te:WE}{pl:Plan}{pos:Pos}
theorem gY:QM X K [] []:=PA.imp si λσ H Qv hx=>by obtain⟨Hs,ρ,ai,F,Q,sr,h1,h2,h3,h,f⟩:=hx;exact f [] H Hs [] [] (eT.refl sr.wf) .nil mG (λa h=>zh h) h
theorem DL(ha:QE X K e te)(hr:QM X K es pl)(hs:bS (e :: es) X.env=(false,c9 e X.env) :: bS es X.env:=by rfl):QM X K (e :: es) (.inl te :: pl):=by
 refine PA.imp (kU ha hr hs) λσ H Qv d5=>?_;obtain⟨Hs,ρ,ai,F,Q,sr,h1,h2,h3,h,f⟩:=d5;refine⟨Hs,ρ,ai,_,sr,h,λv H1 bE m x As g1 r1 f1 q1=>⟨bE,ρ,ai,F,_,sr.grow g1,(λi fl d e=>?_),h2,h3,q1,λvs H2 bq ps Bs g2 r2 kK o2 q2=>?_⟩⟩
 ·obtain⟨v,a,b,c⟩:=h1 i fl d e;exact⟨v,a,b,c.grow g1.sh g1.all⟩
 ·refine f (v :: vs) H2 bq _ _ (g1.trans g2) (.cons (r1.grow g2) r2) (i6.mpr ⟨f1.1,kK,λa ha b hb e=>?_⟩) (λa ha=>?_) q2
  ·subst e;rcases (o2 a hb).2 with z|⟨i,_,z⟩
   ·exact(r1.own a ha).ne z
   ·exact(sr.sr.own a ((h2 i).subset z)).ne (f1.2 a ha).2
  ·rcases fh.mp ha with z|z
   ·exact⟨g2.lT (f1.2 a z).1 (r1.own a z).ne,.inl (f1.2 a z).2⟩
   ·exact⟨(o2 a z).1,(o2 a z).2.imp g1.all.free id⟩
theorem DM(ha:PE X e (AW i))(hr:QM X K es pl)(hi:i∉QV pl:=by decide)(hs:bS (e :: es) X.env=(false,c9 e X.env) :: bS es X.env:=by rfl):QM X K (e :: es) (.inr i :: pl):=by
 refine PA.imp (kU ha hr hs) λσ H Qv d5=>?_;obtain⟨Hs,ρ,ai,F,Q,sr,h1,h2,h3,h,f⟩:=d5;unfold jy at h
 cases hm:QX ρ[i]? with
 |none=>rw[hm] at h;exact h.elim
 |some p =>
  rw[hm] at h;have key:∃ v A,σ[i]? = some (some v)/\RM K Hs H p.1 p.2 v A/\A.Nodup/\∀ a∈A,a∈F i:=by
   cases e1:ρ[i]? with
   |none=>rw[e1] at hm;cases hm
   |some o =>
    cases o with
    |none=>rw[e1] at hm;cases hm
    |some sl =>
     cases sl with
     |sh d =>rw[e1] at hm;cases hm;obtain⟨v,a,b⟩:=sr.sr.get e1;exact⟨v,[],a,⟨rfl,b⟩,mG,λa h=>nomatch h⟩
     |lk a fl d=>rw[e1] at hm;cases hm
     |xc a=>rw[e1] at hm;cases hm
     |ob a p=>rw[e1] at hm;cases hm
     |ow fl d =>rw[e1] at hm;cases hm;obtain⟨v,a,b,c⟩:=h1 i fl d e1;exact⟨v,F i,a,⟨c,b⟩,(h2 i).nodup sr.tN,λa h=>h⟩
  obtain⟨v,A,ev,rm,Ou,hA⟩:=key;refine⟨v,ev,Hs,ρ,ai,F,_,sr,h1,h2,h3,h,λvs H2 bq ps Bs g2 r2 kK o2 q2=>?_⟩;refine f (v :: vs) H2 bq _ _ g2 (.cons (rm.grow g2) r2) (i6.mpr ⟨Ou,kK,λa ha b hb e=>?_⟩) (λa ha=>?_) q2
  ·subst e;rcases (o2 a hb).2 with z|⟨j,hj,z⟩
   ·exact(rm.own a ha).ne z
   ·exact h3 i j (λz=>hi (by rw[z];exact hj)) a (hA a ha) z
  ·rcases fh.mp ha with z|z
   ·have:a∈ai:=(h2 i).subset (hA a z);exact⟨g2.lT (sr.own a this) (sr.sr.own a this).ne,.inr ⟨i,ft,hA a z⟩⟩
   ·exact⟨(o2 a z).1,(o2 a z).2.imp id λ⟨j,hj,q⟩=>⟨j,eP _ hj,q⟩⟩
def kh(pl:Plan):WS:=λE ρ=>jy pl ρ λps=>ps.length<=bX/\E.rt (uf ps) (.tup (ps.map (·.2)))
theorem dW{x1}(h:QM X K es pl):QS X K L (.Return (some (.Tuple es x1 ZC)) pos) (kh pl):=by
 refine PS.imp (Nx (PR h)) λD σ H hx=>cI hx λHs ρ ai E sr h k1 k2 k3 k4=>?_;obtain⟨F,h1,h2,h3⟩:=sr.sr.addrs sr.tN;refine⟨Hs,ρ,ai,F,_,sr,h1,h2,h3,h,λvs H1 bE ps As g1 r1 nd1 o1 q1=>?_⟩;obtain⟨hz,q⟩:=q1;have rl:=r1.reps g1.wf;have hl:=rl.length;rw[dn] at hl;refine⟨by lia,λp hp=>?_⟩;have g2:=N_ (vs:=vs) g1.wf hp;have sm:bG Hs (upd bE p (.tup vs)):=g1.sh.trans g2.sh;unfold uf at q
 cases e1:ps.all zt with
 |true =>rw[e1] at q;exact k4 _ _ _ .sh _ [] sm g2.wf ⟨rfl,.tup (by lia) ki ((r1.sh g1.wf e1).same g2.sh)⟩ mG (λa h=>nomatch h) q
 |false =>
  rw[e1] at q
  cases e2:ps.all IJ with
  |false =>rw[e2] at q;exact k4 _ _ _ .bo _ [] sm g2.wf ⟨rfl,.tup (by lia) ki (rl.same g2.all)⟩ mG (λa h=>nomatch h) q
  |true =>
   rw[e2] at q;obtain⟨Bs,sb,nz,ro⟩:=r1.ow (fl:=ps.all E9) g1.wf e2 λz=>z;have kz:dQ (ps.map (·.2))=false:=by
    cases hf:dQ (ps.map (·.2)) with
    |false=>rfl
    |true=>rw[mY hf] at e1;cases e1
   exact k4 _ _ _ (.ow _) _ Bs sm g2.wf ⟨.tup (by lia) ki kz (ro.grow g2.sh g2.all),nz e1⟩ (sb.nodup nd1) (λa ha=>g2.lT (o1 a (sb.subset ha)).1 (ro.own a ha).ne) q
end
def ZD:fo:=λds Q=>∃ ns:List Int,ds=[.list (ns.map .int)]/\ns.length<=63/\∀ m,Q m (.bl true)
theorem ints_rep{K:aI}:∀ (ns:List Int),b9 K H (ns.map .int) (ns.map V.int)
 |[]=>.nil
 |n :: ns=>.cons (.int n) (ints_rep ns)
theorem yS{K:aI}{H:Hp}{a:ag}{ns:List Int}{E:XK}(hl:ns.length<=63)(hS:fF K H a (ns.map V.int)):eZ K ZD [.ref a] H (λv _=>v=.bl true) E:=by refine⟨[.list (ns.map .int)],λ_ d=>d=.bl true,.cons (.list (by rw[dn];exact i9 hl (by decide)) hS (ints_rep ns)) .nil,⟨ns,rfl,hl,λ_=>rfl⟩,?_⟩;intro v H' ax m d As s w r nd own q;subst q;have:=r.rep w;cases this;rfl
abbrev sg(x:Str):List Nat:=x.cps.toList
theorem fU(x y:Str):sg (x++y)=sg x++sg y:=by show(x.cps++y.cps).toList=_;simp[sg]
theorem empty_app(x:Str):Str.empty++x=x:=vf (by rw[<- sg,fU];rfl)
def ZE(x:Str):Prop:=∀ c∈sg x,c<0x110000
theorem qH(x:Str):PyData.strOk x=true↔ZE x:=by unfold PyData.strOk ZE sg;rw[Array.all_eq_true'];simp
theorem fi'{α:Type}(x:α)(l:List α):fT (x :: l) 0=some x:=by simp[L2.fT,ti]
theorem fj'{α:Type}(x y:α)(l:List α):fT (x :: y :: l) 1=some y:=by have:=A4 (xs:=x :: y :: l) (j:=1) (v:=y) rfl;exact this
theorem fk'{α:Type}(x y z:α)(l:List α):fT (x :: y :: z :: l) 2=some z:=by have:=A4 (xs:=x :: y :: z :: l) (j:=2) (v:=z) rfl;exact this
theorem Eb:Str.empty.length=0:=by decide
end L2.Q
namespace L2.Q.R
open PySem PySem.Spec PyProof.Rows L2.Q
section
variable {f:D->Prop}{k:Kt f}
theorem JC:cq .non k=f .non:=rfl
theorem J7:cq (.bl b) k=f (.bl b):=rfl
theorem Jq:cq (.int i) k=f (.int i):=rfl
theorem JG:cq (.str x) k=f (.str x):=rfl
theorem Gw:cq (.list xs) k=f (.list xs):=rfl
theorem Jv:cq (.tup xs) k=f (.tup xs):=rfl
theorem KN:cq (.dK xs) k=f (.dK xs):=rfl
theorem Ld:cq (.dT xs) k=f (.dT xs):=rfl
end
theorem Hn{f:Bool->Prop}{k:Kt f}:cq true k=f true:=rfl
theorem Gi{f:Bool->Prop}{k:Kt f}:cq false k=f false:=rfl
theorem JQ{d:D}{f:Md × D->Prop}{k:Kt f}:cq (Md.sh,d) k=f (.sh,d):=rfl
theorem Jj{b:Bool}{d:D}{f:Md × D->Prop}{k:Kt f}:cq (Md.ow b,d) k=f (.ow b,d):=rfl
theorem Jt{d:D}{f:Md × D->Prop}{k:Kt f}:cq (Md.bo,d) k=f (.bo,d):=rfl
theorem JK{d:D}{f:Option Sl->Prop}{k:Kt f}:cq (some (.sh d)) k=f (some (.sh d)):=rfl
theorem Jx{b:Bool}{d:D}{f:Option Sl->Prop}{k:Kt f}:cq (some (.ow b d)) k=f (some (.ow b d)):=rfl
theorem JM{p:Md × D}{f:Option (Md × D)->Prop}{k:Kt f}:cq (some p) k=f (some p):=rfl
theorem Km{p:Bool}{f:Option Bool->Prop}{k:Kt f}:cq (some p) k=f (some p):=rfl
theorem J2{d:D}{f:Option (Option Sl)->Prop}{k:Kt f}:cq (some (some (.sh d))) k=f (some (some (.sh d))):=rfl
theorem Jp{b:Bool}{d:D}{f:Option (Option Sl)->Prop}{k:Kt f}:cq (some (some (.ow b d))) k=f (some (some (.ow b d))):=rfl
section
variable {E:iW}{ρ:Env}{Q:Md->D->Prop}{B:Bool->Prop}{t u:WS}{te ta tb tc ZF:WE}{tt tu:WT}{tar:WA}{i j n:Nat}{m m':Md}{d d':D}{sp:fo}{p:WP}{R:List (Md × D)->Prop}
theorem J1:a_ E ρ=E.nx ρ:=rfl
theorem J9:cp t u E ρ=t { E with nx:=u E } ρ:=rfl
theorem Ke:oz te E ρ=te ρ E.rt:=rfl
def put(sl:Option Sl)(k:Sl->Prop):Prop:=match sl with
 |some s=>k s
 |none=>False
theorem JS:put (some (.sh d)) k=k (.sh d):=rfl
theorem J0:put (some (.ow b d)) k=k (.ow b d):=rfl
theorem J3:eh i te E ρ=te ρ λm d=>cq (asg m d) (f:=λo=>put o λsl=>E.nx (ρ.set i (some sl))) ⟨⟩:=rfl
theorem Ku:gv tt t u E ρ=tt ρ λb=>cq b (f:=λb=>if b=true then t E ρ else u E ρ) ⟨⟩:=rfl
theorem Jw:gQ i E ρ=cq ρ[i]? (f:=λo=>match o with
 |some (some (.sh d))=>E.rt .sh d
 |some (some (.ow fl d))=>E.rt (.ow fl) d
 |_=>False) ⟨⟩:=rfl
theorem JX:kh pl E ρ=jy pl ρ λps=>ps.length<=bX/\E.rt (uf ps) (.tup (ps.map (·.2))):=rfl
theorem Ds:jy [] ρ R=R []:=rfl
theorem Gq:jy (.inl te :: r) ρ R=te ρ λm x=>jy r ρ λps=>R ((m,x) :: ps):=rfl
def ZG(o:Option (Md × D))(k:Md × D->Prop):Prop:=match o with
 |some p=>k p
 |none=>False
theorem Gb{p:Md × D}{k:Md × D->Prop}:ZG (some p) k=k p:=rfl
theorem HF:jy (.inr i :: r) ρ R=cq (QX ρ[i]?) (f:=λo=>ZG o λp=>jy r ρ λps=>R (p :: ps)) ⟨⟩:=rfl
theorem J8:kH i t E ρ=t E (Oj i ρ):=rfl
-- tests
def bol(d:D)(B:Bool->Prop):Prop:=match d with
 |.bl b=>B b
 |_=>False
theorem JZ:bol (.bl b) B=B b:=rfl
theorem wB_:wB te ρ B=te ρ λ_ x=>cq x (f:=λx=>bol x B) ⟨⟩:=rfl
theorem Kr:II tt ρ B=tt ρ λc=>B (!c):=rfl
theorem fn':Mq tt tu ρ B=tt ρ λc=>cq c (f:=λc=>if c=true then B true else tu ρ B) ⟨⟩:=rfl
theorem Li:x6 ρ B=B true:=rfl
-- expressions
theorem Lb:av i ρ Q=cq ρ[i]? (f:=λo=>Oa o Q) ⟨⟩:=rfl
theorem Gs:Oa (some (some (.sh d))) Q=Q .sh d:=rfl
theorem Hc:Oa (some (some (.ow b d))) Q=Q .bo d:=rfl
theorem wC_:wC d ρ Q=Q .sh d:=rfl
theorem fp':aC f ta tb ρ Q=ta ρ λm x=>tb ρ λn y=>f m x n y Q:=rfl
theorem fq':iF f ta ρ Q=ta ρ λm x=>f m x Q:=rfl
theorem HJ:oW f g ta tb tc ρ Q=ta ρ λm x=>tb ρ λn y=>f m x n y λ_ z=>cq z (f:=λz=>bol z λk=>cq k (f:=λk=>if k=true then tc ρ λl w=>g n y l w Q else Q .sh (.bl false)) ⟨⟩) ⟨⟩:=by unfold oW cq bol;rfl
theorem Ig:uF ta tb ρ Q=ta ρ λ_ x=>cq x (f:=λx=>bol x λc=>cq c (f:=λc=>if c=true then tb ρ Q else Q .sh (.bl false)) ⟨⟩) ⟨⟩:=by unfold uF cq bol;rfl
theorem Iz:ak te tar ρ R=te ρ λm x=>tar ρ λps=>R ((m,x) :: ps):=rfl
theorem Ks:cE ρ R=R []:=rfl
theorem Ka:oy tar ρ Q=tar ρ λps=>ps.length<=bX/\Q (uf ps) (.tup (ps.map (·.2))):=rfl
theorem Lr:kG tar ρ Q=tar ρ λps=>ps.length<=bX/\Q (BV ps) (.list (ps.map (·.2))):=rfl
theorem JL:aP sp tar ρ Q=tar ρ λps=>sp (ps.map (·.2)) λm d=>cq (m,d) (f:=λp=>Q (qV p.1 p.2) p.2) ⟨⟩:=rfl
-- operators
section
variable {x y:Str}{a b:Int}{xs ys:List D}{ae:List (Key × D)}{DS:List (List Key × D)}
theorem GC:g9 m (.int a) m' (.int b) Q=Q .sh (.int (a+b)):=rfl
theorem G3:g9 m (.str x) m' (.str y) Q=(x.length+y.length<=bX/\Q .sh (.str (x++y))):=rfl
theorem Hy:g9 m (.list xs) m' (.list ys) Q=(xs.length+ys.length<=bX/\((dQ xs=true/\dQ ys=true/\Q (.ow true) (.list (xs++ys)))\/(m=.sh/\m'=.sh/\Q (.ow false) (.list (xs++ys))))):=rfl
theorem HQ:g9 m (.tup xs) m' (.tup ys) Q=(xs≠[]/\xs.length+ys.length<=bX/\dQ xs=true/\dQ ys=true/\Q .sh (.tup (xs++ys))):=rfl
theorem GK:tS m (.int a) m' (.int b) Q=(L5 a b/\Q .sh (.int (a*b))):=rfl
theorem HH:ox m (.int a) m' (.int b) Q=((0<b/\b<1073741824)/\Q .sh (.int (a / b))):=rfl
theorem Gn:i5 m (.int a) m' (.int b) Q=(0<b/\Q .sh (.int (a % b))):=rfl
theorem I_:E8 m (.int a) m' (.int b) Q=Q .sh (.bl (decide (a<b))):=rfl
theorem Iu:E8 m (.str x) m' (.str y) Q=Q .sh (.bl (qq x y)):=rfl
theorem Jd:Od m (.int a) m' (.int b) Q=Q .sh (.bl (decide (a<=b))):=rfl
theorem Ia:Od m (.str x) m' (.str y) Q=Q .sh (.bl (!qq y x)):=rfl
theorem Ik:Oe m (.int a) m' (.int b) Q=Q .sh (.bl (decide (b<a))):=rfl
theorem JP:kD m (.int a) m' (.int b) Q=Q .sh (.bl (decide (a=b))):=rfl
theorem JD:kD m (.str x) m' (.str y) Q=Q .sh (.bl (decide (x=y))):=rfl
theorem Jk:kD m (.bl k) m' (.bl l) Q=Q .sh (.bl (decide (k=l))):=rfl
theorem KY:kD m (.list xs) m' d Q=(dE 12 (.list xs)=true/\dE 12 d=true/\Q .sh (.bl (kC (.list xs) d))):=by cases d<;>rfl
theorem Lq:kD m (.tup xs) m' d Q=(dE 12 (.tup xs)=true/\dE 12 d=true/\Q .sh (.bl (kC (.tup xs) d))):=by cases d<;>rfl
theorem Kz:kD m .non m' d Q=(dE 12 .non=true/\dE 12 d=true/\Q .sh (.bl (kC .non d))):=by cases d<;>rfl
theorem JH:vn m (.int a) m' (.int b) Q=Q .sh (.bl (!decide (a=b))):=rfl
theorem Jo:vn m (.str x) m' (.str y) Q=Q .sh (.bl (!decide (x=y))):=rfl
theorem Kw:vn m (.list xs) m' d Q=(dE 12 (.list xs)=true/\dE 12 d=true/\Q .sh (.bl (!kC (.list xs) d))):=by cases d<;>rfl
theorem Lh:vn m (.tup xs) m' d Q=(dE 12 (.tup xs)=true/\dE 12 d=true/\Q .sh (.bl (!kC (.tup xs) d))):=by cases d<;>rfl
theorem Kd:vn m .non m' d Q=(dE 12 .non=true/\dE 12 d=true/\Q .sh (.bl (!kC .non d))):=by cases d<;>rfl
theorem IW:Bc m d m' .non Q=Q .sh (.bl (!d.QD)):=rfl
theorem Ls:zo neg m (.str x) m' (.str y) Q=Q .sh (.bl (if neg then !A8 x y else A8 x y)):=rfl
theorem KD:zo neg m d m' (.list ys) Q=(dU d=true/\ys.all dU=true/\Q .sh (.bl (if neg then !inD d ys else inD d ys))):=rfl
theorem Kl:zo neg m d m' (.tup ys) Q=(dU d=true/\ys.all dU=true/\Q .sh (.bl (if neg then !inD d ys else inD d ys))):=rfl
theorem KR:zo neg m d m' (.dK ae) Q = ∃ k,d.key1=some k/\Q .sh (.bl (if neg then !(fP ae k).isSome else (fP ae k).isSome)):=rfl
theorem K5:zo neg m (.tup xs) m' (.dT DS) Q = ∃ ks,dG xs=some ks/\Q .sh (.bl (if neg then !(fP DS ks).isSome else (fP DS ks).isSome)):=rfl
theorem KH:cK m (.list xs) m' (.int a) Q = ∃ d,fT xs a=some d/\cq d (f:=λd=>Q (pE m d) d) ⟨⟩:=rfl
theorem Kc:cK m (.tup xs) m' (.int a) Q = ∃ d,fT xs a=some d/\cq d (f:=λd=>Q (pE m d) d) ⟨⟩:=rfl
theorem Lj:cK m (.str x) m' (.int a) Q = ∃ c,fT x.cps.toList a=some c/\Q .sh (.str ⟨#[c]⟩):=rfl
theorem Lw:cK m (.dK ae) m' d Q = ∃ k d',d.key1=some k/\fP ae k=some d'/\cq d' (f:=λd'=>Q (pE m d') d') ⟨⟩:=rfl
theorem K6:cK m (.dT DS) m' (.tup ys) Q = ∃ ks d',dG ys=some ks/\fP DS ks=some d'/\cq d' (f:=λd'=>Q (pE m d') d') ⟨⟩:=rfl
theorem IK:sD m (.str x) Q=Q .sh (.int x.length):=rfl
theorem H_:sD m (.list xs) Q=Q .sh (.int xs.length):=rfl
theorem Ir:sD m (.tup xs) Q=Q .sh (.int xs.length):=rfl
theorem JR:sD m (.dK ae) Q=Q .sh (.int ae.length):=rfl
theorem Ih:sD m (.dT DS) Q=Q .sh (.int DS.length):=rfl
theorem Kf{T:String}:Oh T m d Q=Q .sh (.bl (Ma d.ty T)):=rfl
theorem Hf:pW m (.list xs) Q=((dQ xs=true/\Q (.ow true) (.list xs))\/(m=.sh/\Q (.ow false) (.list xs))):=rfl
theorem HN:pW m (.tup xs) Q=((dQ xs=true/\Q (.ow true) (.list xs))\/(m=.sh/\Q (.ow false) (.list xs))):=rfl
theorem Hk:pW m (.dT DS) Q=Q (.ow true) (.list (DS.map λkv=>.tup (kv.1.map qS))):=rfl
theorem fr':zv te tl th ρ Q=te ρ λm x=>tl ρ λlo=>th ρ λhi=>Og m x lo hi Q:=rfl
theorem Gg:cT ρ O=O none:=rfl
def int'(d:D)(k:Int->Prop):Prop:=match d with
 |.int i=>k i
 |_=>False
theorem JV:int' (.int a) k=k a:=rfl
theorem JT:fQ te ρ O=te ρ λ_ x=>cq x (f:=λx=>int' x λi=>O (some i)) ⟨⟩:=by unfold fQ cq int';rfl
theorem Ln{lo hi:Option Int}:Og m (.str x) lo hi Q=Q .sh (.str (ky x lo hi)):=rfl
theorem K_{lo hi:Option Int}:Og m (.list xs) lo hi Q=((dQ xs=true/\Q (.ow true) (.list (hV xs lo hi)))\/(m=.sh/\Q (.ow false) (.list (hV xs lo hi)))):=rfl
theorem K1{lo hi:Option Int}:Og m (.tup xs) lo hi Q=(dQ xs=true/\¬ (HT.cv xs.length 0 lo=0/\HT.cv xs.length xs.length hi=xs.length)/\Q .sh (.tup (hV xs lo hi))):=rfl
end
-- texts
def Ov(d:D)(k:Str->Prop):Prop:=match d with
 |.str x=>k x
 |_=>False
theorem Jg:Ov (.str x) k=k x:=rfl
def zD(d:D)(k:List D->Prop):Prop:=match d with
 |.list x=>k x
 |_=>False
theorem GF:zD (.list x) k=k x:=rfl
theorem Hl:rK ZF te ρ Q=ZF ρ λ_ x=>cq x (f:=λx=>Ov x λz=>te ρ λ_ y=>cq y (f:=λy=>zD y λys=>∃ zs,jG ys=some zs/\(zs.map (·.length)).sum+zs.length*z.length<=16777216/\Q .sh (.str (Str.join z zs))) ⟨⟩) ⟨⟩:=by unfold rK cq Ov zD;rfl
-- places
theorem fs'{P:Bool->D->(Bool->D->Env)->Prop}:pS i ρ P=cq ρ[i]? (f:=λo=>match o with
 |some (some (.ow fl d))=>P fl d λfl2 d2=>ρ.set i (some (.ow fl2 d2))
 |_=>False) ⟨⟩:=rfl
def T3(o:Option Bool)(k:Bool->Prop):Prop:=match o with
 |some b=>k b
 |none=>False
theorem Gd:T3 (some b) k=k b:=rfl
theorem J_:Bz p te E ρ=p ρ λfl d up=>cq d (f:=λd=>zD d λxs=>te ρ λm x=>xs.length<bX/\cq (kW fl m x) (f:=λo=>T3 o λfl2=>E.nx (up fl2 (.list (xs++[x])))) ⟨⟩) ⟨⟩:=by unfold Bz cq zD T3;rfl
theorem Ho:sX p E ρ=p ρ λfl d up=>cq d (f:=λd=>zD d λxs=>E.nx (up fl (.list []))) ⟨⟩:=by unfold sX cq zD;rfl
theorem Ha:rR ρ Q=Q (.ow true) (.dK []):=rfl
def dct(d y:D)(k1:List (Key × D)->Prop)(k2:List (List Key × D)->List D->Prop):Prop:=match d with
 |.dK ae=>k1 ae
 |.dT ae=>match y with
  |.tup ys=>k2 ae ys
  |_=>False
 |_=>False
theorem K3:dct (.dK ae) y k1 k2=k1 ae:=rfl
theorem K9:dct (.dT ae) (.tup ys) k1 k2=k2 ae ys:=rfl
theorem Ie:yV p tk tv E ρ=tv ρ λ_ x=>p ρ λfl d up=>tk ρ λ_ y=>x.flat=true/\cq d (f:=λd=>dct d y (λae=>∃ k,y.key1=some k/\ae.length<bX/\E.nx (up fl (.dK (nV ae k x)))) (λae ys=>∃ ks,dG ys=some ks/\ae.length<bX/\E.nx (up fl (.dT (nV ae ks x))))) ⟨⟩:=by unfold yV cq dct;rfl
-- loops
variable {LQ:List D->Prop}
theorem J4:sF wi g b E ρ=wi ρ λds=>oF g b E ds ρ:=rfl
theorem Gy:dM te ρ LQ=te ρ λm d=>jZ m/\cq d (f:=λd=>zD d LQ) ⟨⟩:=by unfold dM cq zD;rfl
def T4(d:D)(k:List D->Prop):Prop:=match d with
 |.tup x=>k x
 |_=>False
theorem JB:T4 (.tup x) k=k x:=rfl
theorem JN:yD te ρ LQ=te ρ λ_ d=>cq d (f:=λd=>Ov d λz=>LQ (TQ z)) ⟨⟩:=by unfold yD cq Ov;rfl
theorem Hh:dB te ρ LQ=te ρ λ_ d=>cq d (f:=λd=>int' d λj=>j<=16777216/\-(2 ^ 62)<=j/\LQ (eQ 0 j.toNat)) ⟨⟩:=by unfold dB cq int';rfl
theorem Gr:oU ta tb ρ LQ=ta ρ λ_ x=>tb ρ λ_ y=>cq x (f:=λx=>int' x λi=>cq y (f:=λy=>int' y λj=>j-i<=16777216/\(-(2 ^ 62)<=i/\i<2 ^ 62/\-(2 ^ 62)<=j/\j<2 ^ 62)/\LQ (eQ i (j-i).toNat)) ⟨⟩) ⟨⟩:=by unfold oU cq int';congr 1;funext _ x;congr 1;funext _ y;cases x<;>cases y<;>rfl
theorem Gj:jZ .sh=True:=rfl
theorem Gf:jZ (.ow b)=True:=rfl
theorem Ga:jZ .bo=False:=rfl
theorem gN_:gN i d ρ N=N (ρ.set i (some (.sh d))):=rfl
theorem gT_:gT n gs d ρ N=cq d (f:=λd=>T4 d λds=>ds.length=n/\gs ds ρ N) ⟨⟩:=by unfold gT cq T4;rfl
theorem Jy:cQ g gs (d :: ds) ρ N=g d ρ λda=>gs ds da N:=rfl
theorem Ko:qj [] ρ N=N ρ:=by simp[qj]
theorem Js:eX wi g tt te tn ix ρ Q=wi ρ λds=>il g tt te ds (Ax tn ix ρ) λout=>Q (.ow true) (.list out):=rfl
end
theorem B{c:Bool}{f:Bool->Prop}{k:Kt f}(h1:c=true->f true)(h2:c=false->f false):cq c k:=by
 cases c with
 |true=>exact h1 rfl
 |false=>exact h2 rfl
theorem D{p:Prop}[Decidable p]{f:Bool->Prop}{k:Kt f}(h1:p->f true)(h2:¬ p->f false):cq (decide p) k :=
 B (λh=>h1 (of_decide_eq_true h)) λh=>h2 (of_decide_eq_false h)
theorem T{c:Bool}{f:Bool->Prop}{k:Kt f}(h:c=true)(h1:f true):cq c k:=by subst h;exact h1
theorem F{c:Bool}{f:Bool->Prop}{k:Kt f}(h:c=false)(h1:f false):cq c k:=by subst h;exact h1
end L2.Q.R
namespace L2
open PySem PySem.Spec PyProof.Rows
end L2
namespace L2.Q
open PySem PySem.Spec PyProof.Rows
section
variable {p:Pos}
def JF:W1:=λ_ x Q=>match x with
 |.list xs=>∃ ks b,xs=ks.map qS/\(∀ k∈ks,pz k=b)/\∀ ms:List Key,ms.Perm ks->(ms.Pairwise λa b=>qA b a=false)->Q (.ow true) (.list (ms.map qS))
 |.dK ae=>∃ b,(∀ p∈ae,pz p.1=b)/\∀ ms:List Key,ms.Perm (ae.map (·.1))->(ms.Pairwise λa b=>qA b a=false)->Q (.ow true) (.list (ms.map qS))
 |_=>False
end
abbrev WIL:=Env->(List D->Prop)->Prop
section
variable {X:Cx}{K:aI}
theorem lD(i:Nat)(hi:QH X K tg iter wi)(hg:∀ {C fp g7 iS} {q:(tn++cn).Nodup},QG (aN X scope C (tn++cn) fp g7 iS) K tg g) (xI:∀ {C fp g7 iS},QL (aN X scope C (tn++cn) fp g7 iS) K ifs tc) (he:∀ {C fp g7 iS},QE (aN X scope C (tn++cn) fp g7 iS) K elt te)(S7:rU (.ListComp elt [⟨tg,iter,ifs,0⟩] scope pos) (some (.Name x pos')) S8.line X.env=pure true:=by rfl) (hs:∀ x,FK iter X.env x=pure x:=by intro _;rfl) (hf:X.fn x=true\/X.env.scope.names.lookup x=some .local:=by first|exact .inl rfl|exact .inr rfl|assumption) (hN:X.N.Nodup:=by assumption) (DB:X.N[i]? = some x:=by rfl) (hx:Loc X.env.scope x:=by first|exact .inl rfl|exact .inr rfl) (nd:(tn++cn).Nodup:=by decide +kernel) (O:dC X scope tn cn ix:=by exact dC.by (by assumption) (by decide +kernel)) (hc:X.calm=true:=by rfl) :
  QS X K L (.Assign [.Name x pos'] (.ListComp elt [⟨tg,iter,ifs,0⟩] scope pos) S8) (eh i (eX wi g tc te tn.length ix)) :=
 PS.imp (tH hN DB hx hc hi O (λ_ _ _ _=>hg (q:=nd)) (λ_ _ _ _=>xI) (λ_ _ _ _=>he) S7 hs hf) λD σ H hx=>cI hx λHs ρ ai E sr h k1 k2 k3 k4=>by
  refine oG ⟨Hs,ρ,ai,_,sr,h,λv H1 bE m d As g1 r1 f1 q1=>?_⟩
  have q1:match asg m d with
   |some sl=>E.nx (ρ.set i (some sl))
   |none=>False:=q1
  cases e:asg m d with
  |none=>rw[e] at q1;exact q1.elim
  |some sl =>rw[e] at q1;obtain⟨cy,s'⟩:=(sr.grow g1).set i r1 f1.1 (λa ha=>⟨(f1.2 a ha).1,λm=>(sr.sr.own a m).ne (f1.2 a ha).2⟩) e;exact k1 _ H1 bE _ cy g1.sh s' q1
end
end L2.Q
namespace L2.Q.R
open PySem PySem.Spec PyProof.Rows L2.Q
section
variable {ρ:Env}{Q:Md->L2.Q.D->Prop}{te:WE}{i:Nat}{d:L2.Q.D}{p:WP}{a:ag}{b:Bool}{LQ:List L2.Q.D->Prop}
theorem Ju{f:Option Sl->Prop}{k:Kt f}:cq (some (.lk a b d)) k=f (some (.lk a b d)):=rfl
theorem Je{f:Option (Option Sl)->Prop}{k:Kt f}:cq (some (some (.lk a b d))) k=f (some (some (.lk a b d))):=rfl
theorem Hv:Oa (some (some (.lk a b d))) Q=Q .bo d:=rfl
def fv'(o:Option (Option Sl))(k:Bool->L2.Q.D->Prop):Prop:=match o with
 |some (some (.ow fl d))=>k fl d
 |_=>False
theorem G9:fv' (some (some (.ow b d))) k=k b d:=rfl
theorem Hq:fV te ρ LQ=te ρ λ_ d=>cq d (f:=λd=>zD d LQ) ⟨⟩:=by unfold fV cq zD;rfl
def wpAt(d:L2.Q.D)(i:Int)(P:Bool->L2.Q.D->(Bool->L2.Q.D->Env)->Prop)(up:Bool->L2.Q.D->Env):Prop:=match d with
 |.list ds=>∃ j d',ti ds.length i=some j/\ds[j]? = some d'/\d'.flat=false/\cq d' (f:=λd'=>P true d' λfl2 d2=>up fl2 (.list (ds.set j d2))) ⟨⟩
 |.tup ds=>∃ j d',ti ds.length i=some j/\ds[j]? = some d'/\d'.flat=false/\cq d' (f:=λd'=>P true d' λfl2 d2=>up fl2 (.tup (ds.set j d2))) ⟨⟩
 |_=>False
section
variable {P:Bool->L2.Q.D->(Bool->L2.Q.D->Env)->Prop}{up:Bool->L2.Q.D->Env}{ds:List L2.Q.D}{j:Int}
theorem Jb:wpAt (.list ds) j P up = ∃ k d',ti ds.length j=some k/\ds[k]? = some d'/\d'.flat=false/\cq d' (f:=λd'=>P true d' λfl2 d2=>up fl2 (.list (ds.set k d2))) ⟨⟩:=rfl
theorem Jc:wpAt (.tup ds) j P up = ∃ k d',ti ds.length j=some k/\ds[k]? = some d'/\d'.flat=false/\cq d' (f:=λd'=>P true d' λfl2 d2=>up fl2 (.tup (ds.set k d2))) ⟨⟩:=rfl
theorem La:QQ p te ρ P=p ρ λfl d up=>te ρ λ_ y=>fl=true/\cq y (f:=λy=>int' y λi=>cq d (f:=λd=>wpAt d i P up) ⟨⟩) ⟨⟩:=by unfold QQ cq int' wpAt;rfl
end
end
end L2.Q.R
namespace L2
open PySem PySem.Spec PyProof.Rows Builtin Builtin.Str Builtin.Int
section
variable {prog:dz}{w:dA}{A:eJ}{E:ah->aE->Prop}{s:aE}{x:Str}{n:Int}{t u:Tok}
theorem qD(bT:MulOk x n)(h:∀ t' k,Q (.str (Txt.mul x n) t') { s with toks:=k }):aT (aS prog w) A (p9 .Mult (.int n u) (.str x t)) Q E s:=by
 refine lm_binaryOp_repeat_right (T := "str") (U := "int") (by decide) (λs'=>typeIs_int s' n u) (typeIs_str s x t) F.fills_int_mul noFill_str_mul F.slot_int_mul lm_noRepeat_int repeat_str F.slot_int_index.lookup (call_gives F.slot_int_mul (typeIs_int s n u) F.entry_int_mul (F.args_int_mul_2 _ _) (AutoIntG3.int___mul___int_str_0 n u x t) ⟨rfl,typeIs_str _ x t,call_gives F.slot_str_mul (typeIs_str _ x t) F.entry_str_mul (F.args_str_mul_2 _ _) (gives_str_mul x n t u bT.1 bT.2.1 bT.2.2) ?_⟩)
 unfold Txt.mul at h;by_cases h1:n<1
 ·rw[if_pos h1];have h':=h s.toks (s.toks+1);rw[if_pos h1] at h';exact⟨by decide,h'⟩
 ·rw[if_neg h1];refine post_val_or_made (λhc=>fits_reps (bT.2.2 h1 (by simpa using hc))) λt' k=>?_;have h':=h t' k;rw[if_neg h1] at h';exact h'
end
def tT(n:Int)(z:Str):Str:=⟨(List.replicate n.toNat z.cps.toList).flatten.toArray⟩
theorem kZ(xs:Array Nat):∀ (k:Nat) (acc:Array Nat),(List.replicate k xs).foldl (· ++ ·) acc=acc++(List.replicate k xs.toList).flatten.toArray
 |0,acc=>by simp
 |k+1,acc=>by rw[RJ,List.foldl_cons,kZ xs k,RJ,List.flatten_cons];apply Array.ext';simp
theorem Af(h:1<=n):Txt.mul z n=tT n z:=by
 unfold Txt.mul tT;rw[if_neg (by lia)];by_cases h1:n=1
 ·subst h1;simp
 ·by_cases h0:z.length=0
  ·have hz:z.cps = #[]:=Ni h0;rw[if_pos (by simp[h0])];obtain⟨c⟩:=z;cases hz;simp
  ·rw[if_neg (by simp[h1,h0]),kZ];simp
def zU:R2:=λx y H Q=>match x,y with
 |.int n,.str z=>(1<=n/\n<=100/\z.length<=100)/\Q (.str (tT n z)) H
 |_,_=>False
section
variable {X:Cx}
theorem By:ez X (p9 .Mult) zU:=by
 intro pins s σ H x y v u Q I rx ry h;unfold zU at h;split at h
 ·rename_i n z;obtain⟨⟨h1,h2,h3⟩,q⟩:=h;obtain⟨t,rfl⟩:=rx;obtain⟨t',rfl⟩:=ry;refine qD ⟨?_,λ_ _=>?_,λ_ _=>?_⟩ λt' k=>⟨.str (tT n z),H,I.tok _,⟨_,by rw[Af h1]⟩,q⟩
  ·have a1:¬ n < -(2 ^ 63:Int):=by lia
   have a2:¬ n >= 2 ^ 63:=by lia
   rw[decide_eq_false a1,decide_eq_false a2];rfl
  ·have:(2 ^ 63-1:Int) / 100<=(2 ^ 63-1) / n:=by apply Int.le_ediv_of_mul_le (by lia);have:(2 ^ 63-1:Int) / 100*n<=(2 ^ 63-1:Int) / 100*100:=Int.mul_le_mul_of_nonneg_left h2 (by decide);lia
   have e:(2 ^ 63-1:Int) / 100=92233720368547758:=by decide
   lia
  ·have:z.length*n.toNat<=100*100:=EC h3 (by lia);have hs:=kP;simp only[tooLong,decide_eq_false_iff_not];generalize z.length*n.toNat=m at this ⊢;lia
 ·exact h.elim
end
end L2
namespace L2
open PySem PySem.Spec PyProof.Rows
end L2
namespace L2.Q
open PySem PySem.Spec PyProof.Rows
section
variable {X:Cx}{K:aI}{a b:Expr}{ta tb:WE}{pos:Pos}{x:Str}
def T5:W1:=λ_ x Q=>match x with
 |.list xs=>∃ bs:List Bool,xs=bs.map D.bl/\Q .sh (.bl (bs.all (λb=>b)))
 |_=>False
theorem Eo{H:Hp}{bs:List Bool}{vs:List V}(r:b9 K H (bs.map D.bl) vs):vs=bs.map V.bl:=by
 induction bs generalizing vs with
 |nil=>exact r.n0
 |cons b bs ih =>obtain⟨u,us,rfl,r1,rs⟩:=b9.c (d:=D.bl b) r;cases r1;rw[ih rs];rfl
theorem Fp:IL K (Qk K) T5:=by
 intro Hs H m x v As Qd Qv w rx h f;have r1:=rx.rep w
 cases r1 with
 |list z s q =>obtain⟨bs,rfl,h⟩:=h;cases Eo q;exact⟨bs,s,f.sh w (.bl _) h⟩
 |_=>exact h.elim
theorem m_(n:Int)(z:Str):(tT n z).length=n.toNat*z.length:=by unfold tT Str.length;rw[iA,len_rep,xv]
def yO:W2:=λ_ x _ y Q=>match x,y with
 |.int n,.str z=>(1<=n/\n<=100/\z.length<=100)/\Q .sh (.str (tT n z))
 |_,_=>False
theorem Bf:nh K zU yO:=by
 intro Hs H m x v As n y u Bs Qd Qv w rx ry h f;have r1:=rx.rep w;have r2:=ry.rep w
 cases r1 with
 |int i=>cases r2 with
  |str hz =>refine⟨h.1,wR f w ?_ h.2⟩;obtain⟨⟨h1,h2,h3⟩,_⟩:=h;rw[m_,kP];have:=EC (show i.toNat<=100 by lia) h3;lia
  |_=>exact h.elim
 |_=>cases r2<;>exact h.elim
theorem FZ(ha:QE X K a ta)(hb:QE X K b tb):QE X K (.BinOp a .Mult b pos) (aC yO ta tb):=Ob By Bf ha hb
end
end L2.Q
namespace L2.Q.R
open PySem PySem.Spec PyProof.Rows L2.Q
section
variable {Q:Md->L2.Q.D->Prop}{m m':Md}{xs:List L2.Q.D}{a b:Int}{x:Str}
theorem Ky:T5 m (.list xs) Q = ∃ bs:List Bool,xs=bs.map L2.Q.D.bl/\Q .sh (.bl (bs.all (λb=>b))):=rfl
theorem JW:yO m (.int a) m' (.str x) Q=((1<=a/\a<=100/\x.length<=100)/\Q .sh (.str (tT a x))):=rfl
end
end L2.Q.R
namespace L2.Q
open PySem PySem.Spec PyProof.Rows
end L2.Q
namespace TS
open PySem PySem.SetTable
def fk:Nat->Nat->Nat
 |0,s=>s
 |k+1,s=>5*fk k s+1
theorem Es(a b s:Nat):fk (a+b) s=fk b (fk a s):=by
 induction b with
 |zero=>rfl
 |succ b ih=>show 5*fk (a+b) s+1=5*fk b (fk a s)+1;rw[ih]
theorem vK(n s:Nat):4*fk n s+1=5 ^ n*(4*s+1):=by
 induction n with
 |zero=>simp[fk]
 |succ n ih =>
  show 4*(5*fk n s+1)+1=5 ^ (n+1)*(4*s+1)
  rw[AI,Nh (5 ^ n) 5,LH,<- ih];lia
theorem yL(m:Nat):∃ q,5 ^ 2 ^ m=1+2 ^ (m+2)*q/\q % 2=1:=by
 induction m with
 |zero=>exact⟨1,by decide,by decide⟩
 |succ m ih =>
  obtain⟨q,e,o⟩:=ih;refine⟨q+2 ^ (m+1)*(q*q),?_,?_⟩
  ·have hp:5 ^ 2 ^ (m+1)=(5 ^ 2 ^ m) ^ 2:=by rw[AI 2 m,Nat.pow_mul]
   rw[hp,e];clear e hp;have e1:2 ^ (m+1+2)=2*2 ^ (m+2):=by rw[show m+1+2=(m+2)+1 by exact GH ..,AI];lia
   have e2:2 ^ (m+2)=2*2 ^ (m+1):=by rw[show m+2=(m+1)+1 by rfl,AI];lia
   rw[e1,e2];generalize 2 ^ (m+1)=y;rw[Nat.pow_two];simp only[Nat.mul_add,Nat.add_mul,Nat.one_mul,Nat.mul_one];have a1:2*y*q*(2*y*q)=2*(2*y)*(y*(q*q)):=by simp only[LH,Nat.mul_left_comm,Nh]
   have a2:2*(2*y)*q=2*y*q+2*y*q:=by rw[LH 2 (2*y) q];lia
   rw[a1,a2];lia
  ·have:2 ^ (m+1)*(q*q) % 2=0:=by rw[AI,Nh (2 ^ m) 2,LH,Nat.mul_mod_right]
   lia
theorem BJ(m x:Nat):∃ r,fk (2 ^ m) x=x+2 ^ m*r/\r % 2=1:=by
 obtain⟨q,e,o⟩:=yL m;have c:=vK (2 ^ m) x;rw[e] at c;refine⟨q*(4*x+1),?_,?_⟩
 ·have e2:2 ^ (m+2)=4*2 ^ m:=by rw[Nat.pow_add];lia
  rw[e2,Nat.add_mul,Nat.one_mul,LH,LH] at c;lia
 ·rw[Nat.mul_mod,o,Nat.one_mul];lia
theorem Dy(m s e:Nat):∃ k,k+1<=2 ^ m/\fk k s % 2 ^ m=e % 2 ^ m:=by
 induction m with
 |zero=>exact⟨0,by decide,by simp[Nat.mod_one]⟩
 |succ m ih =>
  obtain⟨k,hk,h⟩:=ih;have hp:2 ^ (m+1)=2 ^ m*2:=AI ..;have T6:0<2 ^ m:=Nat.pow_pos (by decide);have key:∀ a:Nat,a % (2 ^ m*2)=a % 2 ^ m+2 ^ m*(a / 2 ^ m % 2):=λa=>Nat.mod_mul;by_cases c:fk k s / 2 ^ m % 2=e / 2 ^ m % 2
  ·exact⟨k,by walk_at "s4",by rw[hp,key,key,h,c]⟩
  ·refine⟨k+2 ^ m,by lia,?_⟩;obtain⟨r,er,ro⟩:=BJ m (fk k s);rw[Es,er,hp,key,key,Nat.add_mul_mod_self_left,h,Nat.add_mul_div_left _ _ T6];have:(fk k s / 2 ^ m+r) % 2=e / 2 ^ m % 2:=by lia
   rw[this]
def sL(M:Nat)(p:Probe):Probe :=
 if p.more>0 then { p with j:=p.j+1,more:=p.more-1 } else
 { p with j:=(leap M p.i p.perturb).1,more:=runEnd M (leap M p.i p.perturb).1-(leap M p.i p.perturb).1,i:=(leap M p.i p.perturb).1,perturb:=(leap M p.i p.perturb).2 }
def ps(M:Nat)(h:Int):Nat->Probe
 |0=>{ j:=bits h % (M+1),more:=runEnd M (bits h % (M+1))-bits h % (M+1),i:=bits h % (M+1),perturb:=bits h,dummy:=none }
 |n+1=>sL M (ps M h n)
def J(M:Nat)(h:Int)(n:Nat):Nat:=(ps M h n).j
theorem rA(h:i<=M):i<=runEnd M i/\runEnd M i<=M/\runEnd M i<=i+9:=by unfold runEnd;split<;>lia
theorem Bh(M:Nat)(h:Int):∀ n,(ps M h n).i<=M/\(ps M h n).j+(ps M h n).more<=M/\(ps M h n).dummy=none/\(ps M h n).more<=9
 |0=>by have h0:bits h % (M+1)<=M:=Pn (LP _ (vS _));have:=rA h0;exact⟨h0,by show bits h % (M+1)+(runEnd M (bits h % (M+1))-bits h % (M+1))<=M;lia,rfl,by show runEnd M (bits h % (M+1))-bits h % (M+1)<=9;lia⟩
 |n+1=>by
  obtain⟨a,b,c,d⟩:=Bh M h n;show(sL M (ps M h n)).i<=M/\_/\(sL M (ps M h n)).dummy=none/\_;unfold sL;by_cases hm:(ps M h n).more>0
  ·simp only[hm,if_true];show _/\(sL M (ps M h n)).j+(sL M (ps M h n)).more<=M/\_/\(sL M (ps M h n)).more<=9;simp only[sL,hm,if_true];exact⟨a,by lia,c,by walk_at "s4"⟩
  ·simp only[hm,if_false];show _/\(sL M (ps M h n)).j+(sL M (ps M h n)).more<=M/\_/\(sL M (ps M h n)).more<=9;simp only[sL,hm,if_false];have h0:(leap M (ps M h n).i (ps M h n).perturb).1<=M:=Pn (LP _ (vS _));have:=rA h0;exact⟨h0,by lia,c,by lia⟩
theorem QY(M:Nat)(h:Int)(n:Nat):J M h n<=M:=by have:=Bh M h n;unfold J;lia
theorem vP(M:Nat)(h:Int)(n:Nat):∀ r,r<=(ps M h n).more->ps M h (n+r)={ ps M h n with j:=(ps M h n).j+r,more:=(ps M h n).more-r }
 |0,_=>rfl
 |r+1,hr=>by show sL M (ps M h (n+r))=_;rw[vP M h n r (by exact oP ‹_›)];unfold sL;rw[if_pos (show(ps M h n).more-r>0 by lia)];simp only[Probe.mk.injEq,true_and,and_true];walk_at "s1"
def lp(M:Nat)(h:Int):Nat->Nat × Nat
 |0=>(bits h % (M+1),bits h)
 |k+1=>leap M (lp M h k).1 (lp M h k).2
def kr(M:Nat)(h:Int):Nat->Nat
 |0=>0
 |k+1=>kr M h k+(runEnd M (lp M h k).1-(lp M h k).1)+1
theorem Bd(M:Nat)(h:Int):∀ k,(lp M h k).1<=M
 |0=>Pn (LP _ (vS _))
 |k+1=>Pn (LP _ (vS _))
theorem wg(M:Nat)(h:Int):∀ k,kr M h k<=10*k
 |0=>de _
 |k+1=>by have:=wg M h k;have:=rA (Bd M h k);show kr M h k+_+1<=_;lia
theorem rW(M:Nat)(h:Int):∀ k,ps M h (kr M h k)={ j:=(lp M h k).1,more:=runEnd M (lp M h k).1-(lp M h k).1,i:=(lp M h k).1,perturb:=(lp M h k).2,dummy:=none }
 |0=>rfl
 |k+1=>by have ih:=rW M h k;have e:=vP M h (kr M h k) (runEnd M (lp M h k).1-(lp M h k).1) (by rw[ih];exact de _);show sL M (ps M h (kr M h k+(runEnd M (lp M h k).1-(lp M h k).1)))=_;rw[e,ih];unfold sL;rw[if_neg (by simp)];rfl
theorem zq(M:Nat)(h:Int):∀ k,(lp M h k).2=bits h / 32 ^ k
 |0=>by simp[lp]
 |k+1=>by show(lp M h k).2 / 32=_;rw[zq M h k,Nat.div_div_eq_div_mul,AI]
theorem Ba(h:Int):bits h<2 ^ 64:=by unfold bits;have h1:=sd h (show(2 ^ 64:Int)≠0 by decide);have h2:=n5 h (show(0:Int)<2 ^ 64 by decide);lia
theorem wW(M:Nat)(h:Int):∀ k,(lp M h (13+k)).1 % (M+1)=fk k (lp M h 13).1 % (M+1)
 |0=>rfl
 |k+1=>by
  have e:(lp M h (13+k)).2=0:=by rw[zq];refine Nat.div_eq_of_lt (n4 (Ba h) ?_);exact i9 (by decide:2 ^ 64<=32 ^ 13) (Nat.pow_le_pow_right (by decide) (by exact FY _ _))
  show(leap M (lp M h (13+k)).1 (lp M h (13+k)).2).1 % (M+1)=_;unfold leap;rw[e];show((lp M h (13+k)).1*5+1+0 / 32) % (M+1) % (M+1)=(5*fk k (lp M h 13).1+1) % (M+1);rw[Nat.mod_mod,Nat.zero_div,LK,Nat.add_mod,Nat.mul_mod,wW M h k,<- Nat.mul_mod,<- Nat.add_mod,Nh]
theorem cover(hM:M+1=2 ^ m)(h:Int)(he:e<=M):∃ k,k<=M+13/\(lp M h k).1=e:=by obtain⟨k,hk,q⟩:=Dy m (lp M h 13).1 e;rw[<- hM] at hk q;refine⟨13+k,by lia,?_⟩;have:=wW M h k;rw[q] at this;rwa[Nat.mod_eq_of_lt (EB (Bd M h _)),Nat.mod_eq_of_lt (EB he)] at this
theorem Fb(M:Nat)(h:Int)(k:Nat):J M h (kr M h k)=(lp M h k).1:=by unfold J;rw[rW]
theorem lq(hM:M+1=2 ^ m)(h:Int)(j1:Nat->Bool)(he:e<=M)(hf:j1 e=false):∃ n,n<=10*(M+13)/\j1 (J M h n)=false/\∀ k<n,j1 (J M h k)=true:=by
 obtain⟨k,hk,q⟩:=cover hM h he;have hb:=wg M h k;have hB:j1 (J M h (kr M h k))=false:=by rw[Fb,q];exact hf
 generalize kr M h k=b at hb hB;have go:∀ b,j1 (J M h b)=false->∃ n,n<=b/\j1 (J M h n)=false/\∀ k<n,j1 (J M h k)=true:=by
  intro b
  induction b using Nat.strongRecOn with
  |ind b ih =>
   intro hB;by_cases c:∃ k,k<b/\j1 (J M h k)=false
   ·obtain⟨k,h1,h2⟩:=c;obtain⟨n,a1,a2,a3⟩:=ih k h1 h2;exact⟨n,by lia,a2,a3⟩
   ·refine⟨b,de _,hB,λk hk=>?_⟩
    cases z:j1 (J M h k) with
    |true=>rfl
    |false=>exact absurd ⟨k,hk,z⟩ c
 obtain⟨n,a1,a2,a3⟩:=go b hB;exact⟨n,by lia,a2,a3⟩
def Up(xs:Array Nat):Prop:=∀ i j:Nat,i<j->j<xs.size->xs.getD i 0<xs.getD j 0
theorem qM{xs:Array Nat}{i d d':Nat}(h:i<xs.size):xs.getD i d=xs.getD i d':=by simp[Array.getD,h]
theorem lM{xs:Array Nat}(U:Up xs)(j:Nat):∀ (fuel lo hi:Nat),hi-lo<=fuel->lo<=hi->hi<=xs.size->(∀ i<lo,xs.getD i 0<j)->(∀ i,hi<=i->i<xs.size->j<=xs.getD i 0) ->
  below.go xs j fuel lo hi<=xs.size/\(∀ i<below.go xs j fuel lo hi,xs.getD i 0<j)/\(∀ i,below.go xs j fuel lo hi<=i->i<xs.size->j<=xs.getD i 0)
 |0,lo,hi,hf,h1,h2,h3,h4=>by
  obtain rfl:lo=hi:=by lia
  exact⟨h2,h3,h4⟩
 |fuel+1,lo,hi,hf,h1,h2,h3,h4=>by
  unfold below.go;by_cases c:lo<hi
  ·rw[if_pos c];dsimp only;have hm:(lo+hi) / 2<xs.size:=by lia
   by_cases d:xs.getD ((lo+hi) / 2) j<j
   ·rw[if_pos d];rw[qM (d':=0) hm] at d;refine lM U j fuel _ _ (by lia) (by lia) h2 (λi k9=>?_) h4;by_cases e:i=(lo+hi) / 2
    ·rw[e];exact d
    ·exact RX (U i _ (by lia) hm) d
   ·rw[if_neg d];rw[qM (d':=0) hm] at d;refine lM U j fuel _ _ (by lia) (by lia) (by exact oP ‹_›) h3 λi k9 hs=>?_;by_cases e:i=(lo+hi) / 2
    ·rw[e];exact Nc ‹_›
    ·have:=U ((lo+hi) / 2) i (by lia) hs;lia
  ·rw[if_neg c];obtain rfl:lo=hi:=by lia
   exact⟨h2,h3,h4⟩
theorem aL(U:Up xs)(j:Nat):below xs j<=xs.size/\(∀ i<below xs j,xs.getD i 0<j)/\(∀ i,below xs j<=i->i<xs.size->j<=xs.getD i 0) :=
 lM U j xs.size 0 xs.size (by lia) (by lia) (de _) (λi h=>absurd h (GB i)) λi h1 h2=>by lia
theorem below_at(U:Up xs)(h:i<xs.size):below xs (xs.getD i 0)=i:=by
 obtain⟨a,b,c⟩:=aL U (xs.getD i 0);by_cases h1:below xs (xs.getD i 0)<i
 ·have:=c _ (de _) (by lia);have:=U _ i h1 h;lia
 ·by_cases h2:i<below xs (xs.getD i 0)
  ·have:=b i h2;lia
  ·lia
theorem uc(U:Up xs)(h:i<xs.size):below xs (xs.getD i 0+1)=i+1:=by
 obtain⟨a,b,c⟩:=aL U (xs.getD i 0+1);by_cases h1:below xs (xs.getD i 0+1)<i+1
 ·have:=c i (by lia) h;lia
 ·by_cases h2:i+1<below xs (xs.getD i 0+1)
  ·have:=b (i+1) h2;have:=U i (i+1) (by lia) (by lia);lia
  ·lia
def taken(xs:Array Nat)(j:Nat):Bool:=xs[below xs j]? == some j
theorem vR{xs:Array Nat}{i j:Nat}(h:xs[i]? = some j):i<xs.size/\xs.getD i 0=j:=by obtain⟨h1,h2⟩:=Cb.mp h;exact⟨h1,by simp[Array.getD,h1,h2]⟩
theorem vD{xs:Array Nat}{i:Nat}(h:i<xs.size):xs[i]? = some (xs.getD i 0):=by simp[Array.getD,h]
theorem d7{xs:Array Nat}(U:Up xs){j:Nat}:taken xs j=true↔∃ i,i<xs.size/\xs.getD i 0=j:=by
 unfold taken;rw[beq_iff_eq];constructor
 ·intro h;exact⟨_,vR h⟩
 ·rintro⟨i,h,rfl⟩;rw[below_at U h];exact vD h
theorem jh{xs:Array Nat}(U:Up xs){j:Nat}(h:taken xs j=true):below xs j<xs.size/\xs.getD (below xs j) 0=j:=by unfold taken at h;rw[beq_iff_eq] at h;exact vR h
theorem aW{α:Type}(xs:Array α){p:Nat}(x:α)(h:p<=xs.size):(insertAt xs p x).size=xs.size+1:=by unfold insertAt;simp;lia
theorem PQ{α:Type}(xs:Array α){p:Nat}(x:α)(h:p<=xs.size)(i:Nat):(insertAt xs p x)[i]? = if i<p then xs[i]? else if i=p then some x else xs[i-1]? := by
 unfold insertAt;have hs:((xs.extract 0 p).push x).size=p+1:=by simp;exact Pp ‹_›
 by_cases h1:i<p
 ·rw[if_pos h1,Array.getElem?_append_left (by lia),Array.getElem?_push,if_neg (by simp;lia),Pw];rw[if_pos (by lia)];simp
 ·rw[if_neg h1];by_cases h2:i=p
  ·rw[if_pos h2,Array.getElem?_append_left (by lia),Array.getElem?_push,if_pos (by simp;lia)]
  ·rw[if_neg h2,Array.getElem?_append_right (by lia),hs,Pw];by_cases h3:i-(p+1)<min xs.size xs.size-p
   ·rw[if_pos h3];congr 1;lia
   ·rw[if_neg h3,LR (by lia)]
theorem cF(h:p<=xs.size)(i:Nat):(insertAt xs p x).getD i 0=if i<p then xs.getD i 0 else if i=p then x else xs.getD (i-1) 0:=by
 have e:∀ (ys:Array Nat) (k:Nat),ys.getD k 0=ys[k]?.getD 0:=λys k=>by simp[EE]
 rw[e,PQ xs x h];split
 ·rw[e]
 ·split
  ·rfl
  ·rw[e]
theorem zQ(U:Up xs)(hj:taken xs j=false):Up (insertAt xs (below xs j) j):=by
 obtain⟨a,b,c⟩:=aL U j;have ne:∀ i,i<xs.size->xs.getD i 0≠j:=λi hi e=>by have:=(d7 U (j:=j)).mpr ⟨i,hi,e⟩;rw[hj] at this;cases this
 intro i k hik hk;rw[aW xs j a] at hk;rw[cF a,cF a];by_cases h1:k<below xs j
 ·rw[if_pos (by lia),if_pos h1];exact U i k hik (by lia)
 ·rw[if_neg h1];by_cases h2:k=below xs j
  ·rw[if_pos h2,if_pos (by lia)];exact b i (by lia)
  ·rw[if_neg h2];by_cases h3:i<below xs j
   ·rw[if_pos h3];exact U i (k-1) (by lia) (by lia)
   ·rw[if_neg h3];by_cases h4:i=below xs j
    ·rw[if_pos h4];have:=c (k-1) (by lia) (by lia);have:=ne (k-1) (by lia);lia
    ·rw[if_neg h4];exact U (i-1) (k-1) (by lia) (by lia)
theorem v_(U:Up xs)(hj:taken xs j=false):taken (insertAt xs (below xs j) j) k=(decide (k=j) || taken xs k):=by
 have a:=(aL U j).1;have U':=zQ U hj;apply ED.mpr;rw[d7 U',Bool.or_eq_true,decide_eq_true_eq,d7 U];rw[aW xs j a];constructor
 ·rintro⟨i,hi,e⟩;rw[cF a] at e;by_cases h1:i<below xs j
  ·rw[if_pos h1] at e;exact .inr ⟨i,by lia,e⟩
  ·rw[if_neg h1] at e;by_cases h2:i=below xs j
   ·rw[if_pos h2] at e;exact .inl e.symm
   ·rw[if_neg h2] at e;exact .inr ⟨i-1,by lia,e⟩
 ·rintro(rfl|⟨i,hi,e⟩)
  ·exact⟨below xs k,by lia,by rw[cF a,if_neg (by lia),if_pos rfl]⟩
  ·by_cases h1:i<below xs j
   ·exact⟨i,by lia,by rw[cF a,if_pos h1];exact e⟩
   ·exact⟨i+1,by lia,by rw[cF a,if_neg (by lia),if_neg (by lia)];exact e⟩
def Reach(M:Nat)(place:Array Nat)(h:Int)(j:Nat):Prop:=∃ n,n<=10*(M+13)/\J M h n=j/\∀ k<n,taken place (J M h k)=true
structure TI{α:Type}(t:SetTable)(es:Array (Int × α)):Prop where
 pw:∃ m,t.mask+1=2 ^ m/\3<=m
 sz:t.place.size=es.size
 up:Up t.place
 le:∀ i,i<t.place.size->t.place.getD i 0<=t.mask
 dm:t.dummies = #[]
 few:es.size*5<t.mask*3
 path:∀ i h x,es[i]? = some (h,x)->Reach t.mask t.place h (t.place.getD i 0)
section
variable {α:Type}{t:SetTable}{es:Array (Int × α)}
theorem TI.slot(T:TI t es)(j:Nat):t.slot j=if taken t.place j then .live (below t.place j) else .empty:=by
 unfold SetTable.slot taken;dsimp only;split
 ·rfl
 ·have:has t.dummies j=false:=by rw[T.dm];rfl
  rw[this];rfl
theorem TI.fits(T:TI t es):t.fits es.size=true:=by have:=T.few;simp only[SetTable.fits,fill,T.dm,T.sz,ja,beq_iff_eq,decide_eq_true_eq,true_and];simp;lia
theorem TI.odd(T:TI t es):t.gaveWay=false:=by
 obtain⟨m,h,h3⟩:=T.pw;unfold SetTable.gaveWay;rw[beq_eq_false_iff_ne];have:2 ^ m=2*2 ^ (m-1):=by rw[show m=(m-1)+1 by lia,AI];simp;lia
 lia
theorem TI.free(T:TI t es):∃ e,e<=t.mask/\taken t.place e=false:=by
 have hf:=T.few;have hs:=T.sz;by_cases c:∃ e,e<=t.mask/\taken t.place e=false
 ·exact c
 ·exfalso;have all:∀ e,e<=t.mask->taken t.place e=true:=λe he=>by
   cases z:taken t.place e with
   |true=>rfl
   |false=>exact absurd ⟨e,he,z⟩ c
  -- slot e stands at place at most e
  have go:∀ e,e<=t.mask->e<=below t.place e:=by
   intro e
   induction e with
   |zero=>intro _;exact eW _
   |succ e ih =>
    intro he;have h1:=jh T.up (all e (by exact oP ‹_›));have h2:=jh T.up (all (e+1) he);have:=ih (by exact oP ‹_›);obtain⟨_,b,c⟩:=aL T.up (e+1);by_cases z:below t.place e<below t.place (e+1)
    ·walk_at "s1"
    ·have:=c (below t.place e) (by exact Nc ‹_›) h1.1;lia
  have:=go t.mask (de _);have:=(jh T.up (all t.mask (de _))).1;lia
theorem TI.put(T:TI t es)(hj:j<=t.mask)(hn:taken t.place j=false)(hr:Reach t.mask t.place h j)(ht:t'.mask=t.mask)(hp:t'.place=insertAt t.place (below t.place j) j)(hd:t'.dummies = #[])(hf:(es.size+1)*5<t.mask*3):TI t' (insertAt es (below t.place j) (h,x)):=by
 have a:=(aL T.up j).1;have a':below t.place j<=es.size:=by rw[<- T.sz];exact a
 refine⟨by rw[ht];exact T.pw,by rw[hp,aW _ _ a,aW _ _ a',T.sz],by rw[hp];exact zQ T.up hn,λi hi=>?_,hd,by rw[aW _ _ a',ht];exact hf,λi g y e=>?_⟩
 ·rw[hp,aW _ _ a] at hi;rw[hp,cF a,ht];split
  ·exact T.le i (by lia)
  ·split
   ·exact hj
   ·exact T.le (i-1) (by lia)
 ·have mono:∀ {g:Int} {k:Nat},Reach t.mask t.place g k->Reach t'.mask t'.place g k:=λ{g k} ⟨n,h1,h2,h3⟩=>⟨n,by rw[ht];exact h1,by rw[ht];exact h2,λq hq=>by
   rw[hp,ht,v_ T.up hn,h3 q hq,Bool.or_true]⟩
  rw[PQ es _ a'] at e;rw[hp,cF a,<- hp];by_cases h1:i<below t.place j
  ·rw[if_pos h1] at e ⊢;exact mono (T.path i g y e)
  ·rw[if_neg h1] at e ⊢;by_cases h2:i=below t.place j
   ·rw[if_pos h2] at e ⊢;cases e;exact mono hr
   ·rw[if_neg h2] at e ⊢;exact mono (T.path (i-1) g y e)
end
theorem bC{α:Type}[DecidableEq α]:∀ {l m:List α},l.Nodup->(∀ x∈l,x∈m)->l.length<=m.length
 |[],_,_,_=>eW _
 |x :: l,m,nd,h=>by rw[nE] at nd;have hx:=h x ft;have:=bC (l:=l) (m:=m.erase x) nd.2 λy hy=>(List.mem_erase_of_ne (λe=>nd.1 (by rw[<- e];exact hy))).mpr (h y (eP _ hy));rw[List.length_erase_of_mem hx] at this;have:0<m.length:=List.length_pos_of_mem hx;simp only[vF];lia
def j1(owner:Array (Option Nat))(j:Nat):Bool:=(owner.getD j (some 0)).isSome
theorem oY(h:Int)(owner:Array (Option Nat)):∀ (fuel k:Nat),(∀ q<kr M h k,j1 owner (J M h q)=true)->(∃ K,k<=K/\K<k+fuel/\K<=M+13/\j1 owner (lp M h K).1=false) ->
  ∃ j n,layClean.free M owner fuel (lp M h k).1 (lp M h k).2=some j/\J M h n=j/\n<=10*(M+13)/\j1 owner j=false/\∀ q<n,j1 owner (J M h q)=true
 |0,k,_,⟨K,h1,h2,_⟩=>by lia
 |fuel+1,k,hq,⟨K,h1,h2,h3,h4⟩=>by
  have T7:∀ r,r<=runEnd M (lp M h k).1-(lp M h k).1->J M h (kr M h k+r)=(lp M h k).1+r:=λr hr=>by unfold J;rw[vP M h (kr M h k) r (by rw[rW];exact hr),rW]
  have hle:=rA (Bd M h k);have e:∀ r,(owner.getD ((lp M h k).1+r) (some 0)).isNone = !j1 owner ((lp M h k).1+r):=λr=>by unfold j1;cases owner.getD ((lp M h k).1+r) (some 0)<;>rfl
  unfold layClean.free
  cases hf:(List.range (runEnd M (lp M h k).1+1-(lp M h k).1)).find? λr=>(owner.getD ((lp M h k).1+r) (some 0)).isNone with
  |some r =>
   obtain⟨a1,a2,a3⟩:=List.find?_range_eq_some.mp hf;have a2:r<runEnd M (lp M h k).1+1-(lp M h k).1:=by simpa using a2
   rw[e] at a1;have a1:j1 owner ((lp M h k).1+r)=false:=by simpa using a1
   have occs:∀ q<kr M h k+r,j1 owner (J M h q)=true:=λq QZ=>by
    by_cases z:q<kr M h k
    ·exact hq q z
    ·have:=a3 (q-kr M h k) (by lia);rw[e] at this;have hj:=T7 (q-kr M h k) (by lia);rw[show kr M h k+(q-kr M h k)=q by lia] at hj;rw[hj];simpa using this
   refine⟨_,kr M h k+r,rfl,T7 r (by lia),?_,a1,occs⟩;have hb:=wg M h K;by_cases z:kr M h k+r<=kr M h K
   ·lia
   ·have:=occs (kr M h K) (by lia);rw[Fb,h4] at this;cases this
  |none =>
   have hn:=List.find?_eq_none.mp hf;have ZH:∀ r,r<=runEnd M (lp M h k).1-(lp M h k).1->j1 owner ((lp M h k).1+r)=true:=λr hr=>by have:=hn r (by simp;lia);rw[e] at this;simpa using this
   dsimp only;have hK:K≠k:=λz=>by subst z;have:=ZH 0 (eW _);rw[LK,h4] at this;cases this
   refine oY h owner fuel (k+1) (λq QZ=>?_) ⟨K,by lia,by lia,h3,h4⟩;by_cases z:q<kr M h k
   ·exact hq q z
   ·have QZ:q<kr M h k+(runEnd M (lp M h k).1-(lp M h k).1)+1:=QZ;have hj:=T7 (q-kr M h k) (by lia);rw[show kr M h k+(q-kr M h k)=q by lia] at hj;rw[hj];exact ZH _ (by lia)
structure OI(M:Nat)(hs:List Int)(owner:Array (Option Nat)):Prop where
 sz:owner.size=M+1
 lt:∀ j v:Nat,owner[j]? = some (some v)->v<hs.length
 inj:∀ j j' v:Nat,owner[j]? = some (some v)->owner[j']? = some (some v)->j=j'
 all:∀ v:Nat,v<hs.length->∃ j:Nat,owner[j]? = some (some v)
 path:∀ j v:Nat,owner[j]? = some (some v)->∃ n,n<=10*(M+13)/\J M (hs.getD v 0) n=j/\∀ q<n,j1 owner (J M (hs.getD v 0) q)=true
theorem qC(h:j<owner.size):j1 owner j=true↔∃ v,owner[j]? = some (some v):=by
 unfold j1;rw[AJ h];simp only[Array.getD,h,dite_true,Option.some.injEq]
 cases hh:owner[j] with
 |none =>have:owner.getInternal j h=none:=hh;rw[this];simp
 |some v =>have:owner.getInternal j h=some v:=hh;rw[this];simp
theorem OI.free(O:OI M hs owner)(hl:hs.length<=M):∃ e,e<=M/\j1 owner e=false:=by
 by_cases c:∃ e,e<=M/\j1 owner e=false
 ·exact c
 ·exfalso;have all:∀ e,e<=M->∃ v,owner[e]? = some (some v):=λe he=>by
   refine(qC (by rw[O.sz];lia)).mp ?_
   cases z:j1 owner e with
   |true=>rfl
   |false=>exact absurd ⟨e,he,z⟩ c
  have nd:((List.range (M+1)).map λj=>(owner.getD j none).getD 0).Nodup:=by rw[RA,yy];refine List.Pairwise.imp_of_mem ?_ (RA.mp Ph);intro a b ha hb kz z;obtain⟨va,ea⟩:=all a (by have:=rX.mp ha;lia);obtain⟨vb,eb⟩:=all b (by have:=rX.mp hb;lia);rw[EE,EE,ea,eb] at z;have z:va=vb:=z;subst z;exact kz (O.inj _ _ _ ea eb)
  have:=bC (m:=List.range hs.length) nd λx hx=>by obtain⟨j,hj,rfl⟩:=eK.mp hx;obtain⟨v,e⟩:=all j (by have:=rX.mp hj;lia);rw[EE,e];exact rX.mpr (O.lt _ _ e)
  simp at this;lia
theorem OI.lay(hM:M+1=2 ^ m)(O:OI M hs owner)(hl:hs.length<=M)(h:Int) :
  ∃ j,layClean.free M owner (turns M) (bits h % (M+1)) (bits h)=some j/\OI M (hs++[h]) (owner.setIfInBounds j (some hs.length)):=by
 obtain⟨e,he,hf⟩:=O.free hl;obtain⟨K,hK,hKe⟩:=cover hM h he;obtain⟨j,n,e1,e2,e3,e4,e5⟩:=oY h owner (turns M) 0 (λq hq=>absurd hq (GB q)) ⟨K,eW _,by unfold turns;lia,hK,by rw[hKe];exact hf⟩;refine⟨j,e1,?_⟩;have hj:j<owner.size:=by rw[O.sz,<- e2];exact EB (QY M h n)
 have get:∀ i,(owner.setIfInBounds j (some hs.length))[i]? = if j=i then some (some hs.length) else owner[i]? := λi=>by
  rw[Array.getElem?_setIfInBounds];by_cases z:j=i
  ·subst z;simp[hj]
  ·simp[z]
 have oc:∀ i,j1 owner i=true->j1 (owner.setIfInBounds j (some hs.length)) i=true:=λi hi=>by
  unfold j1 at hi ⊢;rw[EE] at hi ⊢;rw[get];split
  ·rfl
  ·exact hi
 have kz:∀ v,owner[j]?≠some (some v):=λv z=>by have:=(qC hj).mpr ⟨v,z⟩;rw[e4] at this;cases this
 refine⟨by rw[Array.size_setIfInBounds];exact O.sz,λi v z=>?_,λi i' v z z'=>?_,λv hv=>?_,λi v z=>?_⟩
 ·rw[get] at z;split at z
  ·cases z;simp
  ·have:=O.lt i v z;simp;lia
 ·rw[get] at z z';split at z
  ·cases z;split at z'
   ·lia
   ·exact absurd (O.lt _ _ z') (uk _)
  ·split at z'
   ·cases z';exact absurd (O.lt _ _ z) (uk _)
   ·exact O.inj i i' v z z'
 ·simp at hv;by_cases c:v=hs.length
  ·exact⟨j,by rw[get,if_pos rfl,c]⟩
  ·obtain⟨i,hi⟩:=O.all v (by lia);refine⟨i,?_⟩;rw[get,if_neg (λz=>kz v (by rw[z];exact hi))];exact hi
 ·rw[get] at z;split at z
  ·rename_i hji;cases z;refine⟨n,e3,?_,λq hq=>oc _ ?_⟩
   ·rw[B4,D8 (de _)];simp[e2,hji]
   ·have:=e5 q hq;rw[B4,D8 (de _)];simpa using this
  ·have hv:=O.lt i v z;obtain⟨n',a1,a2,a3⟩:=O.path i v z;have eg:(hs++[h]).getD v 0=hs.getD v 0:=by rw[B4,B4,MV hv]
   rw[eg];exact⟨n',a1,a2,λq hq=>oc _ (a3 q hq)⟩
theorem OI.nil(M:Nat):OI M [] (Array.replicate (M+1) none):=by
 have no:∀ (j v:Nat),¬ (Array.replicate (M+1) (none:Option Nat))[j]? = some (some v):=λj v z=>by rw[Array.getElem?_replicate] at z;split at z<;>cases z
 exact⟨by simp,λj v z=>absurd z (no j v),λj j' v z _=>absurd z (no j v),λv hv=>absurd hv (GB v),λj v z=>absurd z (no j v)⟩
theorem zW(hM:M+1=2 ^ m)(hs:Array Int)(hl:hs.size<=M):∃ owner,layClean M hs=some owner/\OI M hs.toList owner:=by
 have go:∀ (l pre:List Int) (owner:Array (Option Nat)),OI M pre owner->pre.length+l.length<=M->∃ ZI,l.foldl (λacc h=>do
   let (owner,k) ← acc
   let j ← layClean.free M owner (turns M) (bits h % (M+1)) (bits h)
   pure (owner.setIfInBounds j (some k),k+1)) (some (owner,pre.length))=some (ZI,pre.length+l.length)/\OI M (pre++l) ZI:=by
  intro l
  induction l with
  |nil=>intro pre owner O _;exact⟨owner,rfl,by rw[kE];exact O⟩
  |cons h l ih =>
   intro pre owner O hz;rw[vF] at hz;obtain⟨j,e,O'⟩:=O.lay hM (by lia) h;obtain⟨o2,e2,O2⟩:=ih (pre++[h]) _ O' (by simp;lia);refine⟨o2,?_,by rw[AB] at O2;exact O2⟩;rw[List.foldl_cons];have:(do
    let (owner,k) ← (some (owner,pre.length):Option (Array (Option Nat) × Nat))
    let j ← layClean.free M owner (turns M) (bits h % (M+1)) (bits h)
    pure (owner.setIfInBounds j (some k),k+1))=some (owner.setIfInBounds j (some pre.length),(pre++[h]).length):=by
    simp[e]
   rw[this,e2];simp;lia
 obtain⟨o,e,O⟩:=go hs.toList [] _ (OI.nil M) (by simpa using hl);refine⟨o,?_,by simpa using O⟩;unfold layClean;rw[<- Array.foldl_toList];have e':=e;simp only[List.length_nil] at e';rw[e'];rfl
theorem gU:∀ (fuel a:Nat),3<=a->n<2 ^ (a+fuel)->∃ b,3<=b/\sizeAbove.go n fuel (2 ^ a)=2 ^ b/\n<2 ^ b/\(2 ^ b<=2*n\/b=a)
 |0,a,ha,h=>⟨a,ha,rfl,by simpa using h,.inr rfl⟩
 |fuel+1,a,ha,h=>by
  unfold sizeAbove.go;by_cases c:2 ^ a<=n
  ·rw[if_pos c];obtain⟨b,h1,h2,h3,h4⟩:=gU fuel (a+1) (by lia) (by rw[show a+1+fuel=a+(fuel+1) by lia];exact h);refine⟨b,h1,by rw[AI] at h2;exact h2,h3,?_⟩;rcases h4 with h4|h4
   ·exact .inl h4
   ·left;rw[h4,AI];lia
  ·rw[if_neg c];exact⟨a,ha,rfl,by lia,.inr rfl⟩
theorem jV(h:n<2 ^ 60):∃ b,3<=b/\sizeAbove n=2 ^ b/\n<2 ^ b/\(2 ^ b<=2*n\/b=3) :=
 gU 64 3 (de _) (RX h (by decide))
section
variable {α:Type}
def aU(M:Nat)(owner:Array (Option Nat)):List (Nat × Nat):=(List.range (M+1)).filterMap λj=>(owner.getD j none).map (j,·)
theorem dh:p∈aU M owner↔p.1<M+1/\owner[p.1]? = some (some p.2):=by
 unfold aU;rw[RL];constructor
 ·rintro⟨j,hj,e⟩;rw[EE] at e
  cases h:owner[j]? with
  |none=>rw[h] at e;cases e
  |some o =>
   rw[h] at e
   cases o with
   |none=>cases e
   |some v =>cases e;exact⟨rX.mp hj,h⟩
 ·rintro⟨h1,h2⟩;exact⟨p.1,rX.mpr h1,by rw[EE,h2];rfl⟩
theorem qG(M:Nat)(owner:Array (Option Nat)):((aU M owner).map (·.1)).Pairwise (· < ·):=by
 unfold aU;rw[yy,List.pairwise_filterMap];refine List.Pairwise.imp ?_ List.pairwise_lt_range;intro a b BD p hp q hq
 cases h1:owner.getD a none with
 |none=>rw[h1] at hp;cases hp
 |some x =>
  cases h2:owner.getD b none with
  |none=>rw[h2] at hq;cases hq
  |some y =>rw[h1] at hp;rw[h2] at hq;cases hp;cases hq;exact BD
theorem qU{l:List Nat}(h:l.Pairwise (· < ·)):Up l.toArray:=λi j kA hj=>by
 have hj:j<l.length:=by simpa using hj
 have:=MX.mp h i j (by walk_at "s1") hj kA;have e:∀ k (hk:k<l.length),l.toArray.getD k 0=l[k]:=λk hk=>by simp[Array.getD,hk]
 rw[e i (by walk_at "s1"),e j hj];exact this
theorem rC{β:Type}{f:α->Option β}:∀ {l:List α},(∀ x∈l,(f x).isSome=true)->(l.filterMap f).length=l.length/\∀ i:Nat,(l.filterMap f)[i]? = (l[i]?).bind f
 |[],_=>⟨rfl,λi=>by simp⟩
 |x :: l,h=>by
  obtain⟨a,b⟩:=rC (f:=f) (l:=l) λy hy=>h y (eP _ hy);have hx:=h x ft
  cases e:f x with
  |none=>rw[e] at hx;cases hx
  |some y =>
   rw[AA,e];refine⟨by simp[a],λi=>?_⟩
   cases i with
   |zero=>simp[e]
   |succ i=>simpa using b i
theorem sJ(es:Array (Int × α)):(List.range es.size).filterMap (λi=>es[i]?)=es.toList:=by
 apply M7;intro i;rw[(rC (l:=List.range es.size) λx hx=>by
  have:=rX.mp hx;simp[this]).2 i]
 by_cases h:i<es.size
 ·rw[List.getElem?_range h,oS];rfl
 ·rw[D9 (by simpa using h),D9 (by simpa using h)];rfl
theorem Cp{M m finger moves:Nat}{led plain:Bool}(hM:M+1=2 ^ m)(hm:3<=m){es:Array (Int × α)}(hf:es.size*5<M*3) :
  ∃ t order,laid M finger moves led plain (es.map (·.1))=some (t,order)/\t.plain=plain/\t.led=led/\t.mask=M/\TI t (order.filterMap λi=>es[i]?)/\(order.filterMap λi=>es[i]?).size=es.size/\(order.filterMap λi=>es[i]?).toList.Perm es.toList/\order.toList.Perm (List.range es.size):=by
 obtain⟨owner,e,O⟩:=zW hM (es.map (·.1)) (by rw[Array.size_map];lia);have hn:(es.map (·.1)).toList.length=es.size:=by simp
 refine⟨{ mask:=M,place:=((aU M owner).map (·.1)).toArray,dummies:=#[],finger,led,moves,plain },((aU M owner).map (·.2)).toArray,?_,rfl,rfl,rfl,?_⟩
 ·unfold laid;rw[e];rfl
 have ZJ:∀ p∈aU M owner,p.2<es.size:=λp hp=>by have:=O.lt _ _ (dh.mp hp).2;lia
 have nd:((aU M owner).map (·.2)).Nodup:=by rw[RA,yy];have:=qG M owner;rw[yy] at this;refine List.Pairwise.imp_of_mem ?_ this;intro p q hp hq gp z;have:=O.inj _ _ _ (dh.mp hp).2 (by rw[z];exact(dh.mp hq).2);lia
 have pm:((aU M owner).map (·.2)).Perm (List.range es.size):=by
  refine(List.perm_ext_iff_of_nodup nd Ph).mpr λv=>⟨λhv=>?_,λhv=>?_⟩
  ·obtain⟨p,hp,rfl⟩:=eK.mp hv;exact rX.mpr (ZJ p hp)
  ·obtain⟨j,hj⟩:=O.all v (by rw[hn];exact rX.mp hv);have ZK:=(Cb.mp hj).1;rw[O.sz] at ZK;exact eK.mpr ⟨(j,v),dh.mpr ⟨ZK,hj⟩,rfl⟩
 have hlen:(aU M owner).length=es.size:=by have:=pm.length_eq;simpa using this
 have DT:(((aU M owner).map (·.2)).toArray.filterMap λi=>es[i]?).toList=(aU M owner).filterMap λp=>es[p.2]? := by rw[Array.toList_filterMap,RN];rfl
 obtain⟨f1,f2⟩:=rC (l:=aU M owner) (f:=λp=>es[p.2]?) λp hp=>by simp[ZJ p hp]
 have fz':∀ i:Nat,(((aU M owner).map (·.2)).toArray.filterMap λi=>es[i]?)[i]? = ((aU M owner)[i]?).bind λp=>es[p.2]? := λi=>by rw[<- oS,DT];exact f2 i
 have hsz:(((aU M owner).map (·.2)).toArray.filterMap λi=>es[i]?).size=es.size:=by rw[<- xv,DT,f1,hlen]
 have hU:∀ i:Nat,∀ p,(aU M owner)[i]? = some p->((aU M owner).map (·.1)).toArray.getD i 0=p.1:=λi p hp=>by rw[EE];simp[hp]
 have tk:∀ j,j1 owner j=true->j<=M->taken ((aU M owner).map (·.1)).toArray j=true:=λj hj hM'=>by
  obtain⟨v,hv⟩:=(qC (by rw[O.sz];exact EB ‹_›)).mp hj;obtain⟨i,hi⟩:=M0.mp (dh.mpr (show((j,v):Nat × Nat).1<M+1/\owner[((j,v):Nat × Nat).1]? = some (some ((j,v):Nat × Nat).2) from⟨by show j<M+1;exact EB ‹_›,hv⟩));exact(d7 (qU (qG M owner))).mpr ⟨i,by
   have:=(nv.mp hi).1;simpa using this,hU i _ hi⟩
 refine⟨?_,hsz,?_,by simpa using pm⟩
 ·refine⟨⟨m,hM,hm⟩,?_,qU (qG M owner),λi hi=>?_,rfl,by rw[hsz];exact hf,λi h x hx=>?_⟩
  ·rw[hsz];simp[hlen]
  ·have hi:i<(aU M owner).length:=by simpa using hi
   have e1:=uj hi;show((aU M owner).map (·.1)).toArray.getD i 0<=M;rw[hU i _ e1];have:=(dh.mp (vE e1)).1;lia
  ·rw[fz'] at hx
   cases hp:(aU M owner)[i]? with
   |none=>rw[hp] at hx;cases hx
   |some p =>
    rw[hp] at hx;have hx:es[p.2]? = some (h,x):=hx;have hm':=dh.mp (vE hp);obtain⟨n,a1,a2,a3⟩:=O.path _ _ hm'.2;have hh:(es.map (·.1)).toList.getD p.2 0=h:=by rw[B4,oS,Array.getElem?_map,hx];rfl
    rw[hh] at a2 a3;refine⟨n,a1,?_,λq hq=>tk _ (a3 q hq) (QY M h q)⟩;show J M h n=((aU M owner).map (·.1)).toArray.getD i 0;rw[hU i _ hp];exact a2
 ·rw[DT];have:=pm.filterMap λi=>es[i]?;rw[sJ,RN] at this;exact this
theorem nM{t:SetTable}{es:Array (Int × α)}(hn:es.size<=10000) :
  ∃ t' order,t.relaid (es.map (·.1)) (grown es.size)=some (t',order)/\t'.plain=t.plain/\t'.led=t.led/\sizeAbove (grown es.size)<=16777216/\(es.size<=1000->t'.mask<=8191)/\TI t' (order.filterMap λi=>es[i]?)/\(order.filterMap λi=>es[i]?).size=es.size/\(order.filterMap λi=>es[i]?).toList.Perm es.toList/\order.toList.Perm (List.range es.size):=by
 have hg:grown es.size=es.size*4:=by unfold grown;rw[if_neg (by lia)]
 obtain⟨b,h3,e,gp,hle⟩:=jV (n:=es.size*4) (by lia);have h8:8<=2 ^ b:=Nat.pow_le_pow_right (n:=2) (by decide) h3;unfold relaid;rw[hg,e];obtain⟨t',order,q1,q2,q3,qm,q4⟩:=Cp (M:=2 ^ b-1) (m:=b) (finger:=t.finger) (moves:=t.movedTo (2 ^ b-1)) (led:=t.led) (plain:=t.plain) (by lia) h3 (es:=es) (by lia);refine⟨t',order,q1,q2,q3,?_,λhz=>?_,q4⟩
 ·rcases hle with hle|rfl
  ·lia
  ·decide
 ·rw[qm];rcases hle with hle|rfl
  ·lia
  ·decide
end
section
variable {α:Type}{t:SetTable}{es:Array (Int × α)}
theorem lQ(T:TI t es)(hashAt:Nat->Int)(h:Int):∀ (fuel n:Nat),(∃ N,n<=N/\N<n+fuel/\taken t.place (J t.mask h N)=false) ->
  ∃ n',n<=n'/\n'<n+fuel/\(∀ q,n<=q->q<n'->taken t.place (J t.mask h q)=true/\hashAt (below t.place (J t.mask h q))≠h) /\ ((taken t.place (J t.mask h n')=false/\probe.go t hashAt h fuel (ps t.mask h n)=some (.empty (J t.mask h n') none)) \/ (taken t.place (J t.mask h n')=true/\hashAt (below t.place (J t.mask h n'))=h/\probe.go t hashAt h fuel (ps t.mask h n)=some (.candidate (J t.mask h n') (below t.place (J t.mask h n')) (ps t.mask h (n'+1)))))
 |0,n,⟨N,h1,h2,_⟩=>by lia
 |fuel+1,n,⟨N,h1,h2,h3⟩=>by
  unfold probe.go;have hs:=T.slot (J t.mask h n);have hd:=(Bh t.mask h n).2.2.1;by_cases c:taken t.place (J t.mask h n)=true
  ·rw[if_pos c] at hs;have hs:t.slot (ps t.mask h n).j=.live (below t.place (J t.mask h n)):=hs;rw[hs];dsimp only;by_cases e:hashAt (below t.place (J t.mask h n))=h
   ·rw[if_pos (by simpa using e)];exact⟨n,de _,by lia,λq a b=>by lia,.inr ⟨c,e,rfl⟩⟩
   ·rw[if_neg (by simpa using e)];have hN:N≠n:=λz=>by rw[z,c] at h3;cases h3
    obtain⟨n',a1,a2,a3,a4⟩:=lQ T hashAt h fuel (n+1) ⟨N,by lia,by lia,h3⟩;refine⟨n',by exact oP ‹_›,by lia,λq b1 b2=>?_,a4⟩;by_cases z:q=n
    ·subst z;exact⟨c,e⟩
    ·exact a3 q (by lia) b2
  ·have c:taken t.place (J t.mask h n)=false:=by simpa using c
   rw[if_neg (by rw[c];exact kg)] at hs;have hs:t.slot (ps t.mask h n).j=.empty:=hs;rw[hs];dsimp only;rw[hd];exact⟨n,de _,by lia,λq a b=>by lia,.inl ⟨c,rfl⟩⟩
end
section
variable {prog:dz}{w:dA}{K:Type}[DecidableEq K]{knd:KeyKind prog w K}
abbrev aM(knd:KeyKind prog w K)(k:List K):Int:=tupleKeyHash knd k
def yp(knd:KeyKind prog w K)(p:List K × ag):Int × ah:=(aM knd p.1,.ref p.2)
structure Mv(knd:KeyKind prog w K)(h:cS)(a:ag)(ks:List (List K × ag)):Prop where
 ob:∃ o es ep t,h.get? a=some o/\o.ExactSet/\o.data=.set es ep t/\TI t es/\t.mask<=8191/\t.led=(!w.params.followText "set-order")/\es.toList=ks.map (yp knd)
 nd:(ks.map (·.1)).Nodup
 is:∀ p∈ks,IsTupleKey knd h p.1 p.2
variable {A:eJ}{E:ah->aE->Prop}{s:aE}
theorem jk(hk:IsTupleKey knd s.heap k a)(h:Q false s):aT (aS prog w) A (ofAClassStatement 8 (.ref a)) Q E s:=by
 have hT:=hk.typeIs;obtain⟨o,items,n,ho,_,hd,hi⟩:=hk;unfold ofAClassStatement;refine ay (wpAny_typeOf hT ?_);dsimp only;refine ay ?_;refine bI ?_;simp only[Pu,hZ,if_false];refine ay (wpAny_seqItems ho hd ?_);dsimp only;refine ay ?_;rw[<- Array.forIn_toList];refine wpAny_forIn_list _ (λrest r s'=>r.1=none/\s'=s/\∀ v∈rest,carriedByValue v=true) _ ?_ ?_ _ _ ⟨rfl,rfl,hi.byValue⟩
 ·rintro v rest r s' ⟨hr,rfl,nL⟩;have hv:=nL v ft;have e:ofAClassStatement 7 v=pure false:=by
   cases v with
   |ref a=>cases hv
   |_=>rfl
  rw[e];refine ay (bI ?_);simp only[hZ,if_false];exact bI ⟨rfl,rfl,λu IX=>nL u (eP _ IX)⟩
 ·rintro⟨r1,r2⟩ s' ⟨hr,rfl,_⟩;simp only at hr;subst hr;exact bI h
theorem gO(hk:IsTupleKey knd s.heap k a)(tJ:∀ k v,knd.is k v=true->v.scannable=true)(h:∀ b,Q b s):aT (aS prog w) A (hashByValue 8 (.ref a)) Q E s:=by
 have hT:=hk.typeIs;obtain⟨o,items,n,ho,_,hd,hi⟩:=hk;have fB':∀ v∈items.toList,v.scannable=true:=by
  clear ho hd;generalize items.toList=l at hi
  induction hi with
  |nil=>intro v hv;cases hv
  |cons h1 _ ih =>
   intro v hv;rcases eM.mp hv with rfl|hv
   ·exact tJ _ _ h1
   ·exact ih v hv
 unfold hashByValue;refine ay (wpAny_specialOf hT F.slot_tuple_hash.lookup ?_);dsimp only;refine ay (wpAny_seqItems ho hd ?_);dsimp only[Option.getD];refine ay ?_;rw[<- Array.forIn_toList];refine wpAny_forIn_list _ (λrest r s'=>s'=s/\∀ v∈rest,v.scannable=true) _ ?_ ?_ _ _ ⟨rfl,fB'⟩
 ·rintro v rest r s' ⟨rfl,nL⟩;rw[hashByValue_scannable 7 (nL v ft)];refine ay (bI ?_);split
  ·exact bI (bI (h _))
  ·exact bI ⟨rfl,λu IX=>nL u (eP _ IX)⟩
 ·rintro⟨r1,r2⟩ s' ⟨rfl,_⟩
  cases r1 with
  |none=>exact bI (h true)
  |some b=>exact bI (h b)
end
local macro_rules | `(tactic| walk_at $s:str) => do
 let x:=s.getString
 if x.startsWith "PV" then `(tactic| exact $(Lean.mkIdent (.str (.str (.num (.str (.str (.str .anonymous "_private") "PySem") "SetOps") 0) "PySem") (x.drop 2).toString)))
 else Lean.Macro.throwUnsupported
abbrev uK:Array (Int × ah)->Nat->Int:=by walk_at "PVstoredHashAt"
abbrev Bo:Array (Int × ah)->Option (SetTable × Array Nat)->Sem (Array (Int × ah) × SetTable):=by walk_at "PVreordered"
abbrev mj:Array (Int × ah)->SetTable->Bool:=by walk_at "PVdrawn"
abbrev G7:Array (Int × ah)->SetTable->Sem Unit:=by walk_at "PVmustBeLedForItsPlaces"
abbrev Fe:Bool->Sem Unit:=by walk_at "PVgaveWayHere"
def qx:Array (Int × ah)->Nat->Int:=uK
theorem oN(es:Array (Int × ah))(i:Nat):qx es i=(es[i]?.map (·.1)).getD 0:=rfl
section
variable {prog:dz}{w:dA}{K:Type}[DecidableEq K]{knd:KeyKind prog w K}{A:eJ}{E:ah->aE->Prop}{s:aE}
theorem um(hk:IsTupleKey knd s.heap k a)(hy:∀ y∈ys,∃ k' b,y=.ref b/\IsTupleKey knd s.heap k' b)(h:Q false s):aT (aS prog w) A (searchCouldBeSeen (.ref a) ys) Q E s:=by
 unfold searchCouldBeSeen;refine ay ?_;refine wpAny_forIn_list _ (λrest r s'=>r.1=none/\s'=s/\∀ y∈rest,∃ k' b,y=.ref b/\IsTupleKey knd s.heap k' b) _ ?_ ?_ _ _ ⟨rfl,rfl,hy⟩
 ·rintro y rest r s' ⟨hr,rfl,nL⟩;obtain⟨k',b,rfl,hb⟩:=nL y ft;have go:∀ (P:Prop),P->P:=λ_ p=>p;dsimp only;split
  ·exact bI ⟨rfl,rfl,λu IX=>nL u (eP _ IX)⟩
  ·refine ay (wpAny_eqIsQuiet_tuple hk ?_);simp only[Pu,hZ,if_false];refine ay (wpAny_eqIsQuiet_tuple hb ?_);simp only[Pu,hZ,if_false];refine ay (jk hk ?_);simp only[hZ,if_false];refine ay (jk hb ?_);simp only[hZ,if_false];exact bI ⟨rfl,rfl,λu IX=>nL u (eP _ IX)⟩
 ·rintro⟨r1,r2⟩ s' ⟨hr,rfl,_⟩;simp only at hr;subst hr;exact bI h
theorem Hb{K G:Prop}(pk:K)(h:K->G):G:=h pk
theorem nY{a x:ag}{k:List K}{ks:List (List K × ag)}{o:Obj}{es:Array (Int × ah)}{ep:Nat}{t:SetTable}(hu:A.units<hX)(ho:s.heap.get? a=some o)(hd:o.data=.set es ep t)(T:TI t es)(he:es.toList=ks.map (yp knd))(w_:∀ p∈ks,IsTupleKey knd s.heap p.1 p.2) (hx:IsTupleKey knd s.heap k x) {Q:SetFound->aE->Prop} (ZL:k∈ks.map (·.1)->Q (.there none) s)(nf:Nat) (hnf:nf<=10*(t.mask+13)) (sj:taken t.place (J t.mask (aM knd k) nf)=false) (ZM:∀ q<nf,taken t.place (J t.mask (aM knd k) q)=true)(A3:k∉ks.map (·.1)->Q (.free (J t.mask (aM knd k) nf) false) s) :
  ∀ (fuel n:Nat) (stand:Option Probe),stand.getD (t.probeStart (aM knd k))=ps t.mask (aM knd k) n->n<=nf->nf<n+fuel -> (∀ q<n,∀ p,ks[below t.place (J t.mask (aM knd k) q)]? = some p->p.1≠k)->aT (aS prog w) A (setSearchFrom a (.ref x) (aM knd k) true fuel stand) Q E s
 |0,n,stand,_,h1,h2,_=>by lia
 |fuel+1,n,stand,kR,h1,h2,hq=>by
  have Mw:∀ i:Nat,es[i]? = (ks[i]?).map (yp knd):=λi=>by rw[<- oS,he,qa]
  unfold setSearchFrom;refine ay (yi ho hd T.fits ?_);dsimp only;rw[if_neg (by rw[T.odd];exact kg)];obtain⟨n',a1,a2,a3,a4⟩:=lQ T (qx es) (aM knd k) (10*turns t.mask) n ⟨nf,h1,by unfold turns;lia,sj⟩;have EH:n'<=nf:=by
   by_cases z:n'<=nf
   ·exact z
   ·have:=(a3 nf h1 (by exact Pm ‹_›)).1;rw[sj] at this;cases this
  rcases a4 with⟨c1,c2⟩|⟨c1,c2,c3⟩
  ·have c2:t.probe (qx es) (aM knd k) (stand.getD (t.probeStart (aM knd k)))=some (.empty (J t.mask (aM knd k) n') none):=by rw[kR];exact c2
   have e:n'=nf:=by
    by_cases z:n'<nf
    ·have:=ZM n' z;rw[c1] at this;cases this
    ·lia
   have c2:t.probe (uK es) (aM knd k) (stand.getD (t.probeStart (aM knd k)))=some (.empty (J t.mask (aM knd k) n') none):=c2;rw[c2];dsimp only;rw[e];refine bI (A3 λhm=>?_);obtain⟨p,hp,rfl⟩:=eK.mp hm;obtain⟨i,hi⟩:=M0.mp hp;have ei:es[i]? = some (aM knd p.1,.ref p.2):=by rw[Mw,hi];rfl
   have ZN:i<t.place.size:=by rw[T.sz];exact(Cb.mp ei).1
   obtain⟨ni,b1,b2,b3⟩:=T.path i _ _ ei;have bt:below t.place (J t.mask (aM knd p.1) ni)=i:=by rw[b2];exact below_at T.up ZN
   have tk:taken t.place (J t.mask (aM knd p.1) ni)=true:=by rw[b2];exact(d7 T.up).mpr ⟨i,ZN,rfl⟩
   have gp:ni<nf:=by
    by_cases z:nf<ni
    ·have:=b3 nf z;rw[sj] at this;cases this
    ·have:ni≠nf:=λz=>by rw[z,sj] at tk;cases tk
     lia
   by_cases z:ni<n
   ·exact hq ni z p (by rw[bt];exact hi) rfl
   ·refine(a3 ni (by exact Nc ‹_›) (by lia)).2 ?_;rw[bt,oN,ei];rfl
  ·have c3:t.probe (uK es) (aM knd k) (stand.getD (t.probeStart (aM knd k)))=some (.candidate (J t.mask (aM knd k) n') (below t.place (J t.mask (aM knd k) n')) (ps t.mask (aM knd k) (n'+1))):=by rw[kR];exact c3
   rw[c3];dsimp only;have tk:=jh T.up c1;have Q0:t.slot (J t.mask (aM knd k) n')=.live (below t.place (J t.mask (aM knd k) n')):=by rw[T.slot,if_pos c1]
   generalize hi:below t.place (J t.mask (aM knd k) n')=i at tk c2 Q0 ⊢;have ZO:i<es.size:=by rw[<- T.sz];exact tk.1
   obtain⟨p,hp⟩:∃ p,ks[i]? = some p:=by
    have:i<ks.length:=by have:=congrArg List.length he;simp at this;lia
    exact⟨_,uj this⟩
   have ei:es[i]? = some (aM knd p.1,.ref p.2):=by rw[Mw,hp];rfl
   have ZP:=vE hp;have kz:n'≠nf:=λz=>by rw[z,sj] at c1;cases c1
   have again:¬ p.1=k->aT (aS prog w) A (setSearchFrom a (.ref x) (aM knd k) true fuel (some (ps t.mask (aM knd k) (n'+1)))) Q E s:=λhpk =>
    nY hu ho hd T he w_ hx ZL nf hnf sj ZM A3 fuel (n'+1) (some (ps t.mask (aM knd k) (n'+1))) rfl (by lia) (by lia) λq QZ p' gu=>by
     by_cases z:q<n
     ·exact hq q z p' gu
     ·by_cases z2:q=n'
      ·subst z2;rw[hi,hp] at gu;cases gu;exact hpk
      ·intro e';have:=(a3 q (by exact Nc ‹_›) (by lia)).2;refine this ?_;rw[oN,Mw,gu];show aM knd p'.1=_;rw[e']
   have oj:p.1=k->k∈ks.map (·.1):=λe=>e ▸ eK.mpr ⟨p,ZP,rfl⟩;have seen:∀ y∈List.map (λx=>x.snd) (Array.filter (λx=>x.fst == aM knd k) es).toList,∃ k' b,y=.ref b/\IsTupleKey knd s.heap k' b:=λy hy=>by obtain⟨e',Qp,rfl⟩:=eK.mp hy;rw[Array.toList_filter] at Qp;have:=(LB.mp Qp).1;rw[he] at this;obtain⟨p',gu,rfl⟩:=eK.mp this;exact⟨p'.1,p'.2,rfl,w_ p' gu⟩
   refine Hb ?pk (K:=?K) λkey=>?main;case main =>
    split
    ·refine ay (um hx seen ?_);rw[if_neg kg];exact key
    ·exact key
   rw[ei];dsimp only;refine ay (xl (wpAny_eqBool_tuple hu (w_ p ZP) hx ?_));refine ay (yi ho hd T.fits ?_);dsimp only;by_cases e:p.1=k
   ·rw[if_pos (by simp[e])];exact bI (ZL (oj e))
   ·rw[if_neg (by simp[e])];have Tn:t.sameMemory t.moves t.mask=some true:=by unfold sameMemory;rw[if_pos (by simp)]
    rw[Tn];dsimp only;rw[if_pos rfl,Q0];dsimp only;rw[ei];dsimp only;refine ay (m:=isSame (.ref p.2) (.ref p.2)) ?_;unfold isSame;dsimp only;rw[if_pos (by simp)];refine bI (ay (bI ?_));rw[if_pos rfl];dsimp only;rw[if_neg (by simp[e])];exact again e
end
theorem iy{α β:Type}{f:α->β}:∀ {l l2:List β},l.Perm l2->∀ {m:List α},l2=m.map f->∃ m':List α,l=m'.map f/\m'.Perm m:=by
 intro l l2 p
 induction p with
 |nil=>intro m e;exact⟨m,by rw[<- e],.refl _⟩
 |cons x _ ih =>
  intro m e
  cases m with
  |nil=>cases e
  |cons y m =>simp only[gI,List.cons.injEq] at e;obtain⟨m',e1,p1⟩:=ih e.2;exact⟨y :: m',by rw[gI,<- e1,e.1],p1.cons _⟩
 |swap x y l =>
  intro m e
  match m,e with
  |a :: b :: m,e =>simp only[gI,List.cons.injEq] at e;exact⟨b :: a :: m,by simp[e.1,e.2.1,e.2.2],.swap ..⟩
 |trans _ _ ih1 TB =>intro m e;obtain⟨m',e1,p1⟩:=TB e;obtain⟨m2,e2,p2⟩:=ih1 e1;exact⟨m2,e2,p2.trans p1⟩
theorem lE{α:Type}(xs:Array α)(p:Nat)(x:α):(insertAt xs p x).toList=xs.toList.take p++x :: xs.toList.drop p:=by unfold insertAt;simp;rw[FU (by simp)]
theorem n6(hz:(order.filterMap λi=>es[i]?).size=es.size)(h:Q (order.filterMap λi=>es[i]?,t) s):aT (aS prog w) A (Bo es (some (t,order))) Q E s:=by
 show aT _ _ (if ((order.filterMap λi=>es[i]?).size != es.size)=true then (do unsupported "internal:set-table-lost-an-element";pure (order.filterMap λi=>es[i]?,t)) else pure (order.filterMap λi=>es[i]?,t)) _ _ _;rw[if_neg (by simp[hz])];exact bI h
section
variable {prog:dz}{w:dA}{K:Type}[DecidableEq K]{knd:KeyKind prog w K}{A:eJ}{E:ah->aE->Prop}{s:aE}
theorem IsTupleKey.fN(hk:IsTupleKey knd h k a)(e:∀ o,h.get? a=some o->h'.get? a=some o):IsTupleKey knd h' k a:=by obtain⟨o,items,n,ho,r⟩:=hk;exact⟨o,items,n,e o ho,r⟩
theorem Mv.ne(S:Mv knd h a ks)(hx:IsTupleKey knd h k x):x≠a:=by obtain⟨⟨o,es,ep,t,ho,hex,_⟩,_,_⟩:=S;obtain⟨o',items,n,nI,hc,_⟩:=hx;intro z;subst z;rw[ho] at nI;cases nI;rw[hex.1] at hc;exact absurd hc (by decide)
theorem Ez(S:Mv knd s.heap a ks)(hx:IsTupleKey knd s.heap k x)(hz:ks.length<1000)(hu:A.units<hX)(tJ:∀ k v,knd.is k v=true->v.scannable=true)(h:∀ (b:Bool) (h':cS) (eI:List (List K × ag)),Heap.SameBut a s.heap h'->Mv knd h' a eI->(k∈ks.map (·.1)/\eI=ks\/k∉ks.map (·.1)/\eI.Perm ((k,x) :: ks))->Q b { s with heap:=h' }) :
  aT (aS prog w) A (setAddHashed a (.ref x) (aM knd k)) Q E s:=by
 obtain⟨⟨o,es,ep,t,ho,hex,hd,T,hM,hL,he⟩,nd,is⟩:=id S;have hlen:es.size=ks.length:=by have:=congrArg List.length he;simpa using this
 obtain⟨m,hm,_⟩:=T.pw;obtain⟨e0,T8,T9⟩:=T.free;obtain⟨nf,n1,n2,n3⟩:=lq hm (aM knd k) (taken t.place) T8 T9;unfold setAddHashed setAddHashedIn;refine xl (ay (yi ho hd T.fits ?_));dsimp only;have hbs:byScan (.ref x) es=false:=by simp[byScan,Value.scannable]
 rw[hbs];simp only[hZ,if_false];refine ay ?_;unfold setSearch;refine nY hu ho hd T he is hx (λoj=>?_) nf n1 n2 n3 (λDI=>?_) 100000 0 none rfl (eW _) (by lia) λq hq=>absurd hq (GB q)
 ·dsimp only;refine bI ?_;have e:s={ s with heap:=s.heap }:=by cases s;rfl
  rw[e];exact h _ _ ks (Heap.SameBut.refl a s.heap) S (.inl ⟨oj,rfl⟩)
 ·dsimp only;generalize hj:J t.mask (aM knd k) nf=j at n2 ⊢;have T_:j<=t.mask:=by rw[<- hj];exact QY ..
  have Ua:Reach t.mask t.place (aM knd k) j:=⟨nf,n1,hj,n3⟩
  refine ay (yi ho hd T.fits ?_);dsimp only;have Ub:t.put j=({ t with place:=insertAt t.place (below t.place j) j,dummies:=#[] },below t.place j):=by
   unfold SetTable.put;have:has t.dummies j=false:=by rw[T.dm];rfl
   simp only[this,hZ,if_false];rw[T.dm]
  rw[Ub];dsimp only;have oj:(insertAt es (below t.place j) (aM knd k,.ref x)).toList=(ks.take (below t.place j)++(k,x) :: ks.drop (below t.place j)).map (yp knd):=by rw[lE,he,oI,gI,LD,LG];rfl
  have xa:(ks.take (below t.place j)++(k,x) :: ks.drop (below t.place j)).Perm ((k,x) :: ks):=by refine List.perm_middle.trans ?_;rw[FV]
  have Fh:below t.place j<=es.size:=by rw[<- T.sz];exact(aL T.up j).1
  have BE:(insertAt es (below t.place j) (aM knd k,Value.ref x)).size=es.size+1:=aW _ _ Fh;have hxa:=S.ne hx;have Ow:∀ h',Heap.SameBut a s.heap h'->∀ eI:List (List K × ag),eI.Perm ((k,x) :: ks)->∀ p∈eI,IsTupleKey knd h' p.1 p.2:=λh' sb eI pm p hp=>by
   have:IsTupleKey knd s.heap p.1 p.2:=by
    rcases eM.mp (pm.mem_iff.mp hp) with rfl|hp
    ·exact hx
    ·exact is p hp
   exact IsTupleKey.fN this λo' nI=>sb.extBut _ _ (S.ne this) nI
  have Ox:∀ eI:List (List K × ag),eI.Perm ((k,x) :: ks)->(eI.map (·.1)).Nodup:=λeI pm=>by rw[(pm.map _).nodup_iff,gI,nE];exact⟨DI,nd⟩
  -- behind the flag
  have main:∀ pl:Bool,aT (aS prog w) A (do
    storeSet a (insertAt es (below t.place j) (aM knd k,.ref x)) { t with place:=insertAt t.place (below t.place j) j,dummies:=#[],plain:=pl }
    if (!false && ({ t with place:=insertAt t.place (below t.place j) j,dummies:=#[],plain:=pl }:SetTable).tooFull)=true then do
      setRelay a (grown (es.size+1))
      pure true
     else pure true) Q E s:=λpl=>by
   generalize Oy:({ t with place:=insertAt t.place (below t.place j) j,dummies:=#[],plain:=pl }:SetTable)=t';have tm:t'.mask=t.mask:=by rw[<- Oy]
   have tp:t'.place=insertAt t.place (below t.place j) j:=by rw[<- Oy]
   have td:t'.dummies = #[]:=by rw[<- Oy]
   have Q5:t'.fill=es.size+1:=by unfold SetTable.fill;rw[tp,td,aW _ _ (aL T.up j).1,T.sz];simp
   refine ay (wpAny_storeSet_of ho hd ?_ (by rw[BE,kP];lia));have vj:(s.heap.update a (Obj.putSet (insertAt es (below t.place j) (aM knd k,.ref x)) t')).get? a=some { o with data:=.set (insertAt es (below t.place j) (aM knd k,.ref x)) (ep+1) t' }:=by have:=B8 (Obj.putSet (insertAt es (below t.place j) (aM knd k,.ref x)) t') ho (by rw[putSet_of _ _ hd];rfl);rw[putSet_of _ _ hd] at this;exact this
   have vt:=Heap.SameBut.update s.heap a (Obj.putSet (insertAt es (below t.place j) (aM knd k,.ref x)) t');by_cases c:t'.tooFull=true
   ·rw[if_pos (by rw[c];rfl)];have Ms:t'.fits (insertAt es (below t.place j) (aM knd k,Value.ref x)).size=true:=by have:=T.few;simp only[SetTable.fits,Q5,ja,beq_iff_eq,decide_eq_true_eq];rw[tp,aW _ _ (aL T.up j).1,BE,T.sz,tm];exact⟨rfl,by lia⟩
    obtain⟨t2,order,r1,r2,r3,r4,r5,r6,r7,r8,_⟩:=nM (t:=t') (es:=insertAt es (below t.place j) (aM knd k,Value.ref x)) (by lia);rw[BE] at r1 r4;unfold setRelay;refine ay (ay (yi vj rfl Ms ?_));dsimp only;rw[if_neg (by rw[kP];lia)];refine ay ?_;rw[r1];obtain⟨eI,ek,pk⟩:=iy r8 oj;refine n6 r7 ?_;dsimp only;refine wpAny_storeSet_of vj rfl ?_ (by rw[r7,BE,kP];lia);refine bI ?_;have Fm:=vt.trans (Heap.SameBut.update _ a (Obj.putSet (order.filterMap λi=>(insertAt es (below t.place j) (aM knd k,Value.ref x))[i]?) t2));have wa:=B8 (Obj.putSet (order.filterMap λi=>(insertAt es (below t.place j) (aM knd k,Value.ref x))[i]?) t2) vj (by rw[putSet_of _ _ rfl];rfl);rw[putSet_of _ _ rfl] at wa;exact h true _ eI Fm ⟨⟨_,_,_,_,wa,hex,rfl,r6,r5 (by lia),by rw[r3,<- Oy];exact hL,ek⟩,Ox eI (pk.trans xa),Ow _ Fm eI (pk.trans xa)⟩ (.inr ⟨DI,pk.trans xa⟩)
   ·rw[if_neg (by simpa using c)];refine bI ?_;have wc:(es.size+1)*5<t.mask*3:=by unfold SetTable.tooFull at c;rw[Q5,tm] at c;simpa using c
    exact h true _ _ vt ⟨⟨_,_,_,_,vj,hex,rfl,T.put T_ n2 Ua tm tp td wc,by rw[tm];exact hM,by rw[<- Oy];exact hL,oj⟩,Ox _ xa,Ow _ vt _ xa⟩ (.inr ⟨DI,xa⟩)
  split
  ·refine ay (gO hx tJ λb=>?_)
   cases b with
   |true=>exact main t.plain
   |false=>exact main false
  ·exact ay (bI (main t.plain))
end
end TS
namespace TS
open PySem PySem.SetTable PyProof.Rows
section
variable {prog:dz}{w:dA}{A:eJ}{R:Result->aE->Prop}{I:ag}{fp wr:List ag}{n:Nat}{P:Nat->ah->Prop}{St:Nat->cS->Prop}
theorem xX(W:Walks prog w A.in1 I fp wr n P St)(S:ag)(IY:S∉fp)(SI:Nat->cS->Prop)(keep:∀ i h h',SI i h->(∀ b o,b∉wr->h.get? b=some o->h'.get? b=some o)->SI i h')(step:∀ (i:Nat) (v:ah) (s':aE) (E':ah->aE->Prop) (Q:Bool->aE->Prop),P i v->SI i s'.heap->(∀ b h' tk,Heap.SameBut S s'.heap h'->SI (i+1) h'->Q b { s' with heap:=h',toks:=tk })->aT (aS prog w) A.in1 (setAdd S v) Q E' s') :
  ∀ (k i:Nat) (s:aE),n-i=k->i<=n->St i s.heap->SI i s.heap -> (∀ h' tk,SI n h'->(∀ b o,b∉wr->b≠S->s.heap.get? b=some o->h'.get? b=some o)->R (.ok (.ret .none)) { s with heap:=h',toks:=tk }) ->
   vx (aS prog w) A (.builtin "set.update.loop" ⟨[.ref S,.ref I],[]⟩) R s:=by
 have hSw:S∉wr:=λh=>IY (W.sub _ h);intro k
 induction k with
 |zero =>
  intro i s hk hi kR hS hR;have oj:i=n:=by lia
  subst oj;refine FL F.entry_set_update_loop ?_;rw[Around.under_plainId F.plain_set_update_loop _];show aT _ A.in1 (pyNext (.ref I) >>= _) _ _ s;refine ay (W.done s _ _ kR λh' tk oa=>?_);show aT _ A.in1 (ret Value.none) _ _ _;exact bI (hR h' tk (keep _ _ _ hS oa) λb o hb _ e=>oa b o hb e)
 |succ k ih =>
  intro i s hk hi kR hS hR;have gp:i<n:=by lia
  refine FL F.entry_set_update_loop ?_;rw[Around.under_plainId F.plain_set_update_loop _];show aT _ A.in1 (pyNext (.ref I) >>= _) _ _ s;refine ay (W.item i s _ _ gp kR λv h' tk hP fG' oa=>?_);show aT _ A.in1 (holding [v] (setAdd S v) >>= _) _ _ _;refine ay (xl (step i v _ _ _ hP (keep _ _ _ hS oa) λb h2 tk2 sb hS2=>?_));refine bI ⟨plainId_quiet F.plain_set_update_loop _,ih (i+1) _ (by lia) gp (W.frame _ _ _ fG' λb hb o e=>?_) hS2 λh3 tk3 hS3 IG=>?_⟩
  ·exact sb.extBut b o (λz=>IY (by rw[<- z];exact hb)) e
  ·exact hR h3 tk3 hS3 λb o hb Oz e=>IG b o hb Oz (sb.extBut b o Oz (oa b o hb e))
end
section
variable {prog:dz}{w:dA}{A:eJ}{E:ah->aE->Prop}{s:aE}
theorem w6(a:ah)(h:Q₁ (.ref s.heap.objs.size) { s with heap:=s.heap.push { cls:=.type "set",dict:=none,data:=.set #[] 0 (.fresh 0 0 (!w.params.followText "set-order")) } }) :
  vx (aS prog w) A (.call (.builtin "set.__new__") ⟨[.type "set",a],[]⟩) (wants Q₁ E) s:=by
 refine codeAny_of_tree ?_;show aT _ A.in1 (do checkBuiltinCall "set.__new__" ⟨[.type "set",a],[]⟩;again (.builtin "set.__new__" ⟨[.type "set",a],[]⟩)) _ _ s;refine ay (wpAny_of_eq (F.newCall_set_1 a) (bI ⟨plainId_quiet F.plain_set_new _,FL F.entry_set_new ?_⟩));rw[Around.under_plainId F.plain_set_new _];unfold Builtin.«set.__new__» Builtin.Frozenset.newClass;have IZ:=sub_set_self;obtain⟨hp,g,d,tk,os⟩:=s;dsimp only
 wp_walk
 refine KP (bI ?_);dsimp only;simp only[newObj];refine ay (wpAny_alloc (bI ?_));exact bI h
theorem iw(hh:A.handled=none)(hl:s.heap.IsList l items)(SI:Nat->cS->Prop)(h0:∀ h,h.get? s.heap.objs.size=some { cls:=.type "set",dict:=none,data:=.set #[] 0 (.fresh 0 0 (!w.params.followText "set-order")) }->(∀ b o,s.heap.get? b=some o->h.get? b=some o)->SI 0 h) (keep:∀ i h h',SI i h->(∀ b o,b<=s.heap.objs.size->h.get? b=some o->h'.get? b=some o)->SI i h') (step:∀ (i:Nat) (v:ah) (s':aE) (E':ah->aE->Prop) (Q:Bool->aE->Prop),items[i]? = some v->SI i s'.heap->(∀ b h' tk,Heap.SameBut s.heap.objs.size s'.heap h'->SI (i+1) h'->Q b { s' with heap:=h',toks:=tk }) ->
   aT (aS prog w) A.in1.in1.in1 (setAdd s.heap.objs.size v) Q E' s')
  (h:∀ (h':cS) (tk:Nat),SI items.size h'->(∀ b o,b<s.heap.objs.size->s.heap.get? b=some o->h'.get? b=some o)->Q (.ref s.heap.objs.size) { s with heap:=h',toks:=tk }) :
  aT (aS prog w) A (call (.type "set") [.ref l]) Q E s:=by
 obtain⟨c,tl,ld'⟩:=F.called_set.mro;have le':=F.called_set.made;have IZ:=F.called_set.sub;refine wpAny_call (codeAny_of_tree ?_);show aT _ _ (callAny (.type "set") _) _ _ _;refine bI ⟨Code.quiet_builtin _ (by decide +kernel),FL F.entry_type_call ?_⟩;rw[Around.under_plain (weight_type_call_type "set" [.ref l] []) rfl];have h1:=F.called_set.notType;have h2:=F.called_set.canCreate;have hct:=F.typeCall_set_1 (.ref l);repeat (any_goals (first|assumption|wp_step))
 refine codeAny_mono (w6 (.ref l) (E:=E) (Q₁:=λobj fm=>obj=.ref s.heap.objs.size/\fm={ s with heap:=s.heap.push { cls:=.type "set",dict:=none,data:=.set #[] 0 (.fresh 0 0 (!w.params.followText "set-order")) } }) ⟨rfl,rfl⟩) λr fm hr=>?_
 cases r with
 |error e=>exact hr
 |ok fl =>
  cases fl with
  |ret obj =>
   obtain⟨rfl,rfl⟩:=hr;generalize lg':(!w.params.followText "set-order")=led at h0 ⊢;have hS:(s.heap.push { cls:=.type "set",dict:=none,data:=.set #[] 0 (.fresh 0 0 led) }).get? s.heap.objs.size=some { cls:=.type "set",dict:=none,data:=.set #[] 0 (.fresh 0 0 led) }:=kF _ rfl;have hT:Shared.TypeIs { s with heap:=s.heap.push { cls:=.type "set",dict:=none,data:=.set #[] 0 (.fresh 0 0 led) } } (.ref s.heap.objs.size) "set" := ⟨_,hS,rfl⟩
   have hli:=F.called_set.init.lookup;have hbi:=F.called_set.init.bind (.ref s.heap.objs.size);repeat (any_goals (first|assumption|wp_step))
   refine codeAny_mono (codeAny_call_builtin (R:=wants (λr AZ=>r=.none/\∃ h' tk,AZ={ s with heap:=h',toks:=tk }/\SI items.size h' /\ (∀ b o,b<s.heap.objs.size->s.heap.get? b=some o->h'.get? b=some o)) E) F.called_set.init.plain F.entry_set_init (check_set_init_1 hT ?_)) λfK' AZ Uc=>?_
   ·obtain⟨ol,ZQ,lP,nl,ZR⟩:=hl;obtain⟨lj',fL',lk',fM'⟩:=ol;simp only at lP ZR;subst lP;subst ZR;have fN':(s.heap.push { cls:=.type "set",dict:=none,data:=.set #[] 0 (.fresh 0 0 led) }).get? l=some { cls:=.type "list",dict:=fL',data:=.seq items nl,slots:=fM' }:=fI _ ZQ;have ll':=F.sub_list_set;have lm':=F.sub_list_frozenset;have kz:(Value.type "list" == Value.type "dict")=false:=by decide
    have Mj:(s.heap.push { cls:=.type "set",dict:=none,data:=.set #[] 0 (.fresh 0 0 led) }).IsList l items:=⟨_,fN',rfl,nl,rfl⟩
    unfold Builtin.«set.__init__» noKeywords Builtin.Frozenset.updateFrom;generalize hPI:pyIter=PI
    wp_walk
    subst hPI;refine wpAny_pyIter_list Mj ?_;refine ay (wpAny_runValue ?_);have ZS:l<s.heap.objs.size:=eS ZQ;have hh3:A.in1.in1.in1.handled=none:=by simp[hh]
    have hsz:(s.heap.push { cls:=.type "set",dict:=none,data:=.set #[] 0 (.fresh 0 0 led) }).objs.size=s.heap.objs.size+1:=Heap.size_push ..;have fQ':l≠(s.heap.push { cls:=.type "set",dict:=none,data:=.set #[] 0 (.fresh 0 0 led) }).objs.size:=by rw[hsz];exact gV (AH ZS)
    have IY:s.heap.objs.size∉[(s.heap.push { cls:=.type "set",dict:=none,data:=.set #[] 0 (.fresh 0 0 led) }).objs.size,l]:=by rw[hsz];simp only[eM,rV,FX,or_false,not_or];exact⟨gV (Nat.lt_succ_self _),Pq ZS⟩
    refine xX (Walks.list hh3 _ l fQ' items) s.heap.objs.size IY SI (λi h h' hi hk=>keep i h h' hi λb o hb e=>hk b o ?_ e) (λi v s' E' Q' hP hi hq=>step i v s' E' Q' hP hi hq) (items.size-0) 0 _ (by lia) (eW _) ⟨⟨_,kF _ rfl,rfl,rfl⟩,(Mj.push _)⟩ ?hS0 ?hR
    ·rw[hsz];simp only[eM,FX,or_false];exact gV (EB hb)
    case hS0 =>
     exact h0 _ (fI _ hS) λb o e=>fI _ (fI _ e)
    case hR =>
     intro h' DU OB oa;show aT _ _ _ _ _ _;refine bI ?_;show aT _ _ (ret Value.none) _ _ _;refine bI ⟨rfl,h',DU,rfl,OB,λb o hb e=>?_⟩;refine oa b o ?_ (gV hb) (fI _ (fI _ e));rw[hsz];simp only[eM,FX,or_false];exact gV (AH hb)
   ·cases fK' with
    |error e=>exact Uc
    |ok fS' =>
     cases fS' with
     |ret r =>
      obtain⟨rfl,h',tk,rfl,OB,oa⟩:=Uc;repeat (any_goals (first|assumption|wp_step))
      exact h _ _ OB oa
     |_=>exact Uc.elim
  |_=>exact hr.elim
end
theorem oX:Manifest.owners.lookup (String.ofList ['r','o','t','a','r','e','t','i','_','t','e','s'].reverse)=some Manifest.sig_set_iterator:=by kernel_rfl
theorem aZ:Slot "set_iterator" "__next__" "set_iterator.__next__" :=
 .of (owner := "set_iterator") (n := "__next__") (by rw[typeLookup_type,builtinLookup_eq_fast];kernel_rfl) (by decide +kernel) (by decide +kernel) (by decide +kernel) (by first|exact .inl (by decide +kernel)|exact .inr (by decide +kernel)) (by rw[isSubtype_type];kernel_rfl)
theorem j7:entryFor table "set_iterator.__next__" = some Builtin.«set_iterator.__next__» := entryFor_of_tree (by kernel_rfl)
theorem nu (a:ah):argsOk "set_iterator.__next__" ⟨[a],[]⟩:=by unfold argsOk;rw[signature?_of (id := "set_iterator.__next__") (n:=['_','_','t','x','e','n','_','_']) (o:=['r','o','t','a','r','e','t','i','_','t','e','s']) (by kernel_rfl) oX];kernel_rfl
theorem gG:Slot "set_iterator" "__iter__" "set_iterator.__iter__" :=
 .of (owner := "set_iterator") (n := "__iter__") (by rw[typeLookup_type,builtinLookup_eq_fast];kernel_rfl) (by decide +kernel) (by decide +kernel) (by decide +kernel) (by first|exact .inl (by decide +kernel)|exact .inr (by decide +kernel)) (by rw[isSubtype_type];kernel_rfl)
theorem j_:entryFor table "set.__iter__" = some Builtin.«frozenset.__iter__» :=
 entryFor_alias (id' := "frozenset.__iter__") (by kernel_rfl) rfl (by decide +kernel) (by kernel_rfl)
theorem gJ{α:Type}:∀ (l:List α) (i:Nat) (h:i<l.length),(l[i] :: l.eraseIdx i).Perm l
 |x :: l,0,_=>.refl _
 |x :: l,i+1,h=>by have ih:=gJ l i (by simpa using h);exact(List.Perm.swap _ _ _).trans (ih.cons x)
theorem uP{α:Type}(next:Nat->Nat):∀ (fuel k:Nat) (left:List α) (out:Array α),left.length=fuel->(pickOrder.go next fuel k left out).toList.Perm (out.toList++left)
 |0,k,left,out,h=>by have:left=[]:=O8.mp h;subst this;unfold pickOrder.go;rw[kE]
 |fuel+1,k,left,out,h=>by unfold pickOrder.go;have gp:next k % left.length<left.length:=LP _ (by lia);rw[uj gp];dsimp only;refine(uP next fuel (k+1) _ _ (by rw[List.length_eraseIdx];split<;>lia)).trans ?_;rw[pd,AB];refine List.Perm.append_left _ ?_;exact gJ _ _ gp
theorem jl{α:Type}(next:Nat->Nat)(xs:Array α):(pickOrder next xs).toList.Perm xs.toList:=by unfold pickOrder;have:=uP next xs.size 0 xs.toList #[] (by simp);simpa using this
section
variable {prog:dz}{w:dA}{A:eJ}{E:ah->aE->Prop}{s:aE}
theorem n_(hn:n≠0)(h:∀ i d,i<n->Q i { s with drawn:=d }):aT M A (choose src n) Q E s:=λΓ p _=>⟨hn,h _ _ (LP _ (Nat.pos_of_ne_zero hn))⟩
theorem BR{α:Type}(n:Nat):∀ (xs:List α) (s:aE) (Q:List α->aE->Prop),xs.length=n->(∀ ys d,ys.Perm xs->Q ys { s with drawn:=d })->aT (aS prog w) A (drawOrder n xs) Q E s:=by
 induction n with
 |zero =>intro xs s Q h q;have:xs=[]:=O8.mp h;subst this;unfold drawOrder;exact bI (q [] s.drawn (.refl _))
 |succ n ih =>
  intro xs s Q h q
  cases xs with
  |nil=>cases h
  |cons x xs =>unfold drawOrder;refine ay (n_ (by simp) λi d hi=>?_);rw[uj hi];dsimp only;refine ay (ih _ _ _ (by rw[List.length_eraseIdx,if_pos hi];simp at h ⊢;lia) λys d' py=>?_);refine bI ?_;exact q _ d' ((py.cons _).trans (gJ _ _ hi))
def sM(h:cS)(I:ag)(first:ah)(i:Nat)(a:ag)(n ep:Nat):Prop :=
 h.get? I=some { cls:=.type "set_iterator",dict:=none,data:=.fields #[first,.int i 0,.ref a,.int n 0,.int ep 0],slots:=#[] }
def BF(h:cS)(a:ag)(es:Array (Int × ah))(ep:Nat)(t:SetTable):Prop:=∃ o,h.get? a=some o/\o.data=.set es ep t
variable {a I:ag}{es:Array (Int × ah)}{ep:Nat}{t:SetTable}{first:ah}{i n:Nat}
theorem sM.typeIs (h:sM s.heap I first i a n ep):s.TypeIs (.ref I) "set_iterator" := ⟨_,h,rfl⟩
theorem wA(hit:sM s.heap I first i a n ep)(h:aT (aS prog w) A.in1 (Builtin.«set_iterator.__next__» ⟨[.ref I],[]⟩) (λfin s'=>∃ v,fin=.done (.ret v)/\Q (some v) s') (λe s'=>aT (aS prog w) A (isInstance e (.type "StopIteration")) (λb ER=>b=true/\Q none ER) E s') s) :
  aT (aS prog w) A (pyNext (.ref I)) Q E s:=by
 unfold pyNext;refine ay (wpAny_attempt (MR (name:=Str.ofString "__next__") hit.typeIs aZ (D5 aZ hit.typeIs j7 ?_ (nu _))))
 refine oD h (λfin s' ⟨v,e,q⟩=>⟨v,e,bI q⟩) λe s' q=>?_;refine ay (oD q (λb ER d5=>?_) λ_ _ x=>x);obtain⟨e,q⟩:=d5;subst e;rw[if_pos rfl];exact bI q
theorem uE{P:Fin->aE->Prop}{Q:Option ah->aE->Prop}(hh:A.handled=none)(hQ:∀ h',(∀ b o,s.heap.get? b=some o->h'.get? b=some o)->Q none { s with heap:=h' }) :
  aT (aS prog w) A.in1 (newExc (.type "StopIteration") [] >>= λe=>raiseNew e) P (λe s'=>aT (aS prog w) A (isInstance e (.type "StopIteration")) (λb ER=>b=true/\Q none ER) E s') s:=by
 refine ay ?_;simp only[newExc,newTuple];refine ay (rS ?_ (by size_fits));refine ay (m:=firstArgMember _ _) (wpAny_of_eq (a:=Value.none) (by first|rfl|(simp only[firstArgMember];rfl)) ?_);refine rS ?_ (by size_fits);simp only[raiseNew];refine ay (wpAny_handled ?_);rw[show A.in1.handled=none from hh];refine ay (bI (wpAny_throw ?_));refine wpAny_isInstance (T := "StopIteration") (b:=true) ⟨_,kF _ rfl,rfl⟩ isSubtype_stop ⟨rfl,?_⟩;exact hQ _ λb o e=>fI _ (fI _ e)
theorem gq{Q:Option ah->aE->Prop}{slot:Nat}{r:Option (ah × Nat)}(hh:A.handled=none)(kz:a≠I)(hit:sM s.heap I (.int slot 0) i a es.size ep)(BG:BF s.heap a es ep t)(hf:t.fits es.size=true)(hr:∀ (A':eJ) (E':ah->aE->Prop) (Q':Option (ah × Nat)->aE->Prop),Q' r s->aT (aS prog w) A' (setNext a slot i ep) Q' E' s)(h1:∀ x nx h',r=some (x,nx)->sM h' I (.int nx 0) (i+1) a es.size ep->Heap.SameBut I s.heap h'->Q (some x) { s with heap:=h' }) (h2:∀ h',r=none->(∀ b o,b≠I->s.heap.get? b=some o->h'.get? b=some o)->Q none { s with heap:=h' }) :
  aT (aS prog w) A (pyNext (.ref I)) Q E s:=by
 obtain⟨o,ho,hd⟩:=BG;refine wA hit ?_;unfold Builtin.«set_iterator.__next__»;refine ay (m:=slotArgs "__next__" 0 ⟨[.ref I],[]⟩) (wpAny_of_eq (a:=(.ref I,[])) rfl ?_);dsimp only;refine ay (wpAny_fieldsOf hit rfl ?_);dsimp only;refine ay (wpAny_setEntries_of ho hd hf ?_);rw[if_neg (by simp)];simp only[Nk];refine ay (hr _ _ _ ?_)
 cases r with
 |some p =>obtain⟨x,nx⟩:=p;dsimp only;refine ay (KG hit (by simp) λg1 e1 vt=>?_);refine ay (KG (s:={ s with heap:=g1 }) e1 (by simp) λg2 e2 Fm=>?_);exact bI ⟨x,rfl,h1 x nx g2 rfl (by unfold sM;simpa[j2] using e2) (vt.trans Fm)⟩
 |none =>dsimp only;refine ay (KG hit (by simp) λg1 e1 vt=>?_);exact uE (s:={ s with heap:=g1 }) hh λh' k=>h2 h' rfl λb o hb e=>k b o (vt.extBut b o hb e)
theorem lC{Q:Option ah->aE->Prop}{T:ag}{ix:List Nat}{oT:Obj}{kT:Nat}(hh:A.handled=none)(hit:sM s.heap I (.ref T) i a es.size ep)(BG:BF s.heap a es ep t)(hf:t.fits es.size=true)(hT:s.heap.get? T=some oT) (hTd:oT.data=.seq (ix.map λ(k:Nat)=>Value.int k 0).toArray kT)(h1:∀ k e h',ix[i]? = some k->es[k]? = some e->sM h' I (.ref T) (i+1) a es.size ep->Heap.SameBut I s.heap h'->Q (some e.2) { s with heap:=h' }) (IB:∀ k∈ix,k<es.size) (h2:∀ h',ix[i]? = none->(∀ b o,b≠I->s.heap.get? b=some o->h'.get? b=some o)->Q none { s with heap:=h' }) :
  aT (aS prog w) A (pyNext (.ref I)) Q E s:=by
 obtain⟨o,ho,hd⟩:=BG;refine wA hit ?_;unfold Builtin.«set_iterator.__next__»;refine ay (m:=slotArgs "__next__" 0 ⟨[.ref I],[]⟩) (wpAny_of_eq (a:=(.ref I,[])) rfl ?_);dsimp only;refine ay (wpAny_fieldsOf hit rfl ?_);dsimp only;refine ay (wpAny_setEntries_of ho hd hf ?_);rw[if_neg (by simp)];refine ay (wpAny_seqItems hT hTd ?_);dsimp only;simp only[Nk,List.getElem?_toArray,qa]
 cases hk:ix[i]? with
 |some k =>dsimp only[Option.map];have Mx:=IB k (vE hk);refine ay ?_;unfold setNextDrawn;refine ay (yi ho hd hf ?_);dsimp only;simp only[Nk];rw[if_neg (by simp),AJ Mx];refine bI ?_;refine ay (KG hit (by simp) λg1 e1 vt=>?_);exact bI ⟨_,rfl,h1 k es[k] g1 hk (AJ Mx) (by unfold sM;simpa[j2] using e1) vt⟩
 |none =>dsimp only[Option.map];refine ay (KG hit (by simp) λg1 e1 vt=>?_);refine ay (KG (s:={ s with heap:=g1 }) e1 (by simp) λg2 e2 Fm=>?_);exact uE (s:={ s with heap:=g2 }) hh λh' k=>h2 h' hk λb o hb e=>k b o ((vt.trans Fm).extBut b o hb e)
theorem lK (a:ah):argsOk "set_iterator.__iter__" ⟨[a],[]⟩:=by unfold argsOk;rw[signature?_of (id := "set_iterator.__iter__") (n:=['_','_','r','e','t','i','_','_']) (o:=['r','o','t','a','r','e','t','i','_','t','e','s']) (by kernel_rfl) oX];kernel_rfl
theorem j9:entryFor table "set_iterator.__iter__" = some Builtin.«dict_keyiterator.__iter__» :=
 entryFor_alias (id' := "dict_keyiterator.__iter__") (by kernel_rfl) rfl (by decide +kernel) (by kernel_rfl)
theorem jO(hit:sM s.heap I first i a n ep)(h:Q (.ref I) s):aT (aS prog w) A (pyIter (.ref I)) Q E s:=by refine wpAny_pyIter_slot hit.typeIs gG (D5 gG hit.typeIs j9 ?_ (lK _));show aT _ _ (ret (.ref I)) _ _ s;exact bI ⟨_,rfl, "set_iterator",_,hit.typeIs,aZ.lookup,h⟩
theorem nU {slot:Nat} {Q:Option (ah × Nat)->aE->Prop} (hb:w.params.followText "set-order" = true) (BG:BF s.heap a es ep t) (hf:t.fits es.size=true)(h:Q (((pickOrder (w.params.setOrder a ep) es)[i]?).map λe=>(e.2,slot)) s):aT (aS prog w) A (setNext a slot i ep) Q E s:=by
 obtain⟨o,ho,hd⟩:=BG;unfold setNext;refine ay (yi ho hd hf ?_);dsimp only;unfold setsByText;refine ay (ay (KP (bI ?_)));dsimp only;rw[if_pos (by exact hb),if_neg (by simp)];refine ay ?_;unfold setWalk;refine ay (yi ho hd hf ?_);dsimp only;unfold setsByText;refine ay (ay (KP (bI ?_)));dsimp only;rw[if_pos (by exact hb)];refine ay (KP (bI ?_));exact bI h
theorem lG {slot:Nat} {Q:Option (ah × Nat)->aE->Prop} (hb:w.params.followText "set-order" = false) (hl:t.led=true) (My:(!t.plain && decide (es.size>1))=false) (BG:BF s.heap a es ep t) (hf:t.fits es.size=true)(h:Q (match es[below t.place slot]?,t.place[below t.place slot]? with
  |some (_,x),some j=>some (x,j+1)
  |_,_=>none) s):aT (aS prog w) A (setNext a slot i ep) Q E s:=by
 obtain⟨o,ho,hd⟩:=BG;unfold setNext;refine ay (yi ho hd hf ?_);dsimp only;unfold setsByText;refine ay (ay (KP (bI ?_)));dsimp only;rw[if_neg (by rw[show(aS prog w).w.params.followText "set-order" = false from hb];exact kg)];have e0:mj es t=(!t.plain && decide (es.size>1)):=rfl;unfold mj at e0;rw[e0,My,if_neg kg];refine ay (m:=G7 es t) ?_;show aT _ _ (if (!t.led && !es.isEmpty)=true then unsupported "set:maker-not-led" else pure ()) _ _ s;rw[if_neg (by rw[hl];simp)];exact bI (bI h)
def PV(ys:List (Int × ah))(i:Nat)(v:ah):Prop:=∃ e,ys[i]? = some e/\v=e.2
theorem sM.keep(x:sM h I first i a n ep)(e:∀ o,h.get? I=some o->h'.get? I=some o):sM h' I first i a n ep:=e _ x
theorem BF.keep(x:BF h a es ep t)(e:∀ o,h.get? a=some o->h'.get? a=some o):BF h' a es ep t:=let ⟨o,ho,r⟩:=x;⟨o,e _ ho,r⟩
theorem uB (hh:A.handled=none) (kz:a≠I) (hb:w.params.followText "set-order" = true) (hf:t.fits es.size=true) :
  Walks prog w A I [I,a] [I] es.size (PV (pickOrder (w.params.setOrder a ep) es).toList) (λi h=>(∃ slot:Nat,sM h I (.int slot 0) i a es.size ep)/\BF h a es ep t) where
 sub:=λb hb=>by simp at hb;simp[hb]
 frame:=λ_ _ _ ⟨⟨sl,x⟩,y⟩ hk=>⟨⟨sl,x.keep λo e=>hk I (by simp) o e⟩,y.keep λo e=>hk a (by simp) o e⟩
 item:=λi s Q E hi ⟨⟨sl,x⟩,y⟩ hQ=>by
  have hlen:(pickOrder (w.params.setOrder a ep) es).size=es.size:=by have:=(jl (w.params.setOrder a ep) es).length_eq;simpa using this
  refine gq hh kz x y hf (r:=((pickOrder (w.params.setOrder a ep) es)[i]?).map λe=>(e.2,sl)) (λA' E' Q' q=>nU hb y hf q) (λv nx h' e x' sb=>?_) λh' e k=>?_
  ·rw[AJ (by lia)] at e;cases e;exact hQ _ h' s.toks ⟨_,by rw[oS];exact AJ (by lia),rfl⟩ ⟨⟨_,x'⟩,y.keep λo e=>sb.extBut _ _ kz e⟩ λb o hb e=>sb.extBut b o (λh=>hb (by simp[h])) e
  ·rw[AJ (by lia)] at e;cases e
 done:=λs Q E ⟨⟨sl,x⟩,y⟩ hQ=>by
  have hlen:(pickOrder (w.params.setOrder a ep) es).size=es.size:=by have:=(jl (w.params.setOrder a ep) es).length_eq;simpa using this
  refine gq hh kz x y hf (r:=((pickOrder (w.params.setOrder a ep) es)[es.size]?).map λe=>(e.2,sl)) (λA' E' Q' q=>nU hb y hf q) (λv nx h' e x' sb=>?_) λh' e k=>?_
  ·rw[LR (by lia)] at e;cases e
  ·exact hQ h' s.toks λb o hb e=>k b o (λh=>hb (by simp[h])) e
 self:=λ_ _ _ _ ⟨⟨sl,x⟩,y⟩ hQ=>jO x hQ
def slotAt(t:SetTable):Nat->Nat
 |0=>0
 |i+1=>t.place.getD i 0+1
theorem gZ(U:Up t.place)(h:i<=t.place.size):below t.place (slotAt t i)=i:=by
 cases i with
 |zero =>
  obtain⟨_,b,_⟩:=aL U 0;by_cases z:below t.place 0=0
  ·exact z
  ·exact absurd (b 0 (Nat.pos_of_ne_zero z)) (GB _)
 |succ i=>exact uc U (by lia)
theorem uo (hh:A.handled=none) (kz:a≠I) (hb:w.params.followText "set-order" = false) (hl:t.led=true) (My:(!t.plain && decide (es.size>1))=false) (U:Up t.place) (hz:t.place.size=es.size) (hf:t.fits es.size=true) :
  Walks prog w A I [I,a] [I] es.size (PV es.toList) (λi h=>sM h I (.int (slotAt t i:Nat) 0) i a es.size ep/\BF h a es ep t) where
 sub:=λb hb=>by simp at hb;simp[hb]
 frame:=λ_ _ _ ⟨x,y⟩ hk=>⟨x.keep λo e=>hk I (by simp) o e,y.keep λo e=>hk a (by simp) o e⟩
 item:=λi s Q E hi ⟨x,y⟩ hQ=>by
  have Fh:=gZ (t:=t) U (i:=i) (by lia);have e1:es[below t.place (slotAt t i)]? = some es[i]:=by rw[Fh];exact AJ hi
  have e2:t.place[below t.place (slotAt t i)]? = some (t.place.getD i 0):=by rw[Fh];exact vD (by lia)
  refine gq hh kz x y hf (r:=some (es[i].2,t.place.getD i 0+1)) (λA' E' Q' q=>lG hb hl My y hf (by rw[e1,e2];exact q)) (λv nx h' e x' sb=>?_) λh' e k=>nomatch e;cases e;exact hQ _ h' s.toks ⟨_,by rw[oS];exact AJ hi,rfl⟩ ⟨x',y.keep λo e=>sb.extBut _ _ kz e⟩ λb o hb e=>sb.extBut b o (λh=>hb (by simp[h])) e
 done:=λs Q E ⟨x,y⟩ hQ=>by
  have Fh:=gZ (t:=t) U (i:=es.size) (by lia);have e1:es[below t.place (slotAt t es.size)]? = none:=by rw[Fh];exact LR (de _)
  refine gq hh kz x y hf (r:=none) (λA' E' Q' q=>lG hb hl My y hf (by rw[e1];exact q)) (λv nx h' e x' sb=>nomatch e) λh' e k=>?_;exact hQ h' s.toks λb o hb e=>k b o (λh=>hb (by simp[h])) e
 self:=λ_ _ _ _ ⟨x,y⟩ hQ=>jO x hQ
theorem t_{T:ag}{ix:List Nat}{kT:Nat}(hh:A.handled=none)(kz:a≠I)(hTI:T≠I)(hf:t.fits es.size=true)(hp:ix.Perm (List.range es.size)) :
  Walks prog w A I [I,a,T] [I] es.size (PV (ix.filterMap λk=>es[k]?)) (λi h=>sM h I (.ref T) i a es.size ep/\BF h a es ep t/\∃ o,h.get? T=some o/\o.data=.seq (ix.map λ(k:Nat)=>Value.int k 0).toArray kT):=by
 have hlen:ix.length=es.size:=by simpa using hp.length_eq
 have IB:∀ k∈ix,k<es.size:=λk hk=>rX.mp (hp.mem_iff.mp hk);obtain⟨f1,f2⟩:=rC (l:=ix) (f:=λk=>es[k]?) λk hk=>by simp[IB k hk]
 exact {
  sub:=λb hb=>by simp at hb;simp[hb]
  frame:=λ_ _ _ ⟨x,y,o,z,zd⟩ hk=>⟨x.keep λo e=>hk I (by simp) o e,y.keep λo e=>hk a (by simp) o e,o,hk T (by simp) o z,zd⟩
  item:=λi s Q E hi ⟨x,y,o,z,zd⟩ hQ=>by
   refine lC hh x y hf z zd (λk e h' e1 e2 x' sb=>?_) IB λh' e k=>?_
   ·refine hQ _ h' s.toks ⟨e,by rw[f2,e1];exact e2,rfl⟩ ⟨x',y.keep λo e=>sb.extBut _ _ kz e,o,sb.extBut _ _ hTI z,zd⟩ λb o hb e=>sb.extBut b o (λh=>hb (by simp[h])) e
   ·rw[uj (by lia)] at e;cases e
  done:=λs Q E ⟨x,y,o,z,zd⟩ hQ=>by
   refine lC hh x y hf z zd (λk e h' e1 e2 x' sb=>?_) IB λh' e k=>?_
   ·rw[D9 (by lia)] at e1;cases e1
   ·exact hQ h' s.toks λb o hb e=>k b o (λh=>hb (by simp[h])) e
  self:=λ_ _ _ _ ⟨x,_⟩ hQ=>jO x hQ }
end
section
variable {prog:dz}{w:dA}{A:eJ}{E:ah->aE->Prop}{s:aE}{a:ag}{o:Obj}{es:Array (Int × ah)}{ep:Nat}{t:SetTable}
theorem xK (hh:A.handled=none) (ho:s.heap.get? a=some o) (hex:o.ExactSet) (hd:o.data=.set es ep t) (hf:t.fits es.size=true) (U:Up t.place) (hz:t.place.size=es.size) (hl:t.led=(!w.params.followText "set-order")) (hn:es.size<=bX)(h:∀ (I:ag) (h2:cS) d (fp:List ag) (St:Nat->cS->Prop) (ys:List (Int × ah)),(∀ b o,s.heap.get? b=some o->h2.get? b=some o)->s.heap.objs.size<=I->(∀ b∈fp,b=a\/s.heap.objs.size<=b)->ys.Perm es.toList ->
   Walks prog w A I fp [I] es.size (PV ys) St->St 0 h2->Q (.ref I) { s with heap:=h2,drawn:=d }):aT (aS prog w) A (pyIter (.ref a)) Q E s:=by
 have hT:s.TypeIs (.ref a) "set" := ⟨o,ho,hex.1⟩
 have gp:a<s.heap.objs.size:=eS ho;refine wpAny_pyIter_slot hT F.slot_set_iter (D5 F.slot_set_iter hT j_ ?_ (F.args_set_iter_1 _));unfold Builtin.«frozenset.__iter__»;refine ay (m:=Builtin.Frozenset.slot0 "__iter__" ⟨[.ref a],[]⟩) (wpAny_of_eq (a:=a) rfl ?_);refine ay ?_;unfold Builtin.Frozenset.sizeOf;refine ay (wpAny_setEntries_of ho hd hf (bI ?_));refine ay ?_;unfold setDrawn;refine ay (yi ho hd hf ?_);dsimp only;unfold setsByText;refine ay (ay (KP (bI ?_)));refine bI ?_;have e0:mj es t=(!t.plain && decide (es.size>1)):=rfl;unfold mj at e0;rw[e0];show aT _ _ (if (!w.params.followText "set-order" && (!t.plain && decide (es.size>1)))=true then _ else _) _ _ s
 cases hb:w.params.followText "set-order" with
 |true =>
  rw[if_neg (by simp)];refine ay (bI ?_);refine ay (wpAny_setEpoch_of ho hd hf ?_);refine ay (rS ?_);refine bI ⟨_,rfl, "set_iterator",_,⟨_,kF _ rfl,rfl⟩,aZ.lookup,?_⟩;have nI:(s.heap.push { cls:=.type "set_iterator",data:=.fields #[j2 0,j2 0,.ref a,j2 es.size,j2 ep] }).get? a=some o:=fI _ ho;exact h s.heap.objs.size _ s.drawn _ _ _ (λb o e=>fI _ e) (de _) (λb hb=>by
   rcases eM.mp hb with rfl|hb
   ·exact .inr (de _)
   ·exact .inl (rV.mp hb)) (jl _ _) (uB (ep:=ep) hh (gV gp) hb hf) ⟨⟨0,kF _ rfl⟩,o,nI,hd⟩
 |false =>
  cases My:(!t.plain && decide (es.size>1)) with
  |false =>
   rw[if_neg (by simp)];refine ay (bI ?_);refine ay (wpAny_setEpoch_of ho hd hf ?_);refine ay (rS ?_);refine bI ⟨_,rfl, "set_iterator",_,⟨_,kF _ rfl,rfl⟩,aZ.lookup,?_⟩;have nI:(s.heap.push { cls:=.type "set_iterator",data:=.fields #[j2 0,j2 0,.ref a,j2 es.size,j2 ep] }).get? a=some o:=fI _ ho;exact h s.heap.objs.size _ s.drawn _ _ _ (λb o e=>fI _ e) (de _) (λb hb=>by
    rcases eM.mp hb with rfl|hb
    ·exact .inr (de _)
    ·exact .inl (rV.mp hb)) (.refl _) (uo (ep:=ep) hh (gV gp) hb (by rw[hl,hb];rfl) My U hz hf) ⟨kF _ rfl,o,nI,hd⟩
  |true =>
   rw[if_pos (by simp)];refine ay (BR es.size (List.range es.size) s _ (by simp) λix d hp=>?_);refine ay (rS ?_ ?hzz);case hzz =>
    have:=hp.length_eq;rw[Lz] at this;show(ix.map λ(i:Nat)=>j2 i).toArray.size<=bX;rw[iA,dn,this];exact hn
   have vj:(s.heap.push { cls:=.type "tuple",data:=.seq (ix.map λ(i:Nat)=>j2 i).toArray }).get? a=some o:=fI _ ho;refine ay (wpAny_setEpoch_of vj hd hf ?_);refine ay (rS ?_);refine bI ⟨_,rfl, "set_iterator",_,⟨_,kF _ rfl,rfl⟩,aZ.lookup,?_⟩;have Q6:(s.heap.push { cls:=.type "tuple",data:=.seq (ix.map λ(i:Nat)=>j2 i).toArray }).objs.size=s.heap.objs.size+1:=Heap.size_push ..;refine h (s.heap.push { cls:=.type "tuple",data:=.seq (ix.map λ(i:Nat)=>j2 i).toArray }).objs.size _ d [(s.heap.push { cls:=.type "tuple",data:=.seq (ix.map λ(i:Nat)=>j2 i).toArray }).objs.size,a,s.heap.objs.size] _ (ix.filterMap λk=>es[k]?) (λb o e=>fI _ (fI _ e)) (by rw[Q6];exact Nat.le_succ _) (λb hb=>?_) ?_ (t_ (ep:=ep) (kT:=0) (T:=s.heap.objs.size) (ix:=ix) (t:=t) hh (by rw[Q6];exact gV (AH gp)) (by rw[Q6];exact gV (Nat.lt_succ_self _)) hf hp) ⟨kF _ rfl,⟨o,fI _ vj,hd⟩,_,fI _ (kF _ rfl),rfl⟩
   ·rcases eM.mp hb with rfl|hb
    ·exact .inr (by rw[Q6];exact Nat.le_succ _)
    ·rcases eM.mp hb with rfl|hb
     ·exact .inl rfl
     ·rw[rV.mp hb];exact .inr (de _)
   ·have:=hp.filterMap λk=>es[k]?;rw[sJ] at this;exact this
theorem xJ (hT:s.TypeIs (.ref a) "set") (h:Q false s):aT (aS prog w) A (Builtin.List.listLengthHint (.ref a)) Q E s:=by
 unfold Builtin.List.listLengthHint;refine ay (wpAny_specialOf hT PySem.F.slot_set_len.lookup ?_);generalize xh:("set.__len__" : String)=id0
 wp_delta
 rw[show splitId id0=some ("set", "__len__") from by subst xh;decide +kernel];subst xh;refine ay (wpAny_isInstance (T := "set") (b:=true) hT (by rw[isSubtype_type];kernel_rfl) ?_);refine wpAny_ite_split (λBD=>absurd BD (by decide)) (λ_=>?_);refine wpAny_ite_split (λ_=>?_) (λBD=>absurd (by decide +kernel) BD);refine ay (wpAny_typeOf hT ?_);exact bI h
theorem Bt {R:Result->aE->Prop} (hh:A.handled=none) (ho:s.heap.get? a=some o) (hex:o.ExactSet) (hd:o.data=.set es ep t) (hf:t.fits es.size=true) (U:Up t.place) (hz:t.place.size=es.size) (hl:t.led=(!w.params.followText "set-order")) (hn:es.size<=bX)(S:ag) (ZT:S≠a) (res:ah) (c₀:Nat) (hS:s.heap.get? S=some { cls:=.type "list",data:=.seq #[] c₀ }) (hR:∀ h' tk d DV c' ys,(∀ b o,b≠S->s.heap.get? b=some o->h'.get? b=some o)->h'.get? S=some { cls:=.type "list",dict:=none,data:=.seq DV c',slots:=#[] }->ys.Perm es.toList->ItemsOf (PV ys) DV es.size->R (.ok (.ret res)) { s with heap:=h',toks:=tk,drawn:=d }) :
  aT (aS prog w) A.in1 (Builtin.List.listExtendWith (.ref S) (.ref a) res) (λfin s'=>match fin with|.done f=>R (.ok f) s'|.again c'=>c'.quiet=true/\vx (aS prog w) A c' R s') (λe s'=>R (.error e) s') s:=by
 have hT:s.TypeIs (.ref a) "set" := ⟨o,ho,hex.1⟩
 have hSl:=eS hS;unfold Builtin.List.listExtendWith;refine ay (wpAny_typeOf hT ?_);have h1:Builtin.List.listSameRef (.ref S) (.ref a)=false:=by simp[Builtin.List.listSameRef,ZT]
 simp only[h1,show(Value.type "set" == Value.type "list")=false by decide,show(Value.type "set" == Value.type "tuple")=false by decide,Bool.or_false,hZ,if_false];refine ay (xK (A:=A.in1) hh ho hex hd hf U hz hl hn λI h2 d fp St ys kp hI hfp hp W st=>?_);have IY:S∉fp:=λhm=>by
  rcases hfp S hm with z|z
  ·exact ZT z
  ·exact absurd hSl (Nat.not_lt.mpr z)
 have key:∀ (h:cS) (c₁ tk:Nat),St 0 h->(∀ b o,b≠S->s.heap.get? b=some o->h.get? b=some o) ->
   h.get? S=some { cls:=.type "list",data:=.seq #[] c₁ }->vx (aS prog w) A (.builtin "list.extend.loop" ⟨[.ref S,.ref I,res],[]⟩) R { s with heap:=h,toks:=tk,drawn:=d }:=by
  intro h c₁ tk kR hk OD;refine codeAny_extend_loopS W.toS hn S IY res es.size 0 _ #[] c₁ rfl (eW _) kR OD (ItemsOf.nil _) λs' DV c' hm OB NZ=>?_;rw[Moved.eq_with hm];refine hR s'.heap s'.toks d DV c' ys (λb o hb e=>hm.heap b o (λN9=>?_) (hk b o hb e)) OB hp NZ;rcases eM.mp N9 with e'|N9
  ·exact hb e'
  ·exact absurd (eS e) (by rw[rV.mp N9];exact Nat.not_lt.mpr hI)
 have OD:h2.get? S=some { cls:=.type "list",data:=.seq #[] c₀ }:=kp _ _ hS;refine ay (xl (xJ (s:={ s with heap:=h2,drawn:=d }) ⟨o,kp _ _ ho,hex.1⟩ ?_));refine wpAny_ite_split (λ_=>?_) (λ_=>bI ⟨plainId_quiet PySem.F.plain_extend_loop _,key _ c₀ _ st (λb o _ e=>kp b o e) OD⟩);refine ay (D6 ?_);refine ay ?_;show aT _ _ (updateSeq S (·.push .none) >>= λ_=>updateSeq S (·.pop)) _ _ _;refine ay (wpAny_updateSeq OD rfl ?_);have ZU:=B8 (Obj.mapSeq (·.push Value.none)) OD rfl;refine wpAny_updateSeq (hz:=by seq_fits) ZU rfl ?_;have fZ':=B8 (Obj.mapSeq (·.pop)) ZU rfl;refine bI ⟨plainId_quiet PySem.F.plain_extend_loop _,key _ _ _ ?_ (λb o hb e=>?_) fZ'⟩
 ·refine W.frame 0 _ _ st λb hb o e=>?_;have Oz:b≠S:=λh=>IY (h ▸ hb);exact(B7 _ _ (Ne.symm Oz)).trans ((B7 _ _ (Ne.symm Oz)).trans e)
 ·exact(B7 _ _ (Ne.symm hb)).trans ((B7 _ _ (Ne.symm hb)).trans (kp _ _ e))
theorem tX(h:ItemsOf (PV ys) acc n)(hn:ys.length=n):acc.toList=ys.map (·.2):=by
 apply M7;intro i;rw[qa];by_cases hi:i<n
 ·have k9:i<acc.size:=by rw[h.1];exact hi
  have e1:acc[i]? = some acc[i]:=AJ k9;obtain⟨e,he,hv⟩:=h.2 i acc[i] e1;rw[oS,e1,he,hv];rfl
 ·rw[D9 (by rw[xv,h.1];lia),D9 (by lia)];rfl
theorem iY {R:Result->aE->Prop} (hh:A.handled=none) (ho:s.heap.get? a=some o) (hex:o.ExactSet) (hd:o.data=.set es ep t) (hf:t.fits es.size=true) (U:Up t.place) (hz:t.place.size=es.size) (hl:t.led=(!w.params.followText "set-order")) (hn:es.size<=bX)(hR:∀ h' tk d DV c' ys,(∀ b o,s.heap.get? b=some o->h'.get? b=some o)->h'.get? s.heap.objs.size=some { cls:=.type "list",dict:=none,data:=.seq DV c',slots:=#[] }->ys.Perm es.toList->ItemsOf (PV ys) DV es.size->R (.ok (.ret (.ref s.heap.objs.size))) { s with heap:=h',toks:=tk,drawn:=d }) :
  vx (aS prog w) A (.builtin "proto.collect" ⟨[.ref a],[]⟩) R s:=by
 have gp:a<s.heap.objs.size:=eS ho;have hS:(s.heap.push { cls:=.type "list",data:=.seq ([]:List ah).toArray }).get? s.heap.objs.size=some { cls:=.type "list",data:=.seq ([]:List ah).toArray }:=kF _ rfl;refine FL F.entry_proto_collect ?_;rw[Around.under_plainId F.plain_proto_collect _];show aT _ A.in1 (newList [] >>= λl=>again (.builtin "list.__iadd__" ⟨[l,.ref a],[]⟩)) _ _ s;refine ay (rS ?_);refine bI ⟨plainId_quiet F.plain_list_iadd _,FL F.entry_list_iadd ?_⟩;rw[Around.under_plainId F.plain_list_iadd _];show aT _ A.in1 (Builtin.List.listExtendWith (.ref s.heap.objs.size) (.ref a) (.ref s.heap.objs.size)) _ _ _;exact Bt (R:=R) (s:={ s with heap:=s.heap.push { cls:=.type "list",data:=.seq ([]:List ah).toArray } }) hh (fI _ ho) hex hd hf U hz hl hn s.heap.objs.size (Pq gp) _ 0 hS λh' tk d DV c' ys kp eo hp ia =>
  hR h' tk d DV c' ys (λb o e=>kp b o (gV (eS e)) (fI _ e)) eo hp ia
theorem jj (hh:A.handled=none) (ho:s.heap.get? a=some o) (hex:o.ExactSet) (hd:o.data=.set es ep t) (hf:t.fits es.size=true) (U:Up t.place) (hz:t.place.size=es.size) (hl:t.led=(!w.params.followText "set-order")) (hn:es.size<=bX)(hQ:∀ h' tk d vs,(∀ b o,s.heap.get? b=some o->h'.get? b=some o)->s.heap.objs.size<=h'.objs.size->vs.Perm (es.toList.map (·.2))->Q vs { s with heap:=h',toks:=tk,drawn:=d }):aT (aS prog w) A (collect (.ref a)) Q E s:=by
 unfold collect;refine ay (wpAny_runValue (iY hh ho hex hd hf U hz hl hn λh' tk d acc c ys kp eo hp ia=>?_));show aT _ A (load s.heap.objs.size >>= _) _ _ { s with heap:=h',toks:=tk,drawn:=d };refine ay (wpAny_load eo ?_);refine bI (hQ h' tk d _ kp (oP (eS eo)) ?_);rw[tX ia (by rw[hp.length_eq];simp)];exact hp.map _
end
end TS
namespace DC
open PySem PyProof.Rows
section
variable {prog:dz}{w:dA}{A:eJ}{E:ah->aE->Prop}{s:aE}{κ:sR}{r:ah->Int}{P:ah->Prop}
theorem jN{R:List ah->Prop}(ga':∀ (A':eJ) (E':ah->aE->Prop) (Q':List ah->aE->Prop),A'.handled=A.handled->(∀ vs h1 tk d,R vs->(∀ b o,s.heap.get? b=some o->h1.get? b=some o)->s.heap.objs.size<=h1.objs.size->Q' vs { s with heap:=h1,toks:=tk,drawn:=d })->aT (aS prog w) A' (collect v) Q' E' s) (hsz:∀ vs,R vs->vs.length<=bX) (hP:∀ vs,R vs->∀ v∈vs,P v) (hk:∀ vs,R vs->2<=vs.length->∀ (A':eJ) (E':ah->aE->Prop) (s':aE),(∀ b o,s.heap.get? b=some o->s'.heap.get? b=some o)->∀ (Q:sR->aE->Prop),Q κ s'->aT (aS prog w) A' (keyKind' vs.toArray) Q E' s') (C:∀ (s':aE),(∀ b o,s.heap.get? b=some o->s'.heap.get? b=some o)->oi prog w A.in1.in1 s' κ r P) (h:∀ (vs:List ah) (h':cS) (a:ag) (out:List ah) (n tk:Nat) d,R vs->out.Perm vs->(out.Pairwise λx y=>r x<=r y)->(∀ b o,s.heap.get? b=some o->h'.get? b=some o)->s.heap.objs.size<=a->h'.get? a=some (seqObj "list" out.toArray n)->Q (.ref a) { s with heap:=h',toks:=tk,drawn:=d }) :
  aT (aS prog w) A (call (.builtin "sorted") [v]) Q E s:=by
 refine Calls.call_function_entry kind_sorted plain_sorted entry_sorted (args_sorted1 _) ?_;unfold Builtin.«sorted»;refine ay (m:=checkCount "sorted" 1 1 _) (bI ?_);refine ay (ga' _ _ _ rfl λvs h1 tk d hR kp hz=>?_);have BE:=hsz vs hR;refine ay (wpAny_newList ?_ (by simpa using BE));have Nv:(h1.push (seqObj "list" vs.toArray 0)).get? h1.objs.size=some (seqObj "list" vs.toArray 0):=kF _ rfl;have old:∀ b o,s.heap.get? b=some o->(c7 (h1.push (seqObj "list" vs.toArray 0)) h1.objs.size vs).get? b=some o:=λb o e=>by have gp:b<h1.objs.size:=eS (kp b o e);rw[pZ (gV gp) (by rw[size_push'];exact AH gp)];exact fI _ (kp b o e)
 show aT _ _ _ _ _ { s with heap:=h1.push (seqObj "list" vs.toArray 0),toks:=tk,drawn:=d };refine ay (xl (D5 slot_list_sort ⟨_,Nv,rfl⟩ entry_list_sort (oJ (r:=r) (s:={ s with heap:=h1.push (seqObj "list" vs.toArray 0),toks:=tk,drawn:=d }) Nv BE (hP vs hR) (λh2=>hk vs hR h2 _ _ _ old) (λh2=>C _ old) λout a1 a2=>⟨_,rfl,?_⟩) (args_list_sort _)))
 obtain⟨n,e⟩:=sortedHeap_at (out:=out) Nv;refine bI ⟨_,rfl,h vs _ h1.objs.size out.toList n tk d hR a1 a2 (λb o e=>?_) hz (by rw[Array.toArray_toList];exact e)⟩;have gp:b<h1.objs.size:=eS (kp b o e);rw[sortedHeap_old (gV gp) (by rw[size_push'];exact AH gp)];exact fI _ (kp b o e)
end
end DC
namespace TS
open PySem PySem.SetTable PyProof.Rows
section
variable {prog:dz}{w:dA}{K:Type}[DecidableEq K]{knd:KeyKind prog w K}{A:eJ}{E:ah->aE->Prop}{s:aE}
theorem rT{α:Type}(led:Bool):TI (α:=α) (SetTable.fresh 0 0 led) #[] :=
 ⟨⟨3,rfl,de _⟩,rfl,λi j h hj=>absurd hj (GB _),λi hi=>absurd hi (GB _),rfl,(by show 0*5<7*3;decide),λi h x e=>by simp at e⟩
theorem pJ{l:ag}{items:Array ah}{xs:List (List K × ag)}{Q:ah->aE->Prop}(hh:A.handled=none)(hu:A.units+8<hX)(hl:s.heap.IsList l items)(hi:items.toList=xs.map λp=>Value.ref p.2)(w_:∀ p∈xs,IsTupleKey knd s.heap p.1 p.2) (hz:xs.length<=1000) (tJ:∀ k v,knd.is k v=true->v.scannable=true)(h:∀ h' tk ks,Mv knd h' s.heap.objs.size ks->(∀ k,k∈ks.map (·.1)↔k∈xs.map (·.1))->(∀ p∈ks,p∈xs)->(∀ b o,s.heap.get? b=some o->h'.get? b=some o)->Q (.ref s.heap.objs.size) { s with heap:=h',toks:=tk }) :
  aT (aS prog w) A (call (.type "set") [.ref l]) Q E s:=by
 have lt:∀ p∈xs,p.2<s.heap.objs.size:=λp hp=>by obtain⟨o,_,_,ho,_⟩:=w_ p hp;exact eS ho
 refine iw hh hl (λi h=>∃ ks,Mv knd h s.heap.objs.size ks/\(∀ k,k∈ks.map (·.1)↔k∈(xs.take i).map (·.1))/\(∀ p∈ks,p∈xs)/\ks.length<=i/\∀ p∈xs,IsTupleKey knd h p.1 p.2) (λh e k=>?_) (λi h h' ⟨ks,S,m1,m2,m3,m4⟩ k=>?_) (λi v s' E' Q' hv ⟨ks,S,m1,m2,m3,m4⟩ q=>?_) λh' tk ⟨ks,S,m1,m2,m3,m4⟩ k=>?_
 ·exact⟨[],⟨⟨_,#[],0,_,e,⟨rfl,rfl,rfl⟩,rfl,rT _,(by show 7<=8191;decide),rfl,rfl⟩,mG,λp hp=>nomatch hp⟩,λk=>by simp,(λp hp=>nomatch hp),de _,λp hp=>IsTupleKey.fN (w_ p hp) λo ho=>k _ _ ho⟩
 ·obtain⟨⟨o,es,ep,t,ho,r⟩,nd,is⟩:=S;exact⟨ks,⟨⟨o,es,ep,t,k _ _ (de _) ho,r⟩,nd,λp hp=>IsTupleKey.fN (is p hp) λo ho=>k _ _ (oP (lt p (m2 p hp))) ho⟩,m1,m2,m3,λp hp=>IsTupleKey.fN (m4 p hp) λo ho=>k _ _ (oP (lt p hp)) ho⟩
 ·have u3:items.toList[i]? = some v:=by rw[oS];exact hv
  rw[hi,qa] at u3
  cases ex:xs[i]? with
  |none=>rw[ex] at u3;cases u3
  |some p =>
   rw[ex] at u3;cases u3;have hp:=vE ex;have ZO:i<xs.length:=(nv.mp ex).1;have Ud:(xs.take (i+1)).map (·.1)=(xs.take i).map (·.1)++[p.1]:=by rw[Ee,ex,oI];rfl
   unfold setAdd;refine xl (ay (wpAny_pyHash_tuple (by show A.units+3<hX;lia) (m4 p hp) ?_));refine Ez (s:={ s' with toks:=s'.toks+(p.1.length+1) }) S (m4 p hp) (by lia) (by show A.units+3<hX;lia) tJ λb h' eI sb S' c=>?_;refine q b h' _ sb ⟨eI,S',λk=>?_,λp' gu=>?_,?_,λp' gu=>IsTupleKey.fN (m4 p' gu) λo ho=>sb.extBut _ _ (gV (lt p' gu)) ho⟩
   ·rw[Ud,fh,rV,<- m1];rcases c with⟨c1,rfl⟩|⟨c1,c2⟩
    ·exact⟨.inl,λz=>z.elim id λe=>e ▸ c1⟩
    ·rw[(c2.map _).mem_iff,gI,eM];exact⟨λz=>z.symm,λz=>z.symm⟩
   ·rcases c with⟨c1,rfl⟩|⟨c1,c2⟩
    ·exact m2 p' gu
    ·rcases eM.mp (c2.mem_iff.mp gu) with rfl|z
     ·exact hp
     ·exact m2 p' z
   ·rcases c with⟨c1,rfl⟩|⟨c1,c2⟩
    ·exact RW ‹_›
    ·rw[c2.length_eq];simp;lia
 ·have e:items.size=xs.length:=by have:=congrArg List.length hi;simpa using this
  rw[e,AG] at m1;exact h h' tk ks S m1 m2 λb o ho=>k b o (eS ho) ho
end
end TS
namespace L2
open PySem PySem.Spec PyProof.Rows
section
variable {X:Cx}{pins:List (ag × Obj)}{σ:St}{H:Hp}{s:aE}
theorem Inv.drawn{d}(I:Inv X pins σ H s):Inv X pins σ H { s with drawn:=d }:=⟨I.ok,I.os,I.bare,I.base,I.loc,I.cell,I.free,I.pe,I.pin,I.bT,I.len⟩
theorem tG:∀ (k:Key) (v:ah),(kQ prog w).is k v=true->v.scannable=true:=λk v h=>by rcases AK h with⟨i,t,rfl,rfl⟩|⟨x,t,rfl,rfl⟩<;>rfl
def fW(K:aI):V->Hp->VK->Prop:=λx H Q=>match x with
 |.ref p=>∃ ys ks b0 sh,fF K H p ys/\ys.length<=1000/\cR H ys ks/\(∀ k∈ks,jI k=b0 :: sh) /\
   ∀ zs ms l,cR H zs ms->ms.Nodup->(∀ k,k∈ms↔k∈ks)->(ms.Pairwise λa b=>iE b a=false)->H l=none->Q (.ref l) (upd H l (.lst zs))
 |_=>False
theorem cR.pairs(h:cR H ys ks)(hv:Vals ys vs):∃ xs:List (List Key × ag),vs=xs.map (λp=>Value.ref p.2)/\xs.map (·.1)=ks/\∀ p∈xs,H p.2=some (.tup (p.1.map kV)):=by
 induction ys generalizing ks vs with
 |nil=>exact⟨[],Paired.n0 hv,(show ks=[] from Paired.n0 h).symm,λp hp=>nomatch hp⟩
 |cons y ys ih =>
  obtain⟨k,ks,rfl,⟨b,rfl,g⟩,t⟩:=Paired.c h;obtain⟨v,vs,rfl,rfl,rs⟩:=Paired.c hv;obtain⟨xs,e1,e2,e3⟩:=ih t rs;refine⟨(k,b) :: xs,by rw[e1];rfl,by rw[<- e2];rfl,λp hp=>?_⟩;rcases eM.mp hp with rfl|hp
  ·exact g
  ·exact e3 p hp
end
section
variable {X:Cx}{e:Expr}{te:TE}{p p2 pos vv:Pos}
theorem qK (hc:X.calm=true) (hu:X.A.units+64<hX) (hg:Gl X "sorted") (hm:X.mg "sorted" = none) (DZ:Gl X "set") (px:X.mg "set" = none) (he:PE X e te)(hv:kN "sorted" = some (.builtin "sorted")) (Ue:kN "set" = some (.type "set"))(lI:bS [e] X.env=(false,c9 e X.env) :: bS [] X.env:=by rfl) (hs:bS [.Call (.Name "set" p2) [e] [] vv] X.env=(false,c9 (.Call (.Name "set" p2) [e] [] vv) X.env) :: bS [] X.env:=by rfl) :
  PE X (.Call (.Name "sorted" p) [.Call (.Name "set" p2) [e] [] vv] [] pos) (Vx (fW X.K) te):=by
 intro pins s σ H Q I h;refine D4 (CH I hg hm hv ?_ (by decide) (by decide));refine PyProof.Rows.callWith_builtin1 ?_ hs rfl;rw[hs];refine Calls.spliced_cons ?_;refine D4 (CH I DZ px Ue ?_ (by decide) (by decide));refine PyProof.Rows.callWith_type1 ?_ lI rfl;rw[lI];refine Calls.spliced_cons (dP (he pins s σ H _ I h) λu s1 dS=>L2.hG dS λx H1 I1 r1 q1=>Calls.spliced_nil ?_);have q1:fW X.K x H1 Q:=q1;obtain⟨a,rfl⟩:∃ a,x=.ref a:=by
  unfold fW at q1;split at q1
  ·exact⟨_,rfl⟩
  ·exact q1.elim
 obtain⟨ys,ks,b0,sh,hl,hz1,ht,L8,q⟩:=q1;cases r1;obtain⟨vs,rv,pl,hz⟩:=I1.list hl;obtain⟨xs,ex,ek,hx⟩:=ht.pairs rv;have Ic:X.A.handled=none:=I1.ok.hd hc;have hlen:xs.length=ys.length:=by rw[rv.length,ex,dn]
 have w_:∀ p∈xs,IsTupleKey (kQ X.prog X.w) s1.heap p.1 p.2:=λp hp=>by obtain⟨us,ru,o,e1,c1,n1,d1⟩:=I1.tup (hx p hp);exact⟨o,us.toArray,n1,e1,c1,d1,by simpa using SV ru⟩
 refine TS.pJ (knd:=kQ X.prog X.w) Ic (by lia) pl.isList (by simpa using ex) w_ (by lia) tG λh2 tk eI S m1 m2 kp=>?_;refine Calls.spliced_nil ?_;obtain⟨⟨o,es,ep,t,ho,hex,hd,T,hM,hL,DT⟩,nd,is⟩:=S;have Ug:es.toList.map (·.2)=eI.map λp=>Value.ref p.2:=by rw[DT,i7];rfl
 have gc':eI.length<=1000:=by
  have:=TS.bC nd (m:=ks) λk hk=>by rw[<- ek];exact(m1 k).mp hk
  rw[dn] at this;have:ks.length=xs.length:=by rw[<- ek,dn]
  lia
 have Uh:es.size=eI.length:=by have:=congrArg List.length DT;simpa using this
 have Ui:∀ p∈eI,p.1∈ks:=λp hp=>by rw[<- ek];exact eK.mpr ⟨p,m2 p hp,rfl⟩
 have mem:∀ ip:List ah,ip.Perm (eI.map λp=>Value.ref p.2)->∀ v∈ip,∃ b k,v=.ref b/\H1 b=some (.tup (k.map kV))/\k∈ks:=λip pv v hv=>by obtain⟨p,hp,rfl⟩:=eK.mp (pv.mem_iff.mp hv);exact⟨p.2,p.1,rfl,hx p (m2 p hp),Ui p hp⟩
 have OG:s1.heap.objs.size<=h2.objs.size:=oP (eS ho);refine DC.jN (s:={ s1 with heap:=h2,toks:=tk }) (κ:=tuples' true) (R:=λip=>ip.Perm (eI.map λp=>Value.ref p.2)) (r:=λv=>DJ ks (qw H1 v)) (P:=λv=>∃ b k,v=.ref b/\H1 b=some (.tup (k.map kV))/\jI k=b0 :: sh/\k∈ks) (λA' E' Q' hA hQ=>TS.jj (s:={ s1 with heap:=h2,toks:=tk }) (hA.trans Ic) ho hex hd T.fits T.up T.sz hL (by rw[Uh,kP];lia) λh' DU d ip xi Uj pv=>hQ ip h' DU d (by rw[<- Ug];exact pv) xi Uj) (λip pv=>by rw[pv.length_eq,dn,kP];lia) (λip pv v hv=>?_) (λip pv ZV A' E' s' xi Q' q'=>?_) (λs' xi=>yK I1 λb o e=>xi b o (kp b o e)) λip h' a' out n DU d pv pm pw xi ha eo=>?_
 ·obtain⟨b,k,e1,e2,e3⟩:=mem ip pv v hv;exact⟨b,k,e1,e2,L8 k e3,e3⟩
 ·obtain⟨zs,z1,z2⟩:=cR.of (H:=H1) (ks:=ks) ip (mem ip pv);obtain⟨fs,f1,f2,f3⟩:=kat_tups I1 (s':=s') (λb o e=>xi b o (kp b o e)) z1 z2 λk hk=>by obtain⟨v,hv,rfl⟩:=eK.mp hk;obtain⟨b,k,rfl,e2,e3⟩:=mem ip pv v hv;rw[cZ e2];exact L8 k e3
  cases b0 with
  |true =>refine PySem.W.kat_kind (T:=.type "int") f1 (by lia) (λf hf=>?_) (by decide) q';obtain⟨i,t,rfl⟩:=(f3 f hf).1 rfl;exact .now
  |false =>refine PySem.W.kat_kind (T:=.type "str") f1 (by lia) (λf hf=>?_) (by decide) q';obtain⟨i,t,rfl⟩:=(f3 f hf).2 rfl;exact .now
 ·have Fn:=pm.trans pv;obtain⟨zs,z1,z2⟩:=cR.of (H:=H1) (ks:=ks) out λv hv=>mem _ Fn v hv;have zl:=z2.length;have ol:=Fn.length_eq;rw[dn] at ol;have Uk:(eI.map λp=>Value.ref p.2).map (qw H1)=eI.map (·.1):=by rw[i7];exact M6 λp hp=>cZ (hx p (m2 p hp))
  have ZW:(out.map (qw H1)).Perm (eI.map (·.1)):=by rw[<- Uk];exact Fn.map _
  refine⟨.ref a',_,(I1.laid (a:=a') (t':=DU) (λb o e=>xi b o (kp b o e)) (i9 OG ha) (show fS X.prog X.w _ h' _ (.lst zs) from⟨by rw[kP];lia,out,n,z2,eo⟩)).drawn,rfl,
   q zs _ _ z1 (ZW.nodup_iff.mpr nd) (λk=>by rw[ZW.mem_iff,m1,ek]) ?_ (I1.bT.fresh (i9 OG ha))⟩
  rw[yy];refine pw.imp_of_mem λ{x y} mx my hle=>?_;obtain⟨b,k,rfl,hb,kk⟩:=mem _ Fn x mx;obtain⟨c,m,rfl,GV,km⟩:=mem _ Fn y my;rw[cZ hb,cZ GV] at *
  have:=qT (L:=ks) ((L8 m km).trans (L8 k kk).symm) km;rw[<- this];exact decide_eq_false (by lia)
end
end L2
namespace TS
open PySem PySem.SetTable PyProof.Rows
section
variable {t:SetTable}{es:Array (Int × ah)}
theorem uC(T:TI t es)(h:Int)(x:ah):∃ j,j<=t.mask/\taken t.place j=false/\Reach t.mask t.place h j /\
  layNew t es h x=(insertAt es (below t.place j) (h,x),{ t with place:=insertAt t.place (below t.place j) j,dummies:=#[] },false,false):=by
 obtain⟨m,hm,_⟩:=T.pw;obtain⟨e0,T8,T9⟩:=T.free;obtain⟨nf,n1,n2,n3⟩:=lq hm h (taken t.place) T8 T9;obtain⟨n',a1,a2,a3,a4⟩:=lQ T (λ_=>h+1) h (10*turns t.mask) 0 ⟨nf,eW _,by unfold turns;lia,n2⟩;rcases a4 with⟨c1,c2⟩|⟨_,c2,_⟩
 ·have EH:n'<=nf:=by
   by_cases z:n'<=nf
   ·exact z
   ·have:=(a3 nf (eW _) (by exact Pm ‹_›)).1;rw[n2] at this;cases this
  refine⟨J t.mask h n',QY ..,c1,⟨n',by walk_at "s1",rfl,λq hq=>(a3 q (eW _) hq).1⟩,?_⟩;have S4:t.freeSlot h=some (J t.mask h n',false):=by unfold SetTable.freeSlot;have:t.probe (λ_=>h+1) h (t.probeStart h)=some (.empty (J t.mask h n') none):=c2;rw[this];rfl
  have Ub:t.put (J t.mask h n')=({ t with place:=insertAt t.place (below t.place (J t.mask h n')) (J t.mask h n'),dummies:=#[] },below t.place (J t.mask h n')):=by
   unfold SetTable.put;have:has t.dummies (J t.mask h n')=false:=by rw[T.dm];rfl
   simp only[this,hZ,if_false];rw[T.dm]
  have hb:=(aL T.up (J t.mask h n')).1;have Ms:({ t with place:=insertAt t.place (below t.place (J t.mask h n')) (J t.mask h n'),dummies:=#[] }:SetTable).fits (insertAt es (below t.place (J t.mask h n')) (h,x)).size=true:=by have:=T.few;have hsz:(insertAt es (below t.place (J t.mask h n')) (h,x)).size=es.size+1:=aW _ _ (by rw[<- T.sz];exact hb);simp only[SetTable.fits,SetTable.fill,hsz,aW _ _ hb,T.sz,ja,beq_iff_eq,decide_eq_true_eq,true_and];simp;lia
  unfold layNew;rw[S4];dsimp only;rw[Ub];dsimp only;unfold SetTable.orStandIn;rw[Ms];rfl
 ·exact absurd c2 (by lia)
end
section
variable {prog:dz}{w:dA}{K:Type}[DecidableEq K]{knd:KeyKind prog w K}
def OJ(knd:KeyKind prog w K)(p:K × ah):Int × ah:=(knd.hash p.1,p.2)
structure Q7(knd:KeyKind prog w K)(h:cS)(a:ag)(ks:List (K × ah)):Prop where
 ob:∃ o es ep t,h.get? a=some o/\o.ExactSet/\o.data=.set es ep t/\TI t es/\t.mask<=8191/\t.led=(!w.params.followText "set-order")/\es.toList=ks.map (OJ knd)
 nd:(ks.map (·.1)).Nodup
 is:∀ p∈ks,knd.is p.1 p.2=true
variable {A:eJ}{E:ah->aE->Prop}{s:aE}
theorem Ak(S:Q7 knd s.heap a ks)(hx:knd.is k x=true)(hz:ks.length<1000)(tJ:∀ k v,knd.is k v=true->v.scannable=true)(h:∀ (b:Bool) (h':cS) (eI:List (K × ah)),Heap.SameBut a s.heap h'->Q7 knd h' a eI->(k∈ks.map (·.1)/\eI=ks\/k∉ks.map (·.1)/\eI.Perm ((k,x) :: ks))->Q b { s with heap:=h' }) :
  aT (aS prog w) A (setAddHashed a x (knd.hash k)) Q E s:=by
 obtain⟨⟨o,es,ep,t,ho,hex,hd,T,hM,hL,he⟩,nd,is⟩:=id S;have hlen:es.size=ks.length:=by have:=congrArg List.length he;simpa using this
 have Mw:ElemsOf knd es.toList:=λe hm=>by rw[he] at hm;obtain⟨p,hp,rfl⟩:=eK.mp hm;exact⟨⟨p.1,is p hp,rfl⟩,tJ _ _ (is p hp)⟩
 have Qf:scanBound=4096:=rfl;unfold setAddHashed setAddHashedIn;refine xl (ay (yi ho hd T.fits ?_));dsimp only;rw[byScan_of (tJ _ _ hx) (by lia) Mw];simp only[↓reduceIte];unfold setAddByScan;refine ay ?_;refine ay (D6 ?_);refine ay (wpAny_setScan_of hx ho hd T.fits Mw ?_)
 cases hr:List.findIdx? (λe=>knd.is k e.2) es.toList with
 |some j =>
  dsimp only;refine bI (bI ?_);obtain⟨hj,ZX,_⟩:=List.findIdx?_eq_some_iff_getElem.mp hr;have hm:es.toList[j]∈ks.map (OJ knd):=by rw[<- he];exact M8 hj
  obtain⟨p,hp,Nt⟩:=eK.mp hm;rw[<- Nt] at ZX;have hk:k=p.1:=knd.inj p.2 k p.1 ZX (is p hp);have e:s={ s with heap:=s.heap }:=by cases s;rfl
  rw[e];exact h _ _ ks (Heap.SameBut.refl a s.heap) S (.inl ⟨eK.mpr ⟨p,hp,hk.symm⟩,rfl⟩)
 |none =>
  dsimp only;have DI:k∉ks.map (·.1):=λhm=>by obtain⟨p,hp,rfl⟩:=eK.mp hm;have:=List.findIdx?_eq_none_iff.mp hr (OJ knd p) (by rw[he];exact eK.mpr ⟨p,hp,rfl⟩);rw[show knd.is p.1 (OJ knd p).2=true from is p hp] at this;cases this
  obtain⟨j,T_,n2,Ua,hlay⟩:=uC T (knd.hash k) x;rw[hlay];dsimp only;refine ay (bI ?_);have oj:(insertAt es (below t.place j) (knd.hash k,x)).toList=(ks.take (below t.place j)++(k,x) :: ks.drop (below t.place j)).map (OJ knd):=by rw[lE,he,oI,gI,LD,LG];rfl
  have xa:(ks.take (below t.place j)++(k,x) :: ks.drop (below t.place j)).Perm ((k,x) :: ks):=by refine List.perm_middle.trans ?_;rw[FV]
  have Fh:below t.place j<=es.size:=by rw[<- T.sz];exact(aL T.up j).1
  have BE:(insertAt es (below t.place j) (knd.hash k,x)).size=es.size+1:=aW _ _ Fh;have Ow:∀ eI:List (K × ah),eI.Perm ((k,x) :: ks)->∀ p∈eI,knd.is p.1 p.2=true:=λeI pm p hp=>by
   rcases eM.mp (pm.mem_iff.mp hp) with rfl|hp
   ·exact hx
   ·exact is p hp
  have Ox:∀ eI:List (K × ah),eI.Perm ((k,x) :: ks)->(eI.map (·.1)).Nodup:=λeI pm=>by rw[(pm.map _).nodup_iff,gI,nE];exact⟨DI,nd⟩
  have main:∀ t':SetTable,t'.mask=t.mask->t'.place=insertAt t.place (below t.place j) j->t'.dummies = #[]->t'.led=t.led->aT (aS prog w) A (do
    storeSet a (insertAt es (below t.place j) (knd.hash k,x)) t'
    if (!false && t'.tooFull)=true then do
      Fe (relayAll t' (insertAt es (below t.place j) (knd.hash k,x)) (grown (insertAt es (below t.place j) (knd.hash k,x)).size)).2.2
      storeSet a (relayAll t' (insertAt es (below t.place j) (knd.hash k,x)) (grown (insertAt es (below t.place j) (knd.hash k,x)).size)).1 (relayAll t' (insertAt es (below t.place j) (knd.hash k,x)) (grown (insertAt es (below t.place j) (knd.hash k,x)).size)).2.1
      pure (some true)
     else pure (some true)) (λr s'=>aT (aS prog w) A (match r with|some added=>pure added|none=>setAddHashedIn a x (knd.hash k) 99999) Q E s') E s:=λt' tm tp td tl=>by
   have Q5:t'.fill=es.size+1:=by unfold SetTable.fill;rw[tp,td,aW _ _ (aL T.up j).1,T.sz];simp
   refine ay (wpAny_storeSet_of ho hd ?_ (by rw[BE,kP];lia));have vj:(s.heap.update a (Obj.putSet (insertAt es (below t.place j) (knd.hash k,x)) t')).get? a=some { o with data:=.set (insertAt es (below t.place j) (knd.hash k,x)) (ep+1) t' }:=by have:=B8 (Obj.putSet (insertAt es (below t.place j) (knd.hash k,x)) t') ho (by rw[putSet_of _ _ hd];rfl);rw[putSet_of _ _ hd] at this;exact this
   have vt:=Heap.SameBut.update s.heap a (Obj.putSet (insertAt es (below t.place j) (knd.hash k,x)) t');by_cases c:t'.tooFull=true
   ·rw[if_pos (by rw[c];rfl)];obtain⟨t2,order,r1,r2,r3,r4,r5,r6,r7,r8,r9⟩:=nM (t:=t') (es:=insertAt es (below t.place j) (knd.hash k,x)) (by lia);have gd':relayAll t' (insertAt es (below t.place j) (knd.hash k,x)) (grown (insertAt es (below t.place j) (knd.hash k,x)).size)=(order.filterMap λi=>(insertAt es (below t.place j) (knd.hash k,x))[i]?,t2,false):=by unfold relayAll;rw[r1];dsimp only;rw[if_pos];rw[ja];refine⟨?_,r6.fits⟩;unfold coversAll;rw[List.isPerm_iff];exact r9
    rw[gd'];dsimp only;refine ay (bI ?_);obtain⟨eI,ek,pk⟩:=iy r8 oj;refine ay (wpAny_storeSet_of vj rfl ?_ (by rw[r7,BE,kP];lia));refine bI (bI ?_);have Fm:=vt.trans (Heap.SameBut.update _ a (Obj.putSet (order.filterMap λi=>(insertAt es (below t.place j) (knd.hash k,x))[i]?) t2));have wa:=B8 (Obj.putSet (order.filterMap λi=>(insertAt es (below t.place j) (knd.hash k,x))[i]?) t2) vj (by rw[putSet_of _ _ rfl];rfl);rw[putSet_of _ _ rfl] at wa;exact h true _ eI Fm ⟨⟨_,_,_,_,wa,hex,rfl,r6,r5 (by lia),by rw[r3,tl];exact hL,ek⟩,Ox eI (pk.trans xa),Ow eI (pk.trans xa)⟩ (.inr ⟨DI,pk.trans xa⟩)
   ·rw[if_neg (by simpa using c)];refine bI (bI ?_);have wc:(es.size+1)*5<t.mask*3:=by unfold SetTable.tooFull at c;rw[Q5,tm] at c;simpa using c
    exact h true _ _ vt ⟨⟨_,_,_,_,vj,hex,rfl,T.put T_ n2 Ua tm tp td wc,by rw[tm];exact hM,by rw[tl];exact hL,oj⟩,Ox _ xa,Ow _ xa⟩ (.inr ⟨DI,xa⟩)
  split
  ·refine ay ?_;rw[hashByValue_scannable 8 (tJ _ _ hx)];refine bI ?_;split
   ·exact main _ rfl rfl rfl rfl
   ·exact main _ rfl rfl rfl rfl
  ·refine ay (bI ?_);rw[if_pos rfl];exact main _ rfl rfl rfl rfl
end
section
variable {prog:dz}{w:dA}{K:Type}[DecidableEq K]{knd:KeyKind prog w K}{A:eJ}{E:ah->aE->Prop}{s:aE}
theorem mK{l:ag}{items:Array ah}{xs:List (K × ah)}{Q:ah->aE->Prop}(hh:A.handled=none)(hl:s.heap.IsList l items)(hi:items.toList=xs.map (·.2))(w_:∀ p∈xs,knd.is p.1 p.2=true) (hz:xs.length<=1000) (tJ:∀ k v,knd.is k v=true->v.scannable=true)(h:∀ h' tk ks,Q7 knd h' s.heap.objs.size ks->(∀ k,k∈ks.map (·.1)↔k∈xs.map (·.1))->(∀ p∈ks,p∈xs)->(∀ b o,s.heap.get? b=some o->h'.get? b=some o)->Q (.ref s.heap.objs.size) { s with heap:=h',toks:=tk }) :
  aT (aS prog w) A (call (.type "set") [.ref l]) Q E s:=by
 refine iw hh hl (λi h=>∃ ks,Q7 knd h s.heap.objs.size ks/\(∀ k,k∈ks.map (·.1)↔k∈(xs.take i).map (·.1))/\(∀ p∈ks,p∈xs)/\ks.length<=i) (λh e k=>?_) (λi h h' ⟨ks,S,m1,m2,m3⟩ k=>?_) (λi v s' E' Q' hv ⟨ks,S,m1,m2,m3⟩ q=>?_) λh' tk ⟨ks,S,m1,m2,m3⟩ k=>?_
 ·exact⟨[],⟨⟨_,#[],0,_,e,⟨rfl,rfl,rfl⟩,rfl,rT _,(by show 7<=8191;decide),rfl,rfl⟩,mG,λp hp=>nomatch hp⟩,λk=>by simp,(λp hp=>nomatch hp),de _⟩
 ·obtain⟨⟨o,es,ep,t,ho,r⟩,nd,is⟩:=S;exact⟨ks,⟨⟨o,es,ep,t,k _ _ (de _) ho,r⟩,nd,is⟩,m1,m2,m3⟩
 ·have u3:items.toList[i]? = some v:=by rw[oS];exact hv
  rw[hi,qa] at u3
  cases ex:xs[i]? with
  |none=>rw[ex] at u3;cases u3
  |some p =>
   rw[ex] at u3;cases u3;have hp:=vE ex;have ZO:i<xs.length:=(nv.mp ex).1;have Ud:(xs.take (i+1)).map (·.1)=(xs.take i).map (·.1)++[p.1]:=by rw[Ee,ex,oI];rfl
   unfold setAdd;refine xl (ay (knd.pyHash (k:=p.1) (w_ p hp) ?_));refine Ak (s:={ s' with toks:=s'.toks+1 }) S (w_ p hp) (by lia) tJ λb h' eI sb S' c=>?_;refine q b h' _ sb ⟨eI,S',λk=>?_,λp' gu=>?_,?_⟩
   ·rw[Ud,fh,rV,<- m1];rcases c with⟨c1,rfl⟩|⟨c1,c2⟩
    ·exact⟨.inl,λz=>z.elim id λe=>e ▸ c1⟩
    ·rw[(c2.map _).mem_iff,gI,eM];exact⟨λz=>z.symm,λz=>z.symm⟩
   ·rcases c with⟨c1,rfl⟩|⟨c1,c2⟩
    ·exact m2 p' gu
    ·rcases eM.mp (c2.mem_iff.mp gu) with rfl|z
     ·exact hp
     ·exact m2 p' z
   ·rcases c with⟨c1,rfl⟩|⟨c1,c2⟩
    ·exact RW ‹_›
    ·rw[c2.length_eq];simp;lia
 ·have e:items.size=xs.length:=by have:=congrArg List.length hi;simpa using this
  rw[e,AG] at m1;exact h h' tk ks S m1 m2 λb o ho=>k b o (eS ho) ho
end
end TS
namespace L2
open PySem PySem.Spec PyProof.Rows
def fY(K:aI):V->Hp->VK->Prop:=λx H Q=>match x with
 |.ref p=>∃ (ks:List Key) (b:Bool),fF K H p (ks.map kV)/\ks.length<=1000/\(∀ k∈ks,pz k=b) /\
   ∀ (ms:List Key) (l:ag),ms.Nodup->(∀ k,k∈ms↔k∈ks)->(ms.Pairwise λa b=>qA b a=false)->H l=none->Q (.ref l) (upd H l (.lst (ms.map kV)))
 |_=>False
theorem ue(h:Vals (ks.map kV) vs):∃ xs:List (Key × ah),vs=xs.map (·.2)/\xs.map (·.1)=ks/\∀ p∈xs,RelV (kV p.1) p.2:=by
 induction ks generalizing vs with
 |nil=>exact⟨[],Paired.n0 h,rfl,λp hp=>nomatch hp⟩
 |cons k ks ih =>
  obtain⟨v,vs,rfl,r,rs⟩:=Paired.c h;obtain⟨xs,e1,e2,e3⟩:=ih rs;refine⟨(k,v) :: xs,by rw[e1];rfl,by rw[<- e2];rfl,λp hp=>?_⟩;rcases eM.mp hp with rfl|hp
  ·exact r
  ·exact e3 p hp
section
variable {X:Cx}{e:Expr}{te:TE}{p p2 pos vv:Pos}
theorem qd (hc:X.calm=true) (hg:Gl X "sorted") (hm:X.mg "sorted" = none) (DZ:Gl X "set") (px:X.mg "set" = none) (he:PE X e te)(hv:kN "sorted" = some (.builtin "sorted")) (Ue:kN "set" = some (.type "set"))(lI:bS [e] X.env=(false,c9 e X.env) :: bS [] X.env:=by rfl) (hs:bS [.Call (.Name "set" p2) [e] [] vv] X.env=(false,c9 (.Call (.Name "set" p2) [e] [] vv) X.env) :: bS [] X.env:=by rfl) :
  PE X (.Call (.Name "sorted" p) [.Call (.Name "set" p2) [e] [] vv] [] pos) (Vx (fY X.K) te):=by
 intro pins s σ H Q I h;refine D4 (CH I hg hm hv ?_ (by decide) (by decide));refine PyProof.Rows.callWith_builtin1 ?_ hs rfl;rw[hs];refine Calls.spliced_cons ?_;refine D4 (CH I DZ px Ue ?_ (by decide) (by decide));refine PyProof.Rows.callWith_type1 ?_ lI rfl;rw[lI];refine Calls.spliced_cons (dP (he pins s σ H _ I h) λu s1 dS=>L2.hG dS λx H1 I1 r1 q1=>Calls.spliced_nil ?_);have q1:fY X.K x H1 Q:=q1;obtain⟨a,rfl⟩:∃ a,x=.ref a:=by
  unfold fY at q1;split at q1
  ·exact⟨_,rfl⟩
  ·exact q1.elim
 obtain⟨ks,b,hl,hz1,hb,q⟩:=q1;cases r1;obtain⟨vs,rv,pl,hz⟩:=I1.list hl;obtain⟨xs,ex,ek,hx⟩:=ue rv;have Ic:X.A.handled=none:=I1.ok.hd hc;have hlen:xs.length=ks.length:=by rw[<- ek,dn]
 have w_:∀ p∈xs,(kQ X.prog X.w).is p.1 p.2=true:=λp hp=>by
  obtain⟨k,v⟩:=p;have r:=hx _ hp;rw[aA']
  cases k with
  |inl i=>obtain⟨t,e⟩:=r;rw[show v=_ from e];exact U_ ..
  |inr x=>obtain⟨t,e⟩:=r;rw[show v=_ from e];exact Va ..
 refine TS.mK (knd:=kQ X.prog X.w) Ic pl.isList (by simpa using ex) w_ (by lia) tG λh2 tk eI S m1 m2 kp=>?_;refine Calls.spliced_nil ?_;obtain⟨⟨o,es,ep,t,ho,hex,hd,T,hM,hL,DT⟩,nd,is⟩:=S;have Ug:es.toList.map (·.2)=eI.map (·.2):=by rw[DT,i7];rfl
 have gc':eI.length<=1000:=by
  have:=TS.bC nd (m:=ks) λk hk=>by rw[<- ek];exact(m1 k).mp hk
  rw[dn] at this;walk_at "s1"
 have Uh:es.size=eI.length:=by have:=congrArg List.length DT;simpa using this
 have Ui:∀ p∈eI,p.1∈ks:=λp hp=>by rw[<- ek];exact eK.mpr ⟨p,m2 p hp,rfl⟩
 have mem:∀ ip:List ah,ip.Perm (eI.map (·.2))->∀ v∈ip,∃ k,RelV (kV k) v/\k∈ks:=λip pv v hv=>by obtain⟨p,hp,rfl⟩:=eK.mp (pv.mem_iff.mp hv);exact⟨p.1,hx p (m2 p hp),Ui p hp⟩
 have OG:s1.heap.objs.size<=h2.objs.size:=oP (eS ho);refine DC.jN (s:={ s1 with heap:=h2,toks:=tk }) (κ:=oneType') (R:=λip=>ip.Perm (eI.map (·.2))) (r:=λv=>DJ (ks.map λk=>[k]) (ir v)) (P:=λv=>∃ k,RelV (kV k) v/\pz k=b/\k∈ks) (λA' E' Q' hA hQ=>TS.jj (s:={ s1 with heap:=h2,toks:=tk }) (hA.trans Ic) ho hex hd T.fits T.up T.sz hL (by rw[Uh,kP];walk_at "s4") λh' DU d ip xi Uj pv=>hQ ip h' DU d (by rw[<- Ug];exact pv) xi Uj) (λip pv=>by rw[pv.length_eq,dn,kP];walk_at "s4") (λip pv v hv=>?_) (λip pv ZV A' E' s' xi Q' q'=>?_) (λs' xi=>xO) λip h' a' out n DU d pv pm pw xi ha eo=>?_
 ·obtain⟨k,rk,mk⟩:=mem ip pv v hv;exact⟨k,rk,hb k mk,mk⟩
 ·obtain⟨ms,rm⟩:=pG (ks:=ks) ip (mem ip pv);refine uA (b:=b) rm (λk hk=>?_) ZV q';have:(ip.map ir)=ms.map λk=>[k]:=keys_map rm;have E5:[k]∈ip.map ir:=by rw[this];exact eK.mpr ⟨k,hk,rfl⟩
  obtain⟨v,hv,e⟩:=eK.mp E5;obtain⟨k',rk,mk⟩:=mem ip pv v hv;rw[jn rk] at e;cases e;exact hb _ mk
 ·have Fn:=pm.trans pv;obtain⟨ms,rm⟩:=pG (ks:=ks) out (mem _ Fn);have Uk:(eI.map (·.2)).map ir=(eI.map (·.1)).map λk=>[k]:=by rw[i7,i7];exact M6 λp hp=>jn (hx p (m2 p hp))
  have pk:ms.Perm (eI.map (·.1)):=vg (by rw[<- keys_map rm,<- Uk];exact Fn.map _);have hml:ms.length=eI.length:=by simpa using pk.length_eq
  have ZY:∀ k∈ms,k∈ks:=λk hk=>by rw[<- ek];exact(m1 k).mp (pk.mem_iff.mp hk)
  refine⟨.ref a',_,(I1.laid (a:=a') (t':=DU) (λb o e=>xi b o (kp b o e)) (i9 OG ha) (show fS X.prog X.w _ h' _ (.lst (ms.map kV)) from⟨by rw[dn,kP];lia,out,n,rm,eo⟩)).drawn,rfl,
   q ms _ (pk.nodup_iff.mpr nd) (λk=>by rw[pk.mem_iff,m1,ek]) ?_ (I1.bT.fresh (i9 OG ha))⟩
  have ZZ:(out.map ir).Pairwise λx y=>DJ (ks.map λk=>[k]) x<=DJ (ks.map λk=>[k]) y:=yy.mpr pw;rw[keys_map rm,yy] at ZZ;refine ZZ.imp_of_mem λ{x y} mx my hle=>?_;have mx:=ZY x mx;have my:=ZY y my;rw[<- vV,<- qT (L:=ks.map λk=>[k]) (by simp[jI,hb x mx,hb y my]) (eK.mpr ⟨y,my,rfl⟩)];exact decide_eq_false (by lia)
end
end L2
namespace L2.Q
open PySem PySem.Spec PyProof.Rows
section
variable {X:Cx}{K:aI}{e:Expr}{te:WE}{p p2 pos vv:Pos}
theorem zp:kN "set" = some (.type "set"):=by decide +kernel
def cA:W1:=λ_ x Q=>match x with
 |.list xs=>∃ (ks:List (List Key)) (sh:List Bool),xs=ks.map mh/\ks.length<=1000/\(∀ k∈ks,jI k=true :: sh)/\∀ ms:List (List Key),ms.Nodup->(∀ k,k∈ms↔k∈ks)->(ms.Pairwise λa b=>iE b a=false)->Q (.ow true) (.list (ms.map mh))
 |_=>False
def fO:W1:=λ_ x Q=>match x with
 |.list xs=>∃ (ks:List Key) (b:Bool),xs=ks.map qS/\ks.length<=1000/\(∀ k∈ks,pz k=b)/\∀ ms:List Key,ms.Nodup->(∀ k,k∈ms↔k∈ks)->(ms.Pairwise λa b=>qA b a=false)->Q (.ow true) (.list (ms.map qS))
 |_=>False
theorem pX:Zm K (fW K) cA:=by
 intro Hs H m x v As Qd Qv w rx h f;have r1:=rx.rep w
 cases r1 with
 |list z s q =>obtain⟨ks,sh,rfl,hz,hs,h⟩:=h;obtain⟨ta,ok⟩:=Al q;have hl:=q.length;rw[dn] at hl;refine⟨_,ks,true,sh,s,by lia,ta,hs,λzs ms l tz nd mm pw hl'=>?_⟩;have rr:=rQ (K:=K) tz λk hk=>ok k ((mm k).mp hk);have:ms.length<=ks.length:=TS.bC nd λk hk=>(mm k).mp hk;exact f.lst w (by rw[dn,kP];lia) rr (jo ms) (h ms nd mm pw) l hl'
 |_=>exact h.elim
theorem ql:Zm K (fY K) fO:=by
 intro Hs H m x v As Qd Qv w rx h f;have r1:=rx.rep w
 cases r1 with
 |list z s q =>obtain⟨ks,b,rfl,hz,hb,h⟩:=h;obtain⟨e,ok⟩:=wu q;subst e;refine⟨ks,b,s,hz,hb,λms l nd mm pw hl=>?_⟩;have:ms.length<=ks.length:=TS.bC nd λk hk=>(mm k).mp hk;exact f.lst w (by rw[dn,kP];lia) (nF λk hk=>ok k ((mm k).mp hk)) (jP ms) (h ms nd mm pw) l hl
 |_=>exact h.elim
theorem eE (hm:X.mg "sorted" = none) (px:X.mg "set" = none) (he:QE X K e te) (hc:X.calm=true:=by rfl) (hK:X.K=K:=by rfl) (lI:bS [e] X.env=(false,c9 e X.env) :: bS [] X.env:=by rfl) (hs:bS [.Call (.Name "set" p2) [e] [] vv] X.env=(false,c9 (.Call (.Name "set" p2) [e] [] vv) X.env) :: bS [] X.env:=by rfl) (hu:X.A.units+64<hX:=by assumption) (hg:Gl X "sorted" := by rfl) (DZ:Gl X "set" := by rfl) :
  QE X K (.Call (.Name "sorted" p) [.Call (.Name "set" p2) [e] [] vv] [] pos) (iF cA te):=by
 subst hK;refine PE.imp (qK hc hu hg hm DZ px he oZ zp lI hs) λσ H Qv d5=>?_;obtain⟨Hs,ρ,ai,Q,sr,h,fin⟩:=d5;exact⟨Hs,ρ,ai,_,sr,h,λv H1 bE m x As g1 r1 f1 q1=>pX bE H1 m x v As Q Qv g1.wf r1 q1 (Fin.after fin g1)⟩
theorem ur (hm:X.mg "sorted" = none) (px:X.mg "set" = none) (he:QE X K e te) (hc:X.calm=true:=by rfl) (hK:X.K=K:=by rfl) (lI:bS [e] X.env=(false,c9 e X.env) :: bS [] X.env:=by rfl) (hs:bS [.Call (.Name "set" p2) [e] [] vv] X.env=(false,c9 (.Call (.Name "set" p2) [e] [] vv) X.env) :: bS [] X.env:=by rfl) (hg:Gl X "sorted" := by rfl) (DZ:Gl X "set" := by rfl) :
  QE X K (.Call (.Name "sorted" p) [.Call (.Name "set" p2) [e] [] vv] [] pos) (iF fO te):=by
 subst hK;refine PE.imp (qd hc hg hm DZ px he oZ zp lI hs) λσ H Qv d5=>?_;obtain⟨Hs,ρ,ai,Q,sr,h,fin⟩:=d5;exact⟨Hs,ρ,ai,_,sr,h,λv H1 bE m x As g1 r1 f1 q1=>ql bE H1 m x v As Q Qv g1.wf r1 q1 (Fin.after fin g1)⟩
end
end L2.Q
namespace L2.Q.R
open PySem PySem.Spec PyProof.Rows L2.Q
section
variable {Q:Md->L2.Q.D->Prop}{m:Md}{xs:List L2.Q.D}
theorem Cz:cA m (.list xs) Q = ∃ (ks:List (List Key)) (sh:List Bool),xs=ks.map mh/\ks.length<=1000/\(∀ k∈ks,jI k=true :: sh)/\∀ ms:List (List Key),ms.Nodup->(∀ k,k∈ms↔k∈ks)->(ms.Pairwise λa b=>iE b a=false)->Q (.ow true) (.list (ms.map mh)):=rfl
theorem CG:fO m (.list xs) Q = ∃ (ks:List Key) (b:Bool),xs=ks.map qS/\ks.length<=1000/\(∀ k∈ks,pz k=b)/\∀ ms:List Key,ms.Nodup->(∀ k,k∈ms↔k∈ks)->(ms.Pairwise λa b=>qA b a=false)->Q (.ow true) (.list (ms.map qS)):=rfl
end
end L2.Q.R
namespace L2
open PySem PySem.Spec PyProof.Rows
end L2
namespace L2.Q
open PySem PySem.Spec PyProof.Rows
end L2.Q
namespace L2.Q.R
open PySem PySem.Spec PyProof.Rows L2.Q
end L2.Q.R
namespace L2.Q
open PySem PySem.Spec PyProof.Rows PySem.W
abbrev Z0:List ah:=[.type "ValueError",.type "Exception",.type "BaseException",.type "object"]
structure ll(K:aI)(C:ag):Prop where
 ex:excIn K C Z0 "ValueError.__new__" = true
 gx:findIn K (.ref C) "__getattr__" = some none
 ga:findIn K (.ref C) "__getattribute__" = some (some (.builtin "BaseException.__getattribute__"))
 cl:findIn K (.ref C) "__class__" = some (some (.builtin "object.__class__"))
 ob:mroIn K C (.type "object")=some true
theorem ll.obj{K:aI}(x:ll K C)(X:K.In h):∃ bm N nm q bs hdct sn sub ab col dd k0 k1 k2 k3 k5 mN,
  h.get? C=some (excClassObj nm q C N bs bm hdct sn sub ab col dd k0 k1 k2 k3 k5 "ValueError.__new__")/\h.Ns N mN/\mN "__init__" = none/\OwnTail h Z0 bm:=by
 have q:=x.ex;unfold excIn at q;split at q
 ·rename_i dd cd sl ho;split at q
  ·rename_i C' bm k0 k1 k2 k3 n k5 hm hs;simp only[ja,beq_iff_eq,RZ] at q;obtain⟨⟨⟨⟨⟨e1,e2⟩,Z1⟩,ht⟩,bT⟩,BH⟩:=q;cases e1;cases e2;cases cd;dsimp only at hm Z1 bT BH;cases hm;cases Z1;have Q0:sl = #[k0,k1,k2,k3,some (.builtin "ValueError.__new__"),k5]:=by cases sl;dsimp only at hs;rw[hs]
   cases Q0;exact⟨bm,_,_,_,_,_,_,_,_,_,dd,k0,k1,k2,k3,k5,_,X _ _ ho,.of_isNs (isNs_of_in X bT),nsMap_none_of_in X bT BH,tail_of_in X ht⟩
  ·cases q
 ·cases q
section
variable {prog:dz}{w:dA}{A:eJ}{E:ah->aE->Prop}{h:cS}{g:Array GenState}{d:Drawn}{t:Nat}{os:OsState}{a C:ag}{o:Obj}{K:aI}
theorem yR{R:Result->aE->Prop}(x:ll K C)(X:K.In h)(hx:h.get? a=some o)(hc:o.cls=.ref C)(hq:R (.ok (.ret (.ref C))) ⟨h,g,d,t,os⟩) :
  vx (aS prog w) A (.call (.builtin "getset_descriptor.__get__") ⟨[.builtin "object.__class__",.ref a,.ref C],[]⟩) R ⟨h,g,d,t,os⟩:=by
 obtain⟨bm,N,nm,q,bs,hdct,sn,sub,ab,col,dd,k0,k1,k2,k3,k5,mN,hC,hN,BH,T⟩:=x.obj X;have Z2:(⟨h,g,d,t,os⟩:aE).TypeIs (.builtin "object.__class__") "getset_descriptor" := F.typeOf_object_class;have I0:(Value.ref C :: bm).contains (.type (".".intercalate ("object.__class__".cutAt '.').dropLast))=true:=by rw[F.owner_object_class,O_,T.hasType (X := "object") (b:=true) rfl];rfl
 refine codeAny_call_builtin F.slot_gs_get.plain F.entry_gs_get (F.slot_gs_get.check _ _ _ _ _ _ _ _ Z2 (F.args_gs_get _ _ _) ?_);repeat (any_goals (first|assumption|(with_reducible refine B1 hx ?_;rw[hc])|(with_reducible refine O5 hC ?_;rw[I0])|wp_step))
 refine⟨Code.quiet_builtin _ (by decide +kernel),FL F.entry_object_class ?_⟩;repeat (any_goals (first|assumption|(with_reducible refine B1 hx ?_;rw[hc])|wp_step))
theorem tM(x:ll K C)(X:K.In h)(hx:h.get? a=some o)(hc:o.cls=.ref C)(hq:Q (.done (.ret (.ref C))) ⟨h,g,d,t,os⟩) :
  aT (aS prog w) A (Builtin.«object.__getattribute__» ⟨[.ref a,.str "__class__" tk],[]⟩) Q E ⟨h,g,d,t,os⟩:=by
 have Z2:(⟨h,g,d,t,os⟩:aE).TypeIs (.builtin "object.__class__") "getset_descriptor" := F.typeOf_object_class;have f5:=F.typeOf_object_class;have f6:=F.slot_gs_get.lookup;have f7:=F.slot_gs_set.lookup;have Lk:=looks_findIn (M:=aS prog w) X x.cl;repeat (any_goals (first|assumption|(with_reducible refine B1 hx ?_;rw[hc])|with_reducible refine Lk.at ?_|wp_step))
 refine yR x X hx hc ?_;repeat (any_goals (first|assumption|wp_step))
theorem z_(x:ll K C)(X:K.In h)(hx:h.get? a=some o)(hc:o.cls=.ref C)(hq:Q (.ref C) ⟨h,g,d,t,os⟩) :
  aT (aS prog w) A (getAttrBy (.ref a) (.str "__class__" tk) false) Q E ⟨h,g,d,t,os⟩:=by
 have f3:=F.attr_ValueError.ga.bind (.ref a);have hx2:(Value.builtin "BaseException.__getattribute__" == Value.builtin "object.__getattribute__")=false:=by decide +kernel
 have Q8:(onTheHeap (Value.ref C) && Value.builtin "BaseException.__getattribute__" == Value.builtin "object.__getattribute__")=false:=by rw[hx2];rfl
 have Lk:=looks_findIn (M:=aS prog w) X x.ga;have Lg:=looks_findIn (M:=aS prog w) X x.gx;repeat (any_goals (first|assumption|(with_reducible refine B1 hx ?_;rw[hc])|with_reducible refine Lk.at ?_|with_reducible refine Lg.at ?_|wp_step))
 obtain⟨bm,N,nm,q,bs,hdct,sn,sub,ab,col,dd,k0,k1,k2,k3,k5,mN,hC,hN,BH,T⟩:=x.obj X;have hk:builtinKind "BaseException.__getattribute__" = some .slot:=by decide +kernel
 have hsplit:splitId "BaseException.__getattribute__" = some ("BaseException", "__getattribute__"):=by decide +kernel
 have I0:(Value.ref C :: bm).contains (.type "BaseException")=true:=by rw[O_,T.hasType (X := "BaseException") (b:=true) rfl];rfl
 have chk:∀ {Q':Unit->aE->Prop} {E':ah->aE->Prop} {A':eJ},Q' () ⟨h,g,d,t,os⟩->aT (aS prog w) A' (checkBuiltinCall "BaseException.__getattribute__" ⟨[.ref a,.str "__class__" tk],[]⟩) Q' E' ⟨h,g,d,t,os⟩:=λ{Q' E' A'} hq'=>by
  have ha:=F.args_bexc_ga (.ref a) (.str "__class__" tk);simp only[checkBuiltinCall,hk,hsplit];refine ay ?_;unfold isInstance;repeat (first|(with_reducible refine B1 hx ?_;rw[hc])|(with_reducible refine O5 hC ?_;rw[I0])|wp_step)
  exact hq'
 refine codeAny_call_builtin F.attr_ValueError.ga.plain F.entry_bexc_ga (chk (tM x X hx hc ?_));repeat (any_goals (first|assumption|wp_step))
theorem vH (x:ll K C) (X:K.In h) (hx:h.get? a=some o) (hc:o.cls=.ref C) (hq:Q (some (.ref C)) ⟨h,g,d,t+1,os⟩):aT (aS prog w) A (getAttr? (.ref a) "__class__") Q E ⟨h,g,d,t,os⟩:=by unfold getAttr? getAttrBy?;repeat (any_goals (first|assumption|with_reducible apply z_ x X hx hc|wp_step))
end
def TrC(h B:cS)(e:ag)(cls a0 fl:ah):Prop :=
 ∃ oe vs T oT ts,h.get? e=some oe/\(oe.cls=cls/\vs[0]? = some a0/\vs[2]? = some .none)/\oe.data=.fields vs/\vs[1]? = some (.ref T)/\B.get? T=none/\T≠e/\h.get? T=some oT/\oT.data=.fields ts/\ts[3]? = some fl
def zI(B:cS)(l:List PySem.Env)(e:ag)(cls a0 fl:ah)(h:cS):Prop:=B.StaysIn h/\B.get? e=none/\h.FunFrames B l/\TrC h B e cls a0 fl
abbrev OL(B:cS)(l:List PySem.Env)(e:ag)(cls a0:ah)(h:cS):Prop:=zI B l e cls a0 .none h
theorem zI.there{B h:cS}(x:zI B l e cls a0 fl h):∃ ob,h.get? e=some ob/\ob.cls=cls:=by obtain⟨_,_,_,oe,_,_,_,_,he,hc,_⟩:=x;exact⟨oe,he,hc.1⟩
theorem zI.first{B h:cS}(x:zI B l e cls a0 fl h):∃ oe vs,h.get? e=some oe/\oe.cls=cls/\oe.data=.fields vs/\vs[2]? = some .none:=by obtain⟨_,_,_,oe,vs,_,_,_,he,hc,hd,_⟩:=x;exact⟨oe,vs,he,hc.1,hd,hc.2.2⟩
section
variable {M:Model}{A:eJ}{E:ah->aE->Prop}{s:aE}{base:cS}{env:PySem.Env}{outer:List PySem.Env}{L e:ag}{cls a0 fl:ah}{Q:Unit->aE->Prop}
theorem zL(sj:A.frames=some (env :: outer))(hf:env.frame=some L)(k1:base.StaysIn h2)(k2:base.get? e=none)(k3:h2.FunFrames base (env :: outer))(ge:h2.get? e=some oe)(gd:oe.data=.fields vs)(gz:1<vs.size)(g0:oe.cls=cls/\vs[0]? = some a0/\vs[2]? = some .none)(hQ:∀ h',zI base (env :: outer) e cls a0 (j2 L) h'->h2.UpToSlots h'->Q () { s with heap:=h' }) :
  aT M A (do let a <- PySem.frameOf env;let pl <- entryPlaceOf L b;let t <- EntryCells.newEntry D1 a .none (j2 L) .none pl;setField (.ref e) 1 t) Q E { s with heap:=h2 }:=by
 have ne:e∉fw (env :: outer):=λz=>by obtain⟨_,o,q,n⟩:=k3.mem z;rw[ge] at q;cases q;exact n _ gd
 refine ay (wpAny_frameOf_fun sj k3 hf λh3 q3=>ay (wpAny_entryPlaceOf λpl hp=>?_));unfold EntryCells.newEntry newFields;refine ay (rS ?_ (hp.sizeOk5 _ _ _ _ _));generalize BG:({ cls:=.type "traceback",dict:=none,data:=.fields ([D1,.ref L,.none,j2 L,.none]++(if pl.isEmpty then List.replicate 6 Value.none else pl)).toArray }:Obj)=ob;have Z3:h3.get? e=some oe:=(q3.2.1 e ne).trans ge;have Z4:base.StaysIn h3:=λb o q=>(q3.2.1 b λz=>by rw[(k3.mem z).1] at q;cases q).trans (k1 b o q);have Z5:=fI (h:=h3) ob Z3;refine wpAny_setField Z5 gd gz (hQ _ ?_ ?_);all_goals
  have nT:h3.objs.size≠e:=Pq (eS Z3);have kp:∀ b o,b≠e->h3.get? b=some o->((h3.push ob).update e (Obj.mapFields (·.setIfInBounds 1 (Value.ref h3.objs.size)))).get? b=some o:=λb o q1 q2=>by rw[B7 _ _ (Ne.symm q1)];exact fI _ q2
  have nr:∀ b o,h2.get? b=some o->(∀ us,o.data≠.fields us)->b≠e:=λb o q1 q2 q=>by rw[q,ge] at q1;cases q1;exact q2 _ gd
  have up:∀ b o,h2.get? b=some o->(∀ us,o.data≠.fields us)->∃ sl,((h3.push ob).update e (Obj.mapFields (·.setIfInBounds 1 (Value.ref h3.objs.size)))).get? b=some { o with slots:=sl }:=λb o q1 q2=>by obtain⟨sl,q⟩:=q3.2.2 b o q1;exact⟨sl,kp b _ (nr b o q1 q2) q⟩
 ·refine⟨λb o q=>kp b o (λz=>by rw[z,k2] at q;cases q) (Z4 b o q),k2,k3.of_keeps λb o q1 q2=>?_,?_⟩
  ·obtain⟨sl,q⟩:=up b o q1 q2;exact⟨_,q,rfl⟩
  ·have dd:=Obj.data_mapFields gd (·.setIfInBounds 1 (Value.ref h3.objs.size));have gT:(h3.push ob).get? h3.objs.size=some ob:=kF h3 (by rw[<- BG];rfl);refine⟨_,_,h3.objs.size,ob,_,B8 _ Z5 (Obj.isFreed_of_fields dd),⟨(Obj.cls_mapFields _ _).trans g0.1,?_,?_⟩,dd,by simp[gz],Z4.fresh,nT,(B7 _ _ (Ne.symm nT)).trans gT,by rw[<- BG],?_⟩
   ·rw[R0 (by decide)];exact g0.2.1
   ·rw[R0 (by decide)];exact g0.2.2
   ·first
    | (simp;done)
    | (rcases hp with rfl|⟨_,_,_,_,_,_,_,rfl⟩<;>simp)
 ·exact up
theorem Cr(sj:A.frames=some (env :: outer))(hf:env.frame=some L)(x:zI base (env :: outer) e cls a0 fl s.heap)(hQ:∀ h',zI base (env :: outer) e cls a0 (j2 L) h'->s.heap.UpToSlots h'->Q () { s with heap:=h' }):aT M A (noteFrame (.ref e) env) Q E s:=by
 obtain⟨k1,k2,k3,oe,vs,T,oT,ts,ge,gc,gd,g1,gn,ne,gT,gD,g3⟩:=id x;unfold noteFrame;simp only[hf];refine ay (FP ge gd g1 ?_);rw[if_pos (by simp)];refine ay (FP gT gD g3 ?_);by_cases z:fl=j2 L
 ·rw[if_pos (by simpa using z)];exact bI (hQ _ (z ▸ x) (Heap.UpToSlots.refl _))
 rw[if_neg (by simpa using z)];refine ay (wpAny_setField gT gD (Cb.mp g3).1 ?_);have ot:∀ b,b≠T->(s.heap.update T (Obj.mapFields (·.setIfInBounds 3 Value.none))).get? b=s.heap.get? b:=λb hb=>B7 _ _ (Ne.symm hb);have nr:∀ b o,s.heap.get? b=some o->(∀ us,o.data≠.fields us)->b≠T:=λb o hb hn q=>by rw[q,gT] at hb;cases hb;exact hn _ gD
 refine zL sj hf (λb o hb=>(ot b λq=>by rw[q,gn] at hb;cases hb).trans (k1 b o hb)) k2 (k3.of_keeps λb o hb hn=>⟨o,(ot b (nr b o hb hn)).trans hb,rfl⟩) ((ot e (Ne.symm ne)).trans ge) gd (Cb.mp g1).1 gc λh' q up=>?_;exact hQ h' q λb o hb hn=>up b o ((ot b (nr b o hb hn)).trans hb) hn
theorem gH(x:zI base l e cls a0 fl s.heap)(hQ:∀ h',zI base l e cls a0 (fr.elim .none λf=>j2 f) h'->s.heap.UpToSlots h'->Q () { s with heap:=h' }):aT M A (setFlight (.ref e) fr) Q E s:=by
 obtain⟨k1,k2,k3,oe,vs,T,oT,ts,ge,gc,gd,g1,gn,ne,gT,gD,g3⟩:=x;have gz:=(Cb.mp g3).1;unfold setFlight;refine ay (FP ge gd g1 ?_);rw[if_pos (by simp)];have ot:∀ b,b≠T->(s.heap.update T (Obj.mapFields (·.setIfInBounds 3 (fr.elim Value.none λf=>j2 f)))).get? b=s.heap.get? b:=λb hb=>B7 _ _ (Ne.symm hb);have nr:∀ b o,s.heap.get? b=some o->(∀ us,o.data≠.fields us)->b≠T:=λb o hb hn q=>by rw[q,gT] at hb;cases hb;exact hn _ gD
 refine wpAny_setField gT gD gz (hQ _ ⟨λb o hb=>(ot b λq=>by rw[q,gn] at hb;cases hb).trans (k1 b o hb),k2,k3.of_keeps λb o hb hn=>⟨o,(ot b (nr b o hb hn)).trans hb,rfl⟩,oe,vs,T,_,_,(ot e (Ne.symm ne)).trans ge,gc,gd,g1,gn,ne,B8 _ gT (Obj.isFreed_of_fields (Obj.data_mapFields gD _)),Obj.data_mapFields gD _,by simp[gz]⟩ λb o hb hn=>⟨o.slots,(ot b (nr b o hb hn)).trans hb⟩)
theorem Em(sj:A.frames=some (env :: outer))(hf:env.frame=some L)(x:zI base (env :: outer) e cls a0 fl s.heap)(hQ:∀ h',OL base outer e cls a0 h'->s.heap.UpToSlots h'->Q () { s with heap:=h' }):aT M A (leaving env (.ref e)) Q E s:=by
 unfold leaving;exact ay (Cr sj hf x λh1 x1 u1=>gH x1 λh2 x2 u2=>hQ h2 ⟨x2.1,x2.2.1,x2.2.2.1.2.2,x2.2.2.2⟩ (u1.trans u2))
theorem u6(sj:A.frames=some (env :: outer))(hf:env.frame=some L)(k:base.StaysIn h)(k3:h.FunFrames base (env :: outer))(hx:Heap.MadeExcOf h s.heap e cls args)(hQ:∀ h' t,OL base outer e cls (.ref t) h'->s.heap.UpToSlots h'->Q () { s with heap:=h' }):aT M A (leaving env (.ref e)) Q E s:=by
 obtain⟨t,ge,gt,ht⟩:=hx.there;have fresh:base.get? e=none:=by
  cases q:base.get? e with
  |none=>rfl
  |some o=>have:=k e o q;rw[hx.new] at this;cases this
 unfold leaving noteFrame;simp only[hf];refine ay (ay (FP (x:=.none) ge rfl rfl ?_));rw[if_neg (by decide)];refine zL (s:=s) sj hf (λb o q=>hx.keeps b o (k b o q)) fresh (k3.of_keeps λb o q _=>⟨o,hx.keeps b o q,rfl⟩) ge rfl (by simp) ⟨rfl,rfl,rfl⟩ λh1 x1 u1=>gH x1 λh2 x2 u2=>hQ h2 t ⟨x2.1,x2.2.1,x2.2.2.1.2.2,x2.2.2.2⟩ (u1.trans u2)
end
def Ul(a C:ag)(h:cS):Prop:=∃ o,h.get? a=some o/\o.cls=.ref C
theorem ll.gj'{K:aI}(x:ll K C)(X:K.In h):Looks M h (isType (.ref C)) true:=by obtain⟨bm,N,nm,q,bs,hdct,sn,sub,ab,col,dd,k0,k1,k2,k3,k5,mN,hC,hN,BH,T⟩:=x.obj X;intro A' Q' E' s' k q;unfold isType loadHead;exact ay (wpAny_loadPart (k _ _ hC) (bI q))
theorem rB{K:aI}(x:ll K C):KitX K (.ref a) (.ref C) (Ul a C) where
 ty:=λM h X p=>by obtain⟨o,h1,h2⟩:=p;exact h2 ▸ (Looks.ld h1).andThen .now
 it:=λM h X p=>x.gj' X
 ne:=λh tp dd its n sl X htp=>by obtain⟨bm,N,nm,q,bs,hdct,sn,sub,ab,col,dd,k0,k1,k2,k3,k5,mN,hC,hN,BH,T⟩:=x.obj X;refine Bool.eq_false_iff.mpr λq=>?_;have e:C=tp:=Value.ref.inj (beq_iff_eq.mp q);subst e;have z:=congrArg (λo=>o.map (·.data)) (hC.symm.trans htp);cases z
 ca:=λ{prog w A E Q s} X p k=>by obtain⟨h,g,d,t,os⟩:=s;obtain⟨o,h1,h2⟩:=p;exact vH x X h1 h2 k
theorem fK{K:aI}{a C R:ag}{os:OsState}(x:ll K C)(r:ll K R)(sub:mroIn K C (.ref R)=some true)(X:K.In h)(p:Ul a C h)(hq:Q true ⟨h,g,d,t,os⟩):aT M A (excMatches (.ref a) (.ref R)) Q E ⟨h,g,d,t,os⟩:=by
 obtain⟨bm,N,nm,q,bs,hdct,sn,gl',ab,col,dd,k0,k1,k2,k3,k5,mN,hC,hN,BH,T⟩:=r.obj X;obtain⟨oe,he,Nu⟩:=p;have I0:(Value.ref R :: bm).contains (.type "BaseException")=true:=by rw[O_,T.hasType (X := "BaseException") (b:=true) rfl];rfl
 have f:=tc_notTuple;have Lk:=looks_mroIn (M:=M) X sub;unfold excMatches;repeat (first|(with_reducible refine B1 he ?_;rw[Nu])|with_reducible refine B1 hC ?_|(with_reducible refine O5 hC ?_;rw[I0])|with_reducible refine Lk.at ?_|wp_step)
 exact hq
theorem FunFrames.rebase{h base B:cS}:∀ {l:List PySem.Env},h.FunFrames base l->(∀ b∈fw l,B.get? b=none)->h.FunFrames B l
 |[],_,_=>trivial
 |env :: rest,⟨hk,⟨L,o,hf,hn,ho,hd⟩,hr⟩,hB=>⟨hk,⟨L,o,hf,hB L (by unfold fw;rw[AA,hf];exact ft),ho,hd⟩,
   FunFrames.rebase hr λb hb=>hB b (by unfold fw;rw[AA,hf];exact eP _ hb)⟩
theorem fS.there{P:dz}(x:fS P w H h a o):∃ u,h.get? a=some u:=by
 cases o with
 |lst xs=>obtain⟨_,_,_,_,e⟩:=x;exact⟨_,e⟩
 |tup xs=>obtain⟨_,_,_,_,e,_⟩:=x;exact⟨_,e⟩
 |dK ae=>obtain⟨_,_,_,_,o,_,_,e,_⟩:=x;exact⟨_,e⟩
 |dT ae=>obtain⟨_,_,_,_,o,_,_,e,_⟩:=x;exact⟨_,e⟩
 |set S n=>obtain⟨o,_,_,_,e,_⟩:=x;exact⟨_,e⟩
 |ins C dx fs=>obtain⟨_,_,_,e,_⟩:=x;exact⟨_,e⟩
 |own y=>exact x
 |xd fs=>obtain⟨_,⟨_,_,_,e,_⟩,_⟩:=x;exact⟨_,e⟩
 |Px lo hi=>obtain⟨_,_,_,e⟩:=x;exact⟨_,e⟩
 |mM ob u=>obtain⟨e,_⟩:=x;exact⟨_,e⟩
 |EG ps=>exact⟨_,(show h.get? a=some _ from x)⟩
 |met f y=>exact⟨_,(show h.get? a=some _ from x)⟩
 |ext φ=>obtain⟨_,e,_⟩:=x;exact e
def zS(B:cS)(fs:List ag)(H':Hp)(h₀ h:cS):Prop:=∀ b o,h.get? b=some o->(H' b≠none\/h₀.get? b≠none)->b∉fs->B.get? b=some o
def pT(P:dz)(w:dA)(mg:Str->Option ah)(rn:List Str):CL:=λouter H s E e s' =>
 ∃ a n C a0 H' B,e=.ref a/\(n∈rn/\mg n=some (.ref C))/\s'.os=s.os/\AllBare s'.gens/\Un (fw outer) [] H H' s.heap s'.heap/\gL P w H' s'.heap /\
  OL B outer a (.ref C) a0 s'.heap/\zS B (fw outer) H' s.heap s'.heap/\(∀ b∈fw outer,H' b=none)/\E (.ref C) none H'
structure cg(fs:List ag)(H':Hp)(h₀ h h':cS):Prop where
 keep:∀ b o,h.get? b=some o->(H' b≠none\/h₀.get? b≠none)->b∉fs->h'.get? b=some o
 slot:∀ b o,h.get? b=some o->b∈fs->∃ sl,h'.get? b=some { o with slots:=sl }
theorem cg.of{B:cS}(c:zS B (fw l) H' h₀ h)(st:B.StaysIn h')(up:h.UpToSlots h')(ff:h.FunFrames base l):cg (fw l) H' h₀ h h' :=
 ⟨λb o e k n=>st b o (c b o e k n),λb o e m=>by
  obtain⟨_,o',e',d⟩:=ff.mem m;rw[e] at e';cases e';exact up b o e d⟩
theorem cg.trans(a:cg fs H' h₀ h h1)(b:cg fs H' h₀ h1 h2):cg fs H' h₀ h h2 :=
 ⟨λx o e k n=>b.keep x o (a.keep x o e k n) k n,λx o e m=>by
  obtain⟨_,e1⟩:=a.slot x o e m;obtain⟨sl,e2⟩:=b.slot x _ e1 m;exact⟨sl,e2⟩⟩
theorem cg.un(m:cg fs H' h₀ h h')(u:Un fs [] H H' h₀ h):Un fs [] H H' h₀ h' where
 keep:=λb o e n nb nx=>m.keep b o (u.keep b o e n nb nx) (.inr (by rw[e];exact λz=>nomatch z)) nb
 slot:=λb o e n hb nx=>by obtain⟨_,e1⟩:=u.slot b o e n hb nx;obtain⟨sl,e2⟩:=m.slot b _ e1 hb;exact⟨sl,e2⟩
 free:=u.free
 there:=λb o e nx=>by
  obtain⟨o',e1⟩:=u.there b o e nx;by_cases hb:b∈fs
  ·obtain⟨sl,e2⟩:=m.slot b o' e1 hb;exact⟨_,e2⟩
  ·exact⟨o',m.keep b o' e1 (.inr (by rw[e];exact λz=>nomatch z)) hb⟩
 iO:=u.iO
 qf:=u.qf
 se:=u.se
theorem cg.bT{P:dz}(m:cg fs H' h₀ h h')(f:∀ b∈fs,H' b=none)(x:gL P w H' h):gL P w H' h':=λa o e =>
 (x a o e).fN (λb u hb q=>by
  have hH:H' b≠none:=by
   rcases hb with z|z
   ·rw[z,e];exact λz=>nomatch z
   ·rw[z];exact λz=>nomatch z
  exact m.keep b u q (.inl hH) λz=>hH (f b z)) (λ_ q=>q) λ_ _ q=>q
section
variable {X:Cx}{pins:List (ag × Obj)}{σ:St}{H H':Hp}{s:aE}{e:ah}
theorem zS.up{B h h':cS}(kR:X.stack=X.env :: X.outer)(hf:X.env.frame=some X.env.locals)(hex:X.ex=[])(I:Inv X pins σ H s)(un:Un (fw X.stack) [] H H' s.heap h)(c:zS B (fw X.stack) H' s.heap h)(m:cg (fw X.stack) H' s.heap h h')(fr:∀ b∈fw X.stack,H' b=none)(bT:gL X.prog X.w H' h) :
  Un X.fs [] X.yB H' X.fq.heap h'/\zS B X.fs H' X.fq.heap h':=by
 have hs:∀ b,b∈fw X.stack↔b=X.env.locals\/b∈X.fs:=λb=>by rw[kR];unfold fw;rw[AA,hf];exact eM
 have Nq:∀ b o,X.fq.heap.get? b=some o->b≠X.env.locals:=λb o e=>gV (n4 (eS e) I.ok.above);have Mz:∀ b:ag,b∉X.ex:=λb z=>by rw[hex] at z;exact nomatch z
 have m':=m.un un;have th:∀ b o,X.fq.heap.get? b=some o->∃ o',s.heap.get? b=some o':=λb o e=>I.base.there b o e (Mz b);refine⟨⟨λb o e n nb nx=>?_,λb o e n hb nx=>?_,λb o e n nx=>?_,λb o e nx=>?_,λb xs e=>un.iO b xs (I.base.iO b xs e),λb ob u e=>un.qf b ob u (I.base.qf b ob u e),λb ps e=>?_⟩,λb o e k nb=>?_⟩
 ·exact m'.keep b o (I.base.keep b o e n nb (Mz b)) (I.base.free b o e n (Mz b)) (λz=>((hs b).mp z).elim (Nq b o e) nb) (by simp)
 ·obtain⟨_,e1⟩:=I.base.slot b o e n hb (Mz b);obtain⟨sl,e2⟩:=m'.slot b _ e1 (I.base.free b o e n (Mz b)) ((hs b).mpr (.inr hb)) (by simp);exact⟨sl,e2⟩
 ·obtain⟨o',e1⟩:=th b o e;exact un.free b o' e1 (I.base.free b o e n (Mz b)) (by simp)
 ·obtain⟨o',e1⟩:=th b o e;exact m'.there b o' e1 (by simp)
 ·obtain⟨m1,e1⟩:=I.base.se b ps e;obtain⟨m2,e2⟩:=un.se b _ e1;exact⟨m1++m2,by rw[e2,LS]⟩
 ·have key:∀ o',h.get? b=some o'->(H' b≠none\/s.heap.get? b≠none)->b∉fw X.stack->B.get? b=some o:=λo' e' k' n'=>by have:=m.keep b o' e' k' n';rw[e] at this;cases this;exact c b o e' k' n'
  rcases k with k|k
  ·have nf:b∉fw X.stack:=λz=>k (fr b z)
   cases q:H' b with
   |none=>exact absurd q k
   |some u =>obtain⟨o',e'⟩:=fS.there (bT b u q);exact key o' e' (.inl k) nf
  ·cases q:X.fq.heap.get? b with
   |none=>exact absurd q k
   |some o0 =>obtain⟨o1,e1⟩:=th b o0 q;obtain⟨o2,e2⟩:=un.there b o1 e1 (by simp);exact key o2 e2 (.inr (by rw[e1];exact λz=>nomatch z)) λz=>((hs b).mp z).elim (Nq b o0 q) nb
end
section
variable {P:dz}{w:dA}{K:aI}{mg:Str->Option ah}{base:cS}{N:List Str}{qual:Str}{scope:Scope}{f:ag}{cd:ah}{A:eJ}{outer:List PySem.Env}{fq:aE}{yB:Hp}{E:XK}{rn:List Str}
theorem vQ(hf:env.frame=some L)(h:b∈fw l):b∈fw (env :: l):=by unfold fw;rw[AA,hf];exact eP _ h
theorem gC:Passes (pT P w mg rn) (pf (pT P w mg rn) P w K mg base N qual scope f cd A outer fq yB E) E:=by intro pins σ H s e s' I hx;obtain⟨a,n,C,a0,H',B,he,hn,os,bare,un,bT,z0,cov,fr,hE⟩:=hx;subst he;refine Em I.ok.frames rfl z0 λh' Z6 up=>?_;have mv:=cg.of cov Z6.1 up z0.2.2.1;obtain⟨u1,c1⟩:=zS.up (X:=pf (pT P w mg rn) P w K mg base N qual scope f cd A outer fq yB E) rfl rfl rfl I un cov mv fr bT;exact⟨a,n,C,a0,H',B,rfl,hn,os.trans I.os,bare,u1,mv.bT fr bT,Z6,c1,λb hb=>fr b (vQ rfl hb),hE⟩
def pU(X:Cx)(rn:List Str)(E:XK):Prop:=∀ (pins:List (ag × Obj)) (σ:St) (H:Hp) (s:aE) (h':cS) (e:ag) (n:Str) (C:ag) (vs:List ah),Inv X pins σ H s->Heap.MadeExcOf s.heap h' e (.ref C) vs ->
 n∈rn->X.mg n=some (.ref C)->E (.ref C) none H->X.xe (.ref e) { s with heap:=h' }
theorem pK:pU (pf (pT P w mg rn) P w K mg base N qual scope f cd A outer fq yB E) rn E:=by
 intro pins σ H s h' e n C vs I hx hn hm hE;have st:=I.stack;have ff:s.heap.FunFrames (hideAll s.heap (fw (k7 qual scope fq.heap.objs.size f cd :: outer))) (k7 qual scope fq.heap.objs.size f cd :: outer):=FunFrames.rebase st λb hb=>hideAll_none _ hb;refine u6 (h:=s.heap) I.ok.frames rfl (λb o q=>of_hideAll _ q) ff hx λh'' t z0 up=>?_;have ff':h'.FunFrames (hideAll s.heap (fw (k7 qual scope fq.heap.objs.size f cd :: outer))) (k7 qual scope fq.heap.objs.size f cd :: outer):=ff.of_keeps λb o q _=>⟨o,hx.keeps b o q,rfl⟩
 have bT:gL P w H h':=I.bT.kept hx.keeps;have fr:∀ b∈fw (k7 qual scope fq.heap.objs.size f cd :: outer),H b=none:=I.Se;have cov:zS (hideAll s.heap (fw (k7 qual scope fq.heap.objs.size f cd :: outer))) (fw (k7 qual scope fq.heap.objs.size f cd :: outer)) H s.heap h':=λb o q k nb=>by
  have ho:∃ o1,s.heap.get? b=some o1:=by
   rcases k with k|k
   ·cases z:H b with
    |none=>exact absurd z k
    |some u=>exact fS.there (I.bT b u z)
   ·exact Option.ne_none_iff_exists'.mp k
  obtain⟨o1,e1⟩:=ho;have e2:=hx.keeps b o1 e1;rw[q] at e2;cases e2;exact hideAll_get _ e1 nb
 have mv:cg (fw (k7 qual scope fq.heap.objs.size f cd :: outer)) H s.heap h' h'':=cg.of cov z0.1 up ff';obtain⟨u1,c1⟩:=zS.up (X:=pf (pT P w mg rn) P w K mg base N qual scope f cd A outer fq yB E) rfl rfl rfl I (Un.kept hx.keeps) cov mv fr bT;exact⟨e,n,C,_,H,_,rfl,⟨hn,hm⟩,I.os,I.bare,u1,mv.bT fr bT,z0,c1,λb hb=>fr b (vQ rfl hb),hE⟩
theorem GR{X:Cx}:Passes (pT P w mg rn) X E0:=by intro _ _ _ _ _ _ _ hx;obtain⟨_,_,_,_,_,_,_,_,_,_,_,_,_,_,_,h⟩:=hx;exact h.elim
def LX(rn:List Str)(mg:Str->Option ah)(E:XK):Str->Hp->Prop:=λn H'=>n∈rn->∀ C,mg n=some (.ref C)->E (.ref C) none H'
def dJ(K:aI)(rn:List Str)(mg:Str->Option ah)(sp:fo):Sp:=λvs H Qv E=>∃ ds Qd,b9 K H ds vs/\sp ds Qd /\ (∀ v H' ax m d As,bG H ax->Wf ax H'->RM K ax H' m d v As->As.Nodup->(∀ a∈As,ax a=none)->Qd m d->Qv v H') /\
 ∀ n H',bG H H'->Qd (.ow false) (.str n)->LX rn mg E n H'
theorem tW(h:dJ K rn mg sp vs H Qv E)(hp:∀ ds Q,sp ds Q->t { nx:=λ_=>Q .sh .non,rt:=Q } (aH N.length ds)) :
  zk K (LX rn mg E) t { nx:=λ_ H'=>Qv .non H',rt:=Qv } (start N vs) H:=by
 obtain⟨ds,Qd,rs,hs,fin,fx⟩:=h;have hl:=rs.length;refine⟨H,aH N.length ds,[],{ nx:=λ_=>Qd .sh .non,rt:=Qd },⟨?_,⟨bG.refl _,λ_ _ e=>e⟩,mG,λa h=>nomatch h⟩,hp ds Qd hs,?_,?_,?_,?_,fx⟩
 ·unfold aH start;rw[hl];exact SR.start rs
 ·exact λck H' ax da cy s sr q=>fin .non H' ax .sh .non [] s sr.wf ⟨rfl,.non⟩ mG (λa h=>nomatch h) q
 ·exact λck H' ax da cy s sr q=>q.elim
 ·exact λck H' ax da cy s sr q=>q.elim
 ·exact λv H' ax m d As s w r nd own q=>fin v H' ax m d As s w r nd own q
theorem Um.ok{st:Stmt}{ps:List Str}(F:tF K x qual st f fd)(S:HG N ps (gX st))(len:∀ ds Q,sp ds Q->ds.length=ps.length)(y6:∀ (dr:ah) (A:eJ) (outer:List PySem.Env) (s:aE) (H:Hp) (E:XK),ke k (A.deeper (k7 qual (gX st) s.heap.objs.size f dr))->tP (pf (pT P w mg rn) P w K mg base N qual (gX st) f dr A outer s H E) K (LX rn mg E) (qo st) t)(hp:∀ ds Q,sp ds Q->t { nx:=λ_=>Q .sh .non,rt:=Q } (aH N.length ds)):tf P w K mg base (pT P w mg rn) (k+1) f fd ps (dJ K rn mg sp):=by
 obtain⟨oc,od,kV,doc,pm,an,dr,ct,y3,rfl,lk,qh⟩:=F.ex;exact VX lk qh S (λvs H Q E ⟨ds,Qd,rs,hs,_⟩=>by rw[<- rs.length];exact len ds Qd hs) λA outer s H vs Q E hr A2=>⟨_,y6 dr A outer s H E hr,tW A2 hp⟩
structure MA(P:dz)(w:dA)(K:aI)(mg:Str->Option ah)(base:cS)(rn:List Str)(k:Nat)(x:Str)(ps:List Str)(sp:fo):Prop where
 ex:∃ (g:ag) (fd:xo),mg x=some (.ref g)/\D7 K (.ref g)=true/\Binds K fd ps []/\tf P w K mg base (pT P w mg rn) k g fd ps (dJ K rn mg sp)
theorem tF.gp'{st:Stmt}{ps:List Str}(F:tF K x qual st f fd)(hm:mg x=some (.ref f))(ok:tf P w K mg base (pT P w mg rn) k f fd ps (dJ K rn mg sp))(h:∀ (kV doc pm:ah) (an:Option ag) (dr ct:ah) (us:List ah),us.length=ps.length->bindArgs (ui x qual (x3 st) (qo st) (gX st) .none kV doc pm an dr ct) ⟨us,[]⟩=pure (ps.zip us)):MA P w K mg base rn k x ps sp:=⟨f,fd,hm,F.kp,F.binds h,ok⟩
end
def Q9(K:aI)(mg:Str->Option ah)(n:Str):Prop:=∃ C,mg n=some (.ref C)/\ll K C
def mr(m:Md)(d:D)(Y:Str->Prop)(N:Prop):Prop:=match m,d with
 |.ow false,.str n=>Y n
 |_,_=>N
theorem wV{K:aI}(r:RM K Hs H m d v As)(h:mr m d Y N):N:=by
 unfold mr at h;split at h
 ·obtain⟨r,ne⟩:=r;cases r;exact absurd rfl ne
 ·exact h
section
variable {X:Cx}{K:aI}{rn:List Str}{E:XK}{e:Expr}{es:List Expr}{te:WE}{t:WA}{pos:Pos}
def jr(n:Str)(te:WE):WS:=λE ρ=>te ρ λ_ _=>E.rt (.ow false) (.str n)
theorem xQ (hc:X.calm=true) (ok:pU X rn E) (hn:x∈rn) (hm:X.mg x=some (.ref C)) (xc:ll X.K C) (ha:PA X [e] ta) (hg:Gl X x) (ic:(x == ("__debug__" : Str))=false)(he:bS [e] X.env=[(false,c9 e X.env)]):PS X (.Raise (some (.Call (.Name x np) [e] [] dy)) none pos) (λD σ H=>ta σ H λvs H1=>vs.length<=bX/\E (.ref C) none H1):=by
 intro pins s σ H D I h;obtain⟨bm,N,nm,q,bs,hdct,sn,sub,ab,col,dd,k0,k1,k2,k3,k5,mN,hC,hN,BH,T⟩:=xc.obj I.mod.Nn;refine wpAny_Raise_call_subT (C:=C) (nm:=nm) (q:=q) (N:=N) (bs:=bs) (bm:=bm) (hdct:=hdct) (sn:=sn) (sub:=sub) (ab:=ab) (col:=col) (dd:=dd) (k0:=k0) (k1:=k1) (k2:=k2) (k3:=k3) (k5:=k5)
  F.excBase_ValueError (mN:=mN) (T.hasType F.excBase_ValueError.hasBase) (I.ok.hd hc) (by rw[he];rfl) BH (GW I hg hm ⟨rfl,?_⟩ ic)
 have h2:=ha dy pins s σ H _ I h;rw[he] at h2 ⊢;exact Calls.evalArgs_plain (dP h2 λvs s1 ⟨xs,H1,I1,r,hl,q⟩=>⟨rfl,by rw[<- r.length];exact hl,I1.bk _ _ hC,hN.keeps I1.bk,T.keeps I1.bk,λh' e' hx=>ok pins σ H1 s1 h' e' x C vs I1 hx hn hm q⟩)
theorem gh (hc:X.calm=true) (ok:pU X rn E) (xc:Q9 K X.mg x) (hn:x∈rn) (he:QE X K e te) (hg:Gl X x:=by rfl) (ic:(x == ("__debug__" : Str))=false:=by decide) (hK:X.K=K:=by rfl) (hs:bS [e] X.env=[(false,c9 e X.env)]:=by rfl):QS X K (LX rn X.mg E) (.Raise (some (.Call (.Name x np) [e] [] dy)) none pos) (jr x te):=by
 subst hK;obtain⟨C,hm,xc⟩:=xc;refine PS.imp (xQ hc ok hn hm xc (kU he si hs) hg ic hs) λD σ H hx=>fL hx λHs ρ ai E' sr h k1 k2 k3 k4 kx=>?_;exact⟨Hs,ρ,ai,_,sr,h,λv H1 bE m d As g1 r1 f1 q1=>⟨(by decide:1<=bX),kx x H1 (g1.sh.trans g1.wf.sub) q1 hn C hm⟩⟩
section
variable {k:Nat}{x:Str}{ps:List Str}{sp:fo}{p dy:Pos}
theorem l_ (C:MA X.prog X.w X.K X.mg X.base rn k x ps sp) (hr:ke k X.A) (hx:Passes (pT X.prog X.w X.mg rn) X E) (ha:PA X (e :: es) ta) (hg:Gl X x) (ic:(x == ("__debug__" : Str))=false) (he:bS (e :: es) X.env=(false,c9 e X.env) :: bS es X.env)(hU:(iq pos (bS es X.env)).any (·.1)=false):PE X (.Call (.Name x p) (e :: es) [] pos) (HC (dJ X.K rn X.mg sp) [] E ta):=by
 obtain⟨g,fd,hm,hk,hb,F⟩:=C.ex;exact VM F hr hg hm hk hb .nil hx ha ic he hU
theorem eG{σ:St}{H:Hp}{Qv:VK}{Hs:Hp}{ρ:Env}{ai:List ag}{Y:Str->Prop}{Q:Md->D->Prop}(sr:eB K Hs ρ σ H ai)(h:t ρ λps=>sp (ps.map (·.2)) λm d=>mr m d Y (cq (m,d) (f:=λp=>Q (qV p.1 p.2) p.2) ⟨⟩)) (f:∀ v H' ax m d As,eT Hs H ax H'->RM K ax H' m d v As->bL ax H As->Q m d->Qv v H') (fx:∀ n H',bG Hs H'->Y n->LX rn X.mg E n H'):HC (dJ K rn X.mg sp) [] E (Qy K t) σ H Qv:=by
 refine⟨Hs,ρ,ai,_,sr,h,λvs H1 bE ps As g1 r1 f1 q1=>?_⟩;refine⟨_,_,by rw[kE];exact r1.reps g1.wf,q1,λv H' ax m d As s w r nd own q=>?_,λn H' s q=>fx n H' (g1.sh.trans (g1.wf.sub.trans s)) q⟩;obtain⟨gy,r',fr⟩:=lU g1.wf s w r nd own;exact Fin.after f g1 v H' _ (qV m d) d gy (b_ g1.wf s w) r' fr (wV r q)
def wU(sp:fo)(t:WA):WE:=λρ Q=>t ρ λps=>sp (ps.map (·.2)) λm d=>mr m d (λ_=>False) (cq (m,d) (f:=λp=>Q (qV p.1 p.2) p.2) ⟨⟩)
def jm(sp:fo)(t:WA):WS:=λE ρ=>t ρ λps=>sp (ps.map (·.2)) λm d=>mr m d (λn=>E.rt (.ow false) (.str n)) (cq (m,d) (f:=λ_=>E.nx ρ) ⟨⟩)
def jU(sp:fo)(t:WA):WS:=λE ρ=>t ρ λps=>sp (ps.map (·.2)) λm d=>mr m d (λn=>E.rt (.ow false) (.str n)) (cq (m,d) (f:=λp=>E.rt (qV p.1 p.2) p.2) ⟨⟩)
def Ck(i:Nat)(sp:fo)(t:WA):WS:=λE ρ=>t ρ λps=>sp (ps.map (·.2)) λm d=>mr m d (λn=>E.rt (.ow false) (.str n)) (cq (m,d) (f:=λp=>match asg (qV p.1 p.2) p.2 with
 |some sl=>E.nx (ρ.set i (some sl))
 |none=>False) ⟨⟩)
variable (C:MA X.prog X.w X.K X.mg X.base rn k x ps sp)(hr:ke k X.A)
include C hr
theorem Et (ha:QA X K (e :: es) t) (hK:X.K=K:=by rfl) (hg:Gl X x:=by rfl) (ic:(x == ("__debug__" : Str))=false:=by decide) (he:bS (e :: es) X.env=(false,c9 e X.env) :: bS es X.env:=by rfl) (hU:(iq pos (bS es X.env)).any (·.1)=false:=by rfl):QE X K (.Call (.Name x p) (e :: es) [] pos) (wU sp t):=by
 subst hK;exact PE.imp (l_ C hr GR ha hg ic he hU) λσ H Qv h=>kB h λHs ρ ai Q sr h f=>eG sr h f λn H' _ z=>z.elim
variable (hx:Passes (pT X.prog X.w X.mg rn) X E)
include hx
theorem fM (ha:QA X K (e :: es) t) (hs:rU (.Call (.Name x p) (e :: es) [] dy) none pos.line X.env=pure false:=by rfl) (hK:X.K=K:=by rfl) (hg:Gl X x:=by rfl) (ic:(x == ("__debug__" : Str))=false:=by decide) (he:bS (e :: es) X.env=(false,c9 e X.env) :: bS es X.env:=by rfl) (hU:(iq dy (bS es X.env)).any (·.1)=false:=by rfl):QS X K (LX rn X.mg E) (.Expr (.Call (.Name x p) (e :: es) [] dy) pos) (jm sp t):=by
 subst hK;exact PS.imp (LZ (l_ C hr hx ha hg ic he hU) hs) λD σ H hx=>fL hx λHs ρ ai E' sr h k1 k2 k3 k4 kx=>eG (Q:=λ_ _=>E'.nx ρ) sr h (λv H1 bE m d As g1 r1 f1 q1=>k1 σ H1 bE ρ ai g1.sh (sr.grow g1) q1) kx
theorem dX (ha:QA X K (e :: es) t) (hK:X.K=K:=by rfl) (hg:Gl X x:=by rfl) (ic:(x == ("__debug__" : Str))=false:=by decide) (he:bS (e :: es) X.env=(false,c9 e X.env) :: bS es X.env:=by rfl) (hU:(iq dy (bS es X.env)).any (·.1)=false:=by rfl):QS X K (LX rn X.mg E) (.Return (some (.Call (.Name x p) (e :: es) [] dy)) pos) (jU sp t):=by
 subst hK;exact PS.imp (Nx (l_ C hr hx ha hg ic he hU)) λD σ H hx=>fL hx λHs ρ ai E' sr h k1 k2 k3 k4 kx=>eG (Q:=E'.rt) sr h (λv H1 bE m d As g1 r1 f1 q1=>k4 v H1 bE m d As g1.sh g1.wf r1 f1.1 (λa ha=>(f1.2 a ha).1) q1) kx
theorem zT(i:Nat)(ha:QA X K (e :: es) t)(hs:rU (.Call (.Name x p) (e :: es) [] dy) (some (.Name y pos')) pos.line X.env=pure false:=by rfl) (hf:X.fn y=true\/X.env.scope.names.lookup y=some .local:=by first|exact .inl rfl|exact .inr rfl|assumption) (hK:X.K=K:=by rfl) (hg:Gl X x:=by rfl) (ic:(x == ("__debug__" : Str))=false:=by decide) (he:bS (e :: es) X.env=(false,c9 e X.env) :: bS es X.env:=by rfl) (hU:(iq dy (bS es X.env)).any (·.1)=false:=by rfl) (hN:X.N.Nodup:=by assumption) (hi:X.N[i]? = some y:=by rfl) (hy:Loc X.env.scope y:=by first|exact .inl rfl|exact .inr rfl):QS X K (LX rn X.mg E) (.Assign [.Name y pos'] (.Call (.Name x p) (e :: es) [] dy) pos) (Ck i sp t):=by
 subst hK
 refine PS.imp (PD hN hi hy (l_ C hr hx ha hg ic he hU) hs hf) λD σ H hx=>fL hx λHs ρ ai E' sr h k1 k2 k3 k4 kx=>eG (Q:=λm d=>match asg m d with
  |some sl=>E'.nx (ρ.set i (some sl))
  |none=>False) sr h (λv H1 bE m d As g1 r1 f1 q1=>?_) kx
 cases e:asg m d with
 |none=>rw[e] at q1;exact q1.elim
 |some sl =>rw[e] at q1;obtain⟨cy,s'⟩:=(sr.grow g1).set i r1 f1.1 (λa ha=>⟨(f1.2 a ha).1,λm=>(sr.sr.own a m).ne (f1.2 a ha).2⟩) e;exact k1 _ H1 bE _ cy g1.sh s' q1
end
def Fs(j:Nat)(a:ag)(b:Bool):WE:=λρ Q=>ρ[j]? = some (some (.xc a))/\Q .sh (.bl b)
theorem xY (hm:X.mg "isinstance" = none) (hp:(a,oe)∈X.pn) (lP:oe.cls=.ref C) (xc:ll X.K C) (hk:kitOne X.K (.ref C) c=some b) (he:PE X e (AW j)) (ht:PE X e2 (tC vc)) (hvc:∀ u,RelV vc u->u=c)(hg:Gl X "isinstance" := by rfl) (hs:bS (e :: [e2]) X.env=(false,c9 e X.env) :: bS [e2] X.env:=by rfl) (lI:bS (e2 :: []) X.env=(false,c9 e2 X.env) :: bS [] X.env:=by rfl) (hU:(iq pos (bS [e2] X.env)).any (·.1)=false:=by rfl) :
  QE X K (.Call (.Name "isinstance" p) [e,e2] [] pos) (Fs j a b):=by
 have hc:nK X (.builtin "isinstance") (λxs H Q=>xs=[.ref a,vc]/\Q (.bl b) H):=by intro pins s σ H xs us Q I r h;obtain⟨rfl,q⟩:=h;obtain⟨u,v,rfl,ru,rv⟩:=Vals.two r;obtain rfl:u=Value.ref a:=ru;obtain rfl:=hvc v rv;obtain⟨ho,_⟩:=I.pin (a,oe) (j3 _ hp);exact kia_one (rB xc) I.iP ⟨oe,ho,lP⟩ hk (λz=>nomatch z) λtk=>⟨.bl b,H,I.tok tk,rfl,q⟩
 refine PE.imp (PY hc hg hm cX (kU he (kU ht si lI) hs) (by decide) (by decide) hs hU) λσ H Qv hx=>kB hx λHs ρ ai Q sr h f=>?_;obtain⟨ea,q⟩:=h;obtain⟨v,e1,r⟩:=sr.sr.get ea;have r:v=V.ref a:=r;subst r;exact⟨_,e1,rfl,Fin.sh f sr.wf (.bl _) q⟩
end
abbrev du(X:Cx)(pn:List (ag × Obj))(xe:ah->aE->Prop):Cx:={ X with pn:=pn,xe:=xe }
abbrev oB(X:Cx)(pn:List (ag × Obj))(a:ag):Cx:={ X with A:=X.A.mark (some (.ref a)),calm:=false,pn:=pn,xe:=λ_ _=>False }
abbrev zY(X:Cx)(H:Hp)(s:aE)(p:ag × Obj):Prop:=s.heap.get? p.1=some p.2/\H p.1=none/\p.1≠X.env.locals/\p.1∉X.fs/\∀ v,p.2.data≠.cell v
section
variable {X:Cx}{pins js pn:List (ag × Obj)}{σ:St}{H:Hp}{s:aE}{xe:ah->aE->Prop}{a:ag}
theorem Inv.du(I:Inv X pins σ H s)(h:∀ p∈pn++js,zY X H s p):Inv (du X pn xe) js σ H s :=
 ⟨⟨I.ok.mod,I.ok.kind,I.ok.glob,I.ok.blt,I.ok.above,I.ok.inj,I.ok.has,I.ok.AQ,I.ok.hd,I.ok.frames,I.ok.CC,I.ok.CD,I.ok.bs,I.ok.uS,I.ok.AR,I.ok.AU,I.ok.sf,I.ok.yT⟩,I.os,I.bare,I.base,I.loc,I.cell,I.free,I.pe,h,I.bT,I.len⟩
theorem Inv.jE(I:Inv (L2.Q.du X pn xe) js σ H s)(h:∀ p∈X.pn++pins,p∈pn++js):Inv X pins σ H s :=
 ⟨⟨I.ok.mod,I.ok.kind,I.ok.glob,I.ok.blt,I.ok.above,I.ok.inj,I.ok.has,I.ok.AQ,I.ok.hd,I.ok.frames,I.ok.CC,I.ok.CD,I.ok.bs,I.ok.uS,I.ok.AR,I.ok.AU,I.ok.sf,I.ok.yT⟩,I.os,I.bare,I.base,I.loc,I.cell,I.free,I.pe,λp hp=>I.pin p (h p hp),I.bT,I.len⟩
theorem Inv.oB(I:Inv (L2.Q.du X pn xe) js σ H s)(h:∀ p∈pn2++gs',zY X H s p):Inv (L2.Q.oB X pn2 a) gs' σ H s :=
 ⟨⟨I.ok.mod,I.ok.kind,I.ok.glob,I.ok.blt,I.ok.above,I.ok.inj,I.ok.has,I.ok.AQ,(λz=>nomatch z),I.ok.frames,I.ok.CC,I.ok.CD,I.ok.bs,I.ok.uS,I.ok.AR,I.ok.AU,I.ok.sf,I.ok.yT⟩,I.os,I.bare,I.base,I.loc,I.cell,I.free,I.pe,h,I.bT,I.len⟩
theorem Inv.CN(I:Inv (L2.Q.du X pn xe) pins σ H s):Inv (L2.Q.du X pn xe2) pins σ H s :=
 ⟨⟨I.ok.mod,I.ok.kind,I.ok.glob,I.ok.blt,I.ok.above,I.ok.inj,I.ok.has,I.ok.AQ,I.ok.hd,I.ok.frames,I.ok.CC,I.ok.CD,I.ok.bs,I.ok.uS,I.ok.AR,I.ok.AU,I.ok.sf,I.ok.yT⟩,I.os,I.bare,I.base,I.loc,I.cell,I.free,I.pe,I.pin,I.bT,I.len⟩
theorem Inv.qI(I:Inv (L2.Q.oB X pn a) js σ H s)(hd:X.calm=true->X.A.handled=none)(h:∀ p∈X.pn++pins,p∈pn++js):Inv X pins σ H s :=
 ⟨⟨I.ok.mod,I.ok.kind,I.ok.glob,I.ok.blt,I.ok.above,I.ok.inj,I.ok.has,I.ok.AQ,hd,I.ok.frames,I.ok.CC,I.ok.CD,I.ok.bs,I.ok.uS,I.ok.AR,I.ok.AU,I.ok.sf,I.ok.yT⟩,I.os,I.bare,I.base,I.loc,I.cell,I.free,I.pe,λp hp=>I.pin p (h p hp),I.bT,I.len⟩
theorem SP.jE{D:Ends}(h:SP (L2.Q.du X pn xe) js D f s)(hp:∀ p∈X.pn++pins,p∈pn++js):SP X pins D f s:=by
 cases f with
 |next=>obtain⟨ck,H',I,q⟩:=h;exact⟨ck,H',Inv.jE I hp,q⟩
 |brk=>obtain⟨ck,H',I,q⟩:=h;exact⟨ck,H',Inv.jE I hp,q⟩
 |cont=>obtain⟨ck,H',I,q⟩:=h;exact⟨ck,H',Inv.jE I hp,q⟩
 |ret u=>obtain⟨v,ck,H',I,r,q⟩:=h;exact⟨v,ck,H',Inv.jE I hp,r,q⟩
theorem Inv.forget(I:Inv X pins σ H s)(hn:h'.Ns X.env.locals m)(hs:Heap.SameBut X.env.locals s.heap h'):Inv X pins (List.replicate X.N.length none) H { s with heap:=h',toks:=t }:=by
 have ne:∀ b o,X.fq.heap.get? b=some o->b≠X.env.locals:=λb o e=>gV (n4 (eS e) I.ok.above);refine⟨I.ok,I.os,I.bare,⟨λb o e n hb hx=>(hs.2 b (ne b o e)).trans (I.base.keep b o e n hb hx),λb o e n hb hx=>?_,I.base.free,λb o e hx=>?_,I.base.iO,I.base.qf,I.base.se⟩,⟨m,hn,λi x v e1 e2=>?_⟩,λx c e=>?_,I.free,I.pe,λp hp=>?_,λb o e=>?_,RD⟩
 ·obtain⟨sl,e1⟩:=I.base.slot b o e n hb hx;exact⟨sl,(hs.2 b (ne b o e)).trans e1⟩
 ·obtain⟨o',e1⟩:=I.base.there b o e hx;exact⟨o',(hs.2 b (ne b o e)).trans e1⟩
 ·rw[RC] at e2;split at e2<;>cases e2
 ·obtain⟨v,z⟩:=I.cell x c e;exact⟨v,z.sameBut hs (I.CF x c e)⟩
 ·obtain⟨e,n,nl,nf,d⟩:=I.pin p hp;exact⟨(hs.2 p.1 nl).trans e,n,nl,nf,d⟩
 ·refine(I.bT b o e).fN (λc u hc q=>(hs.2 c ?_).trans q) (λ_ q=>q) λ_ _ q=>q;intro z;rcases hc with w|w
  ·rw[<- w,z,I.free] at e;cases e
  ·rw[z,I.free] at w;cases w
end
theorem zS.next{P:dz}{B:cS}(c:zS B fs H' h₀ h)(m:cg fs H' h₀ h h')(bT:gL P w H' h)(th:∀ b o,h₀.get? b=some o->∃ o',h.get? b=some o'):zS B fs H' h₀ h':=λb o e k nb=>by
 have ho:∃ o',h.get? b=some o':=by
  rcases k with k|k
  ·cases z:H' b with
   |none=>exact absurd z k
   |some u=>exact fS.there (bT b u z)
  ·obtain⟨o0,e0⟩:=Option.ne_none_iff_exists'.mp k;exact th b o0 e0
 obtain⟨o',e'⟩:=ho;have e2:=m.keep b o' e' k nb;rw[e] at e2;cases e2;exact c b o e' k nb
structure tR(K:aI)(mg:Str->Option ah)(rn:List Str)(R:Str):Prop where
 ex:∃ r,mg R=some (.ref r)/\ll K r/\∀ n C,n∈rn->mg n=some (.ref C)->ll K C/\mroIn K C (.ref r)=some true
end L2.Q
namespace L2.Q
open PySem PySem.Spec PyProof.Rows
theorem lW:kN "ValueError" = some (.type "ValueError"):=by decide +kernel
end L2.Q
namespace L2.Q.R
open PySem PySem.Spec PyProof.Rows L2.Q
section
variable {E:iW}{ρ:Env}{Q:Md->L2.Q.D->Prop}{te:WE}{tar:WA}{i j:Nat}{a:ag}{b:Bool}{sp:fo}{n:Str}{d:L2.Q.D}{Y:Str->Prop}{N:Prop}
theorem Gp:jr n te E ρ=te ρ λ_ _=>E.rt (.ow false) (.str n):=rfl
theorem GQ:wU sp tar ρ Q=tar ρ λps=>sp (ps.map (·.2)) λm d=>mr m d (λ_=>False) (cq (m,d) (f:=λp=>Q (qV p.1 p.2) p.2) ⟨⟩):=rfl
theorem Hx:jm sp tar E ρ=tar ρ λps=>sp (ps.map (·.2)) λm d=>mr m d (λn=>E.rt (.ow false) (.str n)) (cq (m,d) (f:=λ_=>E.nx ρ) ⟨⟩):=rfl
theorem Jz:jU sp tar E ρ=tar ρ λps=>sp (ps.map (·.2)) λm d=>mr m d (λn=>E.rt (.ow false) (.str n)) (cq (m,d) (f:=λp=>E.rt (qV p.1 p.2) p.2) ⟨⟩):=rfl
theorem Jl:Ck i sp tar E ρ=tar ρ λps=>sp (ps.map (·.2)) λm d=>mr m d (λn=>E.rt (.ow false) (.str n)) (cq (m,d) (f:=λp=>cq (asg (qV p.1 p.2) p.2) (f:=λo=>put o λsl=>E.nx (ρ.set i (some sl))) ⟨⟩) ⟨⟩):=rfl
theorem Kp:Fs j a b ρ Q=(ρ[j]? = some (some (.xc a))/\Q .sh (.bl b)):=rfl
theorem Kh:mr (.ow false) (.str n) Y N=Y n:=rfl
theorem Jh:mr .sh d Y N=N:=rfl
theorem Jm:mr .bo d Y N=N:=rfl
theorem Ip:mr (.ow true) d Y N=N:=rfl
theorem K7:mr (.ow b) (.list xs) Y N=N:=by cases b<;>rfl
theorem KQ:mr (.ow b) (.tup xs) Y N=N:=by cases b<;>rfl
theorem K4:mr (.ow b) (.dK xs) Y N=N:=by cases b<;>rfl
theorem Kq:mr (.ow b) (.dT xs) Y N=N:=by cases b<;>rfl
end
end L2.Q.R
namespace L2.Q
open PySem PySem.Spec PyProof.Rows PySem.W
theorem t6{K:Frag}:kitAny K t []=some false:=rfl
theorem fG{K:Frag}(h:kitOne K t c=some a)(g:kitAny K t r=some b):kitAny K t (c :: r)=some (a || b):=by
 unfold kitAny;rw[h];cases a
 ·exact g
 ·rfl
section
variable {X:Cx}{K:aI}{e:Expr}{es:List Expr}{pos:Pos}
def Q_(vs:List V):TA:=λ_ H Q=>Q vs H
theorem Bw:PA X [] (Q_ []):=si
theorem mO(h:PE X e (tC v))(r:PA X es (Q_ vs))(hs:bS (e :: es) X.env=(false,c9 e X.env) :: bS es X.env:=by rfl):PA X (e :: es) (Q_ (v :: vs)):=kU h r hs
theorem Be{cs:List ag}{us:List ah}(h:Vals (cs.map V.ref) us):us=cs.map Value.ref:=by
 induction cs generalizing us with
 |nil=>exact Paired.n0 h
 |cons c cs ih =>obtain⟨u,us,rfl,r,t⟩:=Paired.c h;rw[show u=Value.ref c from r,ih t];rfl
theorem E_ {j:Nat} {a C:ag} {oe:Obj} {cs:List ag} {b:Bool} {x1} {p p2:Pos} (hm:X.mg "isinstance" = none) (hp:(a,oe)∈X.pn) (lP:oe.cls=.ref C) (xc:ll X.K C) (hk:kitAny X.K (.ref C) (cs.map Value.ref)=some b) (hz:cs.length<=100) (he:PE X e (AW j)) (ht:PA X es (Q_ (cs.map V.ref)))(hg:Gl X "isinstance" := by rfl) (hs:bS (e :: [.Tuple es x1 p2]) X.env=(false,c9 e X.env) :: bS [.Tuple es x1 p2] X.env:=by rfl) (lI:bS (.Tuple es x1 p2 :: []) X.env=(false,c9 (.Tuple es x1 p2) X.env) :: bS [] X.env:=by rfl) (hU:(iq pos (bS [.Tuple es x1 p2] X.env)).any (·.1)=false:=by rfl) :
  QE X K (.Call (.Name "isinstance" p) [e,.Tuple es x1 p2] [] pos) (Fs j a b):=by
 have hc:nK X (.builtin "isinstance") (λxs H Q=>∃ t,xs=[.ref a,.ref t]/\H t=some (.tup (cs.map V.ref))/\Q (.bl b) H):=by intro pins s σ H xs us Q I r h;obtain⟨t,rfl,et,q⟩:=h;obtain⟨u,v,rfl,ru,rv⟩:=Vals.two r;obtain rfl:u=Value.ref a:=ru;obtain rfl:v=Value.ref t:=rv;obtain⟨ho,_⟩:=I.pin (a,oe) (j3 _ hp);obtain⟨its,ri,o,e1,e2,n,e3⟩:=I.tup et;obtain⟨c',d',dt,sl⟩:=o;cases e2;cases e3;rw[Be ri] at e1;exact kia_tup (rB xc) I.iP ⟨oe,ho,lP⟩ e1 hk (λz=>nomatch z) λtk=>⟨.bl b,H,I.tok tk,rfl,q⟩
 refine PE.imp (PY hc hg hm cX (kU he (kU (PR ht) si lI) hs) (by decide) (by decide) hs hU) λσ H Qv hx=>kB hx λHs ρ ai Q sr h f=>?_;obtain⟨ea,q⟩:=h;obtain⟨v,e1,r⟩:=sr.sr.get ea;have r:v=V.ref a:=r;subst r;refine⟨_,e1,by rw[dn];exact i9 hz (by decide),λt hT=>⟨t,rfl,ki,?_⟩⟩;have g:=N_ (vs:=cs.map V.ref) sr.wf hT;exact Fin.sh (Fin.after f g) g.wf (.bl _) q
end
theorem SR.Cu{K:aI}{Hs H:Hp}{ρ:Env}{σ:St}{ai:List ag}{j:Nat}{o:Option V}(s:SR K Hs H (ρ.set j none) σ ai):SR K Hs H (ρ.set j none) (σ.set j o) ai:=by
 generalize e:ρ.set j none=da at s
 induction s generalizing ρ j with
 |nil=>exact .nil
 |non s ih =>
  cases ρ with
  |nil=>cases e
  |cons x ρ =>
   cases j with
   |zero=>exact .non s
   |succ j=>exact .non (ih (List.cons.inj e).2)
 |sh r s ih =>
  cases ρ with
  |nil=>cases e
  |cons x ρ =>
   cases j with
   |zero=>cases e
   |succ j=>exact .sh r (ih (List.cons.inj e).2)
 |xc s ih =>
  cases ρ with
  |nil=>cases e
  |cons x ρ =>
   cases j with
   |zero=>cases e
   |succ j=>exact .xc (ih (List.cons.inj e).2)
 |ow ne r s ih =>
  cases ρ with
  |nil=>cases e
  |cons x ρ =>
   cases j with
   |zero=>cases e
   |succ j=>exact .ow ne r (ih (List.cons.inj e).2)
 |lk ne r s ih =>
  cases ρ with
  |nil=>cases e
  |cons x ρ =>
   cases j with
   |zero=>cases e
   |succ j=>exact .lk ne r (ih (List.cons.inj e).2)
 |ob r s ih =>
  cases ρ with
  |nil=>cases e
  |cons x ρ =>
   cases j with
   |zero=>cases e
   |succ j=>exact .ob r (ih (List.cons.inj e).2)
theorem zR{α:Type}{l:List α}(h:l.Nodup){i j:Nat}{x:α}(a:l[i]? = some x)(b:l[j]? = some x):i=j:=by
 obtain⟨hi,ei⟩:=nv.mp a;obtain⟨hj,ej⟩:=nv.mp b;rcases Nat.lt_trichotomy i j with q|q|q
 ·exact absurd (ei.trans ej.symm) (MX.mp h i j hi hj q)
 ·exact q
 ·exact absurd (ej.trans ei.symm) (MX.mp h j i hj hi q)
section
variable {X:Cx}{pins:List (ag × Obj)}{σ:St}{H:Hp}{s:aE}
theorem Inv.drop(I:Inv X pins σ H s)(hN:X.N.Nodup)(hj:X.N[j]? = some en)(lk:∀ (i:Nat) (x:Str) (v:V),X.N[i]? = some x->σ[i]? = some (some v)->Np X.env.scope x->∃ u,RelV v u/\Look X.env s.heap m x u)(hn:h'.Ns X.env.locals λx=>if x=en then v else m x) (hs:Heap.SameBut X.env.locals s.heap h'):Inv X pins (σ.set j none) H { s with heap:=h',toks:=t }:=by
 have F:=Inv.forget (t:=t) I hn hs;refine⟨F.ok,F.os,F.bare,F.base,⟨_,hn,λi x v' e1 e2 vs=>?_⟩,F.cell,F.free,F.pe,F.pin,F.bT,by rw[List.length_set];exact I.len⟩;have kA:j≠i:=λz=>by
  subst z;rw[List.getElem?_set] at e2;split at e2
  ·split at e2<;>cases e2
  ·rename_i z;exact z rfl
 rw[RH kA] at e2;obtain⟨u,r,l⟩:=lk i x v' e1 e2 vs;refine⟨u,r,?_⟩;rcases l with⟨a,b⟩|⟨a,c,b,d⟩
 ·refine .inl ⟨a,?_⟩;show(if x=en then v else m x)=some u;rw[if_neg λz=>kA ?_]
  ·exact b
  ·subst z;exact zR hN hj e1
 ·exact .inr ⟨a,c,b,d.sameBut hs (I.CF x c b)⟩
end
end L2.Q
namespace L2.Q.R
open PySem PySem.Spec PyProof.Rows L2.Q
end L2.Q.R
namespace L2
open PySem PySem.Spec PyProof.Rows Builtin Builtin.Str Builtin.Int
end L2
namespace L2.Q
open PySem PySem.Spec PyProof.Rows
section
variable {X:Cx}{K:aI}{a:Expr}{ta:WE}
def OO(t:WE):WE:=λρ Q=>t ρ λm d=>jZ m/\Q .sh d
theorem Uo(h:QE X K a ta):QE X K a (OO ta):=by refine PE.imp h λσ H Qv hx=>kB hx λHs ρ ai Q sr h fin=>?_;refine⟨Hs,ρ,ai,_,sr,h,λv H1 bE m d As g1 r1 f1 q1=>?_⟩;obtain⟨nb,q⟩:=q1;obtain⟨bq,g2,r2⟩:=r1.wF g1 f1 nb;exact fin v H1 bq .sh d [] g2 ⟨rfl,r2⟩ ⟨mG,λ_ h=>zh h⟩ q
def owl(o:Option (Option Sl))(k:List D->Prop):Prop:=match o with
 |some (some (.ow true (.list xs)))=>k xs
 |_=>False
def intD(y:D)(k:Int->Prop):Prop:=match y with
 |.int i=>k i
 |_=>False
def gu'(d:D):Md:=bif d.flat then .sh else .ow true
end
end L2.Q
namespace L2.Q.R
open PySem PySem.Spec PyProof.Rows L2.Q
section
variable {ρ:Env}{te:WE}{m:Md}{ys:List L2.Q.D}{Q:Md->L2.Q.D->Prop}
theorem Im{k:List L2.Q.D->Prop}:owl (some (some (.ow true (.list ys)))) k=k ys:=rfl
theorem IV{i:Int}{k:Int->Prop}:intD (.int i) k=k i:=rfl
theorem gv':OO te ρ Q=te ρ λm d=>jZ m/\Q .sh d:=rfl
end
end L2.Q.R
namespace L2
open PySem PySem.Spec PyProof.Rows
end L2
namespace L2.Q
open PySem PySem.Spec PyProof.Rows
section
variable {X:Cx}{K:aI}{a b c:Expr}{ta tb tc:WE}{apos dy:Pos}
def Ra(x:D)(f:List (Key × D)->Prop)(g:List (List Key × D)->Prop):Prop:=match x with
 |.dK ae=>f ae
 |.dT ae=>g ae
 |_=>False
def Uq(y:D)(k:List D->Prop):Prop:=match y with
 |.tup ys=>k ys
 |_=>False
def Jn(o:Option D)(m n:Md)(z:D)(Q:Md->D->Prop):Prop:=match o with
 |some d=>Q (pE m d) d
 |none=>Q n z
def Rb(ta tb tc:WE):WE:=λρ Q=>ta ρ λm x=>Ra x (λae=>tb ρ λ_ y=>tc ρ λn z=>∃ k,y.key1=some k/\Jn (fP ae k) m n z Q) (λae=>tb ρ λ_ y=>tc ρ λn z=>Uq y λys=>∃ ks,dG ys=some ks/\Jn (fP ae ks) m n z Q)
theorem yx(hx:nS K (Rb ta tb tc) σ H Qv):Wi (nS K ta) (nS K tb) (nS K tc) σ H Qv:=kB hx λHs ρ ai Q sr h fin=>by
 refine⟨Hs,ρ,ai,_,sr,h,λv H1 bE m x As g1 r1 f1 q1=>?_⟩
 have got:∀ {o:Option V} {d? : Option D} {H2 H3 bq fe:Hp} {w:V} {n:Md} {z:D} {Cs:List ag},eT bE H1 bq H2->eT bq H2 fe H3->RM K fe H3 n z w Cs->bL fe H2 Cs->(match d? with
   |some d=>∃ v,o=some v/\Rep K H3 d v/\(m=.sh->Rep K fe d v)
   |none=>o=none)->Jn d? m n z Q->Qv (o.getD w) H3:=by
  intro o d? H2 H3 bq fe w n z Cs g2 g3 r3 f3 l q
  cases d? with
  |none=>rw[show o=none from l];exact fin w H3 fe n z Cs ((g1.trans g2).trans g3) r3 (f3.of (g1.trans g2).all) q
  |some d =>obtain⟨v',e,u1,u2⟩:=l;rw[e];exact(Fin.after fin ((g1.trans g2).trans g3)).pE g3.wf u1 u2 q
 have core:∀ G:Hp,bG G H1->(∀ H3 fe,eT bE H1 fe H3->∀ d v,Rep K G d v->Rep K H3 d v/\(m=.sh->Rep K fe d v))->Rep K G x v->∃ a,v=.ref a/\Qa H1 a/\nS K tb σ H1 λy H2=>nS K tc σ H2 λz H3=>∃ o,k8 H3 a y o/\Qv (o.getD z) H3:=by
  intro G sg up r
  cases r with
  |dK kk s q =>
   refine⟨_,rfl,.inl ⟨_,bG.rd sg s⟩,bE,ρ,ai,_,sr.grow g1,q1,λu H2 bq n y Bs g2 r2 f2 q2=>⟨bq,ρ,ai,_,(sr.grow g1).grow g2,q2,λw H3 fe n3 z Cs g3 r3 f3 q3=>?_⟩⟩;have ry:=(r2.grow g3).rep g3.wf;obtain⟨k,hk,q4⟩:=q3;have ev:=ry.key hk;subst ev;refine⟨_,k8.k' (bG.rd (g2.trans g3).all (bG.rd sg s)),got g2 g3 r3 f3 ?_ q4⟩;have z:=zip_get (k:=k) q;split
   ·rename_i d e;rw[e] at z;obtain⟨v',e',r'⟩:=z;exact⟨v',e',up _ _ (g2.trans g3) _ _ r'⟩
   ·rename_i e;rw[e] at z;exact z
  |dT kk s q =>
   refine⟨_,rfl,.inr ⟨_,bG.rd sg s⟩,bE,ρ,ai,_,sr.grow g1,q1,λu H2 bq n y Bs g2 r2 f2 q2=>⟨bq,ρ,ai,_,(sr.grow g1).grow g2,q2,λw H3 fe n3 z Cs g3 r3 f3 q3=>?_⟩⟩;have ry:=(r2.grow g3).rep g3.wf
   cases ry with
   |tup t2 e2 p2 =>
    obtain⟨k,hk,q4⟩:=q3;obtain⟨b',eb,e3⟩:=Rep.mh (.tup t2 e2 p2) hk;cases eb;refine⟨_,k8.t' (bG.rd (g2.trans g3).all (bG.rd sg s)) e3,got g2 g3 r3 f3 ?_ q4⟩;have z:=zip_get (k:=k) q;split
    ·rename_i d e;rw[e] at z;obtain⟨v',e',r'⟩:=z;exact⟨v',e',up _ _ (g2.trans g3) _ _ r'⟩
    ·rename_i e;rw[e] at z;exact z
   |_=>exact q3.elim
  |_=>exact q1.elim
 rcases r1.here g1.wf with⟨hm,r⟩|⟨hm,r⟩
 ·exact core bE g1.wf.sub (λH3 fe g d v q=>⟨q.same (g1.wf.sub.trans g.all),λ_=>q.same g.sh⟩) r
 ·exact core H1 (bG.refl H1) (λH3 fe g d v q=>⟨q.same g.all,λz=>absurd z hm⟩) r
theorem Hw (ha:QE X K a ta) (hb:QE X K b tb) (hc:QE X K c tc) (hm:M2 X a "get" apos b c dy:=by exact⟨rfl,rfl,rfl,rfl⟩) (hu:X.A.units+64<hX:=by assumption):QE X K (.Call (.Attribute a "get" apos) [b,c] [] dy) (Rb ta tb tc) :=
 PE.imp (dn' (by lia) ha hb hc hm) λσ H Qv hx=>yx hx
def gw'(o:Option (Option Sl))(k:List (List Key × D)->Prop):Prop:=match o with
 |some (some (.ow true (.dT ae)))=>k ae
 |_=>False
theorem cP{κ β:Type}[DecidableEq κ](p:κ × β)(r:List (κ × β))(k:κ):fP (p :: r) k=if p.1=k then some p.2 else fP r k:=by by_cases h:p.1=k<;>simp[fP,h]
end
end L2.Q
namespace L2
open PySem PySem.Spec PyProof.Rows
end L2
namespace L2.Q
open PySem PySem.Spec PyProof.Rows
section
def Ur(d:D)(k:List (Key × D)->Prop):Prop:=match d with
 |.dK ae=>k ae
 |_=>False
end
end L2.Q
namespace L2.Q.R
open PySem PySem.Spec PyProof.Rows L2.Q
section
variable {ρ:Env}{te tb tc:WE}{m:Md}{x y:L2.Q.D}{ys:List L2.Q.D}{Q:Md->L2.Q.D->Prop}{k:Nat}
theorem Lx{ae:List (Key × L2.Q.D)}{k:List (Key × L2.Q.D)->Prop}:Ur (.dK ae) k=k ae:=rfl
theorem Ly:Rb te tb tc ρ Q=te ρ λm x=>cq x (f:=λx=>Ra x (λae=>tb ρ λ_ y=>tc ρ λn z=>∃ k,y.key1=some k/\Jn (fP ae k) m n z Q) (λae=>tb ρ λ_ y=>tc ρ λn z=>cq y (f:=λy=>Uq y λys=>∃ ks,dG ys=some ks/\Jn (fP ae ks) m n z Q) ⟨⟩)) ⟨⟩:=rfl
theorem J5:Ra (.dK ae) f g=f ae:=rfl
theorem Kg:Ra (.dT ae) f g=g ae:=rfl
theorem Kv{k:List L2.Q.D->Prop}:Uq (.tup ys) k=k ys:=rfl
theorem KJ{ae:List (List Key × L2.Q.D)}{k:List (List Key × L2.Q.D)->Prop}:gw' (some (some (.ow true (.dT ae)))) k=k ae:=rfl
end
end L2.Q.R
namespace L2
open PySem PySem.Spec PyProof.Rows
section
variable {X:Cx}
def kL{α:Type}(xs:List α)(k:Nat)(y:α):List α:=xs.take k++y :: xs.drop k
def gx':V->List V->Hp->VK->Prop:=λx vs H Q=>∃ l xs i y,x=.ref l/\vs=[.int i,y]/\H l=some (.lst xs)/\0<=i/\i<=bX/\xs.length<bX/\Q .non (upd H l (.lst (kL xs i.toNat y)))
theorem z7{α:Type}(xs:List α)(k:Nat)(y:α):(xs.toArray.extract 0 (min k xs.length)).push y++xs.toArray.extract (min k xs.length)=(kL xs k y).toArray:=by
 apply Nj.mp;rcases Nat.le_total k xs.length with h|h
 ·rw[Pp h];simp[kL];exact FU (by rw[xt];lia)
 ·rw[Nat.min_eq_right h];simp[kL,FU h,List.drop_eq_nil_of_le h]
theorem Ff:P7 X "list.insert" gx':=by
 intro pins s σ H x vs v us Q I rx rv h;obtain⟨l,xs,i,y,rfl,rfl,hH,h0,h1,hz,q⟩:=h;cases rx;obtain⟨u,w,rfl,ru,mS⟩:=rv.two;obtain⟨t,rfl⟩:=ru;obtain⟨z,its,n,r,hl,e⟩:=I.NP hH;have hs:bX<2 ^ 62:=by rw[kP];decide
 have Ms:¬ (!Builtin.List.listFitsIndex i)=true:=by rw[fitsIndex_both (by lia) (by lia)];decide
 refine call_meets F.slot_list_insert ⟨_,e,rfl⟩ F.entry_list_insert (F.args_list_insert_3 _ _ _) (AutoSeq1.list_insert_list_int_val_1 l its.toArray n i t w Ms (by rw[iA];lia)) ⟨e,?_⟩;have ei:(if i<0 then (i+(its.toArray.size:Int)).toNat else min i.toNat its.toArray.size)=min i.toNat its.length:=by rw[if_neg (by lia),iA]
 have rl:Vals (kL xs i.toNat y) (kL its i.toNat w):=(r.take i.toNat).append (.cons mS (r.drop i.toNat));refine⟨.non,_,I.P8 (its':=kL its i.toNat w) hH e ?_ rl ?_,rfl,q⟩
 ·show(its.toArray.extract 0 (if i<0 then (i+(its.toArray.size:Int)).toNat else min i.toNat its.toArray.size)).push w++its.toArray.extract (if i<0 then (i+(its.toArray.size:Int)).toNat else min i.toNat its.toArray.size)=_;rw[ei];exact z7 its i.toNat w
 ·unfold kL;simp;lia
end
end L2
namespace L2.Q
open PySem PySem.Spec PyProof.Rows
section
variable {X:Cx}{K:aI}{L:Str->Hp->Prop}{e e2 e3:Expr}{p:WP}{te Ol Z7:WE}{apos dy pos:Pos}
theorem zr:kN "int" = some (.type "int"):=by decide +kernel
def Rc:W1:=λ_ x Q=>match x with
 |.int i=>Q .sh (.int i)
 |.bl b=>Q .sh (.int (if b then 1 else 0))
 |_=>False
theorem CW:IL K (λxs H Q=>(∃ i,xs=[.int i]/\Q (.int i) H)\/∃ k,xs=[.bl k]/\Q (.int (if k then 1 else 0)) H) Rc:=by
 intro Hs H m x v As Qd Qv w rx h f;have r1:=rx.rep w
 cases r1 with
 |int i=>exact .inl ⟨i,rfl,f.sh w (.int _) h⟩
 |bl b=>exact .inr ⟨b,rfl,f.sh w (.int _) h⟩
 |_=>exact h.elim
theorem az.ins(r:cw K Hs H fl d v [])(k:Nat)(q:az K Hs H fl ds vs As):az K Hs H fl (kL ds k d) (kL vs k v) As:=by
 induction k generalizing ds vs As with
 |zero=>exact az.cons r q
 |succ k ih =>
  cases ds with
  |nil =>obtain⟨rfl,rfl⟩:=q.n0;exact az.cons r .nil
  |cons e ds =>obtain⟨u,us,A,B,rfl,rfl,q,qs⟩:=q.c;exact az.cons q (ih qs)
def Rf(p:WP)(tk te:WE):WS:=λE ρ=>p ρ λfl d up=>match d with
 |.list xs=>tk ρ λ_ j=>te ρ λ_ x=>match j with
  |.int j=>0<=j/\j<=bX/\xs.length<bX/\x.flat=true/\E.nx (up fl (.list (kL xs j.toNat x)))
  |_=>False
 |_=>False
theorem zK(ho:QP X K e p)(he:QE X K e2 Ol)(he3:QE X K e3 Z7)(hK:X.K=K:=by rfl) (tq:Au e "insert" X.env (c9 e X.env)=c9 e X.env:=by rfl) (wc:((iq dy (bS [e2,e3] X.env)).all (λx=>!x.1) && (backToKw dy (FT [] X.env)).all (λx=>x.1.isSome)
   && decide ([e2,e3].length+([]:List t9).length+(if ([]:List t9).isEmpty then 0 else 1)<30))=true:=by rfl)
  (hline:(apos.endLine == dy.line)=true:=by rfl) (zC:bS (e2 :: [e3]) X.env=(false,c9 e2 X.env) :: bS [e3] X.env:=by rfl) (L9:bS (e3 :: []) X.env=(false,c9 e3 X.env) :: bS [] X.env:=by rfl) (Dx:(iq dy (bS [e3] X.env)).any (·.1)=false:=by rfl)
  (hs:rU (.Call (.Attribute e "insert" apos) [e2,e3] [] dy) none pos.line X.env=pure false:=by rfl) :
  QS X K L (.Expr (.Call (.Attribute e "insert" apos) [e2,e3] [] dy) pos) (Rf p Ol Z7):=by
 subst hK;refine PS.imp (LZ (P6 PySem.F.plainAttrs_list PySem.F.slot_list_insert PySem.F.type_list_insert Ff ho (kU he (kU he3 si L9) zC) tq wc hline zC Dx) hs) λD σ H hx=>cI hx λHs ρ ai E sr h k1 k2 k3 k4=>?_;refine⟨Hs,ρ,ai,_,sr,h,λv H1 bE fl d up g1 p1 q1=>?_⟩
 cases d with
 |list xs =>
  obtain⟨a1,Zy,e1,s1⟩:=p1.T2 g1.wf;refine⟨by subst e1;exact .inl ⟨rfl,_,s1⟩,bE,ρ,ai,_,sr.grow g1,q1,λw H2 bq m jd As g2 r2 f2 q2=>⟨bq,ρ,ai,_,(sr.grow g1).grow g2,q2,λy H3 fe m3 x IH g3 r3 f3 q3=>?_⟩⟩;have rj:=(r2.grow g3).rep g3.wf
  cases rj with
  |int j =>obtain⟨h0,h1,hz,fx,q3⟩:=q3;obtain⟨a,vs,A,ea,e2,e21,rs,nd,hn,k⟩:=p1.put (g2.trans g3);obtain⟨nA,Ou⟩:=nE.mp nd;have hl:=rs.length;refine⟨a,vs,j,y,ea,rfl,e2,h0,h1,by lia,?_⟩;obtain⟨fi,lh⟩:=k fl _ _ A id (az.ins (.sh (λ_=>fx) (r3.flat g3.wf fx)) j.toNat rs) (by unfold kL;simp;lia) Ou nA (λx hx=>.inl hx);exact k1 _ _ fe _ fi ((g1.sh.trans g2.sh).trans g3.sh) lh q3
  |_=>exact q3.elim
 |_=>exact q1.elim
def OQ(p:WP)(te:WE):WS:=λE ρ=>p ρ λfl d up=>match d with
 |.list xs=>te ρ λm y=>m=.ow true/\match y with
  |.list ys=>dQ ys=true/\xs.length+ys.length<=bX/\E.nx (up fl (.list (xs++ys)))
  |_=>False
 |_=>False
theorem wY (ho:QP X K e p) (he:QE X K e2 te) (hK:X.K=K:=by rfl) (hs:rU (.Call (.Attribute e "extend" apos) [e2] [] dy) none pos.line X.env=pure false:=by rfl) (tq:Au e "extend" X.env (c9 e X.env)=c9 e X.env:=by rfl) (wc:((iq dy (bS [e2] X.env)).all (λx=>!x.1) && (backToKw dy (FT [] X.env)).all (λx=>x.1.isSome)
   && decide ([e2].length+([]:List t9).length+(if ([]:List t9).isEmpty then 0 else 1)<30))=true:=by rfl)
  (hline:(apos.endLine == dy.line)=true:=by rfl) (zC:bS (e2 :: []) X.env=(false,c9 e2 X.env) :: bS [] X.env:=by rfl) (Dx:(iq dy (bS [] X.env)).any (·.1)=false:=by rfl) :
  QS X K L (.Expr (.Call (.Attribute e "extend" apos) [e2] [] dy) pos) (OQ p te):=by
 subst hK;refine PS.imp (LZ (P6 PySem.F.plainAttrs_list PySem.F.slot_list_extend PySem.F.type_list_extend cT' ho (kU he si zC) tq wc hline zC Dx) hs) λD σ H hx=>cI hx λHs ρ ai E sr h k1 k2 k3 k4=>?_;refine⟨Hs,ρ,ai,_,sr,h,λv H1 bE fl d up g1 p1 q1=>?_⟩
 cases d with
 |list xs =>
  obtain⟨a1,Zy,e1,s1⟩:=p1.T2 g1.wf;refine⟨by subst e1;exact .inl ⟨rfl,_,s1⟩,bE,ρ,ai,_,sr.grow g1,q1,λy H2 bq m x As g2 r2 f2 q2=>?_⟩;obtain⟨rfl,q2⟩:=q2;obtain⟨a,vs,A,ea,e2,e21,rs,nd,hn,k⟩:=p1.put g2;obtain⟨r,ne⟩:=r2
  cases r with
  |sh _ _=>exact absurd rfl ne
  |list hz e3 QR =>obtain⟨fy,hl,q2⟩:=q2;obtain⟨nA,Ou⟩:=nE.mp nd;have l1:=rs.length;have l2:=QR.length;refine⟨a,_,vs,_,ea,rfl,e2,e3,by lia,?_⟩;obtain⟨fi,lh⟩:=k fl (xs++_) (vs++_) (A++[]) id (rs.append (b9.owned ((QR.reps g2.wf.sub λ_ _=>rfl).gm g2.wf.iO fy) fy)) (by rw[ny];lia) (by simpa using Ou) (by simpa using nA) (λx hx=>.inl (by simpa using hx));exact k1 _ _ bq _ fi (g1.sh.trans g2.sh) lh q2
  |_=>exact q2.elim
 |_=>exact q1.elim
theorem xZ:P4 X "str.upper" (λx xs H Q=>∃ z,x=.str z/\xs=[]/\z.length<=1000/\Q (.str (Txt.upper z)) H):=by intro pins s σ H x vs v us Q I rx rv h;obtain⟨z,rfl,rfl,hz,q⟩:=h;obtain⟨t,rfl⟩:=rx;have SN:=rv.zero;subst SN;exact PyProof.Rows.SCL.upper (by lia) λ_=>⟨.str _,H,I.tok _,⟨_,rfl⟩,q⟩
def v5:W1:=λ_ x Q=>match x with
 |.str z=>z.length<=1000/\Q .sh (.str (Txt.upper z))
 |_=>False
theorem Ac (ho:QE X K e te) (tq:Au e "upper" X.env (c9 e X.env)=c9 e X.env:=by rfl) (hline:(apos.endLine == dy.line)=true:=by rfl):QE X K (.Call (.Attribute e "upper" apos) [] [] dy) (iF v5 te):=by
 refine PE.imp (V8 PySem.F.plainAttrs_str PySem.F.slot_str_upper PySem.F.type_str_upper xZ ho tq hline) λσ H Qv hx=>kB hx λHs ρ ai Q sr h f=>?_;refine⟨Hs,ρ,ai,_,sr,h,λv H1 bE m x As g1 r1 f1 q1=>?_⟩;have r:=r1.rep g1.wf
 cases r with
 |@str z hz =>obtain⟨h1,q⟩:=q1;have:=PyProof.Rows.len_upper z;exact⟨rfl,_,rfl,rfl,h1,Fin.sh (Fin.after f g1) g1.wf (.str (by rw[kP];lia)) q⟩
 |_=>exact q1.elim
end
end L2.Q
namespace L2.Q.R
open PySem PySem.Spec PyProof.Rows L2.Q
section
variable {ρ:Env}{E:iW}{te tk:WE}{m:Md}{Q:Md->L2.Q.D->Prop}{p:WP}{xs ys:List L2.Q.D}{k:List L2.Q.D->Prop}
def Rg(d:L2.Q.D)(k:List L2.Q.D->Prop):Prop:=match d with
 |.list xs=>k xs
 |_=>False
theorem K8:Rg (.list xs) k=k xs:=rfl
theorem KZ:Rf p tk te E ρ=p ρ λfl d up=>cq d (f:=λd=>Rg d λxs=>tk ρ λ_ j=>te ρ λ_ x=>cq j (f:=λj=>intD j λj=>0<=j/\j<=bX/\xs.length<bX/\x.flat=true/\E.nx (up fl (.list (kL xs j.toNat x)))) ⟨⟩) ⟨⟩:=rfl
theorem Lp:OQ p te E ρ=p ρ λfl d up=>cq d (f:=λd=>Rg d λxs=>te ρ λm y=>m=.ow true/\cq y (f:=λy=>Rg y λys=>dQ ys=true/\xs.length+ys.length<=bX/\E.nx (up fl (.list (xs++ys)))) ⟨⟩) ⟨⟩:=rfl
theorem Ii:Jn (some d) m n z Q=Q (pE m d) d:=rfl
theorem Iw:Jn none m n z Q=Q n z:=rfl
theorem HB:v5 m (.str z) Q=(z.length<=1000/\Q .sh (.str (Txt.upper z))):=rfl
theorem Il:Rc m (.int i) Q=Q .sh (.int i):=rfl
theorem Io:Rc m (.bl b) Q=Q .sh (.int (if b then 1 else 0)):=rfl
end
end L2.Q.R
namespace L2
open PySem PySem.Spec PyProof.Rows
section
variable {X:Cx}{pins:List (ag × Obj)}{σ:St}{H:Hp}{s:aE}{a:ag}{A:eJ}{E:ah->aE->Prop}
theorem uH(I:Inv X pins σ H s)(e:H a=some (.dK ae))(ry:RelV (kV k) u)(hl:ae.length<bX)(rv:RelV v r)(h1:∀ v' w' s',kX ae k=some v'->Inv X pins σ H s'->RelV v' w'->Q w' s') (h2:kX ae k=none->∀ s',Inv X pins σ (upd H a (.dK (putK ae k v))) s'->Q r s') :
  aT (aS X.prog X.w) A (call (.builtin "dict.setdefault") [.ref a,u,r]) Q E s:=by
 obtain⟨z,hd,vs,rel,dd⟩:=Wd I.bT e;have hz:vs.length<=bX:=by rw[<- rel.length];exact z
 have hp:(putK ae k v).length<=bX:=by have:=SQ ae k v;lia
 have vl:=rel.val k;refine call_meetsIn PySem.F.slot_dict_setdefault dd.typeIs PySem.F.entry_dict_setdefault (PySem.F.args_dict_setdefault_3 _ _ _) (kt_meets_setdefault (kQ X.prog X.w) a (HK ry) hd r) ⟨vs,dd,hz,λw' hw=>?_,λhn h' HM hs=>?_⟩
 ·rw[hw] at vl
  cases ev:kX ae k with
  |none=>rw[ev] at vl;exact(vl:False).elim
  |some v'=>rw[ev] at vl;exact h1 v' _ _ ev (I.tok _) vl
 ·have ev:kX ae k=none:=by
   rw[hn] at vl
   cases ev:kX ae k with
   |none=>rfl
   |some v'=>rw[ev] at vl;exact(vl:False).elim
  have he:∃ q,h'.get? a=some q:=let ⟨q,_,_,hq,_⟩:=HM;⟨q,hq⟩
  exact h2 ev _ (SW I (by rw[e];exact True.intro) hs he (Wg hp hd (rel.put k rv) HM))
end
def gA'(td ty tx:TE):TE:=λσ H Q=>td σ H λx H1=>∃ a,x=.ref a/\Qa H1 a/\ty σ H1 λy H2=>tx σ H2 λz H3=>∃ ae k,H3 a=some (.dK ae)/\y=kV k/\ae.length<bX /\ (∀ v,kX ae k=some v->Q v H3)/\(kX ae k=none->Q z (upd H3 a (.dK (putK ae k z))))
theorem C_ {X:Cx} (ho:PE X o td) (he:PE X e ty) (hf:PE X f tx) (m:M2 X o "setdefault" apos e f dy):PE X (.Call (.Attribute o "setdefault" apos) [e,f] [] dy) (gA' td ty tx):=by intro pins s σ H Q I h;refine wpAny_Call_method m.base m.few m.line PySem.F.plainAttrs_dict PySem.F.slot_dict_setdefault PySem.F.type_dict_setdefault (dP (ho pins s σ H _ I h) λu s1 d5=>?_);obtain⟨x,H1,I1,rx,a,ex,d,q1⟩:=d5;subst ex;cases (show u=Value.ref a from rx);have td:=Wh I1 d;refine⟨td.1,td.2.1,?_⟩;rw[m.trees];refine Calls.callWith_builtin rfl (Calls.evalArgs_plain (Calls.spliced_cons (dP (he pins s1 σ H1 _ I1 q1) λiv s2 dS=>L2.hG dS λy H2 I2 ry q2=>Calls.spliced_cons (dP (hf pins s2 σ H2 _ I2 q2) λfv s3 ⟨z,H3,I3,rz,ae,k,e1,e2,hl,q3,q4⟩=>Calls.spliced_nil ?_))));subst e2;exact uH I3 e1 ry hl rz (λv' w' s' ev I' r'=>⟨v',H3,I',r',q3 v' ev⟩) λev s' I'=>⟨z,_,I',rz,q4 ev⟩
end L2
namespace L2.Q
open PySem PySem.Spec PyProof.Rows
section
variable {X:Cx}{K:aI}{a b c e:Expr}{pos apos dy p:Pos}
def BI(ae:List (Key × D))(k:Key)(x:D):List (Key × D):=if (fP ae k).isSome then ae else nV ae k x
def Us(p:WP)(tk tv:WE):WS:=λE ρ=>p ρ λfl d up=>Ur d λae=>tk ρ λ_ y=>tv ρ λ_ x=>x.flat=true/\∃ k,y.key1=some k/\ae.length<bX/\E.nx (up fl (.dK (BI ae k x)))
theorem De {L:Str->Hp->Prop} {p:WP} {tk tv:WE} (ho:QP X K a p) (hb:QE X K b tk) (hc:QE X K c tv) (hm:M2 X a "setdefault" apos b c dy:=by exact⟨rfl,rfl,rfl,rfl⟩) (hs:rU (.Call (.Attribute a "setdefault" apos) [b,c] [] dy) none pos.line X.env=pure false:=by rfl):QS X K L (.Expr (.Call (.Attribute a "setdefault" apos) [b,c] [] dy) pos) (Us p tk tv):=by
 refine PS.imp (LZ (C_ ho hb hc hm) hs) λD σ H hx=>cI hx λHs ρ ai E sr h k1 k2 k3 k4=>?_;refine⟨Hs,ρ,ai,_,sr,h,λu H1 bE fl d up g1 p1 q1=>?_⟩;obtain⟨gy,r,ne,nd,own,k⟩:=p1.ex;have lv:∀ x∈gy,bE x=none/\H1 x≠none:=λx hx=>⟨own x hx,(r.own x hx).ne⟩
 cases r with
 |sh hf _=>exact absurd rfl ne
 |@dK a0 vs ae A kk e rs =>
  refine⟨a0,rfl,.inl ⟨_,.inl e⟩,bE,ρ,ai,_,sr.grow g1,q1,λy H2 bq m2 yd gE g2 r2 f2 q2=>⟨bq,ρ,ai,_,(sr.grow g1).grow g2,q2,λx H3 fe m3 xd IH g3 r3 f3 q3=>?_⟩⟩;obtain⟨hx,key,hk,hz,q⟩:=q3;have ry:=(r2.grow g3).rep g3.wf;have ey:=ry.key hk;subst ey;have rx:Rep K fe xd x:=r3.flat g3.wf hx;have g:=g2.trans g3;have sm:bG Hs fe:=g1.sh.trans g.sh;have hl:ae.length=vs.length:=by have:=rs.length;rwa[dn] at this
  have zg:=zip_get (k:=key) (rs.reps (G:=H1) g1.wf.sub λ_ _=>rfl);obtain⟨na,nA⟩:=nE.mp nd;refine⟨_,key,g.all _ _ e,rfl,by rw[M9,dn,<- hl,Ng];exact hz,λv' ev=>?_,λev=>?_⟩
  ·have e0:BI ae key xd=ae:=by
    unfold BI
    cases hg:fP ae key with
    |none=>rw[hg] at zg;rw[zg] at ev;cases ev
    |some d=>rfl
   rw[e0] at q;obtain⟨fi,lh⟩:=k fe H3 fl (.dK ae) (a0 :: A) g.sh g.wf (λx h1 h2=>g.lT h1 h2) id (.dK kk (g.all _ _ e) (rs.grow g.sh g.all)) (by simp) nd (λb hb=>⟨g.lT (own b hb) (lv b hb).2,.inl hb⟩) λb h1 _=>by
    cases q:H1 b with
    |none=>exact absurd q h1
    |some o=>exact g.all b o q
   exact k1 σ _ fe _ fi sm lh q
  ·have e0:BI ae key xd=nV ae key xd:=by
    unfold BI
    cases hg:fP ae key with
    |none=>rfl
    |some d=>rw[hg] at zg;obtain⟨v',e',_⟩:=zg;rw[e'] at ev;cases ev
   rw[e0] at q;obtain⟨ws,Bs,sb,mS,ew⟩:=qt (k:=key) rx hx (rs.grow g.sh g.all);rw[ew];have nB:a0∉Bs:=λz=>na (sb.subset z);obtain⟨fi,lh⟩:=k.node (fl2:=fl) (d2:=.dK (nV ae key xd)) g lv (λ_ z=>by cases z) id (.dK ⟨i9 (gF _ _ _) hz,λp hp=>(lY hp).elim (λz=>by rw[z];exact qJ ry hk) λz=>by obtain⟨p',gu,e'⟩:=eK.mp z;rw[<- e'];exact kk.2 p' gu⟩ ki (mS.fN (bG.refl _) λb hb=>iN λz=>nB (by subst z;exact hb))) (sb.nodup nA) nB λb hb=>.inl (sb.subset hb)
   exact k1 σ _ fe _ fi sm lh q
 |_=>exact q1.elim
end
end L2.Q
namespace L2.Q.R
open PySem PySem.Spec PyProof.Rows L2.Q
section
variable {ρ:Env}{E:iW}{tk tv:WE}{p:WP}
theorem KC:Us p tk tv E ρ=p ρ λfl d up=>cq d (f:=λd=>Ur d λae=>tk ρ λ_ y=>tv ρ λ_ x=>x.flat=true/\∃ k,y.key1=some k/\ae.length<bX/\E.nx (up fl (.dK (BI ae k x)))) ⟨⟩:=rfl
end
end L2.Q.R
namespace L2.Q
open PySem PySem.Spec PyProof.Rows
def Z8(o:Option Sl):Bool:=match o with
 |none=>true
 |some (.sh _)=>true
 |_=>false
def gB(ρ:Env):Bool:=ρ.all Z8
section
variable {X:Cx}{K:aI}{L:Str->Hp->Prop}{pos:Pos}{e:Expr}{te:WE}
theorem SR.gB(s:SR K Hs H ρ σ ai)(h:gB ρ=true)(g:bG Hs ax):SR K ax H' ρ σ []:=by
 induction s with
 |nil=>exact .nil
 |non _ ih=>exact .non (ih h)
 |sh r _ ih=>exact .sh (r.same g) (ih h)
 |_=>simp[L2.Q.gB,Z8] at h
theorem eB.gB(s:eB K Hs ρ σ H ai)(h:gB ρ=true):eB K H ρ σ H [] :=
 ⟨s.sr.gB h s.wf.sub,⟨λ_ _ z=>z,λ_ _ z=>z⟩,mG,λ_ m=>nomatch m⟩
def iU(i:Nat)(te:WE):WS:=λE ρ=>te ρ λ_ d=>gB ρ=true/\E.nx (ρ.set i (some (.sh d)))
theorem cJ(i:Nat)(he:QE X K e te)(hs:rU e (some (.Name x pos')) pos.line X.env=pure false:=by rfl) (hf:X.fn x=true\/X.env.scope.names.lookup x=some .local:=by first|exact .inl rfl|exact .inr rfl|assumption) (hN:X.N.Nodup:=by assumption) (hi:X.N[i]? = some x:=by rfl) (hx:Loc X.env.scope x:=by first|exact .inl rfl|exact .inr rfl):QS X K L (.Assign [.Name x pos'] e pos) (iU i te):=PS.imp (PD hN hi hx he hs hf) λD σ H hx=>cI hx λHs ρ ai E sr h k1 k2 k3 k4=>by
 refine⟨Hs,ρ,ai,_,sr,h,λv H1 bE m d As g1 r1 f1 q1=>?_⟩;obtain⟨a,q1⟩:=q1;obtain⟨cy,s'⟩:=((sr.grow g1).gB a).set i (m:=.sh) (As:=[]) ⟨rfl,r1.rep g1.wf⟩ mG (λ_ m=>nomatch m) rfl;exact k1 _ H1 H1 _ cy (g1.sh.trans g1.wf.sub) s' q1
end
end L2.Q
namespace L2.Q.R
open PySem PySem.Spec PyProof.Rows L2.Q
theorem Jr:iU i te E ρ=te ρ λ_ d=>cq d (f:=λd=>gB ρ=true/\E.nx (ρ.set i (some (.sh d)))) ⟨⟩:=rfl
theorem Hi:gB (none :: ρ)=gB ρ:=rfl
theorem G8:gB (some (.sh d) :: ρ)=gB ρ:=rfl
theorem Gv:gB []=true:=rfl
end L2.Q.R
namespace L2.Q
open PySem PySem.Spec PyProof.Rows PySem.W
abbrev WX:=Env->(Md->D->Prop)->(Str->Prop)->Prop
def Z9(K:aI)(rn:List Str)(mg:Str->Option ah)(E1:XK)(nk:St)(t:WX):TE:=λσ H Qv=>σ=nk/\∃ Hs ρ ai Q Y,eB K Hs ρ σ H ai/\t ρ Q Y /\ (∀ v H' ax m d As,eT Hs H ax H'->RM K ax H' m d v As->bL ax H As->Q m d->Qv v H')/\∀ n H',bG H H'->Y n->LX rn mg E1 n H'
def rF(rn:List Str)(X:Cx)(nk:St)(E1:XK):Prop:=∀ pins H s e s',Inv X pins nk H s->pT X.prog X.w X.mg rn X.stack H s E1 e s'->X.xe e s'
def rO(sp:fo)(t:WA):WX:=λρ Q Y=>t ρ λps=>sp (ps.map (·.2)) λm d=>mr m d Y (cq (m,d) (f:=λp=>Q (qV p.1 p.2) p.2) ⟨⟩)
section
variable {X:Cx}{K:aI}{rn:List Str}{E:XK}{nk:St}{e:Expr}{es:List Expr}{t:WA}{ta:TA}{pos p:Pos}{k:Nat}{x:Str}{ps:List Str}{sp:fo}
theorem vA (C:MA X.prog X.w X.K X.mg X.base rn k x ps sp) (hr:ke k X.A) (hx:rF rn X nk E) (ha:PA X (e :: es) ta) (hg:Gl X x) (ic:(x == ("__debug__" : Str))=false) (he:bS (e :: es) X.env=(false,c9 e X.env) :: bS es X.env)(hU:(iq pos (bS es X.env)).any (·.1)=false):PE X (.Call (.Name x p) (e :: es) [] pos) (λσ H Q=>σ=nk/\HC (dJ X.K rn X.mg sp) [] E ta σ H Q):=by
 intro pins s σ H Q I ⟨e0,h⟩;subst e0;obtain⟨g,fd,hm,hk,hb,F⟩:=C.ex;refine D4 (GW I hg hm ?_ ic);refine PySem.W.callWith_K (h₀:=X.base) I.ok.mod.Nn hk (dP (ha pos pins s σ H _ I h) λus s1 dS=>L2.hG dS λvs H1 I1 r q=>⟨I1.iP,?_⟩) he hU;have r2:Vals (vs++[]) (us++[]):=r.append .nil;have hl:(us++[]).length=ps.length:=by rw[<- r2.length];exact F.len _ _ _ _ q
 refine wpAny_call (codeAny_mono (F.run X.A X.stack s1 H1 ⟨us,[]⟩ (us++[]) (vs++[]) Q E hr I1.VL (hb s1 us I1.iP hl) r2 q) λr s' hq=>?_)
 cases r with
 |error e=>exact hx pins H1 s1 e s' I1 hq
 |ok fl =>
  cases fl with
  |ret u=>exact I1.after hq
  |next=>exact False.elim hq
  |brk=>exact False.elim hq
  |cont=>exact False.elim hq
theorem p7{σ:St}{H:Hp}{Qv:VK}{Hs:Hp}{ρ:Env}{ai:List ag}{Y:Str->Prop}{N:Md->D->Prop}(sr:eB K Hs ρ σ H ai)(h:t ρ λps=>sp (ps.map (·.2)) λm d=>mr m d Y (N m d))(f:∀ v H1 bE H' ax m d As,eT Hs H bE H1->bG H1 ax->Wf ax H'->RM K ax H' m d v As->As.Nodup->(∀ a∈As,ax a=none)->N m d->Qv v H') (fx:∀ n H',bG H H'->Y n->LX rn X.mg E n H'):HC (dJ K rn X.mg sp) [] E (Qy K t) σ H Qv:=by
 refine⟨Hs,ρ,ai,_,sr,h,λvs H1 bE ps As g1 r1 f1 q1=>?_⟩;exact⟨_,_,by rw[kE];exact r1.reps g1.wf,q1,λv H' ax m d As s w r nd own q=>f v H1 bE H' ax m d As g1 s w r nd own (wV r q),λn H' s q=>fx n H' (g1.all.trans s) q⟩
theorem vN (C:MA X.prog X.w X.K X.mg X.base rn k x ps sp) (hr:ke k X.A) (hx:rF rn X nk E) (ha:QA X K (e :: es) t) (hK:X.K=K:=by rfl) (hg:Gl X x:=by rfl) (ic:(x == ("__debug__" : Str))=false:=by decide) (he:bS (e :: es) X.env=(false,c9 e X.env) :: bS es X.env:=by rfl) (hU:(iq pos (bS es X.env)).any (·.1)=false:=by rfl):PE X (.Call (.Name x p) (e :: es) [] pos) (Z9 K rn X.mg E nk (rO sp t)):=by
 subst hK;refine PE.imp (vA C hr hx ha hg ic he hU) λσ H Qv ⟨e0,Hs,ρ,ai,Q,Y,sr,h,f,fx⟩=>⟨e0,p7 sr h (λv H1 bE H' ax m d As g1 s w r nd own q=>?_) fx⟩
 obtain⟨gy,r',fr⟩:=lU g1.wf s w r nd own;exact Fin.after f g1 v H' _ (qV m d) d gy (b_ g1.wf s w) r' fr q
end
end L2.Q
namespace L2.Q.R
open PySem PySem.Spec PyProof.Rows L2.Q
end L2.Q.R
namespace L2.Q
open PySem PySem.Spec PyProof.Rows PySem.W
abbrev WB:=Env->(Env->Prop)->(Str->Prop)->Prop
def Ut(K:aI)(rn:List Str)(mg:Str->Option ah)(E1:XK)(nk:St)(t:WB):TS:=λD σ H=>σ=nk/\∃ Hs ρ ai N Y,eB K Hs ρ σ H ai/\t ρ N Y /\ (∀ ck H' ax da cy,bG Hs ax->eB K ax da ck H' cy->N da->D.nx ck H')/\∀ n H',bG H H'->Y n->LX rn mg E1 n H'
def yH(i:Nat)(wx:WX):WB:=λρ N Y=>wx ρ (λm d=>cq (asg m d) (f:=λo=>R.put o λsl=>N (ρ.set i (some sl))) ⟨⟩) Y
theorem SR.Dh{K:aI}:∀ (i:Nat),SR K Hs H ρ σ ai->∃ cy,cy.Sublist ai/\SR K Hs H (ρ.set i (some (.xc a))) (σ.set i (some (.ref a))) cy:=by
 intro i s
 induction s generalizing i with
 |nil=>exact⟨[],AF _,.nil⟩
 |non s ih =>
  cases i with
  |zero=>exact⟨_,List.Sublist.refl _,.xc s⟩
  |succ i=>obtain⟨t,a,b⟩:=ih i;exact⟨t,a,.non b⟩
 |sh q s ih =>
  cases i with
  |zero=>exact⟨_,List.Sublist.refl _,.xc s⟩
  |succ i=>obtain⟨t,a,b⟩:=ih i;exact⟨t,a,.sh q b⟩
 |xc s ih =>
  cases i with
  |zero=>exact⟨_,List.Sublist.refl _,.xc s⟩
  |succ i=>obtain⟨t,a,b⟩:=ih i;exact⟨t,a,.xc b⟩
 |ow ne q s ih =>
  cases i with
  |zero=>exact⟨_,k6 _ _,.xc s⟩
  |succ i=>obtain⟨t,a,b⟩:=ih i;exact⟨_,a.append_left _,.ow ne q b⟩
 |lk ne q s ih =>
  cases i with
  |zero=>exact⟨_,k6 _ _,.xc s⟩
  |succ i=>obtain⟨t,a,b⟩:=ih i;exact⟨_,a.append_left _,.lk ne q b⟩
 |ob q s ih =>
  cases i with
  |zero=>exact⟨_,k6 _ _,.xc s⟩
  |succ i=>obtain⟨t,a,b⟩:=ih i;exact⟨_,a.append_left _,.ob q b⟩
section
variable {X:Cx}{K:aI}{rn:List Str}{E1:XK}{nk:St}{e:Expr}{wx:WX}{i:Nat}{y:Str}{pos' apos:Pos}
theorem zH(hN:X.N.Nodup)(hi:X.N[i]? = some y)(hy:Loc X.env.scope y)(he:PE X e (Z9 K rn X.mg E1 nk wx))(hs:rU e (some (.Name y pos')) apos.line X.env=pure false:=by rfl) (Nw:X.fn y=true\/X.env.scope.names.lookup y=some .local:=by first|exact .inl rfl|exact .inr rfl|assumption):mP X [.Assign [.Name y pos'] e apos] (Ut K rn X.mg E1 nk (yH i wx)):=by
 intro pins s σ H D I ⟨e0,Hs,ρ,ai,N,Y,sr,h,f,fx⟩;refine Vq (PD hN hi hy he hs Nw) pins s σ H D I ⟨e0,Hs,ρ,ai,_,_,sr,h,λv H' ax m d As g1 r1 f1 q1=>?_,fx⟩;have q1:R.put (asg m d) λsl=>N (ρ.set i (some sl)):=q1
 cases ea:asg m d with
 |none=>rw[ea] at q1;exact q1.elim
 |some sl =>rw[ea] at q1;obtain⟨cy,s'⟩:=(sr.grow g1).set i r1 f1.1 (λa ha=>⟨(f1.2 a ha).1,λm=>(sr.sr.own a m).ne (f1.2 a ha).2⟩) ea;exact f _ H' ax _ cy g1.sh s' q1
end
def Br(j:Nat)(wb:WB)(hd:ag->Str->WS):WS:=λE ρ=>wb ρ E.nx λn=>∀ a,hd a n { nx:=λda=>E.nx (da.set j none),rt:=E.rt } (ρ.set j (some (.xc a)))
theorem BW{X:Cx}{K:aI}{R:Str}(xr:tR X.K X.mg rn R) (hN:X.N.Nodup) (hj:X.N[j]? = some en) (hl:X.env.scope.names.lookup en=some .local) (kR:X.stack=X.env :: X.outer) (hf:X.env.frame=some X.env.locals)(hb:∀ pn xe E1 nk,rF rn (du X pn xe) nk E1->mP (du X pn xe) body (Ut K rn X.mg E1 nk wb))(hh:∀ pn a oe n C,n∈rn->X.mg n=some (.ref C)->ll X.K C->(a,oe)∈pn->oe.cls=.ref C->tP (oB X pn a) K L (OS :: suite) (hd a n)) (hg:Gl X R:=by rfl) (ic:(R == ("__debug__" : Str))=false:=by decide) :
  QS X K L (.Try body [.ExceptHandler (some (.Name R np)) (some en) (OS :: suite) T6] [] [] pos) (Br j wb hd):=by
 intro pins s σ H D I hx;obtain⟨Hs,ρ,ai,E,sr,h,k1,k2,k3,k4,kx⟩:=hx;obtain⟨r,hm,xr,sub⟩:=xr.ex;have Uu:∀ p∈X.pn++pins,p∈(X.pn++pins)++[]:=λp hp=>by rw[kE];exact hp
 have y6:=hb (X.pn++pins) (λe s'=>∃ js H1 s1,Inv (du X (X.pn++pins) X.xe) js σ H1 s1/\pT X.prog X.w X.mg rn X.stack H1 s1 (λc _ H'=>∃ n C,c=.ref C/\n∈rn/\X.mg n=some (.ref C)/\bG H H'/\∀ a,hd a n { nx:=λda=>E.nx (da.set j none),rt:=E.rt } (ρ.set j (some (.xc a)))) e s') _ σ (λjs H1 s1 e s' I1 c=>⟨js,H1,s1,Inv.CN I1,c⟩) [] s σ H D (Inv.du I λp hp=>I.pin p (by rw[kE] at hp;exact hp)) ⟨rfl,Hs,ρ,ai,_,_,sr,h,k1,λn H' s2 q hn C hC=>⟨n,C,rfl,hn,hC,s2,q⟩⟩
 refine wpAny_Try_except (oD y6 (λf s1 hs=>?_) λe s' hx=>?_)
 ·have hs:=SP.jE hs Uu
  cases f with
  |next =>obtain⟨ck,H',I',q⟩:=hs;exact Sh pins s1 ck H' D I' q
  |brk=>exact hs
  |cont=>exact hs
  |ret u=>exact hs
 ·obtain⟨js,H1,s1,I1,a,n',C,a0,H',B,rfl,EH,os,bare,un,bT,z0,cov,fr,n,C2,eC,hn,px,sm,hq⟩:=hx;cases eC;obtain⟨xc,IZ⟩:=sub n C hn px;obtain⟨JA,g',d',t',NC⟩:=s';obtain rfl:NC=s1.os:=os;have Uv:OL B (X.env :: X.outer) a (.ref C) a0 JA:=kR ▸ z0;have th:∀ b o,s1.heap.get? b=some o->∃ o',JA.get? b=some o':=λb o e=>un.there b o e (by simp);refine Cr (kR ▸ I.ok.frames) hf Uv λh4 held Uw=>gH (fr:=none) held λh5 z5 Ux=>?_;have JJ:cg (fw X.stack) H' s1.heap JA h5:=cg.of cov z5.1 (Uw.trans Ux) z0.2.2.1;have Rh:=cov.next JJ bT th;have MB:=JJ.un un;have MD:=JJ.bT fr bT;have I5:Inv (du X (X.pn++pins) X.xe) js σ H' ⟨h5,g',d',t',s1.os⟩:=I1.call (h':=h5) (g':=g') (d':=d') (t':=t') (ch:=[]) MB MD bare (λb z=>absurd z (by simp));refine wpAny_handleBy_cons (codeAny_handlers_test ?_) (by intro q;cases q);refine GW (X:=oB X (X.pn++pins) a) (pins:=js) (Inv.oB I5 λp hp=>I5.pin p hp) hg hm ?_ ic;refine fK xc xr IZ I5.iP z5.there (codeAny_handlers_suite_as ?_);refine gH (fr:=none) z5 λh6 MF Uy=>?_;have Uz:h5.FunFrames B X.stack:=kR ▸ z5.2.2.1;have MG:cg (fw X.stack) H' s1.heap h5 h6:=cg.of Rh MF.1 Uy Uz;have UA:=MG.un MB;have UB:=MG.bT fr MD;have I6:Inv (du X (X.pn++pins) X.xe) js σ H' ⟨h6,g',d',t',s1.os⟩:=I1.call (h':=h6) (g':=g') (d':=d') (t':=t') (ch:=[]) UA UB bare (λb z=>absurd z (by simp));obtain⟨oe,vs,he,lP,Z_,_⟩:=MF.first;have nf:a∉fw X.stack:=λz=>by have ff6:h6.FunFrames B X.stack:=kR ▸ MF.2.2.1;obtain⟨_,o,e1,d1⟩:=ff6.mem z;rw[he] at e1;cases e1;exact d1 vs Z_
  have na:H' a=none:=by
   cases z:H' a with
   |none=>rfl
   |some u =>have:=(Rh.next MG MD λb o e=>MB.there b o e (by simp)) a oe he (.inl (by rw[z];exact λz=>nomatch z)) nf;rw[MF.2.1] at this;cases this
  have frm:∀ b,b∈fw X.stack↔b=X.env.locals\/b∈X.fs:=λb=>by rw[kR];unfold fw;rw[AA,hf];exact eM
  have pa:zY X H' ⟨h6,g',d',t',s1.os⟩ (a,oe):=⟨he,na,λz=>nf ((frm a).mpr (.inl z)),λz=>nf ((frm a).mpr (.inr z)),λv z=>by rw[Z_] at z;cases z⟩
  have UC:Inv (oB X ((a,oe) :: (X.pn++pins)) a) [] σ H' ⟨h6,g',d',t',s1.os⟩:=Inv.oB I6 λp hp=>by
   rw[kE] at hp;rcases eM.mp hp with z|z
   ·rw[z];exact pa
   ·exact I6.pin p (j3 _ z)
  have gr:=b_ sr.wf sm ⟨bG.refl H',λ_ _ e=>e⟩;have sg:=sr.grow gr;obtain⟨gC',aa',r6⟩:=SR.Dh (a:=a) j sg.sr;refine Sg (X:=oB X ((a,oe) :: (X.pn++pins)) a) (v:=.ref a) UC hN hj (.inl hl) rfl (λs7 I7 _=>?_) (.inr hl);refine oD (hh ((a,oe) :: (X.pn++pins)) a oe n C hn px xc ft lP [] s7 (σ.set j (some (.ref a))) H' { nx:=λpV H8=>∃ MJ OU Ri,bG _ MJ/\eB K MJ OU pV H8 Ri/\E.nx (OU.set j none),rt:=D.rt } I7 ⟨_,ρ.set j (some (.xc a)),gC',_,⟨r6,sg.wf,aa'.nodup sg.tN,λb hb=>sg.own b (aa'.subset hb)⟩,hq a,λpV H8 MJ OU Ri m8 r8 q8=>⟨MJ,OU,Ri,m8,r8,q8⟩,λ_ _ _ _ _ _ _ z=>z,λ_ _ _ _ _ _ _ z=>z,
    λv H2 bq m d As s2=>k4 v H2 bq m d As (gr.sh.trans s2),λn H2 s2=>kx n H2 (gr.sh.trans s2)⟩) (λf s8 hs=>?_) λ_ _ z=>z.elim
  cases f with
  |next =>
   obtain⟨pV,H8,I8,MJ,OU,Ri,m8,r8,q8⟩:=hs;have I9:Inv X pins pV H8 s8:=Inv.qI I8 I.ok.hd λp hp=>by rw[kE];exact eP _ hp
   obtain⟨m,UD,lk⟩:=id I9.loc;obtain⟨gD',ab',r9⟩:=SR.Ar j r8.sr;exact wpAny_nameGoes_keeps hl UD (by rw[I9.ok.kind];rfl) λh9 v UE sb=>⟨pV.set j none,H8,Inv.drop I9 hN hj lk UE sb,k1 _ H8 MJ _ gD' (gr.sh.trans m8) ⟨r9.Cu,r8.wf,ab'.nodup r8.tN,λb hb=>r8.own b (ab'.subset hb)⟩ q8⟩
  |brk=>obtain⟨_,_,_,z⟩:=hs;exact z.elim
  |cont=>obtain⟨_,_,_,z⟩:=hs;exact z.elim
  |ret u =>
   obtain⟨v,pV,H8,I8,rv,q⟩:=hs;have I9:Inv X pins pV H8 s8:=Inv.qI I8 I.ok.hd λp hp=>by rw[kE];exact eP _ hp
   obtain⟨m,UD,_⟩:=id I9.loc;exact wpAny_nameGoes hl UD (by rw[I9.ok.kind];rfl) λh9 m9 UE sb=>⟨v,_,H8,Inv.forget I9 UE sb,rv,q⟩
theorem tK{K:aI}{a C R:ag}{os:OsState}(r:ll K R)(sub:mroIn K C (.ref R)=some false)(X:K.In h)(p:Ul a C h)(hq:Q false ⟨h,g,d,t,os⟩):aT M A (excMatches (.ref a) (.ref R)) Q E ⟨h,g,d,t,os⟩:=by
 obtain⟨bm,N,nm,q,bs,hdct,sn,gl',ab,col,dd,k0,k1,k2,k3,k5,mN,hC,hN,BH,T⟩:=r.obj X;obtain⟨oe,he,Nu⟩:=p;have I0:(Value.ref R :: bm).contains (.type "BaseException")=true:=by rw[O_,T.hasType (X := "BaseException") (b:=true) rfl];rfl
 have f:=tc_notTuple;have Lk:=looks_mroIn (M:=M) X sub;unfold excMatches;repeat (first|(with_reducible refine B1 he ?_;rw[Nu])|with_reducible refine B1 hC ?_|(with_reducible refine O5 hC ?_;rw[I0])|with_reducible refine Lk.at ?_|wp_step)
 exact hq
structure ac'(K:aI)(mg:Str->Option ah)(R2 R1:Str):Prop where
 ex:∀ r C,mg R1=some (.ref r)->mg R2=some (.ref C)->mroIn K C (.ref r)=some false
def vW(wb:WB)(R1:Str)(D1:WS)(R2:Str)(hd2:WS):WS:=λE ρ=>wb ρ E.nx λn=>(n=R1/\D1 E ρ)\/(n=R2/\hd2 E ρ)
theorem ym{X:Cx}{K:aI}{R1 R2:Str}(Rj:tR X.K X.mg [R1] R1) (UG:tR X.K X.mg [R2] R2) (xn:ac' X.K X.mg R2 R1) (kR:X.stack=X.env :: X.outer) (hf:X.env.frame=some X.env.locals)(hb:∀ pn xe E1 nk,rF rn (du X pn xe) nk E1->mP (du X pn xe) body (Ut K rn X.mg E1 nk wb))(hh1:∀ pn a,tP (oB X pn a) K L (b1 :: s1) D1) (hh2:∀ pn a,tP (oB X pn a) K L (b2 :: s2) hd2) (hg1:Gl X R1:=by rfl) (gH':(R1 == ("__debug__" : Str))=false:=by decide) (DZ:Gl X R2:=by rfl) (gI':(R2 == ("__debug__" : Str))=false:=by decide) :
  QS X K L (.Try body [.ExceptHandler (some (.Name R1 np)) none (b1 :: s1) T6,.ExceptHandler (some (.Name R2 np2)) none (b2 :: s2) lr'] [] [] pos) (vW wb R1 D1 R2 hd2):=by
 intro pins s σ H D I hx;obtain⟨Hs,ρ,ai,E,sr,h,k1,k2,k3,k4,kx⟩:=hx;obtain⟨r1,vi,Rj,gJ'⟩:=Rj.ex;obtain⟨r2,px,UG,gK'⟩:=UG.ex;have Uu:∀ p∈X.pn++pins,p∈(X.pn++pins)++[]:=λp hp=>by rw[kE];exact hp
 have y6:=hb (X.pn++pins) (λe s'=>∃ js H1 s1,Inv (du X (X.pn++pins) X.xe) js σ H1 s1/\pT X.prog X.w X.mg rn X.stack H1 s1 (λc _ H'=>bG H H'/\((X.mg R1=some c/\D1 E ρ)\/(X.mg R2=some c/\hd2 E ρ))) e s') _ σ (λjs H1 s1 e s' I1 c=>⟨js,H1,s1,Inv.CN I1,c⟩) [] s σ H D (Inv.du I λp hp=>I.pin p (by rw[kE] at hp;exact hp)) ⟨rfl,Hs,ρ,ai,_,_,sr,h,k1,λn H' s2 q hn C hC=>⟨s2,q.imp (λq=>⟨by rw[<- q.1];exact hC,q.2⟩) λq=>⟨by rw[<- q.1];exact hC,q.2⟩⟩⟩
 refine wpAny_Try_except (oD y6 (λf s1 hs=>?_) λe s' hx=>?_)
 ·have hs:=SP.jE hs Uu
  cases f with
  |next =>obtain⟨ck,H',I',q⟩:=hs;exact Sh pins s1 ck H' D I' q
  |brk=>exact hs
  |cont=>exact hs
  |ret u=>exact hs
 ·obtain⟨js,H1,s1,I1,a,n',C,a0,H',B,rfl,EH,os,bare,un,bT,z0,cov,fr,sm,hq⟩:=hx;obtain⟨JA,g',d',t',NC⟩:=s';obtain rfl:NC=s1.os:=os;have Uv:OL B (X.env :: X.outer) a (.ref C) a0 JA:=kR ▸ z0;have th:∀ b o,s1.heap.get? b=some o->∃ o',JA.get? b=some o':=λb o e=>un.there b o e (by simp);refine Cr (kR ▸ I.ok.frames) hf Uv λh4 held Uw=>gH (fr:=none) held λh5 z5 Ux=>?_;have JJ:cg (fw X.stack) H' s1.heap JA h5:=cg.of cov z5.1 (Uw.trans Ux) z0.2.2.1;have Rh:=cov.next JJ bT th;have MB:=JJ.un un;have MD:=JJ.bT fr bT;have I5:Inv (du X (X.pn++pins) X.xe) js σ H' ⟨h5,g',d',t',s1.os⟩:=I1.call (h':=h5) (g':=g') (d':=d') (t':=t') (ch:=[]) MB MD bare (λb z=>absurd z (by simp));have gr:=b_ sr.wf sm ⟨bG.refl H',λ_ _ e=>e⟩
  -- the suite that is taken
  have suite:∀ {OS:Stmt} {su:List Stmt} {hd:WS} {hp:Pos},(∀ pn a,tP (oB X pn a) K L (OS :: su) hd)->hd E ρ->vx (aS X.prog X.w) (X.A.mark (some (.ref a))) (.handlers (.ref a) [.ExceptHandler none none (OS :: su) hp] X.env) (λr AZ=>match r with
     |.ok f=>SP X pins D f AZ
     |.error x=>cameBackBy (aS X.prog X.w) X.A X.env X.xe x AZ) ⟨h5,g',d',t',s1.os⟩:=λ{OS su hd hp} hh hq=>by
   refine codeAny_handlers_suite ?_;refine gH (fr:=none) z5 λh6 MF Uy=>?_;have Uz:h5.FunFrames B X.stack:=kR ▸ z5.2.2.1;have MG:cg (fw X.stack) H' s1.heap h5 h6:=cg.of Rh MF.1 Uy Uz;have UA:=MG.un MB;have UB:=MG.bT fr MD;have I6:Inv (du X (X.pn++pins) X.xe) js σ H' ⟨h6,g',d',t',s1.os⟩:=I1.call (h':=h6) (g':=g') (d':=d') (t':=t') (ch:=[]) UA UB bare (λb z=>absurd z (by simp));have UC:Inv (oB X (X.pn++pins) a) [] σ H' ⟨h6,g',d',t',s1.os⟩:=Inv.oB I6 λp hp=>by rw[kE] at hp;exact I6.pin p (j3 _ hp)
   refine oD (hh (X.pn++pins) a [] _ σ H' D UC ⟨_,ρ,ai,E,sr.grow gr,hq,λck H2 bq da cy s2=>k1 ck H2 bq da cy (gr.sh.trans s2),λck H2 bq da cy s2=>k2 ck H2 bq da cy (gr.sh.trans s2),λck H2 bq da cy s2=>k3 ck H2 bq da cy (gr.sh.trans s2),
    λv H2 bq m d As s2=>k4 v H2 bq m d As (gr.sh.trans s2),λn H2 s2=>kx n H2 (gr.sh.trans s2)⟩) (λf s8 hs=>?_) λ_ _ z=>z.elim
   have out:∀ {pV H8},Inv (oB X (X.pn++pins) a) [] pV H8 s8->Inv X pins pV H8 s8:=λI8=>Inv.qI I8 I.ok.hd λp hp=>by rw[kE];exact hp
   cases f with
   |next=>obtain⟨pV,H8,I8,q⟩:=hs;exact⟨pV,H8,out I8,q⟩
   |brk=>obtain⟨pV,H8,I8,q⟩:=hs;exact⟨pV,H8,out I8,q⟩
   |cont=>obtain⟨pV,H8,I8,q⟩:=hs;exact⟨pV,H8,out I8,q⟩
   |ret u=>obtain⟨v,pV,H8,I8,rv,q⟩:=hs;exact⟨v,pV,H8,out I8,rv,q⟩
  have I5h:Inv (oB X (X.pn++pins) a) js σ H' ⟨h5,g',d',t',s1.os⟩:=Inv.oB I5 λp hp=>I5.pin p hp;refine wpAny_handleBy_cons (codeAny_handlers_test ?_) (by intro q;cases q);refine GW (X:=oB X (X.pn++pins) a) (pins:=js) I5h hg1 vi ?_ gH';rcases hq with⟨Rk,hq⟩|⟨Rk,hq⟩
  ·obtain⟨xc,IZ⟩:=gJ' R1 C (rV.mpr rfl) Rk;exact fK xc Rj IZ I5.iP z5.there (suite hh1 hq)
  ·obtain⟨xc,IZ⟩:=gK' R2 C (rV.mpr rfl) Rk;refine tK Rj (xn.ex r1 C vi Rk) I5.iP z5.there ?_;refine wpAny_handleBy_cons (codeAny_handlers_test ?_) (by intro q;cases q);refine GW (X:=oB X (X.pn++pins) a) (pins:=js) I5h DZ px ?_ gI';exact fK xc UG IZ I5.iP z5.there (suite hh2 hq)
end L2.Q
namespace L2.Q.R
open PySem PySem.Spec PyProof.Rows L2.Q
section
variable {ρ:L2.Q.Env}{E:iW}{i j:Nat}{wb:WB}{hd:ag->Str->WS}{R1 R2:Str}{D1 hd2:WS}{sp:fo}{t:WA}{N:L2.Q.Env->Prop}{Y:Str->Prop}
theorem Ib:Br j wb hd E ρ=wb ρ E.nx λn=>∀ a,hd a n { nx:=λda=>E.nx (da.set j none),rt:=E.rt } (ρ.set j (some (.xc a))):=rfl
theorem HW:vW wb R1 D1 R2 hd2 E ρ=wb ρ E.nx λn=>(n=R1/\D1 E ρ)\/(n=R2/\hd2 E ρ):=rfl
theorem Ji:yH i (rO sp t) ρ N Y=t ρ λps=>sp (ps.map (·.2)) λm d=>mr m d Y (cq (m,d) (f:=λp=>cq (asg (qV p.1 p.2) p.2) (f:=λo=>put o λsl=>N (ρ.set i (some sl))) ⟨⟩) ⟨⟩):=rfl
end
end L2.Q.R
namespace L2.Q
open PySem PySem.Spec PyProof.Rows
section
variable {X:Cx}{K:aI}{e a b:Expr}{te:WE}{pos:Pos}{i:Nat}{L:Str->Hp->Prop}
def qi(te:WE)(i:Nat):WS:=λE ρ=>te ρ λ_ z=>∃ w l,z=.str w/\ρ[i]? = some (some (.ow true (.list l)))/\E.rt .fr (.tup [.str w,.list l,.list l])
theorem uD{x1}{ZC:Pos}(he:QE X K e te)(ha:PE X a (AW i))(hb:PE X b (AW i))(hs:bS [e,a,b] X.env=(false,c9 e X.env) :: bS [a,b] X.env:=by rfl)(lI:bS [a,b] X.env=(false,c9 a X.env) :: bS [b] X.env:=by rfl)(L9:bS [b] X.env=(false,c9 b X.env) :: bS [] X.env:=by rfl) :
  QS X K L (.Return (some (.Tuple [e,a,b] x1 ZC)) pos) (qi te i):=by
 refine PS.imp (Nx (PR (kU he (kU ha (kU hb si L9) lI) hs))) λD σ H hx=>cI hx λHs ρ ai E sr h k1 k2 k3 k4=>?_;refine⟨Hs,ρ,ai,_,sr,h,λv H1 bE m z As g1 r1 f1 q1=>?_⟩;obtain⟨w,l,rfl,er,q⟩:=q1;obtain⟨F,h1,h2,h3⟩:=sr.sr.addrs sr.tN;obtain⟨u,eu,ne,ro⟩:=h1 i true _ er;refine⟨u,eu,u,eu,by show 3<=bX;decide,λp hp=>?_⟩;have g2:=N_ (vs:=[v,u,u]) g1.wf hp;have g:=g1.trans g2;have ro2:=cw.grow g.sh g.all ro;have ow:=cw.own ro2;have tp:∀ c vs,(upd bE p (.tup [v,u,u])) c=some (.tup vs)->Bi (upd bE p (.tup [v,u,u])) (upd H1 p (.tup [v,u,u])) (F i) c=some (.tup vs):=λc vs z=>qF ow g.wf.sub z;have rl:Rep K (Bi (upd bE p (.tup [v,u,u])) (upd H1 p (.tup [v,u,u])) (F i)) (.list l) u:=cw.rep (bG.refl _) (cw.leaves tp ro2) λc m=>by unfold Bi;rw[if_pos m]
 exact k4 _ _ _ .fr _ (F i) g.sh g.wf ⟨ow,.tup (by show 3<=bX;decide) (tp p _ ki) (.cons ((r1.rep g1.wf).gm (λc vs z=>tp c vs (g2.sh _ _ (g1.wf.iO c vs z))) rfl) (.cons rl (.cons rl .nil)))⟩ ((h2 i).nodup sr.tN) (λc m=>g.lT (sr.own c ((h2 i).subset m)) (sr.sr.own c ((h2 i).subset m)).ne) q
end
end L2.Q
namespace L2.Q.R
open L2.Q PySem
theorem Ja{d:L2.Q.D}{f:Md × L2.Q.D->Prop}{k:Kt f}:cq (.fr,d) k=f (.fr,d):=rfl
theorem Gh:jZ .fr=True:=rfl
theorem Gk{te:WE}{i:Nat}{E:iW}{ρ:L2.Q.Env}:qi te i E ρ=te ρ λ_ z=>∃ w l,z=.str w/\ρ[i]? = some (some (.ow true (.list l)))/\E.rt .fr (.tup [.str w,.list l,.list l]):=rfl
end L2.Q.R
namespace L2.Q
open PySem PySem.Spec PyProof.Rows
theorem TN.mk{P:dz}{w:dA}{K:aI}{mg:Str->Option ah}{base:cS}{x:Str}{st:Stmt}{f:ag}{fd:xo}{sp:fo}{t:WS}(m:mg x=some (.ref f))(F:tF K x x st f fd)(N:List Str)(n k:Nat)(len:∀ ds Q,sp ds Q->ds.length=n)(hp:∀ ds Q,sp ds Q->t { nx:=λ_=>Q .sh .non,rt:=Q } (aH N.length ds)) (hb:∀ {dr:ah} {A:eJ} {outer:List PySem.Env} {s:aE} {H:Hp} {E:XK},{_:ke k (A.deeper (k7 x (gX st) s.heap.objs.size f dr))}->{_:(A.deeper (k7 x (gX st) s.heap.objs.size f dr)).units+64<hX}->{_:N.Nodup} -> {_:(pf u0 P w K mg base N x (gX st) f dr A outer s H E).EJ.env.scope=gX st/\(pf u0 P w K mg base N x (gX st) f dr A outer s H E).EJ.N=N}->tP (pf u0 P w K mg base N x (gX st) f dr A outer s H E).EJ K L0 (qo st) t) (S:HG N (N.take n) (gX st):=by exact⟨rfl,rfl,rfl,by decide +kernel,rfl,by decide +kernel,by decide +kernel⟩) (hl:(N.take n).length=n:=by rfl) (bi:∀ (kV doc pm:ah) (an:Option ag) (dr ct:ah) (us:List ah),us.length=(N.take n).length->bindArgs (ui x x (x3 st) (qo st) (gX st) .none kV doc pm an dr ct) ⟨us,[]⟩=pure ((N.take n).zip us):=by
   intro _ _ _ _ _ _ us h;iterate 13 all_goals rcases us with _|⟨_,us⟩<;>first|rfl|(simp at h;done)|skip):Ql P w K mg base (k+1) x (N.take n) (eZ K sp)/\tf P w K mg base u0 (k+1) f fd (N.take n) (eZ K sp) :=
 have G:=TN.ok F S (λds Q h=>(len ds Q h).trans hl.symm) (λ_ _ _ _ _ _ hr=>@hb _ _ _ _ _ _ hr hr.units S.nd ⟨rfl,rfl⟩) hp
 ⟨F.cal m G bi,G⟩
theorem Um.mk{P:dz}{w:dA}{K:aI}{mg:Str->Option ah}{base:cS}{rn:List Str}{x:Str}{st:Stmt}{f:ag}{fd:xo}{sp:fo}{t:WS}(m:mg x=some (.ref f))(F:tF K x x st f fd)(N:List Str)(n k:Nat)(len:∀ ds Q,sp ds Q->ds.length=n)(hp:∀ ds Q,sp ds Q->t { nx:=λ_=>Q .sh .non,rt:=Q } (aH N.length ds)) (hb:∀ {dr:ah} {A:eJ} {outer:List PySem.Env} {s:aE} {H:Hp} {E:XK},{_:ke k (A.deeper (k7 x (gX st) s.heap.objs.size f dr))}->{_:(A.deeper (k7 x (gX st) s.heap.objs.size f dr)).units+64<hX}->{_:N.Nodup} -> {_:(pf (pT P w mg rn) P w K mg base N x (gX st) f dr A outer s H E).env.scope=gX st/\(pf (pT P w mg rn) P w K mg base N x (gX st) f dr A outer s H E).N=N}->tP (pf (pT P w mg rn) P w K mg base N x (gX st) f dr A outer s H E) K (LX rn mg E) (qo st) t) (S:HG N (N.take n) (gX st):=by exact⟨rfl,rfl,rfl,by decide +kernel,rfl,by decide +kernel,by decide +kernel⟩) (hl:(N.take n).length=n:=by rfl) (bi:∀ (kV doc pm:ah) (an:Option ag) (dr ct:ah) (us:List ah),us.length=(N.take n).length->bindArgs (ui x x (x3 st) (qo st) (gX st) .none kV doc pm an dr ct) ⟨us,[]⟩=pure ((N.take n).zip us):=by
   intro _ _ _ _ _ _ us h;iterate 13 all_goals rcases us with _|⟨_,us⟩<;>first|rfl|(simp at h;done)|skip):MA P w K mg base rn (k+1) x (N.take n) sp :=
 tF.gp' F m (Um.ok F S (λds Q h=>(len ds Q h).trans hl.symm) (λ_ _ _ _ _ _ hr=>@hb _ _ _ _ _ _ hr hr.units S.nd ⟨rfl,rfl⟩) hp) bi
namespace R
theorem Jf:vn m (.bl i) m' (.bl j) Q=Q .sh (.bl (!decide (i=j))):=rfl
end R
end L2.Q
local macro_rules | `(tactic| walk_at "q") => do
 let nm (s:String):Lean.Ident:=Lean.mkIdent ((s.splitOn ".").foldl Lean.Name.mkStr .anonymous)
 let ds ← ("JC J7 Jq JG Gw Jv KN Ld Hn Gi JQ Jj Jt Ja Gh Gk JK Jx JM Km J2 Jp J1 Ib HW Ji KC KZ Lp K8 HB Ii Iw Il Io Lx Ly J5 Kg Kv KJ J9 Ke JS J0 J3 Ku Jw JX Ds Gq Gb HF J8 JZ wB_ Kr fn' Li Lb Gs Hc wC_ fp' fq' HJ Ig Jr Iz Ks Ka Lr JL GC G3 Hy HQ GK HH Gn I_ Iu Jd Ia Ik JP JD Jk KY Lq Kz JH Jo Kw Lh Kd Ky JW Cz CG Jf IW Ls KD Kl KR K5 KH Kc Lj Lw K6 IK H_ Ir JR Ih Kf Hf HN Hk fr' Gg JV JT Ln K_ K1 Jg GF Hl fs' Gd J_ Ho Ha K3 K9 Ie J4 Gy JB JN Hh Gr Gj Gf Ga gN_ gT_ Jy Ko Js Ju Je Hv G9 Hq La Jb Jc Gp GQ Hx Jz Jl Kp Kh Jh Jm Ip K7 KQ K4 Kq Im IV gv'".splitOn " ").toArray.mapM fun s=>`(Lean.Parser.Tactic.simpLemma| ↓$(nm ("L2.Q.R." ++ s)):ident)
 let us ← ("L2.Q.R.Hi L2.Q.R.G8 L2.Q.R.Gv L2.Q.QX L2.Q.gu' L2.Q.uf L2.Q.BV L2.Q.zt L2.Q.IJ L2.Q.E9 L2.Q.qV L2.Q.jG L2.Q.Oj L2.Q.Oi L2.Q.TL L2.Q.kW L2.Q.Ax L2.Q.asg L2.Q.pE L2.Q.aH L2.Q.D.flat L2.Q.dQ L2.Q.D.QD L2.Q.D.ty L2.Q.eN' L2.Q.D.key1 L2.Q.dG L2.Q.Ij L2.Q.JF List.length_map List.map_cons List.map_nil List.length_cons List.length_nil List.replicate_succ List.replicate_zero List.cons_append List.nil_append List.append_nil List.getElem?_cons_zero List.getElem?_cons_succ List.getElem?_nil List.set_cons_zero List.set_cons_succ List.all_cons List.all_nil Option.some.injEq Option.join_some Option.map_some Option.map_none Nat.reduceAdd Nat.reduceSub true_and and_true Bool.and_true Bool.true_and Bool.and_false Bool.false_and Bool.not_true Bool.not_false Bool.false_eq_true if_true if_false decide_true decide_false reduceIte cond_true cond_false PySem.sizeLine_eq L2.Q.fi' L2.Q.fj' L2.Q.fk' L2.Q.bw L2.Q.Eb L2.Q.empty_app Nat.zero_add exists_eq_left' Int.reduceLT Int.reduceLE Int.reducePow Int.reduceNeg Int.reduceToNat Int.reduceAdd Int.reduceMul Int.reduceSub Nat.reduceLeDiff Nat.reduceLT false_or or_false and_self L2.Lf".splitOn " ").toArray.mapM fun s=>`(Lean.Parser.Tactic.simpLemma| $(nm s):ident)
 let as:Lean.TSyntaxArray [`Lean.Parser.Tactic.simpStar,`Lean.Parser.Tactic.simpErase,`Lean.Parser.Tactic.simpLemma]:=(ds++us).map fun x=>⟨x.raw⟩
 `(tactic| simp -dsimp only [$as,*])
namespace L2.Q.Rl
open PySem PySem.Spec PyProof.Rows
def isLet(c:Nat):Bool:=decide (97<=c/\c<=122)
abbrev abc:Str := "abcdefghijklmnopqrstuvwxyz"
theorem lR:sg abc=(List.range 26).map (97 + ·):=by decide +kernel
theorem Dj{i:Int}(h0:0<=i)(h1:i<26):∃ c,fT (sg abc) i=some c/\isLet c=true:=by
 refine⟨97+i.toNat,?_,?_⟩
 ·have:fT (sg abc) ((i.toNat:Nat):Int)=some (97+i.toNat):=A4 (by
   rw[lR];have:i.toNat<26:=by lia
   simp[this])
  rwa[EF h0] at this
 ·simp[isLet];lia
theorem BK(x:Int):∃ c,fT (sg abc) (x % 26)=some c/\isLet c=true:=Dj (sd _ (by decide)) (n5 _ (by decide))
def lets(x:Str):Prop:=∀ c∈sg x,isLet c=true
def Open(x:Str):Prop:=1<=x.length/\x.length<=6/\lets x
def nX (x:Str):Prop:=x = "*"\/Open x
theorem sS{x y:Str}(hx:lets x)(hy:lets y):lets (x++y):=λc hc=>by rw[fU] at hc;exact(fh.mp hc).elim (hx c) (hy c)
theorem xR{c:Nat}(h:isLet c=true):lets ⟨#[c]⟩:=λd hd=>by
 have:d=c:=by simpa[sg] using hd
 rw[this];exact h
theorem lV{x:Str}(h:lets x)(lo hi:Option Int):lets (ky x lo hi):=λc hc=>by unfold ky sg at hc;rw[List.toList_toArray] at hc;exact h c (K2 (Lc hc))
theorem eN(c:Nat):(⟨#[c]⟩:Str).length=1:=rfl
theorem nX.ok{x:Str}(h:nX x):PyData.strOk x=true:=by
 rw[qH];rcases h with rfl|h
 ·have:sg "*" = [42]:=by decide +kernel
  intro c hc;rw[this] at hc;have:c=42:=by simpa using hc
  lia
 ·intro c hc;have:=h.2.2 c hc;simp[isLet] at this;lia
theorem dO:∀ (l:List Str),dQ (l.map D.str)=true
 |[]=>rfl
 |x :: l=>by simp[dQ,dO l,D.flat]
theorem ju:∀ (l:List Int),dQ (l.map D.int)=true
 |[]=>rfl
 |x :: l=>by simp[dQ,ju l,D.flat]
theorem tE(l:List Str)(x:Str):l.map D.str++[D.str x]=(l++[x]).map D.str:=by simp
theorem ints_app(l:List Int)(x:Int):l.map D.int++[D.int x]=(l++[x]).map D.int:=by simp
theorem dq{n i:Nat}{lo:Int}{x:D}(h:(eQ lo n)[i]? = some x):i<n/\x=.int (lo+(i:Nat)):=by
 unfold eQ at h;rw[qa] at h;by_cases hi:i<n
 ·rw[List.getElem?_range hi] at h;exact⟨hi,(Option.some.inj h).symm⟩
 ·rw[D9 (by simpa using hi)] at h;cases h
theorem eO(lo:Int)(n:Nat):(eQ lo n).length=n:=by simp[eQ]
theorem lX{lo:Int}{n:Nat}{x:D}(h:x∈eQ lo n):∃ i:Nat,i<n/\x=.int (lo+i):=by obtain⟨i,hi⟩:=M0.mp h;exact⟨i,dq hi⟩
theorem cj{α:Type}(l:List α):l.filter (λ_=>true)=l:=List.filter_eq_self.mpr λ_ _=>rfl
abbrev cf:=Int × Str × Int
def x8(s:cf):List Key:=[.inl s.1,.inr s.2.1,.inl s.2.2]
def d4(s:cf):D:=.tup [.int s.1,.str s.2.1,.int s.2.2]
def mD(many:Int)(steps:List cf):D:=.tup [.int many,.list (steps.map d4)]
theorem bj:∀ (l:List cf),dQ (l.map d4)=true
 |[]=>rfl
 |x :: l=>by simp[dQ,bj l,d4,D.flat]
def kM(many:Int)(s:cf):Prop:=0<=s.1/\s.1<many/\nX s.2.1/\0<=s.2.2/\s.2.2<many
theorem Ea{many:Int}{s:cf}(n:Nat)(h:kM many s):dE (n+1) (d4 s)=true:=by have:=h.2.2.1.ok;simp[dE,d4,this]
theorem Cm{many:Int}{l:List cf}(n:Nat)(h:∀ s∈l,kM many s):dE (n+2) (.list (l.map d4))=true:=by simp only[dE,Nb,B5];intro s hs;exact Ea n (h s hs)
theorem Rm{many:Int}{l:List cf}(n:Nat)(h:∀ s∈l,kM many s):dE (n+3) (mD many l)=true:=by have h2:=Cm n h;show(dE (n+2) (.int many) && (dE (n+2) (.list (l.map d4)) && true))=true;rw[h2];rfl
theorem wG:∀ (l:List cf),qB (l.map d4)=true
 |[]=>rfl
 |x :: l=>by simp[qB,wG l,d4,D.nb]
theorem UH(many:Int)(l:List cf):(mD many l).nb=true:=by simp[mD,D.nb,qB,wG]
theorem eq_self{x:D}(h:x.nb=true):kC x x=true:=(lZ x x h h).mpr rfl
theorem sU{s t:cf}(h:x8 s=x8 t):s=t:=by obtain⟨a,b,c⟩:=s;obtain⟨a',b',c'⟩:=t;simp[x8] at h;obtain⟨rfl,rfl,rfl⟩:=h;rfl
def ltP(s t:cf):Bool:=iE (x8 s) (x8 t)
theorem wM{P:cf->Prop}:∀ {ks:List (List Key)},(∀ k∈ks,∃ s,k=x8 s/\P s)->∃ l:List cf,ks=l.map x8/\∀ s∈l,P s
 |[],_=>⟨[],rfl,λs h=>nomatch h⟩
 |k :: ks,h=>by
  obtain⟨s,rfl,p⟩:=h k ft;obtain⟨l,rfl,q⟩:=wM λk hk=>h k (eP _ hk);refine⟨s :: l,rfl,λt ht=>?_⟩;rcases eM.mp ht with rfl|ht
  ·exact p
  ·exact q t ht
theorem Cq{names:List Str}{i:Int}(h0:0<=i)(h1:i<names.length):∃ n,n∈names/\fT (names.map D.str) i=some (.str n):=by
 have hn:i.toNat<names.length:=by lia
 refine⟨names[i.toNat],M8 hn,?_⟩;have:=A4 (xs:=names.map D.str) (j:=i.toNat) (v:=.str names[i.toNat]) (by simp[hn]);rwa[EF h0] at this
theorem name_mod{names:List Str}(x:Int)(h:1<=names.length):∃ n,n∈names/\fT (names.map D.str) (x % (names.length:Int))=some (.str n) :=
 Cq (sd _ (by lia)) (n5 _ (by lia))
theorem wL{α:Type}(f:α->D)(l:List α)(lo hi:Option Int):hV (l.map f) lo hi=(hV l lo hi).map f:=by unfold hV;rw[dn,LD,LG]
theorem vO{α:Type}{l:List α}{lo hi:Option Int}{x:α}(h:x∈hV l lo hi):x∈l:=K2 (Lc h)
def mw(steps out:List cf):Prop:=out.Nodup/\(∀ s,s∈out↔s∈steps)/\(out.Pairwise λa b=>ltP b a=false)
theorem gW{α β:Type}{f:α->β}{l:List α}(h:(l.map f).Nodup):l.Nodup:=by rw[List.Nodup,yy] at h;exact h.imp λBD e=>BD (by rw[e])
theorem mw.one{steps out af':List cf}(M:mw steps out)(M2:mw steps af'):out=af' :=
 List.Perm.eq_of_pairwise (λa b _ _ h1 h2=>sU (pY (a:=x8 a) (b:=x8 b) rfl h2 h1)) M.2.2 M2.2.2 ((List.perm_ext_iff_of_nodup M.1 M2.1).mpr λs=>(M.2.1 s).trans (M2.2.1 s).symm)
theorem mw.len{steps out:List cf}(M:mw steps out):out.length<=steps.length:=TS.bC M.1 λs hs=>(M.2.1 s).mp hs
theorem nG{l:List cf}(P:List D->Prop)(hz:l.length<=1000)(k:∀ out,mw l out->P (out.map d4)):∃ (ks:List (List Key)) (sh:List Bool),l.map d4=ks.map mh/\ks.length<=1000/\(∀ k∈ks,jI k=true :: sh) /\
  ∀ ms:List (List Key),ms.Nodup->(∀ k,k∈ms↔k∈ks)->(ms.Pairwise λa b=>iE b a=false)->P (ms.map mh):=by
 refine⟨l.map x8,[false,true],by rw[i7];rfl,by simpa using hz,?_,λms nd mm pw=>?_⟩
 ·intro k hk;obtain⟨s,_,rfl⟩:=eK.mp hk;rfl
 ·obtain⟨out,rfl,ho⟩:=wM (P:=λs=>s∈l) (ks:=ms) λk hk=>by obtain⟨s,hs,rfl⟩:=eK.mp ((mm k).mp hk);exact⟨s,rfl,hs⟩
  have e:(out.map x8).map mh=out.map d4:=by rw[i7];rfl
  rw[e];refine k out ⟨gW nd,λs=>⟨λhm=>ho s hm,λhm=>?_⟩,yy.mp pw⟩;obtain⟨s',gi,e⟩:=eK.mp ((mm (x8 s)).mpr (eK.mpr ⟨s,hm,rfl⟩));rw[<- sU e];exact gi
theorem uz{steps:List cf}{i:Nat}{x:D}(h:(steps.map d4)[i]? = some x):∃ p d r,x=.tup [.int p,.str d,.int r]/\(p,d,r)∈steps/\steps.take (i+1)=steps.take i++[(p,d,r)]:=by
 rw[qa] at h
 cases e:steps[i]? with
 |none=>rw[e] at h;cases h
 |some s =>rw[e] at h;cases h;obtain⟨p,d,r⟩:=s;exact⟨p,d,r,rfl,vE e,by rw[Ee,e];rfl⟩
theorem zx{l:List Str}{i:Nat}{x:D}(h:(l.map D.str)[i]? = some x):∃ n,x=.str n/\n∈l/\l.take (i+1)=l.take i++[n]:=by
 rw[qa] at h
 cases e:l[i]? with
 |none=>rw[e] at h;cases h
 |some s =>rw[e] at h;cases h;exact⟨s,rfl,vE e,by rw[Ee,e];rfl⟩
theorem sG{n:Str}:(decide (1<=n.length/\n.length<=6) && (sg n).all isLet)=true↔Open n:=by unfold Open lets;simp only[ja,decide_eq_true_eq,B5];exact⟨λ⟨⟨a,b⟩,c⟩=>⟨a,b,c⟩,λ⟨a,b,c⟩=>⟨⟨a,b⟩,c⟩⟩
def Fu(f:Str->Option Str)(s:cf):cf:=(s.1,(f s.2.1).getD s.2.1,s.2.2)
theorem Dq{many:Int}{f:Str->Option Str}{s:cf}(hf:∀ x y,f x=some y->nX y)(h:kM many s):kM many (Fu f s):=by
 refine⟨h.1,h.2.1,?_,h.2.2.2.1,h.2.2.2.2⟩;show nX ((f s.2.1).getD s.2.1)
 cases e:f s.2.1 with
 |none=>exact h.2.2.1
 |some y=>exact hf _ y e
theorem JY(many:Int)(l:List cf):kC (D.tup [.int many,.list (l.map d4)]) (D.tup [.int many,.list (l.map d4)])=true:=eq_self (UH many l)
theorem UI{many:Int}{l:List cf}(h:∀ s∈l,kM many s):dE 12 (D.tup [.int many,.list (l.map d4)])=true:=Rm 9 h
theorem rY{α β:Type}(f:α->β)(l:List α)(k:Nat)(y:α):kL (l.map f) k (f y)=(kL l k y).map f:=by unfold kL;rw[oI,gI,LD,LG]
theorem tD{α:Type}(l:List α)(k:Nat)(y:α):(kL l k y).length=l.length+1:=by unfold kL;rw[ny,vF,ly,xt];lia
theorem rM{κ β:Type}[DecidableEq κ](k k':κ)(v:β):∀ (ae:List (κ × β)),fP (ae.map λkv=>if kv.1=k then (kv.1,v) else kv) k'=if k'=k then (fP ae k').map (λ_=>v) else fP ae k'
 |[]=>by simp[fP]
 |p :: r=>by
  rw[gI,cP,cP,rM k k' v r];by_cases h:p.1=k
  ·rw[if_pos h];by_cases h2:k'=k
   ·subst h2;simp[h]
   ·have:¬ p.1=k':=λz=>h2 (z.symm.trans h);simp[this,h2]
  ·rw[if_neg h];by_cases h2:k'=k
   ·subst h2;simp[h]
   ·simp[h2]
theorem pF{κ β:Type}[DecidableEq κ](k k':κ)(v:β):∀ (ae:List (κ × β)),fP (ae++[(k,v)]) k'=(fP ae k').or (if k=k' then some v else none)
 |[]=>by rw[List.nil_append,cP];rfl
 |p :: r=>by rw[Pa,cP,cP,pF k k' v r];split<;>simp
theorem jJ{κ β:Type}[DecidableEq κ](k k':κ)(v:β)(ae:List (κ × β)):fP (nV ae k v) k'=if k'=k then some v else fP ae k':=by
 have ex:∀ ae:List (κ × β),(ae.any λkv=>decide (kv.1=k))=(fP ae k).isSome:=λae=>by
  induction ae with
  |nil=>rfl
  |cons p r ih =>rw[B6,cP,ih];by_cases h:p.1=k<;>simp[h]
 unfold nV;rw[ex ae]
 cases e:fP ae k with
 |none =>
  simp only[Option.isSome_none,hZ,if_false];rw[pF];by_cases h:k'=k
  ·subst h;rw[e];simp
  ·rw[if_neg h,if_neg λz=>h z.symm];simp
 |some u =>
  simp only[Option.isSome_some,if_true];rw[rM];by_cases h:k'=k
  ·subst h;rw[e];simp
  ·rw[if_neg h,if_neg h]
def FC(steps:List cf):List Str:=steps.map (·.2.1)
theorem mw.uniq{a b o1 o2:List cf}(h:∀ s,s∈a↔s∈b)(M1:mw a o1)(M2:mw b o2):o1=o2 :=
 M1.one ⟨M2.1,λs=>(M2.2.1 s).trans (h s).symm,M2.2.2⟩
def rg(n:Int)(tg:List Str)(s:cf):List cf:=if s.2.1∈tg then [] else (List.range n.toNat).map λq:Nat=>(s.1*n+(0+(q:Int)),s.2.1,s.2.2*n+(0+(q:Int)))
def rh(m n:Int)(tg:List Str)(s:cf):List cf:=if s.2.1∈tg then [] else (List.range m.toNat).map λp:Nat=>((0+(p:Int))*n+s.1,s.2.1,(0+(p:Int))*n+s.2.2)
def toS(n:Int)(tg:List Str)(l2:List cf)(s:cf):List cf:=if s.2.1∈tg then (l2.filter λt=>decide (t.2.1=s.2.1)).map λt=>(s.1*n+t.1,s.2.1,s.2.2*n+t.2.2) else []
def rp(m n:Int)(tg:List Str)(l1 l2:List cf):List cf:=l1.flatMap (rg n tg)++l2.flatMap (rh m n tg)++l1.flatMap (toS n tg l2)
theorem uU{n:Int}{tg:List Str}{s x:cf}:x∈rg n tg s↔s.2.1∉tg/\∃ q:Nat,q<n.toNat/\x=(s.1*n+(0+(q:Int)),s.2.1,s.2.2*n+(0+(q:Int))):=by
 unfold rg;split
 ·rename_i h;simp[h]
 ·rename_i h;simp only[eK,rX,h,not_false_eq_true,true_and];exact⟨λ⟨q,a,b⟩=>⟨q,a,b.symm⟩,λ⟨q,a,b⟩=>⟨q,a,b.symm⟩⟩
theorem vJ{m n:Int}{tg:List Str}{s x:cf}:x∈rh m n tg s↔s.2.1∉tg/\∃ p:Nat,p<m.toNat/\x=((0+(p:Int))*n+s.1,s.2.1,(0+(p:Int))*n+s.2.2):=by
 unfold rh;split
 ·rename_i h;simp[h]
 ·rename_i h;simp only[eK,rX,h,not_false_eq_true,true_and];exact⟨λ⟨q,a,b⟩=>⟨q,a,b.symm⟩,λ⟨q,a,b⟩=>⟨q,a,b.symm⟩⟩
theorem uG{n:Int}{tg:List Str}{l2:List cf}{s x:cf}:x∈toS n tg l2 s↔s.2.1∈tg/\∃ t,t∈l2/\t.2.1=s.2.1/\x=(s.1*n+t.1,s.2.1,s.2.2*n+t.2.2):=by
 unfold toS;split
 ·rename_i h;simp only[eK,LB,decide_eq_true_eq,h,true_and];exact⟨λ⟨q,a,b⟩=>⟨q,a.1,a.2,b.symm⟩,λ⟨q,a,c,b⟩=>⟨q,⟨a,c⟩,b.symm⟩⟩
 ·rename_i h;simp[h]
theorem vd{m n:Int}{tg:List Str}{l1 l2:List cf}{x:cf}:x∈rp m n tg l1 l2↔(∃ s,s∈l1/\x∈rg n tg s)\/(∃ s,s∈l2/\x∈rh m n tg s)\/(∃ s,s∈l1/\x∈toS n tg l2 s):=by unfold rp;simp only[fh,List.mem_flatMap,or_assoc]
theorem yM{l:List cf}{g:cf->List cf}{p:cf->Bool}{k:Nat}(h:∀ s,(g s).length<=if p s then k else 0):(l.flatMap g).length<=(l.filter p).length*k:=by
 induction l with
 |nil=>simp
 |cons s l ih =>
  have:=h s;rw[List.flatMap_cons,ny,RP]
  cases e:p s with
  |true=>rw[e] at this;simp only[if_true,vF] at *;rw[Nat.add_mul];lia
  |false=>rw[e] at this;simp only[hZ,if_false] at *;lia
theorem jB(l:List Str):(l.map D.str).all dU=true:=by rw[B5];intro x hx;obtain⟨c,_,rfl⟩:=eK.mp hx;rfl
theorem mR(x:Str)(l:List Str):inD (.str x) (l.map D.str)=decide (x∈l):=by
 unfold inD;rw[ED,List.any_eq_true,decide_eq_true_iff];constructor
 ·rintro⟨y,hy,e⟩;obtain⟨c,hc,rfl⟩:=eK.mp hy;have:=(lZ (.str c) (.str x) rfl rfl).mp e;cases this;exact hc
 ·intro hx;exact⟨.str x,eK.mpr ⟨x,hx,rfl⟩,(lZ (.str x) (.str x) rfl rfl).mpr rfl⟩
def mU (steps:List cf) (k:Nat):Prop:=∃ l:List Str,l.Nodup/\(∀ n,n∈l↔n∈FC steps/\n ≠ "*")/\l.length=k
theorem yh{α:Type}[DecidableEq α]{l m:List α}(h1:l.Nodup)(h2:m.Nodup)(h:∀ x,x∈l↔x∈m):l.length=m.length :=
 Nf (TS.bC h1 λx hx=>(h x).mp hx) (TS.bC h2 λx hx=>(h x).mpr hx)
theorem mU.uniq{steps:List cf}{j k:Nat}(a:mU steps j)(b:mU steps k):j=k:=by obtain⟨l,n1,m1,rfl⟩:=a;obtain⟨m,n2,m2,rfl⟩:=b;exact yh n1 n2 λx=>(m1 x).trans (m2 x).symm
def OV(many:Int)(c k:Nat):Prop:=many<=20/\c<=80/\k<=6
def Kb (names:List Str) (x:Str):Option Str:=if x∈names then some "*" else none
theorem yf{names:List Str}(x y:Str)(h:Kb names x=some y):nX y:=by
 unfold Kb at h;split at h
 ·cases h;exact .inl rfl
 ·cases h
abbrev hdS(names:List Str):cf->cf:=Fu (Kb names)
abbrev Pr:=Str × Str
def t5(p:Pr):D:=.tup [.str p.1,.str p.2]
def MK(p:Pr):Prop:=Open p.1/\Open p.2
def lk:List Pr->Str->Option Str
 |[],_=>none
 |p :: r,x=>if p.1=x then some p.2 else lk r x
theorem CJ(a:List Pr)(p:Pr)(x:Str):lk (a++[p]) x=(lk a x).or (if p.1=x then some p.2 else none):=by
 induction a with
 |nil=>simp[lk]
 |cons q a ih =>
  simp only[Pa,lk];by_cases h:q.1=x
  ·rw[if_pos h,if_pos h];rfl
  ·rw[if_neg h,if_neg h,ih]
theorem Aj{ps:List Pr}(h:∀ p∈ps,MK p)(x y:Str)(e:lk ps x=some y):nX y:=by
 induction ps with
 |nil=>cases e
 |cons p ps ih =>
  simp only[lk] at e;split at e
  ·cases e;exact .inr (h p ft).2
  ·exact ih (λq hq=>h q (eP _ hq)) e
theorem Hu{ps:List Pr}{i:Nat}{x:D}(h:(ps.map t5)[i]? = some x):∃ a b,x=.tup [.str a,.str b]/\(a,b)∈ps/\ps.take (i+1)=ps.take i++[(a,b)]:=by
 rw[qa] at h
 cases e:ps[i]? with
 |none=>rw[e] at h;cases h
 |some s =>rw[e] at h;cases h;obtain⟨a,b⟩:=s;exact⟨a,b,rfl,vE e,by rw[Ee,e];rfl⟩
theorem yc:∀ (l:List Pr),dQ (l.map t5)=true
 |[]=>rfl
 |x :: l=>by simp[dQ,yc l,t5,D.flat]
theorem vX:∀ (l:List Pr),qB (l.map t5)=true
 |[]=>rfl
 |x :: l=>by simp[qB,vX l,t5,D.nb]
theorem xG{m n:Int}{tg:List Str}{l1 l2:List cf}(n0:0<=n)(m0:0<=m){a b:Int}{d:Str}:((a,d,b):cf)∈rp m n tg l1 l2 ↔ (d∉tg/\∃ p r q,(p,d,r)∈l1/\(0<=q/\q<n)/\a=p*n+q/\b=r*n+q)\/(d∉tg/\∃ p q s,(q,d,s)∈l2/\(0<=p/\p<m)/\a=p*n+q/\b=p*n+s) \/ (d∈tg/\∃ p r q s,(p,d,r)∈l1/\(q,d,s)∈l2/\a=p*n+q/\b=r*n+s):=by
 rw[vd];constructor
 ·rintro(⟨⟨p,e,r⟩,hs,h⟩|⟨⟨q,e,s⟩,hs,h⟩|⟨⟨p,e,r⟩,hs,h⟩)
  ·obtain⟨ht,k,hk,e1⟩:=uU.mp h;simp only[Prod.mk.injEq] at e1;obtain⟨rfl,rfl,rfl⟩:=e1;exact .inl ⟨ht,p,r,k,hs,by lia,by simp,by simp⟩
  ·obtain⟨ht,k,hk,e1⟩:=vJ.mp h;simp only[Prod.mk.injEq] at e1;obtain⟨rfl,rfl,rfl⟩:=e1;exact .inr (.inl ⟨ht,k,q,s,hs,by lia,by simp,by simp⟩)
  ·obtain⟨ht,⟨q,e2,s⟩,hu,e3,e1⟩:=uG.mp h;simp only[Prod.mk.injEq] at e1 e3;obtain⟨rfl,rfl,rfl⟩:=e1;subst e3;exact .inr (.inr ⟨ht,p,r,q,s,hs,hu,rfl,rfl⟩)
 ·rintro(⟨ht,p,r,q,hs,hq,rfl,rfl⟩|⟨ht,p,q,s,hs,hp,rfl,rfl⟩|⟨ht,p,r,q,s,h1,h2,rfl,rfl⟩)
  ·exact .inl ⟨_,hs,uU.mpr ⟨ht,q.toNat,by lia,by simp[EF hq.1]⟩⟩
  ·exact .inr (.inl ⟨_,hs,vJ.mpr ⟨ht,p.toNat,by lia,by simp[EF hp.1]⟩⟩)
  ·exact .inr (.inr ⟨_,h1,uG.mpr ⟨ht,_,h2,rfl,rfl⟩⟩)
theorem apart{n p q:Int}(h:0<=q/\q<n):(p*n+q) / n=p/\(p*n+q) % n=q:=by
 have hn:n≠0:=by lia
 rw[Int.add_comm,Int.add_mul_ediv_right _ _ hn,Int.ediv_eq_zero_of_lt h.1 h.2,Int.add_mul_emod_self_right,Int.emod_eq_of_lt h.1 h.2];exact⟨by lia,rfl⟩
theorem low{n o q c:Int}(hq:0<=q/\q<n)(hc:0<=c/\c<o):0<=q*o+c/\q*o+c<n*o:=by have h1:0<=q*o:=GN hq.1 (by lia);have h2:(q+1)*o<=n*o:=Int.mul_le_mul_of_nonneg_right (by lia) (by lia);rw[Int.add_mul,Int.one_mul] at h2;lia
theorem Ed{m n:Int}{tg:List Str}{l1 l2:List cf}(m0:0<=m)(n0:0<=n)(h1:∀ s∈l1,kM m s)(h2:∀ s∈l2,kM n s):∀ s∈rp m n tg l1 l2,kM (m*n) s:=λs hm=>by
 obtain⟨a,d,b⟩:=s;rcases (xG n0 m0).mp hm with⟨ht,p,r,q,hs,hq,rfl,rfl⟩|⟨ht,p,q,s,hs,hp,rfl,rfl⟩|⟨ht,p,r,q,s,hs,hu,rfl,rfl⟩
 ·have o:=h1 _ hs;have x:=low ⟨o.1,o.2.1⟩ hq;have y:=low ⟨o.2.2.2.1,o.2.2.2.2⟩ hq;exact⟨x.1,x.2,o.2.2.1,y.1,y.2⟩
 ·have o:=h2 _ hs;have x:=low hp ⟨o.1,o.2.1⟩;have y:=low hp ⟨o.2.2.2.1,o.2.2.2.2⟩;exact⟨x.1,x.2,o.2.2.1,y.1,y.2⟩
 ·have o:=h1 _ hs;have o2:=h2 _ hu;have x:=low ⟨o.1,o.2.1⟩ ⟨o2.1,o2.2.1⟩;have y:=low ⟨o.2.2.2.1,o.2.2.2.2⟩ ⟨o2.2.2.2.1,o2.2.2.2.2⟩;exact⟨x.1,x.2,o.2.2.1,y.1,y.2⟩
def ku (l:List Str) (x:Int):Str:=l.getD (x % (l.length:Int)).toNat ""
theorem iM{l:List Str}(x:Int)(h:1<=l.length):ku l x∈l/\fT (l.map D.str) (x % (l.length:Int))=some (.str (ku l x)):=by
 have b1:=sd x (show(l.length:Int)≠0 by lia);have b2:=n5 x (show(0:Int)<l.length by lia);have hj:(x % (l.length:Int)).toNat<l.length:=by lia
 have e:ku l x=l[(x % (l.length:Int)).toNat]:=by unfold ku;rw[B4,uj hj];rfl
 refine⟨by rw[e];exact M8 _,?_⟩;have:=A4 (xs:=l.map D.str) (j:=(x % (l.length:Int)).toNat) (v:=.str (ku l x)) (by rw[qa,uj hj,e];rfl);rwa[EF b1] at this
def dr(k:Int):Nat->Int->Int
 |0,c=>c
 |i+1,c=>dr k i c / k
def sN(pool:List Str)(c:Int):List Str:=(List.range (c % 7).toNat).map λi=>ku pool (dr 6 i (c / 7))
def sP(pool:List Str)(c:Int):List Pr:=(List.range (1+c % 4).toNat).map λi=>(ku pool (dr 36 i (c / 4)),ku pool (dr 36 i (c / 4) / 6))
def rq (pool:List Str):List Str:=["*", "", "A", "a b", "a1", "abcdefg", " a", "a*",pool.getD 0 "" ++ " ",Txt.upper (pool.getD 1 ""),pool.getD 2 "" ++ "aaaaaa"]
def wo(many:Int)(names:List Str)(num:Int):cf:=(num % many,ku names (num / many),num / (many*(names.length:Int)) % many)
def FD(cells:List Int)(many:Int)(names:List Str):List cf:=(List.range cells.length).map λi=>wo many names ((cells.getD i 0 % 2147483647+1)*(48271+7*(0+(i:Int))) % 2147483647)
theorem jb{α:Type}(f:Nat->α)(i:Nat):(List.range (i+1)).map f=(List.range i).map f++[f i]:=by rw[List.range_succ,oI];rfl
theorem Ei{many:Int}{names:List Str}(num:Int)(m1:1<=many)(n1:1<=names.length)(hd:∀ n∈names,nX n):kM many (wo many names num) :=
 ⟨sd _ (by lia),n5 _ (by lia),hd _ (iM _ n1).1,sd _ (by lia),n5 _ (by lia)⟩
theorem zf{cells:List Int}{many:Int}{names:List Str}(m1:1<=many)(n1:1<=names.length)(hd:∀ n∈names,nX n):∀ s∈FD cells many names,kM many s:=λs hs=>by obtain⟨i,_,rfl⟩:=eK.mp hs;exact Ei _ m1 n1 hd
theorem wD(cells:List Int)(many:Int)(names:List Str):(FD cells many names).length=cells.length:=by simp[FD]
theorem Du{pool:List Str}{c:Int}(h:1<=pool.length):∀ n∈sN pool c,n∈pool:=λn hn=>by obtain⟨i,_,rfl⟩:=eK.mp hn;exact(iM _ h).1
theorem zF(pool:List Str)(c:Int):(sN pool c).length<=6:=by have:=n5 c (show(0:Int)<7 by decide);simp[sN];lia
theorem zA{pool:List Str}{c:Int}(h:1<=pool.length):∀ p∈sP pool c,p.1∈pool/\p.2∈pool:=λn hn=>by obtain⟨i,_,rfl⟩:=eK.mp hn;exact⟨(iM _ h).1,(iM _ h).1⟩
theorem zB(pool:List Str)(c:Int):(sP pool c).length<=4:=by have:=n5 c (show(0:Int)<4 by decide);simp[sP];lia
def FE(l:List cf):List cf:=open Classical in if h:∃ o,mw l o then h.choose else []
theorem sZ{l o:List cf}(M:mw l o):FE l=o:=by unfold FE;rw[dif_pos ⟨o,M⟩];exact mw.uniq (λ_=>Iff.rfl) (Exists.choose_spec (p:=λo=>mw l o) ⟨o,M⟩) M
theorem Eg:∀ i:_root_.Fin 26,Unicode.upperOf (97+i.val)=[65+i.val]:=by decide +kernel
theorem En{x:Str}(h:Open x):PyData.strOk (Txt.upper x)=true:=by
 rw[qH];intro c hc;unfold sg Txt.upper placed at hc;rw[R4,Array.mem_flatten] at hc;obtain⟨as,ha,hc⟩:=hc;obtain⟨i,hi,rfl⟩:=Array.mem_iff_getElem.mp ha;simp only[Array.getElem_mapIdx] at hc;have k9:i<x.cps.size:=by simpa using hi
 have hl:=h.2.2 x.cps[i] (by unfold sg;exact R4.mpr (Array.getElem_mem k9));have hr:97<=x.cps[i]/\x.cps[i]<=122:=by simpa[isLet] using hl
 have e:Unicode.upperOf x.cps[i]=[65+(x.cps[i]-97)]:=by have:=Eg ⟨x.cps[i]-97,by lia⟩;rwa[show 97+(x.cps[i]-97)=x.cps[i] by lia] at this
 rw[e] at hc;have:c=65+(x.cps[i]-97):=by simpa using hc
 lia
theorem wy{x y:Str}(h:PyData.strOk x=true)(g:PyData.strOk y=true):PyData.strOk (x++y)=true:=by
 rw[qH] at *
 intro c hc;rw[fU] at hc;exact(fh.mp hc).elim (h c) (g c)
theorem Fl{pool:List Str}(hp:pool.length=6)(ho:∀ n∈pool,Open n):∀ x∈rq pool,PyData.strOk x=true:=by
 match pool,hp with
 |[p0,p1,p2,p3,p4,p5],_ =>have o0:=nX.ok (.inr (ho p0 (by simp)));have o1:=En (ho p1 (by simp));have o2:=nX.ok (.inr (ho p2 (by simp)));intro x hx;simp only[rq,eM,FX,or_false,List.getD_cons_zero,List.getD_cons_succ] at hx;rcases hx with rfl|rfl|rfl|rfl|rfl|rfl|rfl|rfl|rfl|rfl|rfl;all_goals first|decide +kernel|exact wy o0 (by decide +kernel)|exact o1|exact wy o2 (by decide +kernel)
inductive dk where
 |right (n:Int) (l:List cf) (tg:List Str)
 |left (n:Int) (l:List cf) (tg:List Str)
 |xh (names:List Str)
 |BM (ps:List Pr)
 |bad (w:Str) (ns:List Str)
def dk.d:dk->D
 |.right n l tg=>.tup [.str "right",mD n l,.list (tg.map .str)]
 |.left n l tg=>.tup [.str "left",mD n l,.list (tg.map .str)]
 |.xh names=>.tup [.str "hide",.list (names.map .str)]
 |.BM ps=>.tup [.str "rename",.list (ps.map t5)]
 |.bad w ns=>.tup [.str w,.list (ns.map .str),.list (ns.map .str)]
def rL(x:Str):Prop:=PyData.strOk x=true
def dk.Ok:dk->Prop
 |.right n l tg|.left n l tg=>1<=n/\n<=3/\l.length<=4/\(∀ s∈l,kM n s)/\tg.length<=7/\∀ t∈tg,rL t
 |.xh ns=>ns.length<=7/\∀ t∈ns,rL t
 |.BM ps=>ps.length<=5/\∀ p∈ps,rL p.1/\rL p.2
 |.bad w ns=>rL w/\(w ≠ "right"/\w ≠ "left"/\w ≠ "hide"/\w ≠ "rename")/\ns.length<=7/\∀ t∈ns,rL t
def dk.isBad:dk->Bool
 |.bad _ _=>true
 |_=>false
inductive Res where
 |ok (m:Int) (l:List cf)
 |no (c:Str)
structure Hm(m:Int)(l:List cf):Prop where
 m1:1<=m
 m2:m<=20
 ok:∀ s∈l,kM m s
 len:l.length<=80
 md:mw l l
def Res.on(Q:Md->D->Prop):Res->Prop
 |.ok m l=>Hm m l->Q (.ow true) (mD m l)
 |.no c=>Q (.ow false) (.str c)
def UJ(l:List cf):Nat:=open Classical in if h:∃ k,mU l k then h.choose else 0
theorem CK{l:List cf}{k:Nat}(h:mU l k):UJ l=k:=by unfold UJ;rw[dif_pos ⟨k,h⟩];exact(Exists.choose_spec (p:=λk=>mU l k) ⟨k,h⟩).uniq h
open Classical in
def BO(m n:Int)(tg:List Str)(l1 l2:List cf):Res :=
 if ∀ t∈tg,Open t then if m*n<=20 then if OV (m*n) (FE (rp m n tg l1 l2)).length (UJ (FE (rp m n tg l1 l2))) then .ok (m*n) (FE (rp m n tg l1 l2)) else .no "TooBig" else .no "TooBig" else .no "NoDeed"
open Classical in
def mz(m:Int)(l:List cf):dk->Res
 |.right n l2 tg=>BO m n tg l l2
 |.left n l2 tg=>BO n m tg l2 l
 |.xh ns=>if ∀ t∈ns,Open t then .ok m (FE (l.map (hdS ns))) else .no "NoDeed"
 |.BM ps=>if ∀ p∈ps,MK p then .ok m (FE (l.map (Fu (lk ps)))) else .no "NoDeed"
 |.bad _ _=>.no "NoFrame"
theorem zJ{rows:List dk}{i:Nat}{x:D}(h:(rows.map dk.d)[i]? = some x):∃ r,x=r.d/\r∈rows/\rows.take (i+1)=rows.take i++[r]/\rows=rows.take i++r :: rows.drop (i+1):=by
 rw[qa] at h
 cases e:rows[i]? with
 |none=>rw[e] at h;cases h
 |some r =>rw[e] at h;cases h;obtain⟨hi,e2⟩:=nv.mp e;refine⟨r,rfl,vE e,by rw[Ee,e];rfl,?_⟩;rw[<- e2,List.getElem_cons_drop,FV]
theorem vC{α:Type}{l:List α}{k:Nat}{x y:α}(h:x∈kL l k y):x=y\/x∈l:=by
 rcases fh.mp h with h|h
 ·exact .inr (Lc h)
 ·rcases eM.mp h with h|h
  ·exact .inl h
  ·exact .inr (K2 h)
theorem ph(l:List Int)(lo hi:Option Int):hV (l.map D.int) lo hi=(hV l lo hi).map D.int:=by unfold hV;rw[dn,LD,LG]
def FG (c0:Int) (cs:List Int) (pool:List Str):Int × List cf:=(1+c0 / 9 % 3,FE (FD (hV cs (some 2) (some 6)) (1+c0 / 9 % 3) (("*" : Str) :: hV pool none (some 5))))
def gM'(p:Int × List cf):Prop:=1<=p.1/\p.1<=3/\p.2.length<=4/\∀ s∈p.2,kM p.1 s
def OW:List Str:=["", "Right", "rename ", "hid", "beside", "lefthide"]
def ya(c0 c1 c2:Int)(pool:List Str):List Str:=if c0 / 27 % 16=5 then kL (sN pool c1) (c2 / 11 % (((sN pool c1).length:Int)+1)).toNat (ku (rq pool) c2) else sN pool c1
def D2 (c0 c1 c2:Int) (pool:List Str):List Pr:=if c0 / 27 % 16=5 then kL (sP pool c1) (c2 / 11 % (((sP pool c1).length:Int)+1)).toNat (if c2 / 77 % 2=0 then (ku (rq pool) c2,pool.getD 0 "") else (pool.getD 1 "",ku (rq pool) c2)) else sP pool c1
def D3(c0 c1 c2:Int)(rest:List Int)(pool:List Str):dk :=
 if c0 % 9<2 then .right (FG c0 (c0 :: c1 :: c2 :: rest) pool).1 (FG c0 (c0 :: c1 :: c2 :: rest) pool).2 (ya c0 c1 c2 pool)
 else if c0 % 9<4 then .left (FG c0 (c0 :: c1 :: c2 :: rest) pool).1 (FG c0 (c0 :: c1 :: c2 :: rest) pool).2 (ya c0 c1 c2 pool)
 else if c0 % 9<6 then .xh (ya c0 c1 c2 pool)
 else if c0 % 9<8 then .BM (D2 c0 c1 c2 pool)
 else .bad (ku OW c2) (ya c0 c1 c2 pool)
theorem Bj{pool:List Str}(hp:pool.length=6)(ho:∀ n∈pool,Open n)(c:Int):rL (ku (rq pool) c):=Fl hp ho _ (iM c (by simp[rq])).1
theorem FN {pool:List Str} (hp:pool.length=6) (ho:∀ n∈pool,Open n) (i:Nat) (hi:i<6):rL (pool.getD i ""):=by rw[B4,uj (by lia)];exact nX.ok (.inr (ho _ (M8 _)))
theorem Fg {pool:List Str} (hp:pool.length=6) (i:Nat) (hi:i<6):fT (pool.map D.str) (i:Int)=some (.str (pool.getD i "")) :=
 A4 (by rw[qa,B4,uj (by lia)];rfl)
theorem Hj{pool:List Str}(hp:pool.length=6)(ho:∀ n∈pool,Open n)(c0 c1 c2:Int):(ya c0 c1 c2 pool).length<=7/\∀ t∈ya c0 c1 c2 pool,rL t:=by
 have l:=zF pool c1;have m:∀ t∈sN pool c1,rL t:=λt ht=>nX.ok (.inr (ho t (Du (by lia) t ht)));unfold ya;split
 ·refine⟨by rw[tD];lia,λt ht=>?_⟩;rcases vC ht with rfl|ht
  ·exact Bj hp ho _
  ·exact m t ht
 ·exact⟨by lia,m⟩
theorem Hz{pool:List Str}(hp:pool.length=6)(ho:∀ n∈pool,Open n)(c0 c1 c2:Int):(D2 c0 c1 c2 pool).length<=5/\∀ t∈D2 c0 c1 c2 pool,rL t.1/\rL t.2:=by
 have l:=zB pool c1;have m:∀ t∈sP pool c1,rL t.1/\rL t.2:=λt ht=>⟨nX.ok (.inr (ho _ (zA (by lia) t ht).1)),nX.ok (.inr (ho _ (zA (by lia) t ht).2))⟩
 unfold D2;split
 ·refine⟨by rw[tD];lia,λt ht=>?_⟩;rcases vC ht with rfl|ht
  ·split
   ·exact⟨Bj hp ho _,FN hp ho 0 (by decide)⟩
   ·exact⟨FN hp ho 1 (by decide),Bj hp ho _⟩
  ·exact m t ht
 ·exact⟨by lia,m⟩
theorem Fw:∀ w∈OW,rL w/\(w ≠ "right"/\w ≠ "left"/\w ≠ "hide"/\w ≠ "rename"):=by unfold OW rL;decide +kernel
def pC:WS :=
 (cp (gv (Mq (II (wB (iF (Oh "str") (av 0)))) (II (wB (oW Od Od (wC (.int 1)) (iF sD (av 0)) (wC (.int 6))))))
 (oz (wC (.bl false)))
 a_)
 (oz (iF T5 (eX (yD (av 0)) (gN 0) x6 (aC (zo false) (av 0) (wC (.str "abcdefghijklmnopqrstuvwxyz"))) 1 []))))
theorem Cv{c:Nat}:A8 ⟨#[c]⟩ abc=isLet c:=by
 rw[Cg];have:abc.cps.toList=(List.range 26).map (97 + ·):=lR;rw[this];apply ED.mpr;simp only[decide_eq_true_eq,isLet,eK,rX];constructor
 ·rintro⟨i,hi,rfl⟩;lia
 ·intro h;exact⟨c-97,by lia,by lia⟩
def eF:fo:=λds Q=>∃ x:Str,ds=[.str x]/\Q .sh (.bl (decide (1<=x.length/\x.length<=6) && (sg x).all isLet))
theorem p8 (ds Q) (h:eF ds Q):ds.length=["thing"].length:=by obtain⟨_,rfl,_⟩:=h;rfl
theorem xg:∀ ds Q,eF ds Q->pC { nx:=λ_=>Q .sh .non,rt:=Q } (aH 1 ds):=by
 rintro ds Q ⟨x,rfl,h⟩;unfold pC;walk_at "q";refine R.F rfl ?_;walk_at "q";refine R.D (λh1=>?_) λh1=>?_
 ·walk_at "q";refine R.B (λh2=>?_) λh2=>?_;rotate_left
  ·have h2:x.length<=6:=by simp at h2;lia
   walk_at "q"
   refine aQ (λ_=>true) (λd=>match d with
    |.str z=>.bl (A8 z abc)
    |d=>d) (λρ=>∃ o,ρ=[o]) _ _ _ ⟨_,rfl⟩ ?_ ?_
   ·rintro y hy ρ ⟨o,rfl⟩ N1 N2 _ h2;obtain⟨c,hc,rfl⟩:=eK.mp hy;walk_at "q";exact⟨.inl rfl,h2 _ ⟨_,rfl⟩ rfl⟩
   ·rw[cj];refine⟨(sg x).map isLet,?_,?_⟩
    ·unfold TQ;rw[i7,i7];refine M6 λc _=>?_;show D.bl (A8 ⟨#[c]⟩ abc)=_;rw[Cv];rfl
    ·rw[decide_eq_true (by lia),Bool.true_and] at h;rw[Nb];exact h
  ·have h2:¬ x.length<=6:=by simp at h2;lia
   walk_at "q";rw[decide_eq_false (by lia),Bool.false_and] at h;exact h
 ·walk_at "q";rw[decide_eq_false (by lia),Bool.false_and] at h;exact h
def lg:WS :=
 (oz (iF fO (eX (fV (aC cK (av 0) (wC (.int 1)))) (gN 0) x6 (aC cK (av 0) (wC (.int 1))) 1 [])))
def fJ:fo:=λds Q=>∃ (many:Int) (steps:List cf),ds=[mD many steps]/\steps.length<=1000/\∀ names:List Str,names.Nodup->(∀ n,n∈names↔n∈FC steps)->Q (.ow true) (.list (names.map .str))
theorem n8 (ds Q) (h:fJ ds Q):ds.length=["m"].length:=by obtain⟨_,_,rfl,_⟩:=h;rfl
theorem tL:∀ ds Q,fJ ds Q->lg { nx:=λ_=>Q .sh .non,rt:=Q } (aH 1 ds):=by
 rintro ds Q ⟨many,steps,rfl,hz,h⟩;unfold lg mD;walk_at "q"
 refine aQ (λ_=>true) (λd=>match d with
  |.tup [.int p,.str d,.int r]=>.str d
  |d=>d) (λρ=>∃ o,ρ=[o]) _ _ _ ⟨_,rfl⟩ ?_ ?_
 ·rintro x hx ρ ⟨o,rfl⟩ N1 N2 _ h2;obtain⟨⟨p,d,r⟩,gi,rfl⟩:=eK.mp hx;unfold d4;walk_at "q";exact⟨.inl rfl,h2 _ ⟨_,rfl⟩ rfl⟩
 ·rw[cj];refine⟨(FC steps).map Sum.inr,false,?_,by simp[FC];exact hz,?_,?_⟩
  ·unfold FC;rw[i7,i7,i7];rfl
  ·intro k hk;obtain⟨x,_,rfl⟩:=eK.mp hk;rfl
  ·intro ms nd mm pw;have nL:∀ k∈ms,∃ x,k=Sum.inr x/\x∈FC steps:=λk hk=>by obtain⟨x,hx,rfl⟩:=eK.mp ((mm k).mp hk);exact⟨x,rfl,hx⟩
   obtain⟨names,rfl⟩:∃ names:List Str,ms=names.map Sum.inr:=by
    clear nd mm pw
    induction ms with
    |nil=>exact⟨[],rfl⟩
    |cons k ms ih =>obtain⟨x,rfl,_⟩:=nL k ft;obtain⟨l,rfl⟩:=ih λk hk=>nL k (eP _ hk);exact⟨x :: l,rfl⟩
   have e:(names.map (Sum.inr:Str->Key)).map qS=names.map D.str:=by rw[i7];rfl
   rw[e];refine h names (gW nd) λn=>?_;have:=mm (Sum.inr n);simpa using this
def fD:WS :=
 (cp (eh 3 (aC cK (av 1) (wC (.int 0))))
 (cp (eh 4 (kG cE))
 (cp (kH 0 (sF (dM (aC cK (av 0) (wC (.int 1)))) (gT 3 (cQ (gN 5) (cQ (gN 6) (cQ (gN 7) qj))))
 (gv (wB (aC (zo true) (av 6) (av 2)))
 (kH 6 (OQ (pS 4) (eX (dB (av 3)) (gN 0) x6 (oy (ak (aC g9 (aC tS (av 4) (av 3)) (av 0)) (ak (av 1) (ak (aC g9 (aC tS (av 2) (av 3)) (av 0)) cE)))) 1 [6,7,3,5])))
 a_)))
 (gQ 4))))
def cu:fo:=λds Q=>∃ (m n:Int) (l1 l2:List cf) (tg:List Str),ds=[mD m l1,mD n l2,.list (tg.map .str)]/\1<=n/\n<=20/\l1.length<=80/\(∀ s∈l1,kM 20 s)/\Q (.ow true) (.list ((l1.flatMap (rg n tg)).map d4))
theorem iJ (ds Q) (h:cu ds Q):ds.length=["one", "other", "together"].length:=by obtain⟨_,_,_,_,_,rfl,_⟩:=h;rfl
theorem uV(n:Int)(tg:List Str)(s:cf):(rg n tg s).length<=n.toNat:=by unfold rg;split<;>simp
theorem gM{l:List cf}{g:cf->List cf}{k:Nat}(h:∀ s,(g s).length<=k):(l.flatMap g).length<=l.length*k:=by have:=yM (l:=l) (g:=g) (p:=λ_=>true) (k:=k) (λs=>by simpa using h s);rwa[cj] at this
theorem j4:∀ ds Q,cu ds Q->fD { nx:=λ_=>Q .sh .non,rt:=Q } (aH 8 ds):=by
 rintro ds Q ⟨m,n,l1,l2,tg,rfl,n1,n2,hz,ok,h⟩;unfold fD mD;walk_at "q";refine bA _ (λi ρ=>∃ (o5 o6 o7:Option Sl),ρ=[some (.sh (.tup [.int m,.list (l1.map d4)])),some (.sh (.tup [.int n,.list (l2.map d4)])),some (.sh (.list (tg.map .str))),some (.sh (.int n)),some (.ow true (.list (((l1.take i).flatMap (rg n tg)).map d4))),o5,o6,o7]) ⟨_,_,_,rfl⟩ ?_ ?_
 ·rintro i x ρ hx ⟨o5,o6,o7,rfl⟩ N hN;have hi:=(nv.mp hx).1;rw[dn] at hi;obtain⟨p,d,r,rfl,ht,et⟩:=uz hx;have hs:=ok _ ht;have hl:=gM (l:=l1.take i) (uV n tg);have A6:(l1.take i).length*n.toNat<=80*80:=EC (by rw[ly];lia) (by lia);have a1:=hs.1;have a2:=hs.2.1;have a3:=hs.2.2.2.1;have a4:=hs.2.2.2.2;simp only at a1 a2 a3 a4;have b1:0<=p*n:=GN (by lia) (by lia);have b2:p*n<=20*20:=GO (by lia) (by lia) (by lia) (by lia);have b3:0<=r*n:=GN (by lia) (by lia);have b4:r*n<=20*20:=GO (by lia) (by lia) (by lia) (by lia);walk_at "q";refine⟨rfl,jB tg,?_⟩;rw[mR];have fin:N [some (.sh (.tup [.int m,.list (l1.map d4)])),some (.sh (.tup [.int n,.list (l2.map d4)])),some (.sh (.list (tg.map .str))),some (.sh (.int n)),some (.ow true (.list (((l1.take i).flatMap (rg n tg)).map d4++(rg n tg (p,d,r)).map d4))),some (.sh (.int p)),some (.sh (.str d)),some (.sh (.int r))]:=by rw[<- oI,show(l1.take i).flatMap (rg n tg)++rg n tg (p,d,r)=(l1.take (i+1)).flatMap (rg n tg) by rw[et,RK];simp];exact hN _ ⟨_,_,_,rfl⟩
  by_cases hd:d∈tg
  ·refine R.F (by simp[hd]) ?_;walk_at "q";have e0:rg n tg (p,d,r)=[]:=if_pos hd;rw[e0,M_,kE] at fin;exact fin
  ·refine R.T (by simp[hd]) ?_;walk_at "q"
   refine⟨by lia,by lia,aQ (λ_=>true) (λx=>match x with
    |.int q=>.tup [.int (p*n+q),.str d,.int (r*n+q)]
    |x=>x) (λρ=>∃ o,ρ=[o,some (.sh (.str d)),some (.sh (.int r)),some (.sh (.int n)),some (.sh (.int p))]) _ _ _ ⟨_,rfl⟩ ?_ ?_⟩
   ·rintro y hy ρ ⟨o,rfl⟩ N1 N2 _ h2;obtain⟨q,hq,rfl⟩:=lX hy;walk_at "q";exact⟨.inl ⟨by lia,by lia⟩,.inl ⟨by lia,by lia⟩,.inl rfl,h2 _ ⟨_,rfl⟩ rfl⟩
   ·rw[cj]
    have e0:(eQ 0 n.toNat).map (λx=>match x with
     |.int q=>D.tup [.int (p*n+q),.str d,.int (r*n+q)]
     |x=>x)=(rg n tg (p,d,r)).map d4:=by
     rw[show rg n tg (p,d,r)=_ from if_neg hd];unfold eQ;rw[i7,i7];rfl
    rw[e0];have:=uV n tg (p,d,r);exact⟨bj _,by rw[dn];lia,fin⟩
 ·rintro ρ ⟨o5,o6,o7,rfl⟩;rw[dn,AG];walk_at "q";exact h
def dF:WS :=
 (cp (eh 3 (aC cK (av 1) (wC (.int 0))))
 (cp (eh 4 (kG cE))
 (cp (kH 1 (sF (dM (aC cK (av 1) (wC (.int 1)))) (gT 3 (cQ (gN 5) (cQ (gN 6) (cQ (gN 7) qj))))
 (gv (wB (aC (zo true) (av 6) (av 2)))
 (kH 6 (OQ (pS 4) (eX (dB (aC cK (av 0) (wC (.int 0)))) (gN 0) x6 (oy (ak (aC g9 (aC tS (av 0) (av 3)) (av 4)) (ak (av 1) (ak (aC g9 (aC tS (av 0) (av 3)) (av 2)) cE)))) 1 [6,7,3,5])))
 a_)))
 (gQ 4))))
def bJ:fo:=λds Q=>∃ (m n:Int) (l1 l2:List cf) (tg:List Str),ds=[mD m l1,mD n l2,.list (tg.map .str)]/\1<=m/\m<=20/\1<=n/\n<=20/\l2.length<=80/\(∀ s∈l2,kM 20 s)/\Q (.ow true) (.list ((l2.flatMap (rh m n tg)).map d4))
theorem fX (ds Q) (h:bJ ds Q):ds.length=["one", "other", "together"].length:=by obtain⟨_,_,_,_,_,rfl,_⟩:=h;rfl
theorem vY(m n:Int)(tg:List Str)(s:cf):(rh m n tg s).length<=m.toNat:=by unfold rh;split<;>simp
theorem iR:∀ ds Q,bJ ds Q->dF { nx:=λ_=>Q .sh .non,rt:=Q } (aH 8 ds):=by
 rintro ds Q ⟨m,n,l1,l2,tg,rfl,m1,m2,n1,n2,hz,ok,h⟩;unfold dF mD;walk_at "q";refine bA _ (λi ρ=>∃ (o5 o6 o7:Option Sl),ρ=[some (.sh (.tup [.int m,.list (l1.map d4)])),some (.sh (.tup [.int n,.list (l2.map d4)])),some (.sh (.list (tg.map .str))),some (.sh (.int n)),some (.ow true (.list (((l2.take i).flatMap (rh m n tg)).map d4))),o5,o6,o7]) ⟨_,_,_,rfl⟩ ?_ ?_
 ·rintro i x ρ hx ⟨o5,o6,o7,rfl⟩ N hN;have hi:=(nv.mp hx).1;rw[dn] at hi;obtain⟨p,d,r,rfl,ht,et⟩:=uz hx;have hs:=ok _ ht;have hl:=gM (l:=l2.take i) (vY m n tg);have A6:(l2.take i).length*m.toNat<=80*80:=EC (by rw[ly];lia) (by lia);have a1:=hs.1;have a2:=hs.2.1;have a3:=hs.2.2.2.1;have a4:=hs.2.2.2.2;simp only at a1 a2 a3 a4;walk_at "q";refine⟨rfl,jB tg,?_⟩;rw[mR];have fin:N [some (.sh (.tup [.int m,.list (l1.map d4)])),some (.sh (.tup [.int n,.list (l2.map d4)])),some (.sh (.list (tg.map .str))),some (.sh (.int n)),some (.ow true (.list (((l2.take i).flatMap (rh m n tg)).map d4++(rh m n tg (p,d,r)).map d4))),some (.sh (.int p)),some (.sh (.str d)),some (.sh (.int r))]:=by rw[<- oI,show(l2.take i).flatMap (rh m n tg)++rh m n tg (p,d,r)=(l2.take (i+1)).flatMap (rh m n tg) by rw[et,RK];simp];exact hN _ ⟨_,_,_,rfl⟩
  by_cases hd:d∈tg
  ·refine R.F (by simp[hd]) ?_;walk_at "q";have e0:rh m n tg (p,d,r)=[]:=if_pos hd;rw[e0,M_,kE] at fin;exact fin
  ·refine R.T (by simp[hd]) ?_;walk_at "q"
   refine⟨by lia,by lia,aQ (λ_=>true) (λx=>match x with
    |.int q=>.tup [.int (q*n+p),.str d,.int (q*n+r)]
    |x=>x) (λρ=>∃ o,ρ=[o,some (.sh (.str d)),some (.sh (.int r)),some (.sh (.int n)),some (.sh (.int p))]) _ _ _ ⟨_,rfl⟩ ?_ ?_⟩
   ·rintro y hy ρ ⟨o,rfl⟩ N1 N2 _ h2;obtain⟨q,hq,rfl⟩:=lX hy;have b1:0<=(0+(q:Int))*n:=GN (by lia) (by lia);have b2:(0+(q:Int))*n<=20*20:=GO (by lia) (by lia) (by lia) (by lia);walk_at "q";exact⟨.inl ⟨by lia,by lia⟩,.inl ⟨by lia,by lia⟩,.inl rfl,h2 _ ⟨_,rfl⟩ rfl⟩
   ·rw[cj]
    have e0:(eQ 0 m.toNat).map (λx=>match x with
     |.int q=>D.tup [.int (q*n+p),.str d,.int (q*n+r)]
     |x=>x)=(rh m n tg (p,d,r)).map d4:=by
     rw[show rh m n tg (p,d,r)=_ from if_neg hd];unfold eQ;rw[i7,i7];rfl
    rw[e0];have:=vY m n tg (p,d,r);exact⟨bj _,by rw[dn];lia,fin⟩
 ·rintro ρ ⟨o5,o6,o7,rfl⟩;rw[dn,AG];walk_at "q";exact h
def dD:WS :=
 (cp (eh 3 (aC cK (av 1) (wC (.int 0))))
 (cp (eh 4 (kG cE))
 (cp (kH 0 (sF (dM (aC cK (av 0) (wC (.int 1)))) (gT 3 (cQ (gN 5) (cQ (gN 6) (cQ (gN 7) qj))))
 (gv (wB (aC (zo false) (av 6) (av 2)))
 (cp (eh 8 (eX (fV (aC cK (av 1) (wC (.int 1)))) (gN 0) (wB (aC kD (aC cK (av 0) (wC (.int 1))) (av 1))) (av 0) 1 [6]))
 (kH 6 (OQ (pS 4) (eX (fV (av 8)) (gN 0) x6 (oy (ak (aC g9 (aC tS (av 4) (av 3)) (aC cK (av 0) (wC (.int 0)))) (ak (av 1) (ak (aC g9 (aC tS (av 2) (av 3)) (aC cK (av 0) (wC (.int 2)))) cE)))) 1 [6,7,3,5]))))
 a_)))
 (gQ 4))))
def bM:fo:=λds Q=>∃ (m n:Int) (l1 l2:List cf) (tg:List Str),ds=[mD m l1,mD n l2,.list (tg.map .str)]/\1<=n/\n<=20/\l1.length<=80/\l2.length<=80/\(∀ s∈l1,kM 20 s)/\(∀ s∈l2,kM 20 s)/\Q (.ow true) (.list ((l1.flatMap (toS n tg l2)).map d4))
theorem f9 (ds Q) (h:bM ds Q):ds.length=["one", "other", "together"].length:=by obtain⟨_,_,_,_,_,rfl,_⟩:=h;rfl
theorem wQ(n:Int)(tg:List Str)(l2:List cf)(s:cf):(toS n tg l2 s).length<=l2.length:=by
 unfold toS;split
 ·rw[dn];exact List.length_filter_le _ _
 ·simp
theorem iI:∀ ds Q,bM ds Q->dD { nx:=λ_=>Q .sh .non,rt:=Q } (aH 9 ds):=by
 rintro ds Q ⟨m,n,l1,l2,tg,rfl,n1,n2,hz,hz2,ok,ok2,h⟩;unfold dD mD;walk_at "q";refine bA _ (λi ρ=>∃ (o5 o6 o7 o8:Option Sl),ρ=[some (.sh (.tup [.int m,.list (l1.map d4)])),some (.sh (.tup [.int n,.list (l2.map d4)])),some (.sh (.list (tg.map .str))),some (.sh (.int n)),some (.ow true (.list (((l1.take i).flatMap (toS n tg l2)).map d4))),o5,o6,o7,o8]) ⟨_,_,_,_,rfl⟩ ?_ ?_
 ·rintro i x ρ hx ⟨o5,o6,o7,o8,rfl⟩ N hN;have hi:=(nv.mp hx).1;rw[dn] at hi;obtain⟨p,d,r,rfl,ht,et⟩:=uz hx;have hs:=ok _ ht;have hl:=gM (l:=l1.take i) (wQ n tg l2);have A6:(l1.take i).length*l2.length<=80*80:=EC (by rw[ly];lia) (by lia);have a1:=hs.1;have a2:=hs.2.1;have a3:=hs.2.2.2.1;have a4:=hs.2.2.2.2;simp only at a1 a2 a3 a4;have b1:0<=p*n:=GN (by lia) (by lia);have b2:p*n<=20*20:=GO (by lia) (by lia) (by lia) (by lia);have b3:0<=r*n:=GN (by lia) (by lia);have b4:r*n<=20*20:=GO (by lia) (by lia) (by lia) (by lia);walk_at "q";refine⟨rfl,jB tg,?_⟩;rw[mR];have fin:∀ o,N [some (.sh (.tup [.int m,.list (l1.map d4)])),some (.sh (.tup [.int n,.list (l2.map d4)])),some (.sh (.list (tg.map .str))),some (.sh (.int n)),some (.ow true (.list (((l1.take i).flatMap (toS n tg l2)).map d4++(toS n tg l2 (p,d,r)).map d4))),some (.sh (.int p)),some (.sh (.str d)),some (.sh (.int r)),o]:=λo=>by rw[<- oI,show(l1.take i).flatMap (toS n tg l2)++toS n tg l2 (p,d,r)=(l1.take (i+1)).flatMap (toS n tg l2) by rw[et,RK];simp];exact hN _ ⟨_,_,_,_,rfl⟩
  by_cases hd:d∈tg
  ·refine R.T (by simp[hd]) ?_;walk_at "q"
   refine aQ (λx=>match x with
    |.tup [_,.str e,_]=>decide (e=d)
    |_=>false) (λx=>x) (λρ=>∃ o,ρ=[o,some (.sh (.str d))]) _ _ _ ⟨_,rfl⟩ ?_ ?_
   ·rintro y hy ρ ⟨o,rfl⟩ N1 N2 n1 n2;obtain⟨⟨u,e,v⟩,gi,rfl⟩:=eK.mp hy;unfold d4;walk_at "q";by_cases e0:e=d
    ·rw[if_pos (decide_eq_true e0)];exact⟨.inl rfl,n2 _ ⟨_,rfl⟩ (decide_eq_true e0)⟩
    ·rw[if_neg (by simp[e0])];exact n1 _ ⟨_,rfl⟩ (decide_eq_false e0)
   ·rw[List.map_id']
    have e1:(l2.map d4).filter (λx=>match x with
     |.tup [_,.str e,_]=>decide (e=d)
     |_=>false)=(l2.filter λt=>decide (t.2.1=d)).map d4:=by
     rw[List.filter_map];rfl
    rw[e1];have ml:=List.length_filter_le (λt:cf=>decide (t.2.1=d)) l2
    refine aQ (λ_=>true) (λx=>match x with
     |.tup [.int u,e,.int v]=>.tup [.int (p*n+u),.str d,.int (r*n+v)]
     |x=>x) (λρ=>∃ o,ρ=[o,some (.sh (.str d)),some (.sh (.int r)),some (.sh (.int n)),some (.sh (.int p))]) _ _ _ ⟨_,rfl⟩ ?_ ?_
    ·rintro y hy ρ ⟨o,rfl⟩ N1 N2 _ h2;obtain⟨⟨u,e,v⟩,gi,rfl⟩:=eK.mp hy;unfold d4;walk_at "q";exact⟨.inl ⟨by lia,by lia⟩,.inl ⟨by lia,by lia⟩,.inl rfl,h2 _ ⟨_,rfl⟩ rfl⟩
    ·rw[cj]
     have e0:((l2.filter λt=>decide (t.2.1=d)).map d4).map (λx=>match x with
      |.tup [.int u,e,.int v]=>.tup [.int (p*n+u),.str d,.int (r*n+v)]
      |x=>x)=(toS n tg l2 (p,d,r)).map d4:=by
      rw[show toS n tg l2 (p,d,r)=_ from if_pos hd];rw[i7,i7];rfl
     rw[e0];have:=wQ n tg l2 (p,d,r);exact⟨bj _,by rw[dn];lia,fin _⟩
  ·refine R.F (by simp[hd]) ?_;walk_at "q";have e0:toS n tg l2 (p,d,r)=[]:=if_neg hd;rw[e0,M_,kE] at fin;exact fin _
 ·rintro ρ ⟨o5,o6,o7,o8,rfl⟩;rw[dn,AG];walk_at "q";exact h
def ig:WS :=
 (cp (eh 2 (eX (fV (aC cK (av 0) (wC (.int 1)))) (gN 0) x6 (oy (ak (aC cK (av 0) (wC (.int 0))) (ak (Rb (av 1) (aC cK (av 0) (wC (.int 1))) (aC cK (av 0) (wC (.int 1)))) (ak (aC cK (av 0) (wC (.int 2))) cE)))) 1 [1]))
 (oz (oy (ak (aC cK (av 0) (wC (.int 0))) (ak (iF cA (av 2)) cE)))))
def OX(f:Str->Option Str)(kd:List (Key × D)):Prop:=∀ x:Str,fP kd (.inr x)=(f x).map D.str
def bW:fo:=λds Q=>∃ (many:Int) (l:List cf) (f:Str->Option Str) (kd:List (Key × D)),ds=[mD many l,.dK kd]/\OX f kd/\l.length<=1000/\∀ out,mw (l.map (Fu f)) out->Q (.ow true) (mD many out)
theorem j8 (ds Q) (h:bW ds Q):ds.length=["m", "new_deeds"].length:=by obtain⟨_,_,_,_,rfl,_⟩:=h;rfl
theorem nZ:∀ ds Q,bW ds Q->ig { nx:=λ_=>Q .sh .non,rt:=Q } (aH 3 ds):=by
 rintro ds Q ⟨many,l,f,kd,rfl,hk,hz,h⟩;unfold ig mD;walk_at "q"
 refine aQ (λ_=>true) (λx=>match x with
  |.tup [.int u,.str d,.int v]=>.tup [.int u,.str ((f d).getD d),.int v]
  |x=>x) (λρ=>∃ o,ρ=[o,some (.sh (.dK kd))]) _ _ _ ⟨_,rfl⟩ ?_ ?_
 ·rintro x hx ρ ⟨o,rfl⟩ N1 N2 n1 n2;obtain⟨⟨u,d,v⟩,hs,rfl⟩:=eK.mp hx;unfold d4;walk_at "q";rw[hk d];have n3:=λo=>n2 [o,some (.sh (.dK kd))] ⟨o,rfl⟩ rfl
  cases e:f d with
  |none =>simp only[d4,e,R9] at n3;walk_at "q";exact⟨.inl rfl,n3 _⟩
  |some z =>simp only[d4,e,Option.getD_some] at n3;walk_at "q";exact⟨.inl rfl,n3 _⟩
 ·rw[cj]
  have e:(l.map d4).map (λx=>match x with
   |.tup [.int u,.str d,.int v]=>.tup [.int u,.str ((f d).getD d),.int v]
   |x=>x)=(l.map (Fu f)).map d4:=by
   rw[i7,i7];rfl
  rw[e];exact nG (l:=l.map (Fu f)) (λxs=>Q (.ow true) (.tup [.int many,.list xs])) (by simpa using hz) λout M=>h out M
def fj:WS :=
 (cp (gv (wB (aC E8 (av 1) (iF sD (av 0))))
 (oz (aC cK (av 0) (av 1)))
 a_)
 (oz (wC (.int 0))))
def aG:fo:=λds Q=>∃ (ns:List Int) (k:Int),ds=[.list (ns.map .int),.int k]/\0<=k/\Q .sh (.int (ns.getD k.toNat 0))
theorem iV (ds Q) (h:aG ds Q):ds.length=["_law_script", "_law_k"].length:=by obtain⟨_,_,rfl,_⟩:=h;rfl
theorem kJ:∀ ds Q,aG ds Q->fj { nx:=λ_=>Q .sh .non,rt:=Q } (aH 2 ds):=by
 rintro ds Q ⟨ns,k,rfl,hk,h⟩;unfold fj;walk_at "q";refine R.D (λhl=>?_) λhl=>?_
 ·walk_at "q";have hn:k.toNat<ns.length:=by lia
  refine⟨.int ns[k.toNat],?_,?_⟩
  ·have:=A4 (xs:=ns.map D.int) (j:=k.toNat) (v:=.int ns[k.toNat]) (by simp[hn]);rwa[EF hk] at this
  ·show Q .sh _;simpa[List.getD,hn] using h
 ·walk_at "q";have:ns.getD k.toNat 0=0:=by
   have:ns.length<=k.toNat:=by lia
   simp[List.getD,D9 this]
  rwa[this] at h
def g8:WS :=
 (cp (eh 2 (wC (.str "abcdefghijklmnopqrstuvwxyz")))
 (cp (eh 3 (aC g9 (wC (.int 1)) (aC i5 (av 0) (wC (.int 6)))))
 (cp (eh 0 (aC ox (av 0) (wC (.int 6))))
 (cp (eh 4 (kG cE))
 (cp (sF (dB (av 3)) (gN 5)
 (cp (Bz (pS 4) (aC i5 (av 0) (wC (.int 26))))
 (eh 0 (aC ox (av 0) (wC (.int 26))))))
 (cp (eh 6 (rK (wC (.str "")) (eX (fV (av 4)) (gN 0) x6 (aC cK (av 1) (av 0)) 1 [2])))
 (cp (gv (wB (aC kD (aC i5 (aC ox (av 1) (wC (.int 6))) (wC (.int 3))) (wC (.int 1))))
 (oz (eX (oU (wC (.int 1)) (wC (.int 7))) (gN 0) x6 (zv (aC yO (wC (.int 6)) (av 1)) cT (fQ (av 0))) 1 [6]))
 a_)
 (cp (eh 7 (aC i5 (av 1) (av 3)))
 (cp (eh 8 (kG cE))
 (cp (sF (dB (wC (.int 6))) (gN 5)
 (cp (eh 9 (aC cK (av 2) (aC i5 (aC g9 (aC cK (av 4) (av 7)) (aC tS (wC (.int 5)) (av 5))) (wC (.int 26)))))
 (Bz (pS 8) (aC g9 (aC g9 (zv (av 6) cT (fQ (av 7))) (av 9)) (zv (av 6) (fQ (aC g9 (av 7) (wC (.int 1)))) cT)))))
 (gQ 8)))))))))))
theorem q_{n d:Nat}{k:Int}(h0:0<=k)(h1:k<=n):HT.cv n d (some k)=k.toNat:=by simp only[HT.cv];rw[if_neg (by lia)];lia
theorem qu{x:Str}{k:Int}(h0:0<=k)(h1:k<=x.length):(ky x none (some k)).length=k.toNat:=by
 unfold ky Str.length at *
 simp only[iA,ly,xt,xv];rw[q_ h0 (by simpa using h1)];simp[HT.cv];lia
theorem Aw{x:Str}{k:Int}(h0:0<=k)(h1:k<=x.length):(ky x (some k) none).length=x.length-k.toNat:=by
 unfold ky Str.length at *
 simp only[iA,ly,xt,xv];rw[q_ h0 (by simpa using h1)];simp[HT.cv]
theorem yE{n:Int}{z:Str}(h:lets z):lets (tT n z):=λc hc=>by unfold tT sg at hc;rw[List.toList_toArray] at hc;obtain⟨l,hl,lP⟩:=List.mem_flatten.mp hc;rw[List.eq_of_mem_replicate hl] at lP;exact h c lP
theorem lB:∀ (l:List Str),jG (l.map D.str)=some l
 |[]=>rfl
 |x :: l=>by simp[jG,lB l]
theorem wJ{p:Int}(h0:0<=p)(h1:p<26):fT (sg abc) p=some (97+p.toNat):=by
 have:fT (sg abc) ((p.toNat:Nat):Int)=some (97+p.toNat):=A4 (by
  rw[lR];have:p.toNat<26:=by lia
  simp[this])
 rwa[EF h0] at this
theorem g_:∀ l:List Nat,sg (Str.join "" (l.map λc=>(⟨#[c]⟩:Str)))=l
 |[]=>by decide +kernel
 |[c]=>rfl
 |c :: d :: l=>by have ih:=g_ (d :: l);show sg ((⟨#[c]⟩:Str) ++ "" ++ Str.join "" ((d :: l).map λc=>(⟨#[c]⟩:Str)))=_;rw[fU,fU,ih,show sg ("" : Str)=[] by decide +kernel];rfl
theorem qR:∀ l:List Nat,(l.map λ_=>1).sum=l.length
 |[]=>rfl
 |x :: l=>by simp[qR l];lia
def dg:fo:=λds Q=>∃ c t:Int,ds=[.int c,.int t]/\∀ names:List Str,names.length=6->(∀ n∈names,Open n)->names.Nodup->Q (.ow true) (.list (names.map .str))
theorem j5 (ds Q) (h:dg ds Q):ds.length=["_law_cell", "_law_turn"].length:=by obtain⟨_,_,rfl,_⟩:=h;rfl
theorem oO:∀ ds Q,dg ds Q->g8 { nx:=λ_=>Q .sh .non,rt:=Q } (aH 10 ds):=by
 rintro ds Q ⟨c,t,rfl,h⟩;unfold g8;walk_at "q";have s0:=sd c (show(6:Int)≠0 by decide);have s1:=n5 c (show(0:Int)<6 by decide);generalize hsz:1+c % 6=size at *
 refine⟨by lia,by lia,?_⟩;refine bA _ (λi ρ=>∃ (cc:Int) (ps:List Int) (o:Option Sl),ps.length=i/\(∀ p∈ps,0<=p/\p<26)/\ρ=[some (.sh (.int cc)),some (.sh (.int t)),some (.sh (.str abc)),some (.sh (.int size)),some (.ow true (.list (ps.map .int))),o,none,none,none,none]) ⟨_,[],_,rfl,(λp hp=>nomatch hp),rfl⟩ ?_ ?_
 ·rintro i x ρ hx ⟨cc,ps,o,hl,hp,rfl⟩ N hN;obtain⟨hi,rfl⟩:=dq hx;walk_at "q";refine⟨by lia,?_⟩;rw[ints_app];refine hN _ ⟨_,ps++[cc % 26],_,by simp[hl],λp gu=>?_,rfl⟩;rcases fh.mp gu with h'|h'
  ·exact hp p h'
  ·rw[rV.mp h'];exact⟨sd _ (by decide),n5 _ (by decide)⟩
 rintro ρ ⟨cc,ps,o,hl,hp,rfl⟩;rw[eO] at hl;walk_at "q";have e0:(Str.ofString "").length=0:=by decide
 refine aQ (λ_=>true) (λd=>match d with
  |.int p=>.str ⟨#[97+p.toNat]⟩
  |d=>d) (λρ=>∃ o,ρ=[o,some (.sh (.str abc))]) _ _ _ ⟨_,rfl⟩ ?_ ?_
 ·rintro y hy ρ ⟨o,rfl⟩ N1 N2 _ h2;obtain⟨p,gu,rfl⟩:=eK.mp hy;walk_at "q";exact⟨_,wJ (hp p gu).1 (hp p gu).2,.inl rfl,h2 _ ⟨_,rfl⟩ rfl⟩
 rw[cj];refine⟨(ps.map λp=>97+p.toNat).map λc=>⟨#[c]⟩,?_,?_,?_⟩
 ·rw[i7,<- lB,i7,i7];rfl
 ·rw[e0,i7,Nat.mul_zero,LK];show((ps.map λp=>97+p.toNat).map λ_=>1).sum<=_;rw[qR,dn];lia
 have hw:=g_ (ps.map λp=>97+p.toNat);generalize Str.join "" ((ps.map λp=>97+p.toNat).map λc=>(⟨#[c]⟩:Str))=word at hw ⊢;have wl:word.length=size.toNat:=by
  have:(sg word).length=size.toNat:=by rw[hw,dn,hl]
  rw[<- this];unfold sg Str.length;simp
 have UK:lets word:=λch hc=>by rw[hw] at hc;obtain⟨p,gu,rfl⟩:=eK.mp hc;have:=hp p gu;simp[isLet];lia
 refine R.D (λ_=>?_) λ_=>?_
 ·walk_at "q"
  refine aQ (λ_=>true) (λd=>match d with
   |.int k=>.str (ky (tT 6 word) none (some k))
   |d=>d) (λρ=>∃ o,ρ=[o,some (.sh (.str word))]) _ _ _ ⟨_,rfl⟩ ?_ ?_
  ·rintro y hy ρ ⟨o,rfl⟩ N1 N2 _ h2;obtain⟨i,hi,rfl⟩:=lX hy;walk_at "q";exact⟨by lia,.inl rfl,h2 _ ⟨_,rfl⟩ rfl⟩
  ·rw[cj]
   have e6:(List.map (λd=>match d with
    |.int k=>D.str (ky (tT 6 word) none (some k))
    |d=>d) (eQ 1 6))=((List.range 6).map λi=>ky (tT 6 word) none (some (1+(i:Nat):Int))).map D.str:=by
    unfold eQ;rw[i7,i7];rfl
   rw[e6];have l0:∀ i:Nat,i<6->(ky (tT 6 word) none (some (1+(i:Nat):Int))).length=(1+(i:Int)).toNat:=λi hi=>qu (by lia) (by rw[m_,wl];simp;lia);refine h _ (by simp) (λn hn=>?_) ?_;rotate_left
   ·rw[List.Nodup,yy];refine List.Pairwise.imp_of_mem (λ{a b} ha hb BD e=>?_) Ph;have ha:=l0 a (by simpa using ha);have hb:=l0 b (by simpa using hb);rw[e] at ha;lia
   obtain⟨i,hi,rfl⟩:=eK.mp hn;have hi:i<6:=by simpa using hi
   have l1:(ky (tT 6 word) none (some (1+(i:Nat):Int))).length=(1+(i:Int)).toNat:=qu (by lia) (by rw[m_,wl];simp;lia);exact⟨by rw[l1];lia,by rw[l1];lia,lV (yE UK) _ _⟩
 ·walk_at "q";refine⟨by lia,?_⟩;have a0:=sd t (show size≠0 by lia);have a1:=n5 t (show 0<size by lia);generalize t % size=at' at *
  have l1:(ky word none (some at')).length=at'.toNat:=qu a0 (by lia);have l2:(ky word (some (at'+1)) none).length=word.length-(at'+1).toNat:=Aw (by lia) (by lia);refine bA _ (λi ρ=>∃ (names:List Str) (o5 o9:Option Sl),names=(List.range i).map (λk=>ky word none (some at') ++ ⟨#[97+((ps.getD at'.toNat 0+5*(0+(k:Int))) % 26).toNat]⟩++ky word (some (at'+1)) none)/\(∀ n∈names,Open n)/\ρ=[some (.sh (.int cc)),some (.sh (.int t)),some (.sh (.str abc)),some (.sh (.int size)),some (.ow true (.list (ps.map .int))),o5,some (.sh (.str word)),some (.sh (.int at')),some (.ow true (.list (names.map .str))),o9]) ⟨[],_,_,rfl,(λn hn=>nomatch hn),rfl⟩ ?_ ?_
  ·rintro i x ρ hx ⟨names,o5,o9,hn,hd,rfl⟩ N hN;obtain⟨hi,rfl⟩:=dq hx;have hi:i<6:=hi;have hnl:names.length=i:=by rw[hn,dn,Lz]
   walk_at "q";have hat:at'.toNat<ps.length:=by lia
   refine⟨.int ps[at'.toNat],?_,?_⟩
   ·have:=A4 (xs:=ps.map D.int) (j:=at'.toNat) (v:=.int ps[at'.toNat]) (by simp[hat]);rwa[EF a0] at this
   walk_at "q";obtain⟨ch,ec,lc⟩:=BK (ps[at'.toNat]+5*(0+(i:Int)));have ech:ch=97+((ps.getD at'.toNat 0+5*(0+(i:Int))) % 26).toNat:=by have:=wJ (sd (ps[at'.toNat]+5*(0+(i:Int))) (show(26:Int)≠0 by decide)) (n5 _ (by decide));rw[this] at ec;rw[show ps.getD at'.toNat 0=ps[at'.toNat] by simp[List.getD,hat]];exact(Option.some.inj ec).symm
   refine⟨.inl ⟨by lia,by lia⟩,ch,ec,?_⟩;refine⟨by rw[l1,eN];lia,by rw[l1,l2,eN];lia,by lia,?_⟩;rw[tE];refine hN _ ⟨names++[_],_,_,by rw[List.range_succ,oI,<- hn,ech,List.map_singleton],λn EH=>?_,rfl⟩;rcases fh.mp EH with h'|h'
   ·exact hd n h'
   ·obtain rfl:n=_:=by simpa using h'
    refine⟨?_,?_,sS (sS (lV UK _ _) (xR lc)) (lV UK _ _)⟩
    ·rw[bw,bw,l1,l2,eN];lia
    ·rw[bw,bw,l1,l2,eN];lia
  ·rintro ρ ⟨names,o5,o9,hn,hd,rfl⟩;rw[eO] at hn;walk_at "q";refine h names (by rw[hn,dn,Lz]) hd ?_;rw[hn,List.Nodup,yy];refine List.Pairwise.imp_of_mem (λ{a b} ha hb BD e=>?_) Ph;have ha:a<6:=by simpa using ha
   have hb:b<6:=by simpa using hb
   have e:=congrArg sg e;rw[fU,fU,fU,fU,List.append_cancel_right_eq,List.append_cancel_left_eq] at e;have e:97+((ps.getD at'.toNat 0+5*(0+(a:Int))) % 26).toNat=97+((ps.getD at'.toNat 0+5*(0+(b:Int))) % 26).toNat:=by simpa[sg] using e
   generalize ps.getD at'.toNat 0=z at e;exact BD (by lia)
def iB:WS :=
 (cp (eh 3 (kG cE))
 (cp (sF (dB (iF sD (av 0))) (gN 4)
 (cp (eh 5 (aC i5 (aC tS (aC g9 (aC i5 (aC cK (av 0) (av 4)) (wC (.int 2147483647))) (wC (.int 1))) (aC g9 (wC (.int 48271)) (aC tS (wC (.int 7)) (av 4)))) (wC (.int 2147483647))))
 (cp (eh 6 (aC cK (av 2) (aC i5 (aC ox (av 5) (av 1)) (iF sD (av 2)))))
 (kH 6 (Bz (pS 3) (oy (ak (aC i5 (av 5) (av 1)) (ak (av 6) (ak (aC i5 (aC ox (av 5) (aC tS (av 1) (iF sD (av 2)))) (av 1)) cE)))))))))
 (gQ 3)))
def bV:fo:=λds Q=>∃ (cells:List Int) (many:Int) (names:List Str),ds=[.list (cells.map .int),.int many,.list (names.map .str)]/\cells.length<=200/\1<=many/\many<=20/\1<=names.length/\names.length<=20/\Q (.ow true) (.list ((FD cells many names).map d4))
theorem kI (ds Q) (h:bV ds Q):ds.length=["_law_cells", "_law_many", "_law_deeds_here"].length:=by obtain⟨_,_,_,rfl,_⟩:=h;rfl
theorem nW:∀ ds Q,bV ds Q->iB { nx:=λ_=>Q .sh .non,rt:=Q } (aH 7 ds):=by
 rintro ds Q ⟨cells,many,names,rfl,hc,m1,m2,n1,n2,h⟩;unfold iB;walk_at "q";refine⟨by lia,by lia,?_⟩;refine bA _ (λi ρ=>∃ (o4 o5 o6:Option Sl),ρ=[some (.sh (.list (cells.map .int))),some (.sh (.int many)),some (.sh (.list (names.map .str))),some (.ow true (.list (((List.range i).map λi=>wo many names ((cells.getD i 0 % 2147483647+1)*(48271+7*(0+(i:Int))) % 2147483647)).map d4))),o4,o5,o6]) ⟨_,_,_,rfl⟩ ?_ ?_
 ·rintro i x ρ hx ⟨o4,o5,o6,rfl⟩ N hN;obtain⟨hi,rfl⟩:=dq hx;have hi:i<cells.length:=by lia
  walk_at "q";have eg:cells.getD i 0=cells[i]:=by rw[B4,uj hi];rfl
  have e0:fT (cells.map D.int) (0+(i:Int))=some (.int (cells.getD i 0)):=by have:=A4 (xs:=cells.map D.int) (j:=i) (v:=.int (cells.getD i 0)) (by rw[eg];simp[hi]);rwa[Int.zero_add]
  refine⟨_,e0,?_⟩;walk_at "q";rw[jb] at hN;have c0:=sd (cells.getD i 0) (show(2147483647:Int)≠0 by decide);have c1:=n5 (cells.getD i 0) (show(0:Int)<2147483647 by decide);refine⟨.inl ⟨by lia,by lia⟩,.inl ⟨by lia,by lia⟩,⟨by lia,by lia⟩,by lia,?_⟩;generalize (cells.getD i 0 % 2147483647+1)*(48271+7*(0+(i:Int))) % 2147483647=num at hN ⊢;obtain⟨hn,e⟩:=iM (num / many) n1;refine⟨.str (ku names (num / many)),e,?_⟩;walk_at "q";have b5:many*(names.length:Int)<=20*20:=GO m2 (by lia) (by lia) (by lia);have b6:0<many*(names.length:Int):=Int.mul_pos (by lia) (by lia);refine⟨by lia,.inl ⟨by lia,by lia⟩,⟨b6,by lia⟩,by lia,by simp;lia,?_⟩;rw[oI] at hN;exact hN _ ⟨_,_,_,rfl⟩
 ·rintro ρ ⟨o4,o5,o6,rfl⟩;rw[eO];walk_at "q";unfold FD at h;rwa[show((cells.length:Int)).toNat=cells.length by lia] at *
def jM:WS :=
 (cp (eh 2 (kG cE))
 (cp (eh 3 (aC i5 (av 0) (wC (.int 7))))
 (cp (eh 0 (aC ox (av 0) (wC (.int 7))))
 (cp (sF (dB (av 3)) (gN 4)
 (cp (Bz (pS 2) (aC cK (av 1) (aC i5 (av 0) (wC (.int 6)))))
 (eh 0 (aC ox (av 0) (wC (.int 6))))))
 (gQ 2)))))
def dR:fo:=λds Q=>∃ (c:Int) (pool:List Str),ds=[.int c,.list (pool.map .str)]/\pool.length=6/\Q (.ow true) (.list ((sN pool c).map .str))
theorem mX (ds Q) (h:dR ds Q):ds.length=["_law_cell", "_law_pool"].length:=by obtain⟨_,_,rfl,_⟩:=h;rfl
theorem pP:∀ ds Q,dR ds Q->jM { nx:=λ_=>Q .sh .non,rt:=Q } (aH 5 ds):=by
 rintro ds Q ⟨c,pool,rfl,hp,h⟩;unfold jM;walk_at "q";have s0:=sd c (show(7:Int)≠0 by decide);have s1:=n5 c (show(0:Int)<7 by decide);unfold sN at h;generalize c % 7=size at *
 refine⟨by lia,by lia,?_⟩;refine bA _ (λi ρ=>∃ (o:Option Sl),ρ=[some (.sh (.int (dr 6 i (c / 7)))),some (.sh (.list (pool.map .str))),some (.ow true (.list (((List.range i).map λi=>ku pool (dr 6 i (c / 7))).map .str))),some (.sh (.int size)),o]) ⟨_,rfl⟩ ?_ ?_
 ·rintro i x ρ hx ⟨o,rfl⟩ N hN;obtain⟨hi,rfl⟩:=dq hx;walk_at "q";obtain⟨hn,e⟩:=iM (l:=pool) (dr 6 i (c / 7)) (by lia);rw[hp] at e;refine⟨_,e,?_⟩;walk_at "q";refine⟨by simp;lia,?_⟩;rw[tE,<- jb (λi=>ku pool (dr 6 i (c / 7)))];exact hN _ ⟨_,rfl⟩
 ·rintro ρ ⟨o,rfl⟩;rw[eO];walk_at "q";exact h
def eY:WS :=
 (cp (eh 2 (kG (ak (wC (.str "*")) (ak (wC (.str "")) (ak (wC (.str "A")) (ak (wC (.str "a b")) (ak (wC (.str "a1")) (ak (wC (.str "abcdefg")) (ak (wC (.str " a")) (ak (wC (.str "a*")) (ak (aC g9 (aC cK (av 1) (wC (.int 0))) (wC (.str " "))) (ak (iF v5 (aC cK (av 1) (wC (.int 1)))) (ak (aC g9 (aC cK (av 1) (wC (.int 2))) (wC (.str "aaaaaa"))) cE)))))))))))))
 (oz (aC cK (av 2) (aC i5 (av 0) (wC (.int 11))))))
def b8:fo:=λds Q=>∃ (c:Int) (pool:List Str),ds=[.int c,.list (pool.map .str)]/\pool.length=6/\(∀ n∈pool,Open n)/\Q .sh (.str (ku (rq pool) c))
theorem iH (ds Q) (h:b8 ds Q):ds.length=["_law_cell", "_law_pool"].length:=by obtain⟨_,_,rfl,_⟩:=h;rfl
theorem jY:∀ ds Q,b8 ds Q->eY { nx:=λ_=>Q .sh .non,rt:=Q } (aH 3 ds):=by
 rintro ds Q ⟨c,pool,rfl,hp,ho,h⟩;unfold eY;walk_at "q"
 match pool,hp with
 |[p0,p1,p2,p3,p4,p5],_ =>
  have o0:=ho p0 (by simp);have o1:=ho p1 (by simp);have o2:=ho p2 (by simp);refine⟨.str p0,rfl,?_⟩;walk_at "q";have l0:=o0.2.1;have l1:=o1.2.1;have l2:=o2.2.1;refine⟨?_,by lia,?_,?_⟩
  ·rw[show(Str.ofString " ").length=1 from by decide +kernel];lia
  ·rw[show(Str.ofString "aaaaaa").length=6 from by decide +kernel];lia
  exact⟨_,(iM (l:=rq [p0,p1,p2,p3,p4,p5]) c (by simp[rq])).2,h⟩
def h_:WS :=
 (cp (eh 2 (kG cE))
 (cp (eh 3 (aC g9 (wC (.int 1)) (aC i5 (av 0) (wC (.int 4)))))
 (cp (eh 0 (aC ox (av 0) (wC (.int 4))))
 (cp (sF (dB (av 3)) (gN 4)
 (cp (Bz (pS 2) (oy (ak (aC cK (av 1) (aC i5 (av 0) (wC (.int 6)))) (ak (aC cK (av 1) (aC i5 (aC ox (av 0) (wC (.int 6))) (wC (.int 6)))) cE))))
 (eh 0 (aC ox (av 0) (wC (.int 36))))))
 (gQ 2)))))
def cY:fo:=λds Q=>∃ (c:Int) (pool:List Str),ds=[.int c,.list (pool.map .str)]/\pool.length=6/\Q (.ow true) (.list ((sP pool c).map t5))
theorem jX (ds Q) (h:cY ds Q):ds.length=["_law_cell", "_law_pool"].length:=by obtain⟨_,_,rfl,_⟩:=h;rfl
theorem oR:∀ ds Q,cY ds Q->h_ { nx:=λ_=>Q .sh .non,rt:=Q } (aH 5 ds):=by
 rintro ds Q ⟨c,pool,rfl,hp,h⟩;unfold h_;walk_at "q";have s0:=sd c (show(4:Int)≠0 by decide);have s1:=n5 c (show(0:Int)<4 by decide);unfold sP at h;generalize c % 4=size at *
 refine⟨by lia,by lia,?_⟩;refine bA _ (λi ρ=>∃ (o:Option Sl),ρ=[some (.sh (.int (dr 36 i (c / 4)))),some (.sh (.list (pool.map .str))),some (.ow true (.list (((List.range i).map λi=>(ku pool (dr 36 i (c / 4)),ku pool (dr 36 i (c / 4) / 6))).map t5))),some (.sh (.int (1+size))),o]) ⟨_,rfl⟩ ?_ ?_
 ·rintro i x ρ hx ⟨o,rfl⟩ N hN;obtain⟨hi,rfl⟩:=dq hx;walk_at "q";obtain⟨hn,e⟩:=iM (l:=pool) (dr 36 i (c / 4)) (by lia);obtain⟨HP,e2⟩:=iM (l:=pool) (dr 36 i (c / 4) / 6) (by lia);rw[hp] at e e2;refine⟨_,e,?_⟩;walk_at "q";refine⟨_,e2,?_⟩;walk_at "q";refine⟨by simp;lia,?_⟩;rw[jb,oI] at hN;exact hN _ ⟨_,rfl⟩
 ·rintro ρ ⟨o,rfl⟩;rw[eO];walk_at "q";exact h
def fC:WS :=
 (cp (gv (wB (aC Oe (aC cK (av 0) (wC (.int 0))) (wC (.int 20))))
 (jr "TooBig" (wC (.str "too many states")))
 a_)
 (cp (gv (wB (aC Oe (iF sD (aC cK (av 0) (wC (.int 1)))) (wC (.int 80))))
 (jr "TooBig" (wC (.str "too many different steps")))
 a_)
 (gv (wB (aC Oe (iF sD (eX (fV (aP fJ (ak (av 0) cE))) (gN 0) (wB (aP eF (ak (av 0) cE))) (av 0) 1 [])) (wC (.int 6))))
 (jr "TooBig" (wC (.str "too many different open deeds")))
 a_)))
def bz:fo:=λds Q=>∃ (many:Int) (steps:List cf) (k:Nat),ds=[mD many steps]/\steps.length<=1000/\(∀ s∈steps,nX s.2.1)/\mU steps k/\(OV many steps.length k->Q .sh .non)/\(¬ OV many steps.length k->Q (.ow false) (.str "TooBig"))
theorem iQ (ds Q) (h:bz ds Q):ds.length=["m"].length:=by obtain⟨_,_,_,rfl,_⟩:=h;rfl
theorem ou {n:Str} (h:nX n):(decide (1<=n.length/\n.length<=6) && (sg n).all isLet)=true↔n ≠ "*" := by
 rcases h with rfl|h
 ·exact⟨λz=>absurd z (by decide +kernel),λz=>absurd rfl z⟩
 ·refine⟨λ_ e=>?_,λ_=>?_⟩
  ·subst e;have:=h.2.2 42 (by decide +kernel);exact absurd this (by decide)
  ·simp only[ja,decide_eq_true_eq,B5];exact⟨⟨h.1,h.2.1⟩,h.2.2⟩
theorem kO:∀ ds Q,bz ds Q->fC { nx:=λ_=>Q .sh .non,rt:=Q } (aH 1 ds):=by
 rintro ds Q ⟨many,steps,k,rfl,hz,hd,hk,h1,h2⟩;unfold fC mD;walk_at "q";refine R.D (λa=>?_) λa=>?_
 ·walk_at "q";exact h2 λz=>by have:=z.1;lia
 walk_at "q";refine R.D (λb=>?_) λb=>?_
 ·walk_at "q";exact h2 λz=>by have:=z.2.1;lia
 walk_at "q";refine⟨many,steps,rfl,hz,λnames nd mm=>?_⟩;walk_at "q"
 refine aQ (λd=>match d with
  |.str x=>decide (1<=x.length/\x.length<=6) && (sg x).all isLet
  |_=>false) (λd=>d) (λρ=>∃ o,ρ=[o]) _ _ _ ⟨_,rfl⟩ ?_ ?_
 ·rintro x hx ρ ⟨o,rfl⟩ N1 N2 n1 n2;obtain⟨n,hn,rfl⟩:=eK.mp hx;walk_at "q";refine⟨_,rfl,?_⟩;walk_at "q";try rw[show lw' (.str n)=(decide (1<=n.length/\n.length<=6) && (sg n).all isLet) from rfl]
  cases e:(decide (1<=n.length/\n.length<=6) && (sg n).all isLet) with
  |true =>rw[if_pos rfl];exact⟨.inl rfl,n2 _ ⟨_,rfl⟩ e⟩
  |false =>rw[if_neg kg];exact n1 _ ⟨_,rfl⟩ e
 ·have e1:(names.map D.str).filter (λd=>match d with
    |.str x=>decide (1<=x.length/\x.length<=6) && (sg x).all isLet
    |_=>false)=(names.filter λx=>decide (1<=x.length/\x.length<=6) && (sg x).all isLet).map D.str:=by
   rw[List.filter_map];rfl
  rw[e1,dn,dn];have E3:∀ x∈names,nX x:=λx hx=>by obtain⟨s,gi,e⟩:=eK.mp ((mm x).mp hx);rw[<- e];exact hd s gi
  have hl:=hk.uniq ⟨names.filter λx=>decide (1<=x.length/\x.length<=6) && (sg x).all isLet,nd.filter _,λn=>by
   rw[LB,<- mm n];exact⟨λz=>⟨z.1,(ou (E3 n z.1)).mp z.2⟩,λz=>⟨z.1,(ou (E3 n z.1)).mpr z.2⟩⟩,rfl⟩
  rw[<- hl];refine R.D (λc=>?_) λc=>?_
  ·walk_at "q";exact h2 λz=>by have:=z.2.2;lia
  ·walk_at "q";exact h1 ⟨by lia,by lia,by lia⟩
def ie:WS :=
 (kH 0 (sF (dM (av 0)) (gN 1)
 (gv (II (wB (aP eF (ak (av 1) cE))))
 (jr "NoDeed" (wC (.str "a deed that is not open")))
 a_)))
def bD:fo:=λds Q=>∃ names:List Str,ds=[.list (names.map .str)]/\((∀ n∈names,Open n)->Q .sh .non)/\((∃ n,n∈names/\¬ Open n)->Q (.ow false) (.str "NoDeed"))
theorem jW (ds Q) (h:bD ds Q):ds.length=["deeds"].length:=by obtain⟨_,rfl,_⟩:=h;rfl
theorem nO:∀ ds Q,bD ds Q->ie { nx:=λ_=>Q .sh .non,rt:=Q } (aH 2 ds):=by
 rintro ds Q ⟨names,rfl,h1,h2⟩;unfold ie;walk_at "q";refine bA _ (λi ρ=>∃ o,(∀ n∈names.take i,Open n)/\ρ=[some (.sh (.list (names.map .str))),o]) ⟨_,by simp,rfl⟩ ?_ ?_
 ·rintro i x ρ hx ⟨o,ho,rfl⟩ N hN;obtain⟨n,rfl,hn,et⟩:=zx hx;walk_at "q";refine⟨n,rfl,?_⟩;walk_at "q";by_cases hp:Open n
  ·rw[sG.mpr hp];walk_at "q";refine hN _ ⟨_,λm hm=>?_,rfl⟩;rw[et] at hm;rcases fh.mp hm with hm|hm
   ·exact ho m hm
   ·have:m=n:=by simpa using hm
    rw[this];exact hp
  ·rw[Bool.eq_false_iff.mpr λz=>hp (sG.mp z)];walk_at "q";exact h2 ⟨n,hn,hp⟩
 ·rintro ρ ⟨o,ho,rfl⟩;rw[dn,AG] at ho;walk_at "q";exact h1 ho
def iD:WS :=
 (cp (eh 2 (aC g9 (wC (.int 1)) (aC i5 (aC ox (aC cK (av 0) (wC (.int 0))) (wC (.int 9))) (wC (.int 3)))))
 (kh [.inr 2,.inl (iF cA (aP bV (ak (zv (av 0) (fQ (wC (.int 2))) (fQ (wC (.int 6)))) (ak (av 2) (ak (aC g9 (kG (ak (wC (.str "*")) cE)) (zv (av 1) cT (fQ (wC (.int 5))))) cE)))))]))
def bQ:fo:=λds Q=>∃ (c0:Int) (rest:List Int) (pool:List Str),ds=[.list ((c0 :: rest).map .int),.list (pool.map .str)]/\rest.length=5/\pool.length=6/\(∀ n∈pool,Open n)/\(gM' (FG c0 (c0 :: rest) pool)->Q (.ow true) (mD (FG c0 (c0 :: rest) pool).1 (FG c0 (c0 :: rest) pool).2))
theorem j0 (ds Q) (h:bQ ds Q):ds.length=["_law_cells", "_law_pool"].length:=by obtain⟨_,_,_,rfl,_⟩:=h;rfl
theorem pq:∀ ds Q,bQ ds Q->iD { nx:=λ_=>Q .sh .non,rt:=Q } (aH 3 ds):=by
 rintro ds Q ⟨c0,rest,pool,rfl,hc,hp,ho,h⟩;unfold iD;walk_at "q";rw[show(D.int c0 :: rest.map D.int)=(c0 :: rest).map D.int from rfl,ph,wL];unfold FG at h;have cl:(hV (c0 :: rest) (some 2) (some 6)).length<=4:=by unfold hV;rw[ly];simp only[HT.cv];rw[if_neg (by lia),if_neg (by lia)];lia
 have pl:=gf pool none (some 5);have pm:=λx (hx:x∈hV pool none (some 5))=>vO hx;generalize hV (c0 :: rest) (some 2) (some 6)=cells at *
 generalize hV pool none (some 5)=An at *
 have k0:0<=c0 / 9 % 3/\c0 / 9 % 3<3:=by lia
 generalize c0 / 9 % 3=k at *
 refine .inl ⟨ju rest,.inl ⟨dO pool,by rw[dn];lia,.inl ⟨dO An,cells,1+k,("*" : Str) :: An,rfl,by lia,by lia,by lia,by simp,by simp;lia,?_⟩⟩⟩;have so:=zf (cells:=cells) (many:=1+k) (names:=("*" : Str) :: An) (by lia) (by simp) λd hd=>by
  rcases eM.mp hd with hd|hd
  ·exact .inl hd
  ·exact .inr (ho d (pm d hd))
 have sl:=wD cells (1+k) (("*" : Str) :: An);generalize FD cells (1+k) (("*" : Str) :: An)=l at *
 walk_at "q";obtain⟨ks,sh,e1,e2,e3,e4⟩:=nG (l:=l) (λxs=>∀ ms:List (List Key),ms.map mh=xs->∃ out,mw l out/\ms.map mh=out.map d4) (by lia) λout M ms e=>⟨out,M,e⟩
 refine⟨ks,sh,e1,e2,e3,λOY nd mm pw=>?_⟩;obtain⟨out,M,e'⟩:=e4 OY nd mm pw OY rfl;rw[e'];have ol:=M.len;rw[sZ M] at h;exact h ⟨by show 1<=1+k;lia,by show 1+k<=3;lia,by show out.length<=4;lia,λs hs=>so s ((M.2.1 s).mp hs)⟩
def sV:WS :=
 (cp (jm bD (ak (av 2) cE))
 (cp (eh 3 (aC tS (aC cK (av 0) (wC (.int 0))) (aC cK (av 1) (wC (.int 0)))))
 (cp (kH 3 (jm bz (ak (oy (ak (av 3) (ak (kG cE) cE))) cE)))
 (cp (eh 4 (aC g9 (aP cu (ak (av 0) (ak (av 1) (ak (av 2) cE)))) (aP bJ (ak (av 0) (ak (av 1) (ak (av 2) cE))))))
 (cp (kH 3 (eh 5 (oy (ak (av 3) (ak (iF cA (aC g9 (av 4) (aP bM (ak (av 0) (ak (av 1) (ak (av 2) cE)))))) cE)))))
 (cp (jm bz (ak (av 5) cE))
 (gQ 5)))))))
theorem Fd:∀ l:List Str,∃ m:List Str,m.Nodup/\∀ x,x∈m↔x∈l
 |[]=>⟨[],mG,λ_=>Iff.rfl⟩
 |y :: l=>by
  obtain⟨m,nd,h⟩:=Fd l;by_cases hy:y∈m
  ·refine⟨m,nd,λx=>(h x).trans ⟨λz=>eP _ z,λz=>?_⟩⟩;rcases eM.mp z with rfl|z
   ·exact(h x).mp hy
   ·exact z
  ·exact⟨y :: m,nE.mpr ⟨hy,nd⟩,λx=>by rw[eM,eM,h]⟩
theorem Ep(steps:List cf):∃ k,mU steps k:=by obtain⟨m,nd,h⟩:=Fd ((FC steps).filter λn=>decide (n≠("*" : Str)));exact⟨_,m,nd,λn=>(h n).trans (by rw[LB];simp),rfl⟩
structure UL(m n:Int)(l1 l2:List cf):Prop where
 m1:1<=m
 m2:m<=20
 n1:1<=n
 n2:n<=20
 z1:l1.length<=80
 z2:l2.length<=80
 o1:∀ s∈l1,kM m s
 o2:∀ s∈l2,kM n s
theorem kM.up{many:Int}{s:cf}(h:kM many s)(hm:many<=20):kM 20 s:=⟨h.1,R7 h.2.1 hm,h.2.2.1,h.2.2.2.1,R7 h.2.2.2.2 hm⟩
theorem xV{m n:Int}{tg:List Str}{l1 l2:List cf}(T:UL m n l1 l2):∀ s∈rp m n tg l1 l2,nX s.2.1:=λs hs=>by
 rcases vd.mp hs with⟨t,ht,hs⟩|⟨t,ht,hs⟩|⟨t,ht,hs⟩
 ·obtain⟨_,q,_,rfl⟩:=uU.mp hs;exact(T.o1 t ht).2.2.1
 ·obtain⟨_,q,_,rfl⟩:=vJ.mp hs;exact(T.o2 t ht).2.2.1
 ·obtain⟨_,u,_,_,rfl⟩:=uG.mp hs;exact(T.o1 t ht).2.2.1
def bx:fo:=λds Q=>∃ (m n:Int) (l1 l2:List cf) (tg:List Str),ds=[mD m l1,mD n l2,.list (tg.map .str)]/\UL m n l1 l2/\(m*n<=20->(rp m n tg l1 l2).length<=1000) /\ ((∃ t,t∈tg/\¬ Open t)->Q (.ow false) (.str "NoDeed"))/\((∀ t∈tg,Open t)->(¬ m*n<=20->Q (.ow false) (.str "TooBig")) /\ (m*n<=20->∀ out k,mw (rp m n tg l1 l2) out->mU out k->(OV (m*n) out.length k->Q (.ow true) (mD (m*n) out))/\(¬ OV (m*n) out.length k->Q (.ow false) (.str "TooBig"))))
theorem tO (ds Q) (h:bx ds Q):ds.length=["one", "other", "together"].length:=by obtain⟨_,_,_,_,_,rfl,_⟩:=h;rfl
theorem yJ:∀ ds Q,bx ds Q->sV { nx:=λ_=>Q .sh .non,rt:=Q } (aH 6 ds):=by
 rintro ds Q ⟨m,n,l1,l2,tg,rfl,T,hz,h1,h2⟩;have m1:=T.m1;have m2:=T.m2;have n1:=T.n1;have n2:=T.n2;have z1:=T.z1;have z2:=T.z2;have s1:=λs hs=>(T.o1 s hs).up m2;have s2:=λs hs=>(T.o2 s hs).up n2;have mnp:0<=m*n:=GN (by lia) (by lia);have mnq:m*n<=20*20:=GO (by lia) (by lia) (by lia) (by lia);unfold sV mD;walk_at "q";refine⟨tg,rfl,λht=>?_,λht=>?_⟩;rotate_left
 ·walk_at "q";exact h1 ht
 obtain⟨h3,h4⟩:=h2 ht;walk_at "q";refine⟨.inl ⟨by lia,by lia⟩,m*n,[],0,rfl,by simp,(λs hs=>nomatch hs),⟨[],mG,λn=>by simp[FC],rfl⟩,λsm=>?_,λsm=>?_⟩;rotate_left
 ·walk_at "q";exact h3 λz=>sm ⟨z,by simp,by simp⟩
 have mn:=sm.1;have hz:=hz mn;walk_at "q";refine⟨m,n,l1,l2,tg,rfl,n1,n2,by lia,s1,?_⟩;walk_at "q";refine⟨m,n,l1,l2,tg,rfl,m1,m2,n1,n2,by lia,s2,?_⟩;have bl:(l1.flatMap (rg n tg)).length+(l2.flatMap (rh m n tg)).length+(l1.flatMap (toS n tg l2)).length<=1000:=by unfold rp at hz;rwa[ny,ny] at hz
 walk_at "q";refine⟨by lia,.inl ⟨bj _,bj _,m,n,l1,l2,tg,rfl,n1,n2,by lia,by lia,s1,s2,?_⟩⟩;walk_at "q";rw[<- oI,<- oI];refine⟨by rw[dn,ny];lia,.inl ⟨bj _,bj _,?_⟩⟩;obtain⟨ks,sh,e1,e2,e3,e4⟩:=nG (l:=rp m n tg l1 l2) (λxs=>∀ ms:List (List Key),ms.map mh=xs->∃ out,mw (rp m n tg l1 l2) out/\ms.map mh=out.map d4) hz λout M ms e=>⟨out,M,e⟩
 refine⟨ks,sh,e1,e2,e3,λms nd mm pw=>?_⟩;obtain⟨out,M,e⟩:=e4 ms nd mm pw ms rfl;rw[e];have ol:out.length<=1000:=i9 M.len hz;obtain⟨k,hk⟩:=Ep out;obtain⟨h5,h6⟩:=h4 mn out k M hk;refine⟨m*n,out,k,rfl,ol,λs hs=>xV T s ((M.2.1 s).mp hs),hk,λsm=>?_,λsm=>?_⟩
 ·walk_at "q";exact h5 sm
 ·walk_at "q";exact h6 sm
def zM:WS :=
 (cp (jm bD (ak (av 1) cE))
 (cp (eh 2 rR)
 (cp (kH 1 (sF (dM (av 1)) (gN 3)
 (yV (pS 2) (av 3) (wC (.str "*")))))
 (oz (aP bW (ak (av 0) (ak (av 2) cE)))))))
def jK:fo:=λds Q=>∃ (many:Int) (l:List cf) (names:List Str),ds=[mD many l,.list (names.map .str)]/\l.length<=1000/\names.length<=1000/\((∀ n∈names,Open n)->∀ out,mw (l.map (hdS names)) out->Q (.ow true) (mD many out))/\((∃ n,n∈names/\¬ Open n)->Q (.ow false) (.str "NoDeed"))
theorem xT (ds Q) (h:jK ds Q):ds.length=["m", "deeds"].length:=by obtain⟨_,_,_,rfl,_⟩:=h;rfl
theorem DX:∀ ds Q,jK ds Q->zM { nx:=λ_=>Q .sh .non,rt:=Q } (aH 4 ds):=by
 rintro ds Q ⟨many,l,names,rfl,hz,hn,h1,h2⟩;unfold zM;walk_at "q";refine⟨names,rfl,λho=>?_,λho=>?_⟩
 ·walk_at "q";refine bA _ (λi ρ=>∃ (kd:List (Key × D)) (o:Option Sl),OX (Kb (names.take i)) kd/\kd.length<=i/\ρ=[some (.sh (mD many l)),some (.sh (.list (names.map .str))),some (.ow true (.dK kd)),o]) ⟨[],_,(λx=>rfl),eW _,rfl⟩ ?_ ?_
  ·rintro i x ρ hx ⟨kd,o,hk,Mx,rfl⟩ N hN;have hi:=(nv.mp hx).1;rw[dn] at hi;obtain⟨n,rfl,EH,et⟩:=zx hx;walk_at "q";refine⟨by lia,hN _ ⟨_,_,λy=>?_,by have:=gF kd (Sum.inr n:Key) (D.str "*");lia,rfl⟩⟩;rw[jJ,hk y,et];by_cases e:y=n
   ·subst e;simp[Kb]
   ·have:¬ (Sum.inr y:Key)=Sum.inr n:=λz=>e (Sum.inr.inj z);rw[if_neg this];simp[Kb,e]
  ·rintro ρ ⟨kd,o,hk,Mx,rfl⟩;rw[dn,AG] at hk;walk_at "q";refine⟨many,l,Kb names,kd,rfl,hk,hz,λout M=>?_⟩;unfold mD;walk_at "q";exact h1 ho out M
 ·walk_at "q";exact h2 ho
def rE:WS :=
 (cp (eh 2 rR)
 (cp (kH 1 (sF (dM (av 1)) (gT 2 (cQ (gN 3) (cQ (gN 4) qj)))
 (cp (kH 4 (kH 3 (jm bD (ak (kG (ak (av 3) (ak (av 4) cE))) cE))))
 (kH 4 (kH 3 (Us (pS 2) (av 3) (av 4)))))))
 (oz (aP bW (ak (av 0) (ak (av 2) cE))))))
def dY:fo:=λds Q=>∃ (many:Int) (l:List cf) (ps:List Pr),ds=[mD many l,.list (ps.map t5)]/\l.length<=1000/\ps.length<=6300/\((∀ p∈ps,MK p)->∀ out,mw (l.map (Fu (lk ps))) out->Q (.ow true) (mD many out))/\((∃ p,p∈ps/\¬ MK p)->Q (.ow false) (.str "NoDeed"))
theorem uh (ds Q) (h:dY ds Q):ds.length=["m", "pairs"].length:=by obtain⟨_,_,_,rfl,_⟩:=h;rfl
theorem BX(ae:List (Key × D))(k:Key)(x:D):(BI ae k x).length<=ae.length+1:=by
 unfold BI;split
 ·exact Nat.le_succ _
 ·exact gF _ _ _
theorem G_{ps:List Pr}{kd:List (Key × D)}{a b:Str}(hk:OX (lk ps) kd):OX (lk (ps++[(a,b)])) (BI kd (.inr a) (.str b)):=by
 intro y;have ha:=hk a;rw[CJ];unfold BI;by_cases e:a=y
 ·subst e
  cases h:lk ps a with
  |none =>rw[h] at ha;rw[ha];simp[jJ]
  |some z =>rw[h] at ha;rw[ha];simp[ha]
 ·have e':¬ (Sum.inr y:Key)=Sum.inr a:=λz=>e (Sum.inr.inj z).symm;rw[if_neg e,Option.or_none];split
  ·exact hk y
  ·rw[jJ,if_neg e'];exact hk y
theorem yr:∀ ds Q,dY ds Q->rE { nx:=λ_=>Q .sh .non,rt:=Q } (aH 5 ds):=by
 rintro ds Q ⟨many,l,ps,rfl,hz,hn,h1,h2⟩;unfold rE;walk_at "q";refine bA _ (λi ρ=>∃ (kd:List (Key × D)) (o3 o4:Option Sl),OX (lk (ps.take i)) kd/\kd.length<=i/\(∀ p∈ps.take i,MK p)/\ρ=[some (.sh (mD many l)),some (.sh (.list (ps.map t5))),some (.ow true (.dK kd)),o3,o4]) ⟨[],_,_,(λx=>rfl),eW _,(λp hp=>nomatch hp),rfl⟩ ?_ ?_
 ·rintro i x ρ hx ⟨kd,o3,o4,hk,Mx,Rn,rfl⟩ N hN;have hi:=(nv.mp hx).1;rw[dn] at hi;obtain⟨a,b,rfl,hm,et⟩:=Hu hx;walk_at "q";refine⟨[a,b],rfl,λho=>?_,λho=>?_⟩
  ·walk_at "q";have ok:MK (a,b):=⟨ho a (by simp),ho b (by simp)⟩
   refine⟨by lia,hN _ ⟨_,_,_,by rw[et];exact G_ hk,by have:=BX kd (Sum.inr a) (D.str b);lia,λp hp=>?_,rfl⟩⟩;rw[et] at hp;rcases fh.mp hp with hp|hp
   ·exact Rn p hp
   ·rw[rV.mp hp];exact ok
  ·walk_at "q";refine h2 ⟨(a,b),hm,λz=>?_⟩;obtain⟨n,hn,A3⟩:=ho;rcases eM.mp hn with rfl|hn
   ·exact A3 z.1
   ·rw[rV.mp hn] at A3;exact A3 z.2
 ·rintro ρ ⟨kd,o3,o4,hk,Mx,Rn,rfl⟩;rw[dn,AG] at hk Rn;walk_at "q";refine⟨many,l,lk ps,kd,rfl,hk,hz,λout M=>?_⟩;unfold mD;walk_at "q";exact h1 Rn out M
def cH:WS :=
 (cp (gv (wB (aC E8 (av 2) (wC (.int 2))))
 (kh [.inl (wC (.str "right")),.inl (aP bQ (ak (av 0) (ak (av 1) cE))),.inr 3])
 a_)
 (cp (gv (wB (aC E8 (av 2) (wC (.int 4))))
 (kh [.inl (wC (.str "left")),.inl (aP bQ (ak (av 0) (ak (av 1) cE))),.inr 3])
 a_)
 (cp (gv (wB (aC E8 (av 2) (wC (.int 6))))
 (kh [.inl (wC (.str "hide")),.inr 3])
 a_)
 (cp (gv (wB (aC E8 (av 2) (wC (.int 8))))
 (kh [.inl (wC (.str "rename")),.inr 4])
 a_)
 (qi (aC cK (kG (ak (wC (.str "")) (ak (wC (.str "Right")) (ak (wC (.str "rename ")) (ak (wC (.str "hid")) (ak (wC (.str "beside")) (ak (wC (.str "lefthide")) cE))))))) (aC i5 (aC cK (av 0) (wC (.int 2))) (wC (.int 6)))) 3)))))
def lF:WS :=
 (cp (eh 2 (aC i5 (aC cK (av 0) (wC (.int 0))) (wC (.int 9))))
 (cp (eh 3 (aP dR (ak (aC cK (av 0) (wC (.int 1))) (ak (av 1) cE))))
 (cp (eh 4 (aP cY (ak (aC cK (av 0) (wC (.int 1))) (ak (av 1) cE))))
 (cp (gv (wB (aC kD (aC i5 (aC ox (aC cK (av 0) (wC (.int 0))) (wC (.int 27))) (wC (.int 16))) (wC (.int 5))))
 (cp (eh 5 (aP b8 (ak (aC cK (av 0) (wC (.int 2))) (ak (av 1) cE))))
 (cp (kH 5 (Rf (pS 3) (aC i5 (aC ox (aC cK (av 0) (wC (.int 2))) (wC (.int 11))) (aC g9 (iF sD (av 3)) (wC (.int 1)))) (av 5)))
 (kH 5 (Rf (pS 4) (aC i5 (aC ox (aC cK (av 0) (wC (.int 2))) (wC (.int 11))) (aC g9 (iF sD (av 4)) (wC (.int 1)))) (aC cK (kG (ak (oy (ak (av 5) (ak (aC cK (av 1) (wC (.int 0))) cE))) (ak (oy (ak (aC cK (av 1) (wC (.int 1))) (ak (av 5) cE))) cE))) (aC i5 (aC ox (aC cK (av 0) (wC (.int 2))) (wC (.int 77))) (wC (.int 2))))))))
 a_)
 cH))))
def ML:dk->Md
 |.bad _ _=>.fr
 |_=>.ow true
def di:fo:=λds Q=>∃ (c0 c1 c2:Int) (rest:List Int) (pool:List Str),ds=[.list ((c0 :: c1 :: c2 :: rest).map .int),.list (pool.map .str)]/\rest.length=3/\pool.length=6/\(∀ n∈pool,Open n)/\((D3 c0 c1 c2 rest pool).Ok->Q (ML (D3 c0 c1 c2 rest pool)) (D3 c0 c1 c2 rest pool).d)
theorem oE (ds Q) (h:di ds Q):ds.length=["_law_cells", "_law_pool"].length:=by obtain⟨_,_,_,_,_,rfl,_⟩:=h;rfl
theorem iu{Q:Md->D->Prop}{c0 c1 c2:Int}{rest:List Int}{pool:List Str}(hc:rest.length=3)(hp:pool.length=6)(ho:∀ n∈pool,Open n)(h:(D3 c0 c1 c2 rest pool).Ok->Q (ML (D3 c0 c1 c2 rest pool)) (D3 c0 c1 c2 rest pool).d)(o5:Option Sl) :
  cH { nx:=λ_=>Q .sh .non,rt:=Q } [some (.sh (.list ((c0 :: c1 :: c2 :: rest).map .int))),some (.sh (.list (pool.map .str))),some (.sh (.int (c0 % 9))),some (.ow true (.list ((ya c0 c1 c2 pool).map .str))),some (.ow true (.list ((D2 c0 c1 c2 pool).map t5))),o5]:=by
 have d:=Hj hp ho c0 c1 c2;unfold D3 at h;unfold cH;walk_at "q";refine R.D (λe1=>?_) λe1=>?_
 ·rw[if_pos e1] at h;walk_at "q";refine⟨c0,c1 :: c2 :: rest,pool,rfl,by simp[hc],hp,ho,λ⟨n1,n2,hl,so⟩=>?_⟩;unfold mD;walk_at "q";exact h ⟨n1,n2,hl,so,d⟩
 rw[if_neg e1] at h;walk_at "q";refine R.D (λe2=>?_) λe2=>?_
 ·rw[if_pos e2] at h;walk_at "q";refine⟨c0,c1 :: c2 :: rest,pool,rfl,by simp[hc],hp,ho,λ⟨n1,n2,hl,so⟩=>?_⟩;unfold mD;walk_at "q";exact h ⟨n1,n2,hl,so,d⟩
 rw[if_neg e2] at h;walk_at "q";refine R.D (λe3=>?_) λe3=>?_
 ·rw[if_pos e3] at h;walk_at "q";exact h d
 rw[if_neg e3] at h;walk_at "q";refine R.D (λe4=>?_) λe4=>?_
 ·rw[if_pos e4] at h;walk_at "q";exact h (Hz hp ho c0 c1 c2)
 rw[if_neg e4] at h;walk_at "q";refine⟨_,(iM (l:=OW) c2 (by decide)).2,?_⟩;walk_at "q";have b:=Fw _ (iM (l:=OW) c2 (by decide)).1;exact⟨_,_,rfl,rfl,h ⟨b.1,b.2,d⟩⟩
theorem tY:∀ ds Q,di ds Q->lF { nx:=λ_=>Q .sh .non,rt:=Q } (aH 6 ds):=by
 rintro ds Q ⟨c0,c1,c2,rest,pool,rfl,hc,hp,ho,h⟩;have sl:=zF pool c1;have pl:=zB pool c1;obtain⟨w4,e4⟩:∃ w,w=cH:=⟨_,rfl⟩
 unfold lF;rw[<- e4];walk_at "q";refine⟨c1,pool,rfl,hp,?_⟩;walk_at "q";refine⟨c1,pool,rfl,hp,?_⟩;walk_at "q";refine R.D (λe=>?_) λe=>?_
 ·walk_at "q";refine⟨c2,pool,rfl,hp,ho,?_⟩;walk_at "q";have b1:=sd (c2 / 11) (show((sN pool c1).length:Int)+1≠0 by lia);have b2:=n5 (c2 / 11) (show(0:Int)<((sN pool c1).length:Int)+1 by lia);have b3:=sd (c2 / 11) (show((sP pool c1).length:Int)+1≠0 by lia);have b4:=n5 (c2 / 11) (show(0:Int)<((sP pool c1).length:Int)+1 by lia);refine⟨by lia,b1,by lia,by lia,by lia,_,Fg hp 0 (by decide),?_⟩;walk_at "q";refine⟨_,Fg hp 1 (by decide),?_⟩;walk_at "q";have e1:kL (sN pool c1) (c2 / 11 % (((sN pool c1).length:Int)+1)).toNat (ku (rq pool) c2)=ya c0 c1 c2 pool:=by unfold ya;rw[if_pos e]
  have fin:∀ p:Pr,p=(if c2 / 77 % 2=0 then (ku (rq pool) c2,pool.getD 0 "") else (pool.getD 1 "",ku (rq pool) c2))->w4 { nx:=λ_=>Q .sh .non,rt:=Q } [some (.sh (.list ((c0 :: c1 :: c2 :: rest).map .int))),some (.sh (.list (pool.map .str))),some (.sh (.int (c0 % 9))),some (.ow true (.list (kL ((sN pool c1).map .str) (c2 / 11 % (((sN pool c1).length:Int)+1)).toNat (.str (ku (rq pool) c2))))),some (.ow true (.list (kL ((sP pool c1).map t5) (c2 / 11 % (((sP pool c1).length:Int)+1)).toNat (t5 p)))),some (.sh (.str (ku (rq pool) c2)))]:=λp gu=>by
   have e2:kL (sP pool c1) (c2 / 11 % (((sP pool c1).length:Int)+1)).toNat p=D2 c0 c1 c2 pool:=by unfold D2;rw[if_pos e,gu]
   rw[e4,rY,rY,e1,e2];exact iu hc hp ho h _
  rcases (show c2 / 77 % 2=0\/c2 / 77 % 2=1 by lia) with z|z
  ·rw[z];refine⟨_,rfl,?_⟩;walk_at "q";exact⟨b3,by lia,by lia,fin (ku (rq pool) c2,pool.getD 0 "") (by rw[if_pos z])⟩
  ·rw[z];refine⟨_,rfl,?_⟩;walk_at "q";exact⟨b3,by lia,by lia,fin (pool.getD 1 "",ku (rq pool) c2) (by rw[if_neg (by lia)])⟩
 ·walk_at "q";rw[e4];have e1:sN pool c1=ya c0 c1 c2 pool:=by unfold ya;rw[if_neg e]
  have e2:sP pool c1=D2 c0 c1 c2 pool:=by unfold D2;rw[if_neg e]
  rw[e1,e2];exact iu hc hp ho h _
def zG:WS :=
 (cp (gv (wB (aC kD (aC cK (av 1) (wC (.int 0))) (wC (.str "right"))))
 (jU bx (ak (av 0) (ak (aC cK (av 1) (wC (.int 1))) (ak (aC cK (av 1) (wC (.int 2))) cE))))
 a_)
 (cp (gv (wB (aC kD (aC cK (av 1) (wC (.int 0))) (wC (.str "left"))))
 (jU bx (ak (aC cK (av 1) (wC (.int 1))) (ak (av 0) (ak (aC cK (av 1) (wC (.int 2))) cE))))
 a_)
 (cp (gv (wB (aC kD (aC cK (av 1) (wC (.int 0))) (wC (.str "hide"))))
 (jU jK (ak (av 0) (ak (aC cK (av 1) (wC (.int 1))) cE)))
 a_)
 (cp (gv (wB (aC kD (aC cK (av 1) (wC (.int 0))) (wC (.str "rename"))))
 (jU dY (ak (av 0) (ak (aC cK (av 1) (wC (.int 1))) cE)))
 a_)
 (jr "NoFrame" (wC (.str "a row of the frame begins with another word")))))))
theorem G6{m n:Int}{tg:List Str}{l1 l2:List cf}:(rp m n tg l1 l2).length<=l1.length*n.toNat+l2.length*m.toNat+l1.length*l2.length:=by unfold rp;rw[ny,ny];have a:=gM (l:=l1) (uV n tg);have b:=gM (l:=l2) (vY m n tg);have c:=gM (l:=l1) (wQ n tg l2);lia
theorem vM{m n:Int}{tg:List Str}{l1 l2:List cf}(a:l1.length*n.toNat<=320)(b:l2.length*m.toNat<=320)(c:l1.length*l2.length<=320):(rp m n tg l1 l2).length<=1000:=by have:=G6 (m:=m) (n:=n) (tg:=tg) (l1:=l1) (l2:=l2);lia
theorem Hm.lo{m n:Int}{l l2:List cf}(hm:Hm m l)(n1:1<=n)(n2:n<=3)(hl:l2.length<=4):l.length*n.toNat<=320/\l2.length*m.toNat<=320/\l.length*l2.length<=320/\l2.length*l.length<=320:=by have a:=hm.len;have b:=hm.m2;have h1:l.length*n.toNat<=80*3:=EC a (by lia);have h2:l2.length*m.toNat<=4*20:=EC hl (by lia);have h3:l.length*l2.length<=80*4:=EC a hl;have h4:=Nh l.length l2.length;lia
theorem DY{m n:Int}{l1 l2:List cf}{tg:List Str}{Q:Md->D->Prop}(two:UL m n l1 l2)(few:m*n<=20->(rp m n tg l1 l2).length<=1000)(h:(BO m n tg l1 l2).on Q):bx [mD m l1,mD n l2,.list (tg.map .str)] Q:=by
 refine⟨m,n,l1,l2,tg,rfl,two,few,λ⟨t,ht,z⟩=>?_,λho=>⟨λz=>?_,λz out k M hk=>?_⟩⟩
 ·unfold BO at h;rw[if_neg λg=>z (g t ht)] at h;exact h
 ·unfold BO at h;rw[if_pos ho,if_neg z] at h;exact h
 ·unfold BO at h;rw[if_pos ho,if_pos z,sZ M,CK hk] at h;refine⟨λsm=>?_,λsm=>?_⟩
  ·rw[if_pos sm] at h;refine h ⟨Int.mul_pos (by have:=two.m1;lia) (by have:=two.n1;lia),z,λs hs=>?_,sm.2.1,M.1,λ_=>.rfl,M.2.2⟩;exact Ed (by have:=two.m1;lia) (by have:=two.n1;lia) two.o1 two.o2 s ((M.2.1 s).mp hs)
  ·rw[if_neg sm] at h;exact h
def pQ:fo:=λds Q=>∃ (m:Int) (l:List cf) (r:dk),ds=[mD m l,r.d]/\Hm m l/\r.Ok/\(mz m l r).on Q
theorem xM (ds Q) (h:pQ ds Q):ds.length=["m", "row"].length:=by obtain⟨_,_,_,rfl,_⟩:=h;rfl
theorem ai'{m n:Int}{l l2:List cf}{tg:List Str}{Q:Md->D->Prop}(hm:Hm m l)(n1:1<=n)(n2:n<=3)(hl:l2.length<=4)(so:∀ s∈l2,kM n s)(h:(BO m n tg l l2).on Q):bx [mD m l,mD n l2,.list (tg.map .str)] Q:=by obtain⟨q1,q2,q3,q4⟩:=hm.lo n1 n2 hl;exact DY ⟨hm.m1,hm.m2,n1,by lia,hm.len,by lia,hm.ok,so⟩ (λ_=>vM q1 q2 q3) h
theorem aj'{m n:Int}{l l2:List cf}{tg:List Str}{Q:Md->D->Prop}(hm:Hm m l)(n1:1<=n)(n2:n<=3)(hl:l2.length<=4)(so:∀ s∈l2,kM n s)(h:(BO n m tg l2 l).on Q):bx [mD n l2,mD m l,.list (tg.map .str)] Q:=by obtain⟨q1,q2,q3,q4⟩:=hm.lo n1 n2 hl;exact DY ⟨n1,by lia,hm.m1,hm.m2,by lia,hm.len,so,hm.ok⟩ (λ_=>vM q2 q1 q4) h
theorem Hm.map{m:Int}{l out:List cf}(hm:Hm m l){f:Str->Option Str}(hf:∀ x y,f x=some y->nX y)(M:mw (l.map (Fu f)) out):Hm m out:=by
 refine⟨hm.m1,hm.m2,λs hs=>?_,?_,M.1,λ_=>.rfl,M.2.2⟩
 ·obtain⟨u,hu,rfl⟩:=eK.mp ((M.2.1 s).mp hs);exact Dq hf (hm.ok u hu)
 ·have:=M.len;have:=hm.len;rw[dn] at *
  lia
theorem Fi{m:Int}{l:List cf}{ns:List Str}{Q:Md->D->Prop}(hm:Hm m l)(hn:ns.length<=7)(h:(mz m l (.xh ns)).on Q):jK [mD m l,.list (ns.map .str)] Q:=by
 have:=hm.len;refine⟨m,l,ns,rfl,by lia,by lia,λho out M=>?_,λ⟨t,ht,z⟩=>?_⟩
 ·simp only[mz] at h;rw[if_pos ho,sZ M] at h;exact h (hm.map (λx y=>yf x y) M)
 ·simp only[mz] at h;rw[if_neg λg=>z (g t ht)] at h;exact h
theorem Fq{m:Int}{l:List cf}{ps:List Pr}{Q:Md->D->Prop}(hm:Hm m l)(hn:ps.length<=5)(h:(mz m l (.BM ps)).on Q):dY [mD m l,.list (ps.map t5)] Q:=by
 have:=hm.len;refine⟨m,l,ps,rfl,by lia,by lia,λho out M=>?_,λ⟨t,ht,z⟩=>?_⟩
 ·simp only[mz] at h;rw[if_pos ho,sZ M] at h;exact h (hm.map (Aj ho) M)
 ·simp only[mz] at h;rw[if_neg λg=>z (g t ht)] at h;exact h
theorem Res.imp{Q P:Md->D->Prop}{r:Res}(h:r.on Q)(i:∀ m l,Hm m l->Q (.ow true) (mD m l)->P (.ow true) (mD m l))(n:∀ c,Q (.ow false) (.str c)->P (.ow false) (.str c)):r.on P:=by
 cases r with
 |ok m l=>exact λz=>i m l z (h z)
 |no c=>exact n c h
theorem Fj:∀ ds Q,pQ ds Q->zG { nx:=λ_=>Q .sh .non,rt:=Q } (aH 2 ds):=by
 rintro ds Q ⟨m,l,r,rfl,hm,ro,h⟩;unfold zG
 cases r with
 |right n l2 tg =>
  obtain⟨n1,n2,hl,so,_⟩:=ro;unfold dk.d mD;walk_at "q";refine ai' hm n1 n2 hl so (Res.imp h (λM o _ q=>?_) λc q=>?_)
  ·unfold mD at *;walk_at "q";exact q
  ·walk_at "q";exact q
 |left n l2 tg =>
  obtain⟨n1,n2,hl,so,_⟩:=ro;unfold dk.d mD;walk_at "q";refine R.F (by decide +kernel) ?_;walk_at "q";refine aj' hm n1 n2 hl so (Res.imp h (λM o _ q=>?_) λc q=>?_)
  ·unfold mD at *;walk_at "q";exact q
  ·walk_at "q";exact q
 |xh ns =>
  unfold dk.d;walk_at "q";refine R.F (by decide +kernel) ?_;walk_at "q";refine R.F (by decide +kernel) ?_;walk_at "q";refine Fi hm ro.1 (Res.imp h (λM o _ q=>?_) λc q=>?_)
  ·unfold mD at *;walk_at "q";exact q
  ·walk_at "q";exact q
 |BM ps =>
  unfold dk.d;walk_at "q";refine R.F (by decide +kernel) ?_;walk_at "q";refine R.F (by decide +kernel) ?_;walk_at "q";refine R.F (by decide +kernel) ?_;walk_at "q";refine Fq hm ro.1 (Res.imp h (λM o _ q=>?_) λc q=>?_)
  ·unfold mD at *;walk_at "q";exact q
  ·walk_at "q";exact q
 |bad w ns =>obtain⟨_,⟨w1,w2,w3,w4⟩,_⟩:=ro;unfold dk.d;walk_at "q";refine R.F (decide_eq_false w1) ?_;walk_at "q";refine R.F (decide_eq_false w2) ?_;walk_at "q";refine R.F (decide_eq_false w3) ?_;walk_at "q";refine R.F (decide_eq_false w4) ?_;walk_at "q";exact h
def iC:WS :=
 (cp (eh 2 (kG cE))
 (cp (sF (dB (aC i5 (aP aG (ak (av 0) (ak (wC (.int 3)) cE))) (wC (.int 6)))) (gN 3)
 (Bz (pS 2) (OO (aP di (ak (eX (dB (wC (.int 6))) (gN 0) x6 (aP aG (ak (av 2) (ak (aC g9 (aC g9 (wC (.int 9)) (aC tS (wC (.int 6)) (av 1))) (av 0)) cE))) 1 [3,0]) (ak (av 1) cE))))))
 (gQ 2)))
theorem uT(r:dk):qV (ML r) r.d=ML r:=by cases r<;>rfl
theorem zP(r:dk):jZ (ML r):=by cases r<;>trivial
def Ki(ns:List Int)(pool:List Str)(k:Nat):dk:=D3 (ns.getD (9+6*k) 0) (ns.getD (9+6*k+1) 0) (ns.getD (9+6*k+2) 0) [ns.getD (9+6*k+3) 0,ns.getD (9+6*k+4) 0,ns.getD (9+6*k+5) 0] pool
def MN(ns:List Int)(pool:List Str):List dk:=(List.range (ns.getD 3 0 % 6).toNat).map (Ki ns pool)
def bR:fo:=λds Q=>∃ (ns:List Int) (pool:List Str),ds=[.list (ns.map .int),.list (pool.map .str)]/\pool.length=6/\(∀ n∈pool,Open n)/\((∀ r∈MN ns pool,r.Ok)->∀ b,Q (.ow b) (.list ((MN ns pool).map dk.d)))
theorem kj (ds Q) (h:bR ds Q):ds.length=["_law_script", "_law_pool"].length:=by obtain⟨_,_,rfl,_⟩:=h;rfl
theorem pA:∀ ds Q,bR ds Q->iC { nx:=λ_=>Q .sh .non,rt:=Q } (aH 4 ds):=by
 rintro ds Q ⟨ns,pool,rfl,hp,ho,h⟩;unfold iC;walk_at "q";refine⟨ns,3,rfl,by decide,?_⟩;unfold MN at h;walk_at "q";have k0:0<=ns.getD 3 0 % 6/\ns.getD 3 0 % 6<6:=by lia
 generalize ns.getD 3 0 % 6=size at *
 refine⟨by lia,by lia,?_⟩;refine bA _ (λi ρ=>∃ (b:Bool) (o:Option Sl),(∀ r∈(List.range i).map (Ki ns pool),r.Ok)/\ρ=[some (.sh (.list (ns.map .int))),some (.sh (.list (pool.map .str))),some (.ow b (.list (((List.range i).map (Ki ns pool)).map dk.d))),o]) ⟨true,_,(λr hr=>nomatch hr),rfl⟩ ?_ ?_
 ·rintro i x ρ hx ⟨b,o,ok,rfl⟩ N hN;obtain⟨hi,rfl⟩:=dq hx;walk_at "q"
  refine aQ (λ_=>true) (λd=>match d with
   |.int j=>.int (ns.getD (9+6*(0+(i:Int))+j).toNat 0)
   |d=>d) (λρ=>∃ o,ρ=[o,some (.sh (.int (0+(i:Int)))),some (.sh (.list (ns.map .int)))]) _ _ _ ⟨_,rfl⟩ ?_ ?_
  ·rintro x hx ρ ⟨o,rfl⟩ N1 N2 _ h2;obtain⟨j,hj⟩:=M0.mp hx;obtain⟨hj,rfl⟩:=dq hj;walk_at "q";refine⟨.inl ⟨by lia,by lia⟩,ns,9+6*(0+(i:Int))+(0+(j:Int)),rfl,by lia,?_⟩;walk_at "q";exact⟨.inl rfl,h2 _ ⟨_,rfl⟩ rfl⟩
  ·rw[cj];have e:∀ j:Nat,(9+6*(0+(i:Int))+(0+(j:Int))).toNat=9+6*i+j:=λj=>by lia
   have el:((eQ 0 6).map λd=>match d with
    |.int j=>D.int (ns.getD (9+6*(0+(i:Int))+j).toNat 0)
    |d=>d)=([ns.getD (9+6*i) 0,ns.getD (9+6*i+1) 0,ns.getD (9+6*i+2) 0,ns.getD (9+6*i+3) 0,ns.getD (9+6*i+4) 0,ns.getD (9+6*i+5) 0]:List Int).map D.int:=by
    rw[<- e 1,<- e 2,<- e 3,<- e 4,<- e 5,show 9+6*i=9+6*i+0 from rfl,<- e 0];rfl
   rw[el];refine⟨_,_,_,_,pool,rfl,rfl,hp,ho,λro=>?_⟩;change (Ki ns pool i).Ok at ro;show cq (ML (Ki ns pool i),(Ki ns pool i).d) _;rw[jb] at hN;generalize Ki ns pool i=r at *
   unfold cq;simp only[uT];walk_at "q";refine⟨zP r,by simp;lia,hN _ ⟨_,_,λq hq=>?_,by rw[oI];rfl⟩⟩;rcases fh.mp hq with hq|hq
   ·exact ok q hq
   ·rw[rV.mp hq];exact ro
 ·rintro ρ ⟨b,o,ok,rfl⟩;rw[eO] at *
  walk_at "q";exact h ok b
def jt:WS :=
 (cp (gv (wB (aC kD (aC cK (av 1) (wC (.int 0))) (wC (.str "right"))))
 (jU bx (ak (av 0) (ak (aC cK (av 1) (wC (.int 1))) (ak (aC cK (av 1) (wC (.int 2))) cE))))
 a_)
 (cp (gv (wB (aC kD (aC cK (av 1) (wC (.int 0))) (wC (.str "left"))))
 (jU bx (ak (aC cK (av 1) (wC (.int 1))) (ak (av 0) (ak (aC cK (av 1) (wC (.int 2))) cE))))
 a_)
 (cp (gv (wB (aC kD (aC cK (av 1) (wC (.int 0))) (wC (.str "hide"))))
 (jU jK (ak (av 0) (ak (aC cK (av 1) (wC (.int 1))) cE)))
 a_)
 (jU dY (ak (av 0) (ak (aC cK (av 1) (wC (.int 1))) cE))))))
theorem y_ {m:Int} {l:List cf} {r:dk} {c:Str} (h:mz m l r=.no c) (g:r.isBad=false):c = "NoDeed"\/c = "TooBig" := by
 have bs:∀ {m n tg l1 l2},BO m n tg l1 l2=.no c->c = "NoDeed"\/c = "TooBig" := λ{m n tg l1 l2} h=>by
  unfold BO at h
  repeat' split at h
  ·cases h
  ·cases h;exact .inr rfl
  ·cases h;exact .inr rfl
  ·cases h;exact .inl rfl
 cases r with
 |right n l2 tg=>exact bs h
 |left n l2 tg=>exact bs h
 |xh ns =>
  simp only[mz] at h;split at h
  ·cases h
  ·cases h;exact .inl rfl
 |BM ps =>
  simp only[mz] at h;split at h
  ·cases h
  ·cases h;exact .inl rfl
 |bad w ns=>cases g
def d8:fo:=λds Q=>∃ (m:Int) (l:List cf) (r:dk),ds=[mD m l,r.d]/\Hm m l/\r.Ok/\r.isBad=false/\(mz m l r).on Q
theorem nH (ds Q) (h:d8 ds Q):ds.length=["_law_m", "_law_row_here"].length:=by obtain⟨_,_,_,rfl,_⟩:=h;rfl
theorem qe:∀ ds Q,d8 ds Q->jt { nx:=λ_=>Q .sh .non,rt:=Q } (aH 2 ds):=by
 rintro ds Q ⟨m,l,r,rfl,hm,ro,nb,h⟩;unfold jt
 cases r with
 |right n l2 tg =>
  obtain⟨n1,n2,hl,so,_⟩:=ro;unfold dk.d mD;walk_at "q";refine ai' hm n1 n2 hl so (Res.imp h (λM o _ q=>?_) λc q=>?_)
  ·unfold mD at *;walk_at "q";exact q
  ·walk_at "q";exact q
 |left n l2 tg =>
  obtain⟨n1,n2,hl,so,_⟩:=ro;unfold dk.d mD;walk_at "q";refine R.F (by decide +kernel) ?_;walk_at "q";refine aj' hm n1 n2 hl so (Res.imp h (λM o _ q=>?_) λc q=>?_)
  ·unfold mD at *;walk_at "q";exact q
  ·walk_at "q";exact q
 |xh ns =>
  unfold dk.d;walk_at "q";refine R.F (by decide +kernel) ?_;walk_at "q";refine R.F (by decide +kernel) ?_;walk_at "q";refine Fi hm ro.1 (Res.imp h (λM o _ q=>?_) λc q=>?_)
  ·unfold mD at *;walk_at "q";exact q
  ·walk_at "q";exact q
 |BM ps =>
  unfold dk.d;walk_at "q";refine R.F (by decide +kernel) ?_;walk_at "q";refine R.F (by decide +kernel) ?_;walk_at "q";refine R.F (by decide +kernel) ?_;walk_at "q";refine Fq hm ro.1 (Res.imp h (λM o _ q=>?_) λc q=>?_)
  ·unfold mD at *;walk_at "q";exact q
  ·walk_at "q";exact q
 |bad w ns=>cases nb
def rN:WS :=
 (cp (eh 2 (oy (ak (aC cK (av 0) (wC (.int 0))) (ak (iF pW (aC cK (av 0) (wC (.int 1)))) cE))))
 (cp (kH 1 (sF (dM (av 1)) (gN 3)
 (Ck 2 pQ (ak (av 2) (ak (av 3) cE)))))
 (gQ 2)))
def eR(m:Int)(l:List cf):List dk->Res
 |[]=>.ok m l
 |r :: rs=>match mz m l r with
  |.ok M o=>eR M o rs
  |.no c=>.no c
theorem qg(m:Int)(l:List cf)(a b:List dk):eR m l (a++b)=match eR m l a with
  |.ok M o=>eR M o b
  |.no c=>.no c:=by
 induction a generalizing m l with
 |nil=>rfl
 |cons r a ih =>
  simp only[Pa,eR]
  cases mz m l r with
  |ok M o=>exact ih M o
  |no c=>rfl
theorem sY{m M:Int}{l o:List cf}{a:List dk}(e:eR m l a=.ok M o)(r:dk):eR m l (a++[r])=mz M o r:=by rw[qg,e];simp only[eR];cases mz M o r<;>rfl
theorem mQ{m M:Int}{l o:List cf}{a b:List dk}{r:dk}{c:Str}(e:eR m l a=.ok M o)(h:mz M o r=.no c):eR m l (a++r :: b)=.no c:=by rw[qg,e];simp only[eR,h]
def gk:fo:=λds Q=>∃ (m:Int) (l:List cf) (rows:List dk),ds=[mD m l,.list (rows.map dk.d)]/\Hm m l/\(∀ r∈rows,r.Ok)/\(eR m l rows).on Q
theorem t8 (ds Q) (h:gk ds Q):ds.length=["m", "frame"].length:=by obtain⟨_,_,_,rfl,_⟩:=h;rfl
theorem yG:∀ ds Q,gk ds Q->rN { nx:=λ_=>Q .sh .non,rt:=Q } (aH 4 ds):=by
 rintro ds Q ⟨m,l,rows,rfl,hm,ro,h⟩;unfold rN mD;walk_at "q";refine .inl ⟨bj _,?_⟩;refine bA _ (λi ρ=>∃ (M:Int) (o:List cf) (o3:Option Sl),eR m l (rows.take i)=.ok M o/\Hm M o/\ρ=[some (.sh (mD m l)),some (.sh (.list (rows.map dk.d))),some (.ow true (mD M o)),o3]) ⟨m,l,_,rfl,hm,rfl⟩ ?_ ?_
 ·rintro i x ρ hx ⟨M,o,o3,fr,hM,rfl⟩ N hN;obtain⟨r,rfl,hr,et,ea⟩:=zJ hx;walk_at "q";refine⟨M,o,r,rfl,hM,ro r hr,?_⟩;have es:=sY fr r
  cases e:mz M o r with
  |ok M2 o2 =>intro h2;unfold mD;walk_at "q";exact hN _ ⟨M2,o2,_,by rw[et,es,e],h2,rfl⟩
  |no c =>unfold Res.on;walk_at "q";rw[ea,mQ fr e] at h;exact h
 ·rintro ρ ⟨M,o,o3,fr,hM,rfl⟩;rw[dn,AG] at fr;walk_at "q";rw[fr] at h;exact h hM
def bU:WS :=
 (cp (eh 3 (wC (.str "machine")))
 (cp (vW (yH 0 (rO d8 (ak (av 0) (ak (av 2) cE)))) "NoDeed" (eh 3 (wC (.str "no deed"))) "TooBig" (eh 3 (wC (.str "too big"))))
 (gv (wB (aC vn (av 3) (wC (.str "machine"))))
 (kh [.inr 3,.inl (wC .non)])
 a_)))
def kY:WS :=
 (cp (kH 1 (sF (dM (av 1)) (gN 2)
 (cp (gv (wB (aC (zo true) (aC cK (av 2) (wC (.int 0))) (oy (ak (wC (.str "right")) (ak (wC (.str "left")) (ak (wC (.str "hide")) (ak (wC (.str "rename")) cE)))))))
 (oz (oy (ak (wC (.str "no frame")) (ak (wC .non) cE))))
 a_)
 bU)))
 (kh [.inl (wC (.str "machine")),.inr 0]))
def knd (c:Str):Str:=if c = "NoFrame" then "no frame" else if c = "NoDeed" then "no deed" else "too big"
def iL:Res->D
 |.ok m l=>.tup [.str "machine",mD m l]
 |.no c=>.tup [.str (knd c),.non]
def cU:fo:=λds Q=>∃ (m:Int) (l:List cf) (rows:List dk),ds=[mD m l,.list (rows.map dk.d)]/\Hm m l/\(∀ r∈rows,r.Ok)/\(∀ md,md=.sh\/md=.ow true->Q md (iL (eR m l rows)))
theorem oH (ds Q) (h:cU ds Q):ds.length=["_law_m", "_law_frame_here"].length:=by obtain⟨_,_,_,rfl,_⟩:=h;rfl
theorem lJ{Q:Md->D->Prop}{N B:Env->Prop}{M:Int}{o:List cf}{r:dk}{sl s1:Sl}{o3:Option Sl}(hM:Hm M o)(ro:r.Ok)(nb:r.isBad=false)(hs:sl=.sh (mD M o)\/sl=.ow true (mD M o))(bT:∀ M2 o2 o3,mz M o r=.ok M2 o2->Hm M2 o2->N [some (.ow true (mD M2 o2)),some s1,some (.sh r.d),o3]) (A3:∀ c,mz M o r=.no c->Q .sh (.tup [.str (knd c),.non])) :
  bU { nx:=N,rt:=Q,bk:=B,ct:=N } [some sl,some s1,some (.sh r.d),o3]:=by
 unfold bU;rcases hs with rfl|rfl;all_goals
  walk_at "q";refine⟨M,o,r,rfl,hM,ro,nb,?_⟩
  cases e:mz M o r with
  |ok M2 o2 =>
   intro z;have q:=bT M2 o2 (some (.sh (.str "machine"))) e z;unfold mD at *
   walk_at "q";exact q
  |no c =>
   have q:=A3 c e;unfold Res.on;walk_at "q";rcases y_ e nb with rfl|rfl
   ·refine .inl ⟨rfl,?_⟩;rw[decide_eq_false (by decide +kernel)];walk_at "q";exact q
   ·refine .inr ⟨rfl,?_⟩;rw[decide_eq_false (by decide +kernel)];walk_at "q";exact q
theorem jC(w:Str)(a b c d:Str):inD (.str w) [.str a,.str b,.str c,.str d]=decide (w∈[a,b,c,d]):=mR w [a,b,c,d]
theorem tQ:∀ ds Q,cU ds Q->kY { nx:=λ_=>Q .sh .non,rt:=Q } (aH 4 ds):=by
 rintro ds Q ⟨m,l,rows,rfl,hm,ro,h⟩;obtain⟨w0,e0⟩:∃ w,w=bU:=⟨_,rfl⟩
 unfold kY;rw[<- e0];walk_at "q";refine bA _ (λi ρ=>∃ (M:Int) (o:List cf) (sl:Sl) (o2 o3:Option Sl),eR m l (rows.take i)=.ok M o/\Hm M o/\(sl=.sh (mD M o)\/sl=.ow true (mD M o))/\ρ=[some sl,some (.sh (.list (rows.map dk.d))),o2,o3]) ⟨m,l,_,_,_,rfl,hm,.inl rfl,rfl⟩ ?_ ?_
 ·rintro i x ρ hx ⟨M,o,sl,o2,o3,fr,hM,hs,rfl⟩ N hN;obtain⟨r,rfl,hr,et,ea⟩:=zJ hx;have es:=sY fr r;have go:∀ B,r.isBad=false->w0 { nx:=N,rt:=Q,bk:=B,ct:=N } [some sl,some (.sh (.list (rows.map dk.d))),some (.sh r.d),o3]:=λB nb=>by rw[e0];refine lJ hM (ro r hr) nb hs (λM2 o2 o3 e h2=>hN _ ⟨M2,o2,_,_,_,by rw[et,es,e],h2,.inr rfl,rfl⟩) λc e=>?_;rw[ea,mQ fr e] at h;exact h _ (.inl rfl)
  have rk:=ro r hr
  cases r with
  |bad w ns =>unfold dk.d;walk_at "q";rw[jC];refine⟨rfl,rfl,?_⟩;obtain⟨_,⟨w1,w2,w3,w4⟩,_⟩:=rk;rw[decide_eq_false (by simp[w1,w2,w3,w4])];walk_at "q";rw[ea,mQ fr (show mz M o (.bad w ns)=.no "NoFrame" from rfl)] at h;exact h _ (.inl rfl)
  |right n l2 tg =>
   have g:=λB=>go B rfl;unfold dk.d mD at *
   walk_at "q";rw[jC,decide_eq_true (by decide +kernel)];refine⟨rfl,rfl,?_⟩;walk_at "q";exact g _
  |left n l2 tg =>
   have g:=λB=>go B rfl;unfold dk.d mD at *
   walk_at "q";rw[jC,decide_eq_true (by decide +kernel)];refine⟨rfl,rfl,?_⟩;walk_at "q";exact g _
  |xh ns =>
   have g:=λB=>go B rfl;unfold dk.d at *
   walk_at "q";rw[jC,decide_eq_true (by decide +kernel)];refine⟨rfl,rfl,?_⟩;walk_at "q";exact g _
  |BM ps =>
   have g:=λB=>go B rfl;unfold dk.d at *
   walk_at "q";rw[jC,decide_eq_true (by decide +kernel)];refine⟨rfl,rfl,?_⟩;walk_at "q";exact g _
 ·rintro ρ ⟨M,o,sl,o2,o3,fr,hM,hs,rfl⟩;rw[dn,AG] at fr;rw[fr] at h;rcases hs with rfl|rfl
  ·unfold mD;walk_at "q";exact h _ (.inl rfl)
  ·unfold mD;walk_at "q";exact h _ (.inr rfl)
def jD:WS :=
 (cp (eh 2 (wC (.str "machine")))
 (cp (eh 3 (wC .non))
 (cp (eh 4 (wC .non))
 (cp (Br 5 (yH 3 (rO gk (ak (av 0) (ak (av 1) cE)))) (λa n=>(cp (eh 4 (kG (ak (Fs 5 a (decide (n = "NoFrame"))) (ak (Fs 5 a (decide (n = "NoDeed"))) (ak (Fs 5 a (decide (n = "TooBig"))) (ak (Fs 5 a true) cE))))))
 (Bz (pS 4) (Fs 5 a (decide (n = "NoMachine") || (decide (n = "NoState") || (decide (n = "NoText") || false))))))))
 (cp (gv (wB (aC kD (av 4) (kG (ak (wC (.bl true)) (ak (wC (.bl false)) (ak (wC (.bl false)) (ak (wC (.bl true)) (ak (wC (.bl false)) cE))))))))
 (eh 2 (wC (.str "no frame")))
 (gv (wB (aC kD (av 4) (kG (ak (wC (.bl false)) (ak (wC (.bl true)) (ak (wC (.bl false)) (ak (wC (.bl true)) (ak (wC (.bl false)) cE))))))))
 (eh 2 (wC (.str "no deed")))
 (gv (wB (aC kD (av 4) (kG (ak (wC (.bl false)) (ak (wC (.bl false)) (ak (wC (.bl true)) (ak (wC (.bl true)) (ak (wC (.bl false)) cE))))))))
 (eh 2 (wC (.str "too big")))
 (gv (wB (aC Bc (av 4) (wC .non)))
 (eh 2 (wC (.str "wrong")))
 a_))))
 (kh [.inr 2,.inr 3]))))))
def Ap:Res->Md
 |.ok _ _=>.ow true
 |.no _=>.sh
theorem Ec {m:Int} {l:List cf} {rows:List dk} {c:Str} (h:eR m l rows=.no c):c = "NoDeed"\/c = "TooBig"\/c = "NoFrame" := by
 induction rows generalizing m l with
 |nil=>cases h
 |cons r rs ih =>
  simp only[eR] at h
  cases e:mz m l r with
  |ok M o=>rw[e] at h;exact ih h
  |no d =>
   rw[e] at h;cases h
   cases hb:r.isBad with
   |false=>exact(y_ e hb).imp id .inl
   |true =>
    cases r with
    |bad w ns=>cases e;exact .inr (.inr rfl)
    |_=>cases hb
def aV:fo:=λds Q=>∃ (m:Int) (l:List cf) (rows:List dk),ds=[mD m l,.list (rows.map dk.d)]/\Hm m l/\(∀ r∈rows,r.Ok)/\((∀ M o,eR m l rows=.ok M o->Hm M o)->Q (Ap (eR m l rows)) (iL (eR m l rows)))
theorem mL (ds Q) (h:aV ds Q):ds.length=["_law_m", "_law_frame_here"].length:=by obtain⟨_,_,_,rfl,_⟩:=h;rfl
theorem pO:∀ ds Q,aV ds Q->jD { nx:=λ_=>Q .sh .non,rt:=Q } (aH 6 ds):=by
 rintro ds Q ⟨m,l,rows,rfl,hm,ro,h⟩;unfold jD;walk_at "q";refine⟨m,l,rows,rfl,hm,ro,?_⟩
 cases e:eR m l rows with
 |ok M o =>
  intro z;rw[e] at h;have q:=h λM' o' e'=>by cases e';exact z
  unfold iL mD at q;unfold mD;walk_at "q";refine⟨by decide +kernel,by decide +kernel,R.F (by decide +kernel) ?_⟩;walk_at "q";refine⟨by decide +kernel,by decide +kernel,R.F (by decide +kernel) ?_⟩;walk_at "q";refine⟨by decide +kernel,by decide +kernel,R.F (by decide +kernel) ?_⟩;walk_at "q";exact q
 |no c =>
  rw[e] at h;have q:=h λM' o' e'=>nomatch e';unfold Res.on;walk_at "q";rcases Ec e with rfl|rfl|rfl
  ·intro a;walk_at "q";refine⟨by decide +kernel,by decide +kernel,R.F (by decide +kernel) ?_⟩;walk_at "q";refine⟨by decide +kernel,by decide +kernel,R.T (by decide +kernel) ?_⟩;walk_at "q";exact q
  ·intro a;walk_at "q";refine⟨by decide +kernel,by decide +kernel,R.F (by decide +kernel) ?_⟩;walk_at "q";refine⟨by decide +kernel,by decide +kernel,R.F (by decide +kernel) ?_⟩;walk_at "q";refine⟨by decide +kernel,by decide +kernel,R.T (by decide +kernel) ?_⟩;walk_at "q";exact q
  ·intro a;walk_at "q";refine⟨by decide +kernel,by decide +kernel,R.T (by decide +kernel) ?_⟩;walk_at "q";exact q
def jf:WS :=
 (cp (eh 12 (wU gk (ak (av 6) (ak (kG cE) cE))))
 (cp (gv (wB (aC vn (av 12) (av 4)))
 (oz (wC (.bl false)))
 a_)
 (cp (sX (QQ (pS 12) (wC (.int 1))))
 (oz (uF (aC kD (av 6) (av 4)) (uF (aC kD (aP aV (ak (av 6) (ak (av 5) cE))) (av 7)) (aC kD (aC cK (av 7) (wC (.int 1))) (av 8))))))))
def i_:WS :=
 (cp (iU 11 (aC g9 (av 5) (OO (kG (ak (OO (aP di (ak (eX (oU (wC (.int 3)) (wC (.int 9))) (gN 0) x6 (aP aG (ak (av 1) (ak (av 0) cE))) 1 [0]) (ak (av 3) cE)))) cE)))))
 (cp (gv (wB (aC vn (aP aV (ak (av 6) (ak (av 11) cE))) (aP cU (ak (av 4) (ak (av 11) cE)))))
 (oz (wC (.bl false)))
 a_)
 jf))
def je:WS :=
 (cp (gv (wB (aC kD (aC cK (av 10) (wC (.int 0))) (wC (.str "machine"))))
 (iU 10 (aP aV (ak (aC cK (av 10) (wC (.int 1))) (ak (zv (av 5) (fQ (av 9)) cT) cE))))
 a_)
 (cp (gv (wB (aC vn (av 10) (av 7)))
 (oz (wC (.bl false)))
 a_)
 i_))
def iZ:WS :=
 (cp (eh 9 (aC i5 (aP aG (ak (av 0) (ak (wC (.int 4)) cE))) (aC g9 (iF sD (av 5)) (wC (.int 1)))))
 (cp (iU 10 (aP aV (ak (av 6) (ak (zv (av 5) cT (fQ (av 9))) cE))))
 je))
def nJ:WS :=
 (cp (iU 8 (wC .non))
 (cp (gv (wB (aC kD (aC cK (av 7) (wC (.int 0))) (wC (.str "machine"))))
 (cp (gv (Mq (II (wB (iF (Oh "tuple") (aC cK (av 7) (wC (.int 1)))))) (II (wB (iF (Oh "list") (aC cK (aC cK (av 7) (wC (.int 1))) (wC (.int 1)))))))
 (oz (wC (.bl false)))
 a_)
 (iU 8 (oy (ak (aC cK (aC cK (av 7) (wC (.int 1))) (wC (.int 0))) (ak (iF pW (aC cK (aC cK (av 7) (wC (.int 1))) (wC (.int 1)))) cE)))))
 a_)
 iZ))
def mq:WS :=
 (cp (gv (Mq (wB (aC vn (av 7) (aP cU (ak (av 4) (ak (av 5) cE))))) (Mq (wB (aC vn (av 6) (av 4))) (wB (aC vn (av 5) (aP bR (ak (av 0) (ak (av 3) cE)))))))
 (oz (wC (.bl false)))
 a_)
 nJ)
def mV:WS :=
 (cp (kH 2 (iU 6 (oy (ak (av 2) (ak (iF pW (aC cK (av 4) (wC (.int 1)))) cE)))))
 (cp (iU 7 (aP aV (ak (av 6) (ak (av 5) cE))))
 mq))
def mF:WS :=
 (cp (kH 2 (iU 4 (oy (ak (av 2) (ak (iF cA (aP bV (ak (zv (av 0) (fQ (wC (.int 39))) (fQ (wC (.int 64)))) (ak (av 2) (ak (aC g9 (kG (ak (wC (.str "*")) cE)) (zv (av 3) cT (fQ (wC (.int 5))))) cE))))) cE)))))
 (cp (iU 5 (aP bR (ak (av 0) (ak (av 3) cE))))
 mV))
def Fv:WS :=
 (cp (eh 1 (aP aG (ak (av 0) (ak (wC (.int 0)) cE))))
 (cp (eh 2 (aC g9 (wC (.int 1)) (aC i5 (av 1) (aC cK (kG (ak (wC (.int 5)) (ak (wC (.int 20)) cE))) (iF Rc (aC kD (aC i5 (aC ox (av 1) (wC (.int 20))) (wC (.int 8))) (wC (.int 3))))))))
 (cp (iU 3 (aP dg (ak (aP aG (ak (av 0) (ak (wC (.int 1)) cE))) (ak (aP aG (ak (av 0) (ak (wC (.int 2)) cE))) cE))))
 mF)))
abbrev OZ:fo:=ZD
structure Kj(ns:List Int)(pool:List Str)(m:Int)(l:List cf)(rows:List dk):Prop where
 hp:pool.length=6
 ho:∀ n∈pool,Open n
 hm:Hm m l
 fr:MN ns pool=rows
 rk:∀ r∈rows,r.Ok
 len:rows.length<=5
def MP:Res->D
 |.ok m l=>mD m l
 |.no _=>.non
theorem wO {c:Str}:PyData.strOk (knd c)=true/\knd c ≠ "machine" := by
 unfold knd
 repeat' split
 all_goals decide +kernel
theorem gR {M:Int} {o:List cf} (h:Hm M o):dE 12 (D.tup [.str "machine",.tup [.int M,.list (o.map d4)]])=true:=by have:=Rm 8 h.ok;unfold mD at this;simp only[dE,r0,EA,yA,ja] at this ⊢;exact⟨by decide +kernel,this⟩
theorem j6(c:Str):dE 12 (D.tup [.str (knd c),.non])=true:=by simp only[dE,r0,EA,yA];exact wO.1
theorem qY (M:Int) (o:List cf):kC (D.tup [.str "machine",.tup [.int M,.list (o.map d4)]]) (D.tup [.str "machine",.tup [.int M,.list (o.map d4)]])=true :=
 eq_self (by have:=UH M o;unfold mD at this;simp only[D.nb,qB,yA,Bool.true_and] at this ⊢;exact this)
theorem uv(c:Str):kC (D.tup [.str (knd c),.non]) (D.tup [.str (knd c),.non])=true:=eq_self rfl
theorem rD{Q:Md->D->Prop}{ns:List Int}{c0 m:Int}{pool:List Str}{l:List cf}{rows:List dk}{o9 o10 o11:Option Sl}(C:Kj ns pool m l rows)(hr:∀ M o,eR m l rows=.ok M o->Hm M o)(h:∀ m,Q m (.bl true)) :
  jf { nx:=λ_=>Q .sh .non,rt:=Q } [some (.sh (.list (ns.map .int))),some (.sh (.int c0)),some (.sh (.int m)),some (.sh (.list (pool.map .str))),some (.sh (mD m l)),some (.sh (.list (rows.map dk.d))),some (.sh (mD m l)),some (.sh (iL (eR m l rows))),some (.sh (MP (eR m l rows))),o9,o10,o11,none]:=by
 unfold jf;have om:=UI C.hm.ok
 cases e:eR m l rows with
 |ok M o =>have hM:=hr M o e;have oM:=UI hM.ok;unfold iL MP mD;walk_at "q";refine⟨m,l,[],rfl,C.hm,(λr hr=>nomatch hr),λ_=>?_⟩;unfold mD;walk_at "q";refine⟨om,om,?_⟩;rw[JY];walk_at "q";refine⟨1,_,rfl,rfl,?_⟩;walk_at "q";refine⟨om,om,?_⟩;rw[JY];walk_at "q";refine⟨m,l,rows,rfl,C.hm,C.rk,λ_=>?_⟩;rw[e];unfold Ap iL mD;walk_at "q";refine⟨gR hM,gR hM,?_⟩;rw[qY];walk_at "q";refine⟨oM,oM,?_⟩;rw[JY];exact h _
 |no c =>unfold iL MP mD;walk_at "q";refine⟨m,l,[],rfl,C.hm,(λr hr=>nomatch hr),λ_=>?_⟩;unfold mD;walk_at "q";refine⟨om,om,?_⟩;rw[JY];walk_at "q";refine⟨1,_,rfl,rfl,?_⟩;walk_at "q";refine⟨om,om,?_⟩;rw[JY];walk_at "q";refine⟨m,l,rows,rfl,C.hm,C.rk,λ_=>?_⟩;rw[e];unfold Ap iL;walk_at "q";refine⟨j6 c,j6 c,?_⟩;rw[uv];walk_at "q";refine⟨rfl,rfl,?_⟩;rw[show kC D.non D.non=true from by decide +kernel];exact h _
theorem sW{Q:Md->D->Prop}{ns:List Int}{c0 m:Int}{pool:List Str}{l:List cf}{rows:List dk}{d9 d10:D}(C:Kj ns pool m l rows)(hr:∀ M o,eR m l rows=.ok M o->Hm M o)(h:∀ m,Q m (.bl true)) :
  i_ { nx:=λ_=>Q .sh .non,rt:=Q } [some (.sh (.list (ns.map .int))),some (.sh (.int c0)),some (.sh (.int m)),some (.sh (.list (pool.map .str))),some (.sh (mD m l)),some (.sh (.list (rows.map dk.d))),some (.sh (mD m l)),some (.sh (iL (eR m l rows))),some (.sh (MP (eR m l rows))),some (.sh d9),some (.sh d10),none,none]:=by
 obtain⟨w16,UM⟩:∃ w,w=jf:=⟨_,rfl⟩
 unfold i_;rw[<- UM];walk_at "q"
 refine aQ (λ_=>true) (λd=>match d with
  |.int j=>.int (ns.getD j.toNat 0)
  |d=>d) (λρ=>∃ o,ρ=[o,some (.sh (.list (ns.map .int)))]) _ _ _ ⟨_,rfl⟩ ?_ ?_
 ·rintro x hx ρ ⟨o,rfl⟩ N1 N2 _ h2;obtain⟨j,hj⟩:=M0.mp hx;obtain⟨hj,rfl⟩:=dq hj;walk_at "q";refine⟨ns,3+(j:Int),rfl,by lia,?_⟩;walk_at "q";exact⟨.inl rfl,h2 _ ⟨_,rfl⟩ rfl⟩
 ·rw[cj];refine⟨ns.getD 3 0,ns.getD 4 0,ns.getD 5 0,[ns.getD 6 0,ns.getD 7 0,ns.getD 8 0],pool,rfl,rfl,C.hp,C.ho,λro=>?_⟩;generalize D3 (ns.getD 3 0) (ns.getD 4 0) (ns.getD 5 0) [ns.getD 6 0,ns.getD 7 0,ns.getD 8 0] pool=r at *
  unfold cq;simp only[uT];walk_at "q";have rk:∀ q∈rows++[r],q.Ok:=λq hq=>(fh.mp hq).elim (C.rk q) λz=>by rw[rV.mp z];exact ro
  have er:rows.map dk.d++[r.d]=(rows++[r]).map dk.d:=by rw[oI];rfl
  refine⟨zP r,by have:=C.len;lia,.inr ⟨m,l,rows++[r],by rw[er],C.hm,rk,λhr'=>?_⟩⟩
  cases e:eR m l (rows++[r]) with
  |ok M o =>
   have hM:=hr' M o e;unfold Ap iL mD;walk_at "q";refine⟨m,l,rows++[r],by rw[er];rfl,C.hm,rk,?_⟩;rw[e];unfold iL mD;rintro _ (rfl|rfl);all_goals
    walk_at "q";refine⟨gR hM,gR hM,?_⟩;rw[qY];walk_at "q";rw[UM];exact rD C hr h
  |no c =>
   unfold Ap iL mD;walk_at "q";refine⟨m,l,rows++[r],by rw[er];rfl,C.hm,rk,?_⟩;rw[e];unfold iL;rintro _ (rfl|rfl);all_goals
    walk_at "q";refine⟨j6 c,j6 c,?_⟩;rw[uv];walk_at "q";rw[UM];exact rD C hr h
theorem Dv{α:Type}(xs:List α){k:Nat}(h:k<=xs.length):hV xs none (some (k:Int))=xs.take k:=by unfold hV;simp only[HT.cv];rw[if_neg (by lia),Pj,show min ((k:Int)).toNat xs.length-0=k by lia]
theorem yl{α:Type}(xs:List α){k:Nat}(h:k<=xs.length):hV xs (some (k:Int)) none=xs.drop k:=by unfold hV;simp only[HT.cv];rw[if_neg (by lia),show min ((k:Int)).toNat xs.length=k by lia];exact FU (by rw[xt];lia)
theorem x_{Q:Md->D->Prop}{ns:List Int}{c0 m:Int}{pool:List Str}{l:List cf}{rows:List dk}{k:Nat}(C:Kj ns pool m l rows)(hr:∀ M o,eR m l rows=.ok M o->Hm M o)(hk:k<=rows.length)(N7:∀ M o,eR m l (rows.take k)=.ok M o->Hm M o)(h:∀ m,Q m (.bl true)) :
  je { nx:=λ_=>Q .sh .non,rt:=Q } [some (.sh (.list (ns.map .int))),some (.sh (.int c0)),some (.sh (.int m)),some (.sh (.list (pool.map .str))),some (.sh (mD m l)),some (.sh (.list (rows.map dk.d))),some (.sh (mD m l)),some (.sh (iL (eR m l rows))),some (.sh (MP (eR m l rows))),some (.sh (.int k)),some (.sh (iL (eR m l (rows.take k)))),none,none]:=by
 obtain⟨w14,Ro⟩:∃ w,w=i_:=⟨_,rfl⟩
 unfold je;rw[<- Ro];have ap:eR m l (rows.take k++rows.drop k)=_:=qg m l (rows.take k) (rows.drop k);rw[FV] at ap
 cases e1:eR m l (rows.take k) with
 |ok M o =>
  rw[e1] at ap;change eR m l rows=eR M o (rows.drop k) at ap;unfold iL mD;walk_at "q";refine .inr ⟨M,o,rows.drop k,by rw[yl _ (by rw[dn];exact hk),LG];rfl,N7 M o e1,λr hr=>C.rk r (K2 hr),λ_=>?_⟩;rw[<- ap];have fin:=λd9 d10=>sW (c0:=c0) (d9:=d9) (d10:=d10) C hr h
  cases e:eR m l rows with
  |ok M2 o2 =>have hM:=hr M2 o2 e;rw[e] at fin;unfold Ap iL mD;walk_at "q";refine⟨gR hM,gR hM,?_⟩;rw[qY];walk_at "q";rw[Ro];exact fin _ _
  |no c =>rw[e] at fin;unfold Ap iL;walk_at "q";refine⟨j6 c,j6 c,?_⟩;rw[uv];walk_at "q";rw[Ro];exact fin _ _
 |no c =>rw[e1] at ap;change eR m l rows=.no c at ap;have fin:=λd9 d10=>sW (c0:=c0) (d9:=d9) (d10:=d10) C hr h;rw[ap] at fin ⊢;unfold iL mD;walk_at "q";refine R.F (decide_eq_false wO.2) ?_;walk_at "q";refine⟨j6 c,j6 c,?_⟩;rw[uv];walk_at "q";rw[Ro];exact fin _ _
theorem yg{Q:Md->D->Prop}{ns:List Int}{c0 m:Int}{pool:List Str}{l:List cf}{rows:List dk}(C:Kj ns pool m l rows)(hr:∀ M o,eR m l rows=.ok M o->Hm M o)(h:∀ m,Q m (.bl true)) :
  iZ { nx:=λ_=>Q .sh .non,rt:=Q } [some (.sh (.list (ns.map .int))),some (.sh (.int c0)),some (.sh (.int m)),some (.sh (.list (pool.map .str))),some (.sh (mD m l)),some (.sh (.list (rows.map dk.d))),some (.sh (mD m l)),some (.sh (iL (eR m l rows))),some (.sh (MP (eR m l rows))),none,none,none,none]:=by
 obtain⟨w12,UN⟩:∃ w,w=je:=⟨_,rfl⟩
 unfold iZ;rw[<- UN];walk_at "q";refine⟨ns,4,rfl,by decide,?_⟩;walk_at "q";have b1:=sd (ns.getD 4 0) (show(rows.length:Int)+1≠0 by lia);have b2:=n5 (ns.getD 4 0) (show(0:Int)<(rows.length:Int)+1 by lia);obtain⟨k,ek⟩:=Int.eq_ofNat_of_zero_le b1;rw[ek] at b2 ⊢;have hk:k<=rows.length:=by lia
 refine⟨by lia,.inr ⟨m,l,rows.take k,by rw[Dv _ (by rw[dn];exact hk),LD],C.hm,λr hr=>C.rk r (Lc hr),λN7=>?_⟩⟩;have fin:=x_ (c0:=c0) C hr hk N7 h
 cases e:eR m l (rows.take k) with
 |ok M o =>rw[e] at fin;unfold Ap iL mD;walk_at "q";rw[UN];exact fin
 |no c =>rw[e] at fin;unfold Ap iL;walk_at "q";rw[UN];exact fin
theorem Bv{Q:Md->D->Prop}{ns:List Int}{c0 m:Int}{pool:List Str}{l:List cf}{rows:List dk}(C:Kj ns pool m l rows)(hr:∀ M o,eR m l rows=.ok M o->Hm M o)(h:∀ m,Q m (.bl true)) :
  nJ { nx:=λ_=>Q .sh .non,rt:=Q } [some (.sh (.list (ns.map .int))),some (.sh (.int c0)),some (.sh (.int m)),some (.sh (.list (pool.map .str))),some (.sh (mD m l)),some (.sh (.list (rows.map dk.d))),some (.sh (mD m l)),some (.sh (iL (eR m l rows))),none,none,none,none,none]:=by
 obtain⟨w10,UO⟩:∃ w,w=iZ:=⟨_,rfl⟩
 unfold nJ;rw[<- UO];have fin:=yg (c0:=c0) C hr h
 cases e:eR m l rows with
 |ok M o =>rw[e] at fin;unfold iL mD;walk_at "q";refine R.F (by decide +kernel) ?_;walk_at "q";refine R.F (by decide +kernel) ?_;walk_at "q";rw[UO];exact .inr fin
 |no c =>rw[e] at fin;unfold iL;walk_at "q";refine R.F (decide_eq_false wO.2) ?_;walk_at "q";rw[UO];exact fin
theorem jc{n:Nat}{l:List Str}(h:∀ x∈l,rL x):dE (n+1) (.list (l.map D.str))=true:=by simp only[dE,Nb,B5];intro x hx;show dE n (.str x)=true;cases n<;>exact h x hx
theorem zZ{rows:List dk}(h:∀ r∈rows,r.Ok):dE 12 (.list (rows.map dk.d))=true:=by
 simp only[dE,Nb,B5];intro r hr;have rk:=h r hr;show dE 11 r.d=true
 cases r with
 |right n l tg =>
  have a:=Rm 7 rk.2.2.2.1;have b:=jc (n:=9) rk.2.2.2.2.2;simp only[dk.d,dE,r0,EA,yA,ja] at *
  exact⟨by decide +kernel,a,b⟩
 |left n l tg =>
  have a:=Rm 7 rk.2.2.2.1;have b:=jc (n:=9) rk.2.2.2.2.2;simp only[dk.d,dE,r0,EA,yA,ja] at *
  exact⟨by decide +kernel,a,b⟩
 |xh ns =>
  have b:=jc (n:=9) rk.2;simp only[dk.d,dE,r0,EA,yA,ja] at *
  exact⟨by decide +kernel,b⟩
 |BM ps =>simp only[dk.d,dE,r0,EA,yA,ja,Nb,B5];refine⟨by decide +kernel,λp hp=>?_⟩;have:=rk.2 p hp;simp only[Function.comp,t5,dE,r0,EA,yA,ja];exact this
 |bad w ns =>
  have b:=jc (n:=9) rk.2.2.2;simp only[dk.d,dE,r0,EA,yA,ja] at *
  exact⟨rk.1,b,b⟩
theorem uN:∀ (l:List Str),qB (l.map D.str)=true
 |[]=>rfl
 |x :: l=>by simp[qB,uN l,D.nb]
theorem uI:∀ rows:List dk,qB (rows.map dk.d)=true
 |[]=>rfl
 |r :: rows=>by
  have:=uI rows;have h1:r.d.nb=true:=by cases r<;>simp[dk.d,D.nb,qB,uN,vX,UH]
  simp[qB,this,h1]
theorem uW(rows:List dk):kC (.list (rows.map dk.d)) (.list (rows.map dk.d))=true:=eq_self (x:=.list (rows.map dk.d)) (uI rows)
theorem Am{Q:Md->D->Prop}{ns:List Int}{c0 m:Int}{pool:List Str}{l:List cf}{rows:List dk}(C:Kj ns pool m l rows)(hr:∀ M o,eR m l rows=.ok M o->Hm M o)(h:∀ m,Q m (.bl true)) :
  mq { nx:=λ_=>Q .sh .non,rt:=Q } [some (.sh (.list (ns.map .int))),some (.sh (.int c0)),some (.sh (.int m)),some (.sh (.list (pool.map .str))),some (.sh (mD m l)),some (.sh (.list (rows.map dk.d))),some (.sh (mD m l)),some (.sh (iL (eR m l rows))),none,none,none,none,none]:=by
 obtain⟨w8,e8⟩:∃ w,w=nJ:=⟨_,rfl⟩
 unfold mq;rw[<- e8];have fin:=Bv (c0:=c0) C hr h;have om:=UI C.hm.ok;have Rp:=zZ C.rk
 cases e:eR m l rows with
 |ok M o =>
  have hM:=hr M o e;rw[e] at fin;unfold iL mD;walk_at "q";refine⟨m,l,rows,rfl,C.hm,C.rk,?_⟩;rw[e];unfold iL mD;rintro _ (rfl|rfl);all_goals
   walk_at "q";refine⟨gR hM,gR hM,?_⟩;rw[qY];walk_at "q";refine⟨om,om,?_⟩;rw[JY];walk_at "q";refine⟨ns,pool,rfl,C.hp,C.ho,λ_ b=>?_⟩;rw[C.fr];walk_at "q";refine⟨Rp,Rp,?_⟩;rw[uW];walk_at "q";rw[e8];exact fin
 |no c =>
  rw[e] at fin;unfold iL mD;walk_at "q";refine⟨m,l,rows,rfl,C.hm,C.rk,?_⟩;rw[e];unfold iL;rintro _ (rfl|rfl);all_goals
   walk_at "q";refine⟨j6 c,j6 c,?_⟩;rw[uv];walk_at "q";refine⟨om,om,?_⟩;rw[JY];walk_at "q";refine⟨ns,pool,rfl,C.hp,C.ho,λ_ b=>?_⟩;rw[C.fr];walk_at "q";refine⟨Rp,Rp,?_⟩;rw[uW];walk_at "q";rw[e8];exact fin
theorem Cy{Q:Md->D->Prop}{ns:List Int}{c0 m:Int}{pool:List Str}{l:List cf}{rows:List dk}(C:Kj ns pool m l rows)(h:∀ m,Q m (.bl true)) :
  mV { nx:=λ_=>Q .sh .non,rt:=Q } [some (.sh (.list (ns.map .int))),some (.sh (.int c0)),some (.sh (.int m)),some (.sh (.list (pool.map .str))),some (.sh (mD m l)),some (.sh (.list (rows.map dk.d))),none,none,none,none,none,none,none]:=by
 obtain⟨w7,e7⟩:∃ w,w=mq:=⟨_,rfl⟩
 unfold mV;rw[<- e7];unfold mD;walk_at "q";refine .inl ⟨bj _,?_⟩;refine⟨m,l,rows,rfl,C.hm,C.rk,λhr=>?_⟩;have fin:=Am (c0:=c0) C hr h
 cases e:eR m l rows with
 |ok M o =>rw[e] at fin;unfold Ap iL mD;walk_at "q";rw[e7];exact fin
 |no c =>rw[e] at fin;unfold Ap iL;walk_at "q";rw[e7];exact fin
theorem wj(ns:List Int):(hV ns (some 39) (some 64)).length<=25:=by unfold hV;rw[ly];simp only[HT.cv];rw[if_neg (by lia),if_neg (by lia)];lia
theorem Ci(ns:List Int)(pool:List Str):(MN ns pool).length<=5:=by have:=n5 (ns.getD 3 0) (show(0:Int)<6 by decide);simp[MN];lia
theorem xj{Q:Md->D->Prop}{ns:List Int}{c0 m:Int}{pool:List Str}(m1:1<=m)(m2:m<=20)(hp:pool.length=6)(ho:∀ n∈pool,Open n)(h:∀ m,Q m (.bl true)) :
  mF { nx:=λ_=>Q .sh .non,rt:=Q } [some (.sh (.list (ns.map .int))),some (.sh (.int c0)),some (.sh (.int m)),some (.sh (.list (pool.map .str))),none,none,none,none,none,none,none,none,none]:=by
 obtain⟨w5,e5⟩:∃ w,w=mV:=⟨_,rfl⟩
 unfold mF;rw[<- e5];walk_at "q";rw[ph,wL];have cl:=wj ns;have pl:=gf pool none (some 5);have pm:=λx (hx:x∈hV pool none (some 5))=>vO hx;generalize hV ns (some 39) (some 64)=cells at *
 generalize hV pool none (some 5)=An at *
 refine .inl ⟨ju ns,.inl ⟨dO pool,by rw[dn];lia,.inl ⟨dO An,cells,m,("*" : Str) :: An,rfl,by lia,m1,m2,by simp,by simp;lia,?_⟩⟩⟩;have so:=zf (cells:=cells) (many:=m) (names:=("*" : Str) :: An) m1 (by simp) λd hd=>by
  rcases eM.mp hd with hd|hd
  ·exact .inl hd
  ·exact .inr (ho d (pm d hd))
 have sl:=wD cells m (("*" : Str) :: An);generalize FD cells m (("*" : Str) :: An)=l at *
 walk_at "q";obtain⟨ks,sh,a1,a2,a3,a4⟩:=nG (l:=l) (λxs=>∀ ms:List (List Key),ms.map mh=xs->∃ out,mw l out/\ms.map mh=out.map d4) (by lia) λout M ms e=>⟨out,M,e⟩
 refine⟨ks,sh,a1,a2,a3,λOY nd mm pw=>?_⟩;obtain⟨out,M,e'⟩:=a4 OY nd mm pw OY rfl;rw[e'];have ol:=M.len;refine⟨ns,pool,rfl,hp,ho,λrk b=>?_⟩;walk_at "q";rw[e5];exact Cy ⟨hp,ho,⟨m1,m2,λs hs=>so s ((M.2.1 s).mp hs),by lia,M.1,λ_=>.rfl,M.2.2⟩,rfl,rk,Ci ns pool⟩ h
theorem Bu (ds Q) (h:OZ ds Q):ds.length=["_law_script"].length:=by obtain⟨_,rfl,_⟩:=h;rfl
theorem Gm:∀ ds Q,OZ ds Q->Fv { nx:=λ_=>Q .sh .non,rt:=Q } (aH 13 ds):=by
 rintro ds Q ⟨ns,rfl,hl,h⟩;obtain⟨w3,e3⟩:∃ w,w=mF:=⟨_,rfl⟩
 unfold Fv;rw[<- e3];walk_at "q";refine⟨ns,0,rfl,by decide,?_⟩;generalize ns.getD _ 0=c0;walk_at "q";by_cases z:c0 / 20 % 8=3
 ·rw[decide_eq_true z];refine⟨.int 20,rfl,?_⟩;walk_at "q";refine⟨ns,1,rfl,by decide,?_⟩;generalize ns.getD _ 0=c1;walk_at "q";refine⟨ns,2,rfl,by decide,?_⟩;generalize ns.getD _ 0=c2;walk_at "q";refine⟨c1,c2,rfl,λpool hp ho nd=>?_⟩;walk_at "q";rw[e3];exact xj (by lia) (by lia) hp ho h
 ·rw[decide_eq_false z];refine⟨.int 5,rfl,?_⟩;walk_at "q";refine⟨ns,1,rfl,by decide,?_⟩;generalize ns.getD _ 0=c1;walk_at "q";refine⟨ns,2,rfl,by decide,?_⟩;generalize ns.getD _ 0=c2;walk_at "q";refine⟨c1,c2,rfl,λpool hp ho nd=>?_⟩;walk_at "q";rw[e3];exact xj (by lia) (by lia) hp ho h
def top(i:Nat):Stmt:=PySem.Challenge.pw_kinlook_k17_rows_of_a_frame.main.body.getD i (.Pass ⟨0,0,0,0⟩)
abbrev qz:Stmt:=top 44
abbrev rn:List Str:=["NoDeed", "NoFrame", "TooBig"]
structure Txt(K:aI)(mg:Str->Option ah):Prop where
 UQ:mg "ValueError" = none
 UR:mg "all" = none
 UT:mg "int" = none
 BQ:mg "isinstance" = none
 yb:mg "len" = none
 MQ:mg "list" = none
 xk:mg "range" = none
 Kk:mg "set" = none
 Kn:mg "sorted" = none
 UU:mg "str" = none
 UW:mg "tuple" = none
 UX:Qm mg "HIDDEN" "*"
 UY:Qm mg "LETTERS" "abcdefghijklmnopqrstuvwxyz"
 UZ:Mb mg "MOST_LETTERS" 6
 U0:Mb mg "MOST_STATES" 20
 U4:Mb mg "MOST_STEPS" 80
 U5:Mb mg "MOST_OPEN_DEEDS" 6
 gR':Q9 K mg "NoDeed"
 gS':Q9 K mg "NoFrame"
 U6:Q9 K mg "TooBig"
 gT':tR K mg rn "KinError"
 gU':tR K mg ["NoDeed"] "NoDeed"
 gV':tR K mg ["TooBig"] "TooBig"
 gW':ac' K mg "TooBig" "NoDeed"
 gX':∀ n C,n∈rn->mg n=some (.ref C)->i3 K (.ref C) (.type "ValueError")=some true
 gY':∀ n C,n∈rn->mg n=some (.ref C)->∃ c,mg "TooBig" = some (.ref c)/\i3 K (.ref C) (.ref c)=some (decide (n = "TooBig"))
 gZ':∀ n C,n∈rn->mg n=some (.ref C)->∃ c,mg "NoDeed" = some (.ref c)/\i3 K (.ref C) (.ref c)=some (decide (n = "NoDeed"))
 ha':∀ n C,n∈rn->mg n=some (.ref C)->∃ c,mg "NoFrame" = some (.ref c)/\i3 K (.ref C) (.ref c)=some (decide (n = "NoFrame"))
 hb':∀ n C,n∈rn->mg n=some (.ref C)->∃ c,mg "NoMachine" = some (.ref c)/\i3 K (.ref C) (.ref c)=some (decide (n = "NoMachine"))
 hf':∀ n C,n∈rn->mg n=some (.ref C)->∃ c,mg "NoState" = some (.ref c)/\i3 K (.ref C) (.ref c)=some (decide (n = "NoState"))
 hg':∀ n C,n∈rn->mg n=some (.ref C)->∃ c,mg "NoText" = some (.ref c)/\i3 K (.ref C) (.ref c)=some (decide (n = "NoText"))
abbrev FA(K:aI)(x:Str)(s:Stmt):Prop:=∃ (f:ag) (oc:ah) (od an:Option ag) (y3:Array (Option ah)) (kV doc pm dr ct:ah),kf K fR x=some (some (.ref f))/\K.lookup f=some ⟨oc,od,.func (ui x x (x3 s) (qo s) (gX s) .none kV doc pm an dr ct),y3⟩/\KW K dr x=true/\D7 K (.ref f)=true
theorem bO{K:aI}{h:cS}{mg:Str->Option ah}{x:Str}{s:Stmt}(X:K.In h)(G:h.Ns fR mg)(a:FA K x s):∃ f fd,mg x=some (.ref f)/\tF K x x s f fd:=by obtain⟨f,_,_,_,_,_,_,_,_,_,a,l,c,k⟩:=a;exact⟨_,_,sQ X G a,Wo l c k⟩
theorem Gx{K:aI}{x:Str}{s:Stmt}{f:ag}{oc:ah}{od an:Option ag}{y3:Array (Option ah)}{kV doc pm dr ct:ah}(a:kf K fR x=some (some (.ref f)))(l:K.lookup f=some ⟨oc,od,.func (ui x x (x3 s) (qo s) (gX s) .none kV doc pm an dr ct),y3⟩)(c:KW K dr x=true)(k:D7 K (.ref f)=true):FA K x s:=⟨_,_,_,_,_,_,_,_,_,_,a,l,c,k⟩
set_option maxHeartbeats 0 in
theorem all_mk {l:Rz} {w:dA} {K:aI} {h:cS} {mg:Str->Option ah} {fa:ag} (X:K.In h) (G:h.Ns fR mg) (hfa:mg "law" = some (.ref fa))(a0:FA K "is_open" (top 12))(a1:FA K "check_bounds" (top 17))(a2:FA K "deeds_of" (top 18))(a3:FA K "check_open" (top 20))(a4:FA K "steps_of_one" (top 21))(a5:FA K "steps_of_other" (top 22))(a6:FA K "steps_together" (top 23))(a7:FA K "beside" (top 24))(a8:FA K "with_deeds" (top 25))(a9:FA K "hide" (top 26))(a10:FA K "rename" (top 27))(a11:FA K "done" (top 29))(a12:FA K "framed" (top 30))(a13:FA K "_law_cell_at" (top 32))(a14:FA K "_law_deeds" (top 33))(a15:FA K "_law_steps" (top 34))(a16:FA K "_law_some" (top 35))(a17:FA K "_law_no_deed" (top 36))(a18:FA K "_law_pairs" (top 37))(a19:FA K "_law_other" (top 38))(a20:FA K "_law_row" (top 39))(a21:FA K "_law_frame" (top 40))(a22:FA K "_law_done" (top 41))(a23:FA K "_law_due" (top 42))(a24:FA K "_law_told" (top 43))(a25:kf K fR "law" = some (some (.ref f25))) (l25:K.lookup f25=some ⟨o25,d25,.func (ui "law" "law" (x3 qz) (qo qz) (gX qz) .none v25 j25 p25 e25 r25 u25),t25⟩) (c25:KW K r25 "law" = true) (k25:D7 K (.ref f25)=true)(UQ:kf K fR "ValueError" = some none)(UR:kf K fR "all" = some none)(UT:kf K fR "int" = some none)(BQ:kf K fR "isinstance" = some none)(yb:kf K fR "len" = some none)(MQ:kf K fR "list" = some none)(xk:kf K fR "range" = some none)(Kk:kf K fR "set" = some none)(Kn:kf K fR "sorted" = some none)(UU:kf K fR "str" = some none)(UW:kf K fR "tuple" = some none){hZ':Tok} (UX:kf K fR "HIDDEN" = some (some (.str "*" hZ'))){ic':Tok} (UY:kf K fR "LETTERS" = some (some (.str "abcdefghijklmnopqrstuvwxyz" ic'))){ie':Tok} (UZ:kf K fR "MOST_LETTERS" = some (some (.int 6 ie'))){ig':Tok} (U0:kf K fR "MOST_STATES" = some (some (.int 20 ig'))){ih':Tok} (U4:kf K fR "MOST_STEPS" = some (some (.int 80 ih'))){ii':Tok} (U5:kf K fR "MOST_OPEN_DEEDS" = some (some (.int 6 ii'))){BU:ag} (ij':kf K fR "KinError" = some (some (.ref BU))){mB:ag} (ik':kf K fR "NoDeed" = some (some (.ref mB))){oC:ag} (il':kf K fR "NoFrame" = some (some (.ref oC))){Rq:ag} (im':kf K fR "NoMachine" = some (some (.ref Rq))){Rr:ag} (io':kf K fR "NoState" = some (some (.ref Rr))){Rt:ag} (ip':kf K fR "NoText" = some (some (.ref Rt))){mE:ag} (iq':kf K fR "TooBig" = some (some (.ref mE)))(ir':O7 K BU [.type "ValueError",.type "Exception",.type "BaseException",.type "object"] "ValueError.__new__" = true) (is':ub K (.ref BU) "__getattr__" = some none) (it':ub K (.ref BU) "__getattribute__" = some (some (.builtin "BaseException.__getattribute__"))) (iu':ub K (.ref BU) "__class__" = some (some (.builtin "object.__class__"))) (iw':yv K BU (.type "object")=some true)(ix':O7 K mB [.type "ValueError",.type "Exception",.type "BaseException",.type "object"] "ValueError.__new__" = true) (iy':ub K (.ref mB) "__getattr__" = some none) (iz':ub K (.ref mB) "__getattribute__" = some (some (.builtin "BaseException.__getattribute__"))) (iA':ub K (.ref mB) "__class__" = some (some (.builtin "object.__class__"))) (iB':yv K mB (.type "object")=some true)(iC':O7 K oC [.type "ValueError",.type "Exception",.type "BaseException",.type "object"] "ValueError.__new__" = true) (iD':ub K (.ref oC) "__getattr__" = some none) (iE':ub K (.ref oC) "__getattribute__" = some (some (.builtin "BaseException.__getattribute__"))) (iF':ub K (.ref oC) "__class__" = some (some (.builtin "object.__class__"))) (iG':yv K oC (.type "object")=some true)(iH':O7 K mE [.type "ValueError",.type "Exception",.type "BaseException",.type "object"] "ValueError.__new__" = true) (iI':ub K (.ref mE) "__getattr__" = some none) (iJ':ub K (.ref mE) "__getattribute__" = some (some (.builtin "BaseException.__getattribute__"))) (iK':ub K (.ref mE) "__class__" = some (some (.builtin "object.__class__"))) (iL':yv K mE (.type "object")=some true)(iM':yv K mB (.ref BU)=some true)(iN':i3 K (.ref mB) (.type "ValueError")=some true)(iO':i3 K (.ref mB) (.ref mE)=some false)(iP':i3 K (.ref mB) (.ref mB)=some true)(iQ':i3 K (.ref mB) (.ref oC)=some false)(iR':i3 K (.ref mB) (.ref Rq)=some false)(iS':i3 K (.ref mB) (.ref Rr)=some false)(iT':i3 K (.ref mB) (.ref Rt)=some false)(iU':yv K oC (.ref BU)=some true)(iV':i3 K (.ref oC) (.type "ValueError")=some true)(iW':i3 K (.ref oC) (.ref mE)=some false)(iX':i3 K (.ref oC) (.ref mB)=some false)(iY':i3 K (.ref oC) (.ref oC)=some true)(iZ':i3 K (.ref oC) (.ref Rq)=some false)(ja':i3 K (.ref oC) (.ref Rr)=some false)(jb':i3 K (.ref oC) (.ref Rt)=some false)(jc':yv K mE (.ref BU)=some true)(jd':i3 K (.ref mE) (.type "ValueError")=some true)(je':i3 K (.ref mE) (.ref mE)=some true)(jf':i3 K (.ref mE) (.ref mB)=some false)(jg':i3 K (.ref mE) (.ref oC)=some false)(jh':i3 K (.ref mE) (.ref Rq)=some false)(ji':i3 K (.ref mE) (.ref Rr)=some false)(jj':i3 K (.ref mE) (.ref Rt)=some false)(jk':yv K mB (.ref mB)=some true)(jl':yv K mE (.ref mE)=some true)(jm':yv K mE (.ref mB)=some false)
  : ∃ fd:xo,(∀ (s:aE) (v:ah),BindsTo s fd ⟨[v],[]⟩ [("_law_script",v)])/\∀ base:cS,K.In base->base.Ns fR mg->tf l.prog w K mg base u0 7 fa fd ["_law_script"] (eZ K OZ):=by
 have e:=hfa.symm.trans (sQ X G a25);cases e;have jn':=sQ X G ij';have FH:=sQ X G ik';have O0:=sQ X G il';have U7:=sQ X G im';have U8:=sQ X G io';have U9:=sQ X G ip';have FI:=sQ X G iq';have jo':ll K BU:=⟨ir',is',it',iu',iw'⟩
 have Ru:ll K mB:=⟨ix',iy',iz',iA',iB'⟩
 have an':ll K oC:=⟨iC',iD',iE',iF',iG'⟩
 have Rv:ll K mE:=⟨iH',iI',iJ',iK',iL'⟩
 have each:∀ {G:Str->ag->Prop},G "NoDeed" mB->G "NoFrame" oC->G "TooBig" mE->∀ n C,n∈rn->mg n=some (.ref C)->G n C:=by
  intro G jp' jq' jr' n C hn hm;simp only[rn,eM,FX,or_false] at hn;rcases hn with rfl|rfl|rfl
  ·rw[FH] at hm;cases hm;exact jp'
  ·rw[O0] at hm;cases hm;exact jq'
  ·rw[FI] at hm;cases hm;exact jr'
 have T:Txt K mg:=⟨yn X G UQ,yn X G UR,yn X G UT,yn X G BQ,yn X G yb,yn X G MQ,yn X G xk,yn X G Kk,yn X G Kn,yn X G UU,yn X G UW,⟨_,sQ X G UX⟩,⟨_,sQ X G UY⟩,⟨_,sQ X G UZ⟩,⟨_,sQ X G U0⟩,⟨_,sQ X G U4⟩,⟨_,sQ X G U5⟩,⟨_,FH,Ru⟩,⟨_,O0,an'⟩,⟨_,FI,Rv⟩,⟨_,jn',jo',each ⟨Ru,iM'⟩ ⟨an',iU'⟩ ⟨Rv,jc'⟩⟩,⟨_,FH,Ru,λn C hn hm=>by obtain rfl:=rV.mp hn;rw[FH] at hm;cases hm;exact⟨Ru,jk'⟩⟩,⟨_,FI,Rv,λn C hn hm=>by obtain rfl:=rV.mp hn;rw[FI] at hm;cases hm;exact⟨Rv,jl'⟩⟩,⟨λr C e1 e2=>by rw[FH] at e1;rw[FI] at e2;cases e1;cases e2;exact jm'⟩,each iN' iV' jd',each ⟨_,FI,iO'⟩ ⟨_,FI,iW'⟩ ⟨_,FI,je'⟩,each ⟨_,FH,iP'⟩ ⟨_,FH,iX'⟩ ⟨_,FH,jf'⟩,each ⟨_,O0,iQ'⟩ ⟨_,O0,iY'⟩ ⟨_,O0,jg'⟩,each ⟨_,U7,iR'⟩ ⟨_,U7,iZ'⟩ ⟨_,U7,jh'⟩,each ⟨_,U8,iS'⟩ ⟨_,U8,ja'⟩ ⟨_,U8,ji'⟩,each ⟨_,U9,iT'⟩ ⟨_,U9,jb'⟩ ⟨_,U9,jj'⟩⟩
 obtain⟨_,_,m0,F0⟩:=bO X G a0;obtain⟨_,_,m1,F1⟩:=bO X G a1;obtain⟨_,_,m2,F2⟩:=bO X G a2;obtain⟨_,_,m3,F3⟩:=bO X G a3;obtain⟨_,_,m4,F4⟩:=bO X G a4;obtain⟨_,_,m5,F5⟩:=bO X G a5;obtain⟨_,_,m6,F6⟩:=bO X G a6;obtain⟨_,_,m7,F7⟩:=bO X G a7;obtain⟨_,_,m8,F8⟩:=bO X G a8;obtain⟨_,_,m9,F9⟩:=bO X G a9;obtain⟨_,_,m10,F10⟩:=bO X G a10;obtain⟨_,_,m11,F11⟩:=bO X G a11;obtain⟨_,_,m12,F12⟩:=bO X G a12;obtain⟨_,_,m13,F13⟩:=bO X G a13;obtain⟨_,_,m14,F14⟩:=bO X G a14;obtain⟨_,_,m15,F15⟩:=bO X G a15;obtain⟨_,_,m16,F16⟩:=bO X G a16;obtain⟨_,_,m17,F17⟩:=bO X G a17;obtain⟨_,_,m18,F18⟩:=bO X G a18;obtain⟨_,_,m19,F19⟩:=bO X G a19;obtain⟨_,_,m20,F20⟩:=bO X G a20;obtain⟨_,_,m21,F21⟩:=bO X G a21;obtain⟨_,_,m22,F22⟩:=bO X G a22;obtain⟨_,_,m23,F23⟩:=bO X G a23;obtain⟨_,_,m24,F24⟩:=bO X G a24;have F25:=Wo (st:=qz) l25 c25 k25;refine⟨ui "law" "law" (x3 qz) (qo qz) (gX qz) .none v25 j25 p25 e25 r25 u25,λs v=>.of_eq rfl,λbase _ _=>?_⟩;have mk:=@TN.mk l.prog w K mg base;have mx:=@Um.mk l.prog w K mg base rn;have C0:=(mk m0 F0 ["thing"] 1 0 p8 xg (aj (aR (TF (yC (pD (pL (Bm T.BQ (qv 0) (yN T.UU Dz)))) (uY (pD (yX zO zO Ey Ey aq (cC aO e_ T.yb fc (qv 0)) (QC T.UZ)))))) (ao (bN ng))
   aD)
   (ao (bN (cC eb' Fp T.UR Dc (fu (tn:=["sign"]) (cn:=[]) (ix:=[]) (lH (Di (qv 0))) (aB 0) cM (wZ iP u_ (qv 0) (Zk T.UY)))))))).1
 have C2:=(mk m2 F2 ["m"] 1 0 n8 tL (ao (bN (ur T.Kn T.Kk (fu (tn:=["step"]) (cn:=[]) (ix:=[]) (gK (dc (qv 0) aq)) (aB 0) cM (dc (qv 0) aq)))))).1;have C4:=(mk m4 F4 ["one", "other", "together", "many", "steps", "start", "deed", "end"] 3 0 iJ j4 (aj (aA 3 (dc (qv 1) aq)) (aj (aA 4 (cz au)) (aj (bf 0 (cG (dI (dc (qv 0) aq)) (rH (bB (aB 5) (bB (aB 6) (bB (aB 7) mW)))) (ao (aR (aJ u9 u_ (qv 6) (qv 2)) (ao (bf 6 (wY (bu (pv 4)) (fu (tn:=["q"]) (cn:=["deed", "end", "many", "start"]) (ix:=[6,7,3,5]) (lH (cW T.xk (qv 3))) (aB 0) cM (dH (aa (bF (iK (qv 4) (qv 3)) (qv 0)) (aa (qv 1) (aa (bF (iK (qv 2) (qv 3)) (qv 0)) au))))))))
   aD))))
   (ao (cL (pv 4))))))).1
 have C5:=(mk m5 F5 ["one", "other", "together", "many", "steps", "start", "deed", "end"] 3 0 fX iR (aj (aA 3 (dc (qv 1) aq)) (aj (aA 4 (cz au)) (aj (bf 1 (cG (dI (dc (qv 1) aq)) (rH (bB (aB 5) (bB (aB 6) (bB (aB 7) mW)))) (ao (aR (aJ u9 u_ (qv 6) (qv 2)) (ao (bf 6 (wY (bu (pv 4)) (fu (tn:=["p"]) (cn:=["deed", "end", "many", "start"]) (ix:=[6,7,3,5]) (lH (cW T.xk (dc (qv 0) aq))) (aB 0) cM (dH (aa (bF (iK (qv 0) (qv 3)) (qv 4)) (aa (qv 1) (aa (bF (iK (qv 0) (qv 3)) (qv 2)) au))))))))
   aD))))
   (ao (cL (pv 4))))))).1
 have C6:=(mk m6 F6 ["one", "other", "together", "many", "steps", "start", "deed", "end", "mates"] 3 0 f9 iI (aj (aA 3 (dc (qv 1) aq)) (aj (aA 4 (cz au)) (aj (bf 0 (cG (dI (dc (qv 0) aq)) (rH (bB (aB 5) (bB (aB 6) (bB (aB 7) mW)))) (ao (aR (aJ iP u_ (qv 6) (qv 2)) (aj (lD 8 (tn:=["step"]) (cn:=["deed"]) (ix:=[6]) (gK (dc (qv 1) aq)) (aB 0) (xf (aJ og dw (dc (qv 0) aq) (qv 1))) (qv 0)) (ao (bf 6 (wY (bu (pv 4)) (fu (tn:=["mate"]) (cn:=["deed", "end", "many", "start"]) (ix:=[6,7,3,5]) (gK (qv 8)) (aB 0) cM (dH (aa (bF (iK (qv 4) (qv 3)) (dc (qv 0) aq)) (aa (qv 1) (aa (bF (iK (qv 2) (qv 3)) (dc (qv 0) aq)) au)))))))))
   aD))))
   (ao (cL (pv 4))))))).1
 have C8:=(mk m8 F8 ["m", "new_deeds", "steps"] 2 0 j8 nZ (aj (lD 2 (tn:=["step"]) (cn:=["new_deeds"]) (ix:=[1]) (gK (dc (qv 0) aq)) (aB 0) cM (dH (aa (dc (qv 0) aq) (aa (Hw (qv 1) (dc (qv 0) aq) (dc (qv 0) aq)) (aa (dc (qv 0) aq) au))))) (ao (bN (dH (aa (dc (qv 0) aq) (aa (eE T.Kn T.Kk (qv 2)) au))))))).1
 have Kx:=(mk m13 F13 ["_law_script", "_law_k"] 2 0 iV kJ (aj (aR (aJ nP uJ (qv 1) (cC aO e_ T.yb fc (qv 0))) (ao (bN (dc (qv 0) (qv 1))))
   aD)
   (ao (bN aq)))).1
 have C14:=(mk m14 F14 ["_law_cell", "_law_turn", "_law_letters", "_law_size", "_law_places", "_law_k", "_law_word", "_law_at", "_law_found", "_law_sign"] 2 0 j5 oO (aj (aA 2 aK) (aj (aA 3 (bF aq (bK (qv 0) aq))) (aj (aA 0 (eU (qv 0) aq)) (aj (aA 4 (cz au)) (aj (cG (cW T.xk (qv 3)) (aB 5) (aj (jx (bu (pv 4)) (bK (qv 0) aq)) (ao (aA 0 (eU (qv 0) aq))))) (aj (aA 6 (Df aK (fu (tn:=["_law_k"]) (cn:=["_law_letters"]) (ix:=[2]) (gK (qv 4)) (aB 0) cM (dc (qv 1) (qv 0))))) (aj (aR (aJ og dw (bK (eU (qv 1) aq) aq) aq) (ao (bN (fu (tn:=["_law_k"]) (cn:=["_law_word"]) (ix:=[6]) (lH (uX T.xk aq aq)) (aB 0) cM (cV (FZ aq (qv 1)) fH (b7 (qv 0))))))
   aD)
   (aj (aA 7 (bK (qv 1) (qv 3)))
   (aj (aA 8 (cz au))
   (aj (cG (cW T.xk aq) (aB 5)
   (aj (aA 9 (dc (qv 2) (bK (bF (dc (qv 4) (qv 7)) (iK aq (qv 5))) aq)))
   (ao (jx (bu (pv 8)) (bF (bF (cV (qv 6) fH (b7 (qv 7))) (qv 9)) (cV (qv 6) (b7 (bF (qv 7) aq)) fH))))))
   (ao (cL (pv 8)))))))))))))).1
 have C15:=(mk m15 F15 ["_law_cells", "_law_many", "_law_deeds_here", "_law_found", "_law_k", "_law_number", "_law_deed"] 3 0 kI nW (aj (aA 3 (cz au)) (aj (cG (cW T.xk (cC aO e_ T.yb fc (qv 0))) (aB 4) (aj (aA 5 (bK (iK (bF (bK (dc (qv 0) (qv 4)) aq) aq) (bF aq (iK aq (qv 4)))) aq)) (aj (aA 6 (dc (qv 2) (bK (eU (qv 5) (qv 1)) (cC aO e_ T.yb fc (qv 2))))) (ao (bf 6 (jx (bu (pv 3)) (dH (aa (bK (qv 5) (qv 1)) (aa (qv 6) (aa (bK (eU (qv 5) (iK (qv 1) (cC aO e_ T.yb fc (qv 2)))) (qv 1)) au)))))))))) (ao (cL (pv 3)))))).1
 have C16:=(mk m16 F16 ["_law_cell", "_law_pool", "_law_found", "_law_size", "_law_k"] 2 0 mX pP (aj (aA 2 (cz au)) (aj (aA 3 (bK (qv 0) aq)) (aj (aA 0 (eU (qv 0) aq)) (aj (cG (cW T.xk (qv 3)) (aB 4) (aj (jx (bu (pv 2)) (dc (qv 1) (bK (qv 0) aq))) (ao (aA 0 (eU (qv 0) aq))))) (ao (cL (pv 2)))))))).1
 have C17:=(mk m17 F17 ["_law_cell", "_law_pool", "_law_some_here"] 2 0 iH jY (by(refine aj ?_ ?_);(with_reducible refine aA 2 ?_ ?_ ?_ ?_ ?_ ?_);(with_reducible refine cz ?_);(with_reducible refine aa ?_ ?_ ?_);(exact aK);(with_reducible refine aa ?_ ?_ ?_);(exact aK);(with_reducible refine aa ?_ ?_ ?_);(exact aK);(with_reducible refine aa ?_ ?_ ?_);(exact aK);(with_reducible refine aa ?_ ?_ ?_);(exact aK);(with_reducible refine aa ?_ ?_ ?_);(exact aK);(with_reducible refine aa ?_ ?_ ?_);(exact aK);(with_reducible refine aa ?_ ?_ ?_);(exact aK);(with_reducible refine aa ?_ ?_ ?_);(exact(bF (dc (qv 1) aq) aK));(with_reducible refine aa ?_ ?_ ?_);(exact(Ac (dc (qv 1) aq)));(with_reducible refine aa ?_ ?_ ?_);(exact(bF (dc (qv 1) aq) aK));(exact au);(rfl);(rfl);(rfl);(rfl);(rfl);(rfl);(rfl);(rfl);(rfl);(rfl);(rfl);(rfl);(first|exact .inl rfl|exact .inr rfl);(assumption);(rfl);(exact Or.inl rfl);(exact(ao (bN (dc (qv 2) (bK (qv 0) aq))))))).1;have C18:=(mk m18 F18 ["_law_cell", "_law_pool", "_law_found", "_law_size", "_law_k"] 2 0 jX oR (aj (aA 2 (cz au)) (aj (aA 3 (bF aq (bK (qv 0) aq))) (aj (aA 0 (eU (qv 0) aq)) (aj (cG (cW T.xk (qv 3)) (aB 4) (aj (jx (bu (pv 2)) (dH (aa (dc (qv 1) (bK (qv 0) aq)) (aa (dc (qv 1) (bK (eU (qv 0) aq) aq)) au)))) (ao (aA 0 (eU (qv 0) aq))))) (ao (cL (pv 2)))))))).1
 have C1:=mx m1 F1 ["m"] 1 1 iQ kO (aj (aR (aJ v8 Az (dc (qv 0) aq) (QC T.U0)) (ao (gh rfl pK T.U6 (.tail _ (.tail _ (.head _))) aK))
   aD)
   (aj (aR (aJ v8 Az (cC aO e_ T.yb fc (dc (qv 0) aq)) (QC T.U4))
   (ao (gh rfl pK T.U6 (.tail _ (.tail _ (.head _))) aK))
   aD)
   (ao (aR (aJ v8 Az (cC aO e_ T.yb fc (fu (tn:=["deed"]) (cn:=[]) (ix:=[]) (gK (aY C2 (aa (qv 0) au))) (aB 0) (xf (pL (aY C0 (aa (qv 0) au)))) (qv 0))) (QC T.U5))
   (ao (gh rfl pK T.U6 (.tail _ (.tail _ (.head _))) aK))
   aD))))
 have C3:=mx m3 F3 ["deeds", "deed"] 1 1 jW nO (ao (bf 0 (cG (dI (qv 0)) (aB 1) (ao (aR (pD (pL (aY C0 (aa (qv 1) au)))) (ao (gh rfl pK T.gR' (.head _) aK))
   aD)))))
 have C19:=(mk m19 F19 ["_law_cells", "_law_pool", "_law_many"] 2 1 j0 pq (aj (aA 2 (bF aq (bK (eU (dc (qv 0) aq) aq) aq))) (ao (dW (DM (pv 2) (DL (eE T.Kn T.Kk (aY C15 (aa (cV (qv 0) (b7 aq) (b7 aq)) (aa (qv 2) (aa (bF (cz (aa aK au)) (cV (qv 1) fH (b7 aq))) au))))) gY)))))).1
 have C7:=mx m7 F7 ["one", "other", "together", "many", "steps", "m"] 3 2 tO yJ (λ{_ _ _ _ _ _ hr hu nd _}=>(aj (fM C3 (hr.mono (by decide)) gC (aa (qv 2) au)) (aj (aA 3 (iK (dc (qv 0) aq) (dc (qv 1) aq))) (aj (bf 3 (fM C1 (hr.mono (by decide)) gC (aa (dH (aa (qv 3) (aa (cz au) au))) au))) (aj (aA 4 (bF (aY C4 (aa (qv 0) (aa (qv 1) (aa (qv 2) au)))) (aY C5 (aa (qv 0) (aa (qv 1) (aa (qv 2) au)))))) (aj (bf 3 (aA 5 (dH (aa (qv 3) (aa (eE T.Kn T.Kk (bF (qv 4) (aY C6 (aa (qv 0) (aa (qv 1) (aa (qv 2) au)))))) au))))) (aj (fM C1 (hr.mono (by decide)) gC (aa (qv 5) au)) (ao (cL (pv 5))))))))))
 have C9:=mx m9 F9 ["m", "deeds", "new_deeds", "deed"] 2 2 xT DX (λ{_ _ _ _ _ _ hr hu nd _}=>(aj (fM C3 (hr.mono (by decide)) gC (aa (qv 1) au)) (aj (aA 2 uZ) (aj (bf 1 (cG (dI (qv 1)) (aB 3) (ao (Ah (bu (pv 2)) (qv 3) (Zk T.UX))))) (ao (bN (aY C8 (aa (qv 0) (aa (qv 2) au)))))))))
 have C10:=mx m10 F10 ["m", "pairs", "new_deeds", "old", "new"] 2 2 uh yr (λ{_ _ _ _ _ _ hr hu nd _}=>(aj (aA 2 uZ) (aj (bf 1 (cG (dI (qv 1)) (rH (bB (aB 3) (bB (aB 4) mW))) (aj (bf 4 (bf 3 (fM C3 (hr.mono (by decide)) gC (aa (cz (aa (qv 3) (aa (qv 4) au))) au)))) (ao (bf 4 (bf 3 (De (bu (pv 2)) (qv 3) (qv 4)))))))) (ao (bN (aY C8 (aa (qv 0) (aa (qv 2) au))))))))
 have C20:=(mk m20 F20 ["_law_cells", "_law_pool", "_law_way", "_law_deeds_here", "_law_pairs_here", "_law_word"] 2 2 oE tY (aj (aA 2 (bK (dc (qv 0) aq) aq)) (aj (aA 3 (aY C16 (aa (dc (qv 0) aq) (aa (qv 1) au)))) (aj (aA 4 (aY C18 (aa (dc (qv 0) aq) (aa (qv 1) au)))) (aj (aR (aJ og dw (bK (eU (dc (qv 0) aq) aq) aq) aq) (aj (aA 5 (aY C17 (aa (dc (qv 0) aq) (aa (qv 1) au)))) (aj (bf 5 (zK (bu (pv 3)) (bK (eU (dc (qv 0) aq) aq) (bF (cC aO e_ T.yb fc (qv 3)) aq)) (qv 5))) (ao (bf 5 (zK (bu (pv 4)) (bK (eU (dc (qv 0) aq) aq) (bF (cC aO e_ T.yb fc (qv 4)) aq)) (dc (cz (aa (dH (aa (qv 5) (aa (dc (qv 1) aq) au))) (aa (dH (aa (dc (qv 1) aq) (aa (qv 5) au))) au))) (bK (eU (dc (qv 0) aq) aq) aq)))))))
   aD)
   (aj (aR (aJ nP uJ (qv 2) aq)
   (ao (dW (DL aK (DL (aY C19 (aa (qv 0) (aa (qv 1) au))) (DM (pv 3) gY)))))
   aD)
   (aj (aR (aJ nP uJ (qv 2) aq)
   (ao (dW (DL aK (DL (aY C19 (aa (qv 0) (aa (qv 1) au))) (DM (pv 3) gY)))))
   aD)
   (aj (aR (aJ nP uJ (qv 2) aq)
   (ao (dW (DL aK (DM (pv 3) gY))))
   aD)
   (aj (aR (aJ nP uJ (qv 2) aq)
   (ao (dW (DL aK (DM (pv 4) gY))))
   aD)
   (ao (uD (dc (cz (aa aK (aa aK (aa aK (aa aK (aa aK (aa aK au))))))) (bK (dc (qv 0) aq) aq)) (pv 3) (pv 3)))))))))))).1
 have C11:=mx m11 F11 ["m", "row"] 2 3 xM Fj (λ{_ _ _ _ _ _ hr hu nd _}=>(aj (aR (aJ og dw (dc (qv 1) aq) aK) (ao (dX C7 (hr.mono (by decide)) gC (aa (qv 0) (aa (dc (qv 1) aq) (aa (dc (qv 1) aq) au)))))
   aD)
   (aj (aR (aJ og dw (dc (qv 1) aq) aK)
   (ao (dX C7 (hr.mono (by decide)) gC (aa (dc (qv 1) aq) (aa (qv 0) (aa (dc (qv 1) aq) au)))))
   aD)
   (aj (aR (aJ og dw (dc (qv 1) aq) aK)
   (ao (dX C9 (hr.mono (by decide)) gC (aa (qv 0) (aa (dc (qv 1) aq) au))))
   aD)
   (aj (aR (aJ og dw (dc (qv 1) aq) aK)
   (ao (dX C10 (hr.mono (by decide)) gC (aa (qv 0) (aa (dc (qv 1) aq) au))))
   aD)
   (ao (gh rfl pK T.gS' (.tail _ (.head _)) aK)))))))
 have C21:=(mk m21 F21 ["_law_script", "_law_pool", "_law_found", "_law_k"] 2 3 kj pA (aj (aA 2 (cz au)) (aj (cG (cW T.xk (bK (aY Kx (aa (qv 0) (aa aq au))) aq)) (aB 3) (ao (jx (bu (pv 2)) (Uo (aY C20 (aa (fu (tn:=["_law_j"]) (cn:=["_law_k", "_law_script"]) (ix:=[3,0]) (lH (cW T.xk aq)) (aB 0) cM (aY Kx (aa (qv 2) (aa (bF (bF aq (iK aq (qv 1))) (qv 0)) au)))) (aa (qv 1) au))))))) (ao (cL (pv 2)))))).1
 have C22:=mx m22 F22 ["_law_m", "_law_row_here"] 2 3 nH qe (λ{_ _ _ _ _ _ hr hu nd _}=>(aj (aR (aJ og dw (dc (qv 1) aq) aK) (ao (dX C7 (hr.mono (by decide)) gC (aa (qv 0) (aa (dc (qv 1) aq) (aa (dc (qv 1) aq) au)))))
   aD)
   (aj (aR (aJ og dw (dc (qv 1) aq) aK)
   (ao (dX C7 (hr.mono (by decide)) gC (aa (dc (qv 1) aq) (aa (qv 0) (aa (dc (qv 1) aq) au)))))
   aD)
   (aj (aR (aJ og dw (dc (qv 1) aq) aK)
   (ao (dX C9 (hr.mono (by decide)) gC (aa (qv 0) (aa (dc (qv 1) aq) au))))
   aD)
   (ao (dX C10 (hr.mono (by decide)) gC (aa (qv 0) (aa (dc (qv 1) aq) au))))))))
 have C12:=mx m12 F12 ["m", "frame", "told", "row"] 2 4 t8 yG (λ{_ _ _ _ _ _ hr hu nd _}=>(aj (aA 2 (dH (aa (dc (qv 0) aq) (aa (jg gP qb T.MQ nj (dc (qv 0) aq)) au)))) (aj (bf 1 (cG (dI (qv 1)) (aB 3) (ao (zT C11 (hr.mono (by decide)) gC 2 (aa (qv 2) (aa (qv 3) au)))))) (ao (cL (pv 2))))))
 have C23:=(mk m23 F23 ["_law_m", "_law_frame_here", "_law_row_here", "_law_kind"] 2 4 oH tQ (λ{_ _ _ _ _ _ hr hu nd _}=>(aj (bf 1 (cG (dI (qv 1)) (aB 2) (aj (aR (aJ u9 u_ (dc (qv 2) aq) (dH (aa aK (aa aK (aa aK (aa aK au)))))) (ao (bN (dH (aa aK (aa uq au)))))
   aD)
   (aj (aA 3 aK)
   (aj (ym T.gU' T.gV' T.gW' rfl rfl (λpn xe E1 nk Q8=>(zH (i:=0) nd rfl (Or.inl rfl) (vN C22 (hr.mono (by decide)) Q8 (aa (qv 0) (aa (qv 2) au)))))
   (λpn a=>(ao (aA 3 aK))) (λpn a=>(ao (aA 3 aK))))
   (ao (aR (aJ Iy pR (qv 3) aK)
   (ao (dW (DM (pv 3) (DL uq gY))))
   aD)))))))
   (ao (dW (DL aK (DM (pv 0) gY))))))).1
 have O1:=(mk m24 F24 ["_law_m", "_law_frame_here", "_law_kind", "_law_found", "_law_truths", "e"] 2 5 mL pO (λ{_ _ _ _ _ _ hr hu nd _}=>(aj (aA 2 aK) (aj (aA 3 uq) (aj (aA 4 uq) (aj (BW (j:=5) T.gT' nd rfl rfl rfl rfl (λpn xe E1 nk Q8=>(zH (i:=3) nd rfl (Or.inl rfl) (vN C12 (hr.mono (by decide)) Q8 (aa (qv 0) (aa (qv 1) au))))) (λpn a oe n C hn hm xc hp lP=>by
    obtain⟨kd',ke',kf'⟩:=T.gY' n C hn hm;obtain⟨kg',kh',ki'⟩:=T.gZ' n C hn hm;obtain⟨kj',kk',kl'⟩:=T.ha' n C hn hm;obtain⟨km',kn',ko'⟩:=T.hb' n C hn hm;obtain⟨kq',kr',kt'⟩:=T.hf' n C hn hm;obtain⟨ku',kv',kw'⟩:=T.hg' n C hn hm;exact(aj (aA 4 (cz (aa (xY (vc:=.ref kj') (j:=5) T.BQ hp lP xc kl' (pv 5) (EI rfl kk' rfl) (λ_ r=>r)) (aa (xY (vc:=.ref kg') (j:=5) T.BQ hp lP xc ki' (pv 5) (EI rfl kh' rfl) (λ_ r=>r)) (aa (xY (vc:=.ref kd') (j:=5) T.BQ hp lP xc kf' (pv 5) (EI rfl ke' rfl) (λ_ r=>r)) (aa (xY (vc:=.ty "ValueError") (j:=5) T.BQ hp lP xc (T.gX' n C hn hm) (pv 5) (yN T.UQ lW) (λ_ r=>r)) au))))))
   (ao (jx (bu (pv 4)) (E_ (j:=5) (cs:=[km',kq',ku']) T.BQ hp lP xc (fG ko' (fG kt' (fG kw' t6))) (Nat.le_of_ble_eq_true rfl) (pv 5) (mO (EI rfl kn' rfl) (mO (EI rfl kr' rfl) (mO (EI rfl kv' rfl) Bw)))))))))
   (aj (aR (aJ og dw (qv 4) (cz (aa ng (aa ng (aa ng (aa ng (aa ng au)))))))
   (ao (aA 2 aK))
   (ao (aR (aJ og dw (qv 4) (cz (aa ng (aa ng (aa ng (aa ng (aa ng au)))))))
   (ao (aA 2 aK))
   (ao (aR (aJ og dw (qv 4) (cz (aa ng (aa ng (aa ng (aa ng (aa ng au)))))))
   (ao (aA 2 aK))
   (ao (aR (aJ bS' Bg (qv 4) uq)
   (ao (aA 2 aK))
   aD)))))))
   (ao (dW (DM (pv 2) (DM (pv 3) gY))))))))))).1
 exact(mk hfa F25 ["_law_script", "_law_first", "_law_many", "_law_pool", "_law_m", "_law_frame_here", "_law_handed", "_law_found", "_law_kept", "_law_cut", "_law_half", "_law_more", "_law_still"] 1 6 Bu Gm (λ{_ _ _ _ _ _ hr hu nd _}=>(aj (aA 1 (aY Kx (aa (qv 0) (aa aq au)))) (aj (aA 2 (bF aq (bK (qv 1) (dc (cz (aa aq (aa aq au))) (jg bY' CW T.UT zr (wZ og dw (bK (eU (qv 1) aq) aq) aq)))))) (aj (cJ 3 (aY C14 (aa (aY Kx (aa (qv 0) (aa aq au))) (aa (aY Kx (aa (qv 0) (aa aq au))) au)))) (aj (bf 2 (cJ 4 (dH (aa (qv 2) (aa (eE T.Kn T.Kk (aY C15 (aa (cV (qv 0) (b7 aq) (b7 aq)) (aa (qv 2) (aa (bF (cz (aa aK au)) (cV (qv 3) fH (b7 aq))) au))))) au))))) (aj (cJ 5 (aY C21 (aa (qv 0) (aa (qv 3) au)))) (aj (bf 2 (cJ 6 (dH (aa (qv 2) (aa (jg gP qb T.MQ nj (dc (qv 4) aq)) au))))) (aj (cJ 7 (aY O1 (aa (qv 6) (aa (qv 5) au)))) (aj (aR (TF (yC (aJ Iy pR (qv 7) (aY C23 (aa (qv 4) (aa (qv 5) au)))) (yC (aJ Iy pR (qv 6) (qv 4)) (uY (aJ Iy pR (qv 5) (aY C21 (aa (qv 0) (aa (qv 3) au)))))))) (ao (bN ng))
   aD)
   (aj (cJ 8 uq)
   (aj (aR (aJ og dw (dc (qv 7) aq) aK)
   (aj (aR (TF (yC (pD (pL (Bm T.BQ (dc (qv 7) aq) (yN T.UW ye)))) (uY (pD (pL (Bm T.BQ (dc (dc (qv 7) aq) aq) (yN T.MQ nj)))))))
   (ao (bN ng))
   aD)
   (ao (cJ 8 (dH (aa (dc (dc (qv 7) aq) aq) (aa (jg gP qb T.MQ nj (dc (dc (qv 7) aq) aq)) au))))))
   aD)
   (aj (aA 9 (bK (aY Kx (aa (qv 0) (aa aq au))) (bF (cC aO e_ T.yb fc (qv 5)) aq)))
   (aj (cJ 10 (aY O1 (aa (qv 6) (aa (cV (qv 5) fH (b7 (qv 9))) au))))
   (aj (aR (aJ og dw (dc (qv 10) aq) aK)
   (ao (cJ 10 (aY O1 (aa (dc (qv 10) aq) (aa (cV (qv 5) (b7 (qv 9)) fH) au)))))
   aD)
   (aj (aR (aJ Iy pR (qv 10) (qv 7))
   (ao (bN ng))
   aD)
   (aj (cJ 11 (bF (qv 5) (Uo (cz (aa (Uo (aY C20 (aa (fu (tn:=["_law_k"]) (cn:=["_law_script"]) (ix:=[0]) (lH (uX T.xk aq aq)) (aB 0) cM (aY Kx (aa (qv 1) (aa (qv 0) au)))) (aa (qv 3) au)))) au)))))
   (aj (aR (aJ Iy pR (aY O1 (aa (qv 6) (aa (qv 11) au))) (aY C23 (aa (qv 4) (aa (qv 11) au))))
   (ao (bN ng))
   aD)
   (aj (aA 12 (Et C12 (hr.mono (by decide)) (aa (qv 6) (aa (cz au) au))))
   (aj (aR (aJ Iy pR (qv 12) (qv 4))
   (ao (bN ng))
   aD)
   (aj (yQ (Gz (bu (pv 12)) aq))
   (ao (bN (DQ (wZ og dw (qv 6) (qv 4)) (DQ (wZ og dw (aY O1 (aa (qv 6) (aa (qv 5) au))) (qv 7)) (Hd (wZ og dw (dc (qv 7) aq) (qv 8)))))))))))))))))))))))))))).2
theorem walk{l:Rz}{q:dz}{loose:List Str}{XP:(Str->Option ah)->cS->Prop}{YP:dA->cS->Prop}{d:DefRec}{K:Params->aI}(hn:l.most=some 63)(NR:d.params.defaults=[])(hY:∀ (w:dA) (h:cS),YP w h->(K w.params).In h)(F:∀ (w:dA) (mg:Str->Option ah) (fa:ag) (h:cS),(K w.params).In h->h.Ns fR mg->mg d.name=some (.ref fa) ->
   ∃ fd:xo,(∀ (s:aE) (u:ah),BindsTo s fd ⟨[u],[]⟩ [("_law_script",u)])/\∀ base:cS,(K w.params).In base->base.Ns fR mg->tf l.prog w (K w.params) mg base u0 7 fa fd ["_law_script"] (eZ (K w.params) OZ)) :
  PySem.W.WalkO q loose XP YP l.row.toRowW d [] (λf vs=>PySem.call f vs) :=
 L2.dz' (n:=63) (k:=7) (x := "_law_script") (CX:=λ_=>u0) (sp:=λw=>eZ (K w.params) OZ) hn (by decide) NR ⟨rfl,by decide,by decide⟩ hY F (λw H a ns hl hO hS=>yS hl hS) λ_ _ _ _ _ z=>z
end L2.Q.Rl
open PySem PySem.W PyProof.Rows
namespace PySem.W.Fast
def tw2606144355707088494:=0
def tw7108490795901454152:=0
def tw12827704884828564755:=0
def tw11777081919127184408:=0
def tw6195326427523008295:=0
def tw1410022121304668723:=0
def tw14249766644119758562:=0
def tw6773026206521872437:=0
def tw15281464075735282372:=0
def tw16854961023546070994:=0
def tw7620284024028995118:=0
def tw16795429707246480818:=0
def tw11555159924776521536:=0
def tw10377200611693234389:=0
def tw3730350629111773361:=0
def tw9530925372834350106:=0
def tw4431968091337982034:=0
def tw13630037734868222081:=0
def tw10296848239028296867:=0
def tw10235514623801291037:=0
def tw2846038174384695290:=0
def tw4230953860895466481:=0
def tw10897348660290332230:=0
def tw14156873197403118220:=0
def tw3700093956611191472:=0
def tw7854952532751391961:=0
def tw13390552688759051247:=0
def tw10014222526031055324:=0
def tw11718694343889900882:=0
def tw7355157436855203510:=0
def tw17605503555138026194:=0
def tw4007408868879161788:=0
def tw5885456936745584736:=0
def tw12496029411765182048:=0
def tw2368787011443705670:=0
def tw14884856075115670192:=0
def tw14506704569970217237:=0
def tw4727268644827685762:=0
def tw1761751044122653378:=0
def tw17307042252111296338:=0
def tw14927221646605127879:=0
def tw6820881863390972625:=0
def tw14387304242013505316:=0
def tw6323806454486825603:=0
def tw12818286937051695092:=0
def tw15641122246879771424:=0
def tw6539136324138314113:=0
def tw9412087777793283604:=0
def tw3755656147198634910:=0
def tw1685694385022763249:=0
def tw7279425752184996955:=0
def tw16044635111735550139:=0
def tw8181462741629433039:=0
def tw3862654281599069828:=0
def tw3124185726478014769:=0
def tw16589811834735162416:=0
def tw4532451123466431187:=0
def tw14412655924427138287:=0
def tw1405210249939714948:=0
def tw8282670365102858453:=0
def tw10078386900848487979:=0
def tw12430419372507990276:=0
def tw1622743279533124099:=0
def tw15911689109650914421:=0
def tw9013494485208856526:=0
def tw1885245848112044021:=0
def tw15775187446521878090:=0
def tw1377936439602410314:=0
def tw1881865142958352647:=0
def tw4579577904399032394:=0
def tw7520257051195065598:=0
def tw4687746269353787134:=0
def tw6410024263087379411:=0
def tw9310324222540702371:=0
def tw9525560149876072277:=0
def tw1924135372668171417:=0
def tw17548598165516082783:=0
def tw1658486380234890603:=0
def tw1520567490631242888:=0
def tw18358396006856973782:=0
def tw2156014497516399514:=0
def tw2215929848815672496:=0
def tw3088828865521187518:=0
def tw3564993718792425236:=0
def tw11297164237719702737:=0
def tw1773363981075909162:=0
def tw7474210632332541310:=0
def tw9263169066217246850:=0
def tw9246582671198327157:=0
def tw16348139941740696898:=0
def tw11590683056802531509:=0
def tw15252009056118460579:=0
def tw3808096182877971210:=0
def tw11917123558356663433:=0
def tw16168867798018323971:=0
def tw6700015983426440821:=0
def tw5207821301549059792:=0
def tw16092241118144481631:=0
def tw13280664654001831127:=0
def tw129337285060697927:=0
def tw7579932339519066387:=0
def tw9929638316189669022:=0
def tw10756499536771649203:=0
def tw475064680979306403:=0
def tw4667022505329006210:=0
def tw17505518639193689955:=0
def tw6642510139808613573:=0
def tw6633209228110827113:=0
def tw10222650209463746645:=0
def tw10773845804320412154:=0
def tw12643610362371322031:=0
def tw10976859575601051429:=0
def tw2704873274143586031:=0
def tw16032275003513780696:=0
def tw17689736972409181413:=0
def tw13540348332594602050:=0
def tw14136009039125860522:=0
def tw13037641206695041695:=0
def tw12828480515471895564:=0
def tw4111769832033998340:=0
def tw16424702352083077424:=0
def tw1362811935714669026:=0
def tw7190292655922505347:=0
def tw13458547745349701213:=0
def tw458027653142423727:=0
def tw6629236717572332614:=0
def tw11036006402280851065:=0
def tw17243342543273902152:=0
def tw3805910736944335320:=0
def tw18119322634107702365:=0
def tw15985274852034097808:=0
def tw14029511845309425409:=0
def tw15676133876888724845:=0
def tw36278245798881082:=0
def tw9382697605201816877:=0
def tw7223180459099772381:=0
def tw2434103797245256023:=0
def tw13522444525633047371:=0
def tw1801889682607314081:=0
def tw7941378584162832401:=0
def tw4565632360177624081:=0
def tw16584252795525698470:=0
def tw6645800535188070942:=0
def tw5674108058779062712:=0
def tw13780526115676997456:=0
def tw17689833638390295714:=0
def tw5205100678817883249:=0
def tw6002188366106116155:=0
def tw17534257042669975504:=0
def tw7872792630964602404:=0
def tw4621547178504282723:=0
def tw11466659369277403454:=0
def tw12642020501947925766:=0
def tw17205645427947034055:=0
def tw11062637879674120772:=0
def tw2314787314113124507:=0
def tw351243857348373229:=0
def tw5932584453110357417:=0
def tw819509449136223421:=0
def tw540987987422430510:=0
def tw13147383723790352428:=0
def tw751324949362297821:=0
def tw14165077730719335794:=0
def tw3543413895242216219:=0
def tw11065589218115495254:=0
def tw1670021700419730072:=0
def tw11034174904567489091:=0
def tw4194212145820329437:=0
def tw13476362638879611604:=0
def tw3115363551128806242:=0
def tw8504291980055219310:=0
def tw6147332214399693924:=0
def tw1841101873696015352:=0
def tw5818350727738936250:=0
def tw12581264487796852250:=0
def tw15664066213662550323:=0
def tw5385234140079829161:=0
def tw5432555282086039948:=0
def tw17975455346976325056:=0
def tw738922543766941720:=0
def tw12615045338280118821:=0
def tw8391821700607554286:=0
def tw13623893159855953844:=0
def tw10670564444283861475:=0
def tw8184367671639839612:=0
def tw17448728489344552299:=0
def tw6117800121819663546:=0
def tw16514475850461610614:=0
def tw12944878199282931941:=0
def tw17494176669638281883:=0
def tw15323172448277946426:=0
def tw15251996279917950957:=0
def tw14230689183360897046:=0
def tw11126310317377730795:=0
def tw4161363328875814448:=0
def tw7056832459777462918:=0
def tw14939186955490092816:=0
def tw7711988277781385920:=0
def tw6616565309612150098:=0
def tw4570200665411762043:=0
def tw12528788088311863948:=0
def tw8175519413572299337:=0
def tw4533140312189077101:=0
def tw771076684891451861:=0
def tw14932352467758264783:=0
def tw12354224719288060477:=0
def tw14667515491066404148:=0
def tw1798347148351639794:=0
def tw9367900609696530414:=0
def tw797205613835734606:=0
def tw16179214760690579179:=0
def tw8317818954425009167:=0
def tw7749774016523570101:=0
def tw3882235799025602827:=0
def tw2124834019474259500:=0
def tw13581007630797356293:=0
def tw12868540433853421084:=0
def tw9673743333793941758:=0
def tw11978383275152036393:=0
def tw2987484437941157628:=0
def tw17817227413822547696:=0
def tw10680999504250320587:=0
def tw17306396235135834597:=0
def tw17204690610378982332:=0
def tw6771879143101759439:=0
def tw18098637528938351992:=0
def tw13882887355961274619:=0
def tw7208432586426650510:=0
def tw6705708186715111458:=0
def tw6340005732053326087:=0
def tw7820493660033112208:=0
def tw14493968309870983422:=0
def tw12502099556946545263:=0
def tw3301477956984121512:=0
def tw13100943690146972551:=0
def tw11429092071425545823:=0
def tw1399938458271741819:=0
def tw6349485578125462662:=0
def tw8121883464749652062:=0
def tw9334320936489327868:=0
def tw18138907443086649899:=0
def tw12998497618377406435:=0
def tw6928245708376163263:=0
def tw17304947533453576355:=0
def tw784997252616012409:=0
def tw10333991311795003375:=0
def tw2347783553114912245:=0
def tw16203423018406069765:=0
def tw8954946858391800265:=0
def tw3945489411610794569:=0
def tw14978552740157940342:=0
def tw2887199044456712483:=0
def tw10199160152914823101:=0
def tw3280673353788390733:=0
def tw8811742713965018556:=0
def tw13660853766884226676:=0
def tw4489268224384519191:=0
def tw3406432680923603874:=0
end PySem.W.Fast
set_option maxRecDepth 100000 in
set_option maxHeartbeats 0 in
theorem PySem.Challenge.cw_kinlook_k17_rows_of_a_frame_holds : PySem.Challenge.rw_kinlook_k17_rows_of_a_frame.Holds := by
 w_on;o_law;k_head;(case hw=>w_witness2)
 k_fill
 refine L2.Q.Rl.walk (l:=PySem.Challenge.rw_kinlook_k17_rows_of_a_frame) rfl rfl (λw h Y=>PySem.W.kIn_of Y) ?F
 case F =>
  intro w mg fa h KX G NS
  refine' L2.Q.Rl.all_mk KX G NS ..
  all_goals first|k_is|k_exc|kit_is|(refine' L2.Q.Rl.Gx ..<;>first|k_is|skip)|skip
