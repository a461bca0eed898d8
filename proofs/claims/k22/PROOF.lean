import PyProof.Rows.All
import Wide.All
import OpenK.AllK
import Wide.FinOn
import Lean
import PyProof.EqAt
import PyProof.EqKinds
import PyProof.TupleCall
import PyProof.CompUse
import PyProof.NeData
import PyProof.WalksEnum
import PyProof.EnumMake
import PyProof.ZipIter
import PyProof.Rows.EnumRows
import PyProof.Rows.FactsT2
import KE.KDictList
import PyProof.Rows.SortRuns
import PyProof.Rows.SortWalk
import KE.KSortTup
import PyProof.Rows.SortStr
import PyProof.ListRange
import PyProof.StrOps2
import PyProof.StrBlock2
import PyProof.AutoIntG3
import PyProof.ListMulRight
import PyProof.Rows.ListMulArg
import PyProof.Rows.CallKwBuiltin
import PyProof.Rows.StrMul
import KE.KMinBuiltin
import PyProof.TupleKey
import PyProof.SetKind
import PyProof.Rows.SetFrom
import PyProof.DictWalks
import KE.KRevIter
import PyProof.NsDelKeeps
import PyProof.AutoSeq1
import KE.KItem
import PyProof.MeetsSeq
import PyProof.FactsAll.list_4
import Wide.Seal
import PySem.Challenge.RW_kinlook_k22_without_not
open PySem renaming wpAny_bind->ax,Value->ag,Addr->ah,wpAny_pure->bG,Shared->ay,sizeLine->bS,starEach->bT,model->aT,wpAny->bE,Program->cv,World->cK,eval->cp,mainGlobals->gS,Around->eB,Heap->dr,sizeLine_eq->kB,bootBuiltins->ly,compareOp->i7,wpAny_newObj_type->sR,cLine->gv,backTo->i3,wpAny_truthy_bool->AJ,swapsWith->og,sysModules->qq,wpAny_holding->xC,wpAny_mono->se,wpAny_setState_of->CC,attributeBase->yB,codeAny_builtin->BG,binaryOp->qA,FuncData->qB,Stmt->i5,wpAny_Call_Name_kw->GL,wpAny_call_entry->EK,plainId_quiet->CD,rawInt->oS,wpAny_loadPart_at->I0,wpAny_typeNameOfWhole_keyiter->T2,wpAny_callSpecial?_slot->Rh,codeAny->ua,keywordEach->CF,wpAny_setField_rec->Oy,behindInMarks->GN,wpAny_rule->CH,Keyword->xD,wpAny_typeNameOf_keyiter->T3,wpAny_askSetting->OB,assignEach->EL,tupleKind_room_in1->Ri,NameKind->BH,wpAny_Assign_Subscript->T4,foldedSetIterable->Rj,wpAny_dictEntries->Rk,codeAny_mono->Jn,wpAny_seqItems->OG,tupleKind->ER,wpAny_forIn_list->Rl,sliceBounds->JA,wpAny_of_eq->JJ,wpAny_passesOwn->Rm,wpAny_updateSeq->Rn
open PySem.W renaming Frag->aI,nsIn->kC,findIn->nS,mg_none_of->ub,fnOf->sf,kia_one->xE,keepIn->wd,mg_of->wm,kitOne->AK,codeIn->CL,emptyDict->GO,instObj->GP,isFn->JY,plainGet->Ro,hasDictIn->T5,kitx_dict->T6,plainGet_of->Wc,lookIn->T7,callWith_K->Wd,plainOver->Wg,mroIn->T8,kitx_list->Wh,takerIn->Wi,makesIn->Wj,OpenLaw->Wk
open List renaming length_map->dc,mem_append_right->fh,mem_cons_of_mem->fo,mem_cons_self->fw,mem_append->eL,getElem?_eq_some_iff->kM,nodup_append->gV,mem_cons->fm,sublist_append_right->lI,mem_append_left->kr,mem_map->fP,size_toArray->jI,mem_singleton->kD,getElem?_map->ku,length_append->mI,getElem?_eq_getElem->si,map_cons->jS,mem_of_getElem?->pf,append_nil->mM,length_take->nV,length_cons->oi,nodup_nil->nv,nodup_cons->oj,getD_eq_getElem?_getD->AO,map_map->lP,map_append->pz,mem_iff_getElem?->yT,append_assoc->ui,getElem?_append_right->EV,getElem?_append_left->EW,mem_range->wo,take_add_one->AQ,pairwise_map->AR,filterMap_cons->CM,drop_eq_getElem_cons->Kb,foldl_cons->AU,pairwise_iff_getElem->Ki,mem_zipIdx_iff_getElem?->OL,getElem?_eq_none->GU,all_eq_true->CY,nil_sublist->Dp,map_congr_left->GV,length_singleton->Kj,sublist_append_left->OO,not_mem_nil->EX,take_length->EZ,mem_filter->E2,find?_cons->E3,take_of_length_le->OQ,nodup_iff_pairwise_ne->Rp,length_drop->GW,any_cons->Dx,foldl_append->Kk,length_eq_zero_iff->Rq,all_cons->E4,append_eq_nil_iff->Rr,take_append_drop->Rt,length_set->Kx,ext_getElem?->OS,mem_of_mem_take->Ru,getElem?_range->Rv,zip_cons_cons->Rx,length_pos_of_mem->T9,length_range->Ry,getElem?_set->Rz,getElem?_set_ne->T_,pairwise_append->Ua,mem_of_mem_drop->Ub,cons_ne_nil->RA,extract_eq_drop_take->Wl,length_nil->RB,length_zip->RC,getElem?_replicate->Wm,all_map->OU,take_succ_eq_append_getElem->xdI,length_replicate->Wn,lookup_cons->Uc,getElem_mem->Ud,perm_append_comm->Wo,any_eq_true->Ue,getLast?_eq_some_getLast->xdS,replicate_succ->Wq,filter_eq_self->Wr,mem_filterMap->Ws,filterMap_map->Wt,contains_cons->Wu,getElem?_take->Wv,getElem_inj->Ww,cons_append->Wx,map_fst_zip->Wy,drop_length->Wz
open PySem.Heap renaming get?_push_of_some->eM,lt_size->eT,get?_push_size->i9,get?_update_other->DB,get?_update_self->GY,size_update->RG,get?_push_ne->Ug,size_push->Uh
open Nat renaming le_refl->de,ne_of_lt->gu,zero_le->fR,lt_of_lt_of_le->pE,le_trans->kL,lt_succ_of_lt->AV,lt_irrefl->wq,le_of_lt->AW,not_lt_zero->E5,pow_succ->DC,add_sub_of_le->RH,mul_assoc->OV,ne_of_gt->OW,add_zero->OX,lt_of_succ_lt->WC,le_of_lt_succ->Ui,lt_succ_of_le->Uj,lt_succ_self->Uk,le_of_eq->RJ,add_comm->RK,min_self->RL,mod_lt->OY,lt_of_le_of_lt->xd2,le_succ->RN,lt_trans->WD,zero_add->Ul,mul_comm->Um,succ_pos->Uo
open PyProof.Rows renaming wpS_bind->cS,arrOf->b9,wpS_pure->dQ,Keyed->cf,SortSt->d5,kindOf->fS,pendingOf->ny,wpS_forRange->sT,envOfC->kN,SortKind->tf,failedOf->ti,wpS_mono->wt,wpS_modify->E6,size_push'->G0
open Int renaming toNat_of_nonneg->mP,emod_lt_of_pos->xI,emod_nonneg->w_,le_trans->AX,le_refl->AY,toNat_natCast->KG,le_of_lt->KL
open Bool renaming false_ne_true->nX,and_eq_true->mS,false_eq_true->uj,eq_iff_iff->y1,not_eq_true'->WH
open Array renaming getElem?_toList->tj,toList_push->sj,getElem?_eq_getElem->DE,length_toList->AZ,getD_eq_getD_getElem?->KP,getElem?_eq_some_iff->OZ,eq_empty_of_size_eq_zero->RP,getElem?_eq_none->O0,size_extract->KS,append_assoc->RQ,getElem?_extract->Uq,perm_iff_toList_perm->WK,forIn_toList->Ur,toList_inj->Us,toArray_toList->WL,toList_extract->WM,append_empty->WN
open Option renaming isSome_iff_exists->Ut,map_eq_some_iff->Uu,ne_none_iff_exists'->WQ,map_some->RT,isSome_map->Uv
open PySem.PyData renaming keyHash->RV
def bv:Lean.Syntax:=(Lean.Unhygienic.run `(tacticSeq|rfl)).raw
local macro_rules | `(command| def $i:declId $s:optDeclSig $v:declVal)=>`(command| noncomputable def $i:declId $s:optDeclSig $v:declVal)
local macro_rules | `(command| abbrev $i:declId $s:optDeclSig $v:declVal)=>`(command| noncomputable abbrev $i:declId $s:optDeclSig $v:declVal)
set_option compiler.extract_closed false
set_option hygiene false
local macro_rules
|`(tactic|walk_at"a")=>`(tactic|intro Hs H m x v As n y u Bs Qd Qv w rx ry h f)
|`(tactic|walk_at"b")=>`(tactic|refine T4 (cy (hv pins s σ H _ I h) λr s1 cq=>L2.eW cq λv H1 I1 rv q1=>cy (ho pins s1 σ H1 _ I1 q1) λu s2 cq=>L2.eW cq λx H2 I2 rx q2=>cy (hi pins s2 σ H2 _ I2 q2) λiv s3 dS=>?_) hs)
|`(tactic|walk_at"c")=>`(tactic|obtain⟨n1,n2,n3⟩:=gV.mp n)
|`(tactic|walk_at"d")=>`(tactic|refine⟨Hs,ρ,ai,_,sr,h,λv H1 bP m x As g1 r1 f1 q1=>?_⟩)
|`(tactic|walk_at"e")=>`(tactic|intro pins s σ H x y v u Q I rx ry h)
|`(tactic|walk_at"f")=>`(tactic|intro pins s σ H xs us Q I r h)
|`(tactic|walk_at"g")=>`(tactic|rw[if_pos (by simpa using z)])
|`(tactic|walk_at"h")=>`(tactic|rw[if_neg (by simpa using z)])
|`(tactic|walk_at"i")=>`(tactic|rw[show cw (.st w d j)=.tup [.str w,.str d,.int j] from rfl])
|`(tactic|walk_at"j")=>`(tactic|refine⟨Hs,ρ,ai,_,sr,h,λv H1 bP m1 x VL g1 r1 f1 q1=>⟨bP,ρ,ai,_,sr.grow g1,q1,λu H2 bq fl d up g2 p2 q2=>⟨bq,ρ,ai,_,(sr.grow g1).grow g2,q2,λy H3 gi m3 yd VB g3 r3 f3 q3=>?_⟩⟩⟩)
|`(tactic|walk_at"k")=>`(tactic|refine⟨v,As,B++t,by simpa using a,b,c,d.trans (lI _ _),λbq H2 eK d2 hV s2 r2 ne2 nr dj st=>?_⟩)
|`(tactic|walk_at"m")=>`(tactic|refine ax (xC (EK slot_list_sort ⟨_,Fm,rfl⟩ entry_list_sort (je Fm D6 (hP vs hR) (λh2=>hk vs hR h2 _ _ _ old) (λh2=>C _ old) λout a1 a2=>⟨_,rfl,?_⟩) (args_list_sort _))))
|`(tactic|walk_at"n")=>`(tactic|refine Call_ (DM I hg hm boot_range (PyProof.Rows.callWith_type1 (cy (ha pos pins s σ H _ I h) λus s1 cq=>L2.eW cq λvs H1 I1 r1 q1=>?_) (by rw[hs,kF]) (by rw[kF];rfl))))
|`(tactic|walk_at"o")=>`(tactic|intro Hs H m x v As Qd Qv w rx h f)
|`(tactic|walk_at"p")=>`(tactic|rw[show cw (.jn w ps)=.tup [.str w,.tup (ps.map .int)] from rfl])
|`(tactic|walk_at"r")=>`(tactic|rw[show putF f v ((k,x) :: r)=(if k=f then (k,v) :: r else (k,x) :: putF f v r) from rfl])
|`(tactic|walk_at"s")=>`(tactic|refine ax (wpAny_attempt (Rh ty F.slot_dict_keyiterator_next (EK F.slot_dict_keyiterator_next ty F.entry_dict_keyiterator_next ?_ (F.args_dict_keyiterator_next_1 _)))))
|`(tactic|walk_at"t")=>`(tactic|intro pins s σ H Q I h)
|`(tactic|walk_at"u")=>`(tactic|have hS:(s.heap.push { cls:=.type "list",data:=.seq ([]:List ag).toArray }).get? s.heap.objs.size=some { cls:=.type "list",data:=.seq ([]:List ag).toArray }:=i9 _ rfl)
|`(tactic|walk_at"v")=>`(tactic|refine cS (wpS_lift (CH ⟨rfl,?_⟩)))
set_option hygiene true
def L2.eW{α β:Type _}{A B C:α->β->Prop}{G:Prop}(x:∃ a b,A a b/\B a b/\C a b)(k:∀ a b,A a b->B a b->C a b->G):G :=
 let ⟨a,b,p,q,r⟩:=x
 k a b p q r
set_option Elab.async false
set_option linter.all false
set_option maxHeartbeats 4000000
set_option maxRecDepth 100000
set_option linter.defProp false
section
open PySem PySem.Spec PyProof.Rows
set_option bootstrap.genMatcherCode false
set_option genSizeOf false
namespace L2
abbrev Key:=Sum Int Str
def KW:Key->ag->Bool
 |.inl k,v=>Value.isInt k v
 |.inr x,v=>Value.isStrOf x v
def fw'(w:cK):Key->Int
 |.inl k=>hashInt k
 |.inr x=>hashStr w x
theorem A0:∀ {k:Key} {v:ag},KW k v=true->(∃ i t,k=Sum.inl i/\v=Value.int i t)\/(∃ x t,k=Sum.inr x/\v=Value.str x t)
 |.inl i,v,h=>by obtain⟨t,e⟩:=Value.isInt_shape h;exact .inl ⟨i,t,rfl,e⟩
 |.inr x,v,h=>by obtain⟨t,e⟩:=Value.isStrOf_shape h;exact .inr ⟨x,t,rfl,e⟩
def fx'(i:Int)(t:Tok):KW (.inl i) (.int i t)=true:=by simp[KW,Value.isInt]
def fy'(x:Str)(t:Tok):KW (.inr x) (.str x t)=true:=by simp[KW,Value.isStrOf]
def bg'(a b:Int):decide ((Sum.inl a:Key)=Sum.inl b)=(a == b):=by
 by_cases e:a=b
 ·subst e;simp
 ·have h:¬ (Sum.inl a:Key)=Sum.inl b:=λq=>e (Sum.inl.inj q);rw[decide_eq_false h];exact(beq_eq_false_iff_ne.mpr e).symm
def bh'(a b:Str):decide ((Sum.inr a:Key)=Sum.inr b)=decide (a=b):=by
 by_cases e:a=b
 ·subst e;simp
 ·have h:¬ (Sum.inr a:Key)=Sum.inr b:=λq=>e (Sum.inr.inj q);rw[decide_eq_false h,decide_eq_false e]
def fz'(a:Int)(b:Str):decide ((Sum.inl a:Key)=Sum.inr b)=false:=decide_eq_false (λq=>nomatch q)
def fA'(a:Str)(b:Int):decide ((Sum.inr a:Key)=Sum.inl b)=false:=decide_eq_false (λq=>nomatch q)
def iN(prog:cv)(w:cK):PySem.KeyKind prog w Key where
 is:=KW
 hash:=fw' w
 inj:=λv a b ha hb=>by
  rcases A0 ha with⟨i,t,rfl,rfl⟩|⟨x,t,rfl,rfl⟩
  ·rcases A0 hb with⟨j,u,rfl,e⟩|⟨y,u,rfl,e⟩
   ·injection e with e1 _;rw[e1]
   ·exact nomatch e
  ·rcases A0 hb with⟨j,u,rfl,e⟩|⟨y,u,rfl,e⟩
   ·exact nomatch e
   ·injection e with e1 _;rw[e1]
 byValue:=λk v h=>by rcases A0 h with⟨i,t,rfl,rfl⟩|⟨x,t,rfl,rfl⟩<;>rfl
 pyHash:=λhv h=>by
  rcases A0 hv with⟨i,t,rfl,rfl⟩|⟨x,t,rfl,rfl⟩
  ·exact wpAny_pyHash_int h
  ·exact wpAny_pyHash_str h
 eqBool:=λhu hv h=>by
  rcases A0 hu with⟨i,t,rfl,rfl⟩|⟨x,t,rfl,rfl⟩
  ·rcases A0 hv with⟨j,u,rfl,rfl⟩|⟨y,u,rfl,rfl⟩
   ·rw[bg'] at h;exact wpAny_eqBool_int h
   ·rw[fz'] at h;exact SeqAt.EqAt.int_str i t y u _ _ _ _ h
  ·rcases A0 hv with⟨j,u,rfl,rfl⟩|⟨y,u,rfl,rfl⟩
   ·rw[fA'] at h;exact SeqAt.EqAt.str_int x t j u _ _ _ _ h
   ·rw[bh'] at h;exact wpAny_eqBool_str h
 «strs» := λk x t v h=>by
  rcases A0 h with⟨i,u,rfl,e⟩|⟨y,u,rfl,e⟩
  ·exact nomatch e
  ·injection e with e1 _;subst e1;cases v<;>rfl
def fB'(prog:cv)(w:cK)(i:Int)(t:Tok):(iN prog w).is (.inl i) (.int i t)=true:=fx' i t
def Uw(prog:cv)(w:cK)(x:Str)(t:Tok):(iN prog w).is (.inr x) (.str x t)=true:=fy' x t
inductive V where
 |non|bl (b:Bool)|int (i:Int)|str (x:Str)|uk (b:Array UInt8)|DF (b:UInt64)|ref (a:ah)|ty (n:String)
 deriving DecidableEq
set_option genInjectivity false
def RelV:V->ag->Prop
 |.non,u=>u=Value.none
 |.bl b,u=>u=Value.bool b
 |.int i,u=>∃ t,u=Value.int i t
 |.str x,u=>∃ t,u=Value.str x t
 |.uk b,u=>∃ t,u=Value.bytes b t
 |.DF b,u=>∃ t,u=Value.float b t
 |.ref a,u=>u=Value.ref a
 |.ty n,u=>u=Value.type n
abbrev Vals:List V->List ag->Prop:=Paired RelV
def Vals.length(r:Vals xs us):xs.length=us.length:=Paired.length r
theorem Vals.get:∀ {xs:List V} {us:List ag} {i:Nat} {x:V},Vals xs us->xs[i]? = some x->∃ u,us[i]? = some u/\RelV x u
 |_,_,_,_,.nil,e=>by simp at e
 |_,_,0,_,.cons r _,e=>by simp at e;subst e;exact⟨_,rfl,r⟩
 |_,_,i+1,x,.cons _ t,e=>by obtain⟨u,h1,h2⟩:=Vals.get t (by simpa using e);exact⟨u,by simpa using h1,h2⟩
theorem Vals.append:∀ {xs ys:List V} {us ws:List ag},Vals xs us->Vals ys ws->Vals (xs++ys) (us++ws)
 |_,_,_,_,.nil,s=>s
 |_,_,_,_,.cons r t,s=>.cons r (Vals.append t s)
theorem Vals.take:∀ {xs:List V} {us:List ag} (n:Nat),Vals xs us->Vals (xs.take n) (us.take n)
 |_,_,0,_=>.nil
 |_,_,_+1,.nil=>.nil
 |_,_,n+1,.cons r t=>.cons r (Vals.take n t)
theorem Vals.drop:∀ {xs:List V} {us:List ag} (n:Nat),Vals xs us->Vals (xs.drop n) (us.drop n)
 |_,_,0,r=>r
 |_,_,_+1,.nil=>.nil
 |_,_,n+1,.cons _ t=>Vals.drop n t
def pS:Option V->Option ag->Prop
 |some v,some u=>RelV v u
 |none,none=>True
 |_,_=>False
def KV{κ:Type}:List (κ × V)->List (κ × ag)->Prop:=Paired λ(p:κ × V) (q:κ × ag)=>p.1=q.1/\RelV p.2 q.2
def kV:Key->V
 |.inl i=>.int i
 |.inr x=>.str x
inductive HO where
 |lst (xs:List V)
 |tup (xs:List V)
 |dK (ae:List (Key × V))|dT (ae:List (List Key × V))
 |set (S:Int->Bool) (n:Nat)
 |ins (C dx:ah) (fs:List (Str × V))
 |own (x:ah)
 |xd (fs:List (Str × V))
 |met (f x:ah)
 |Ux (lo hi:Int)
 |qE (o:Obj) (u:HO)
 |He (ps:Array ag)
 |ext (φ:dr->Prop)
abbrev Hp:=ah->Option HO
def upd(H:Hp)(a:ah)(o:HO):Hp:=λb=>if b=a then some o else H b
def fq:upd H a o a=some o:=by unfold upd;rw[if_pos rfl]
def dP(h:b≠a):upd H a o b=H b:=by unfold upd;rw[if_neg h]
def bi'{H:Hp}{a b:ah}{o u:HO}(h:H a=some o)(h':H b=some u)(d:o≠u):a≠b:=by intro e;subst e;rw[h] at h';exact d (Option.some.inj h')
def y4{H:Hp}{a b:ah}{o:HO}(h:H a=some o)(h':H b=none):a≠b:=by intro e;subst e;rw[h] at h';cases h'
section
variable (P:cv)(w:cK)
def kP(H:Hp)(h:dr)(a:ah):HO->Prop
 |.lst xs=>xs.length<=bS/\∃ (its:List ag) (n:Nat),Vals xs its/\h.get? a=some { cls:=.type "list",data:=.seq its.toArray n }
 |.tup xs=>xs.length<=bS/\∃ its:List ag,Vals xs its/\IsTup h a its.toArray
 |.dK ae=>ae.length<=bS/\(a == qq)=false/\∃ vs,KV ae vs/\h.DictOf (iN P w) a vs
 |.dT ae=>ae.length<=bS/\(a == qq)=false/\∃ xs:List (List Key × ah × ag),
   Paired (λ(p:List Key × V) (q:List Key × ah × ag)=>p.1=q.1/\H q.2.1=some (.tup (p.1.map kV))/\RelV p.2 q.2.2) ae xs /\
   ∃ o es ep,h.get? a=some o/\o.ExactDict/\o.data=.dict es ep/\es.toList=xs.map (entryOfKey (ER (iN P w)))/\(xs.map (·.1)).Nodup
 |.set S n=>h.SetOf (intKind P w) a S n
 |.ins C dx fs=>H dx=some (.own a)/\fs.length<=1000/\dx≠a/\h.get? a=some (GP C dx) /\
   ∃ mA,h.Ns1 dx mA/\(∀ f,pS (fs.lookup f) (mA f))/\PySem.Within mA (fs.map (·.1))
 |.own _=>∃ o,h.get? a=some o
 |.xd fs=>∃ mA,h.Ns1 a mA/\∀ f,pS (fs.lookup f) (mA f)
 |.Ux lo hi=>∃ t u v,h.get? a=some { cls:=.type "range",data:=.fields #[.int lo t,.int hi u,.int 1 v] }
 |.qE o u=>h.get? a=some o/\kP H h a u
 |.He ps=>h.get? a=some { cls:=.none,data:=.fields ps }
 |.met f x=>h.get? a=some (PySem.W.methodObj (.ref f) (.ref x))
 |.ext φ=>φ h/\(∃ o,h.get? a=some o)/\∀ h1 h2:dr,φ h1->(∀ o,h1.get? a=some o->h2.get? a=some o)->φ h2
def iA(H:Hp)(h:dr):Prop:=∀ a o,H a=some o->kP P w H h a o
end
section
variable {P:cv}{w:cK}{H H':Hp}{h h':dr}{a:ah}{o:HO}
def kP.lt(x:kP P w H h a o):a<h.objs.size:=by
 cases o with
 |lst xs=>obtain⟨_,_,_,_,e⟩:=x;exact eT e
 |tup xs=>obtain⟨_,_,_,p⟩:=x;exact p.lt
 |dK ae=>obtain⟨_,_,_,_,o,_,_,e,_⟩:=x;exact eT e
 |dT ae=>obtain⟨_,_,_,_,o,_,_,e,_⟩:=x;exact eT e
 |set S n=>obtain⟨o,_,_,_,e,_⟩:=x;exact eT e
 |ins C dx fs=>obtain⟨_,_,_,e,_⟩:=x;exact eT e
 |own y=>obtain⟨_,e⟩:=x;exact eT e
 |xd fs=>obtain⟨_,⟨_,_,_,e,_⟩,_⟩:=x;exact eT e
 |Ux lo hi=>obtain⟨_,_,_,e⟩:=x;exact eT e
 |qE ob u=>obtain⟨e,_⟩:=x;exact eT e
 |He ps=>exact eT (x)
 |met f y=>exact eT (x)
 |ext φ=>obtain⟨_,⟨_,e⟩,_⟩:=x;exact eT e
theorem Paired.Uy{α β:Type}{F G:α->β->Prop}:∀ {RW:List α} {l₂:List β},Paired F RW l₂->(∀ a b,F a b->G a b)->Paired G RW l₂
 |_,_,.nil,_=>.nil
 |_,_,.cons r t,f=>.cons (f _ _ r) (Paired.Uy t f)
def Paired.imp'{α β:Type}{F G:α->β->Prop}(f:∀ a b,F a b->G a b){RW:List α}{l₂:List β}(r:Paired F RW l₂):Paired G RW l₂:=Paired.Uy r f
def kP.fA(x:kP P w H h a o)(k:∀ b u,(b=a\/H b=some (.own a))->h.get? b=some u->h'.get? b=some u)(ho:∀ b,H b=some (.own a)->H' b=some (.own a)) (ht:∀ b xs,H b=some (.tup xs)->H' b=some (.tup xs)):kP P w H' h' a o:=by
 induction o with
 |lst xs=>obtain⟨z,its,n,r,e⟩:=x;exact⟨z,its,n,r,k _ _ (.inl rfl) e⟩
 |tup xs=>obtain⟨z,its,r,ob,e,c⟩:=x;exact⟨z,its,r,ob,k _ _ (.inl rfl) e,c⟩
 |dK ae=>obtain⟨z,y,vs,r,ob,es,ep,e,c⟩:=x;exact⟨z,y,vs,r,ob,es,ep,k _ _ (.inl rfl) e,c⟩
 |dT ae =>obtain⟨z,y,xs,r,ob,es,ep,e,c⟩:=x;exact⟨z,y,xs,Paired.Uy r λp q z=>⟨z.1,ht _ _ z.2.1,z.2.2⟩,ob,es,ep,k _ _ (.inl rfl) e,c⟩
 |set S n=>obtain⟨ob,es,ep,t,e,c⟩:=x;exact⟨ob,es,ep,t,k _ _ (.inl rfl) e,c⟩
 |ins C dx fs =>obtain⟨d,z,ne,e,mA,⟨od,es,ep,e2,c⟩,r⟩:=x;exact⟨ho _ d,z,ne,k _ _ (.inl rfl) e,mA,⟨od,es,ep,k _ _ (.inr d) e2,c⟩,r⟩
 |own y=>obtain⟨ob,e⟩:=x;exact⟨ob,k _ _ (.inl rfl) e⟩
 |xd fs=>obtain⟨mA,⟨od,es,ep,e,c⟩,r⟩:=x;exact⟨mA,⟨od,es,ep,k _ _ (.inl rfl) e,c⟩,r⟩
 |Ux lo hi=>obtain⟨t,u,v,e⟩:=x;exact⟨t,u,v,k _ _ (.inl rfl) e⟩
 |qE ob u ih=>obtain⟨e,q⟩:=x;exact⟨k _ _ (.inl rfl) e,ih q⟩
 |He ps =>have e:h.get? a=some { cls:=.none,data:=.fields ps }:=x;exact k a _ (.inl rfl) e
 |met f y =>have e:h.get? a=some (PySem.W.methodObj (.ref f) (.ref y)):=x;exact k a _ (.inl rfl) e
 |ext φ=>obtain⟨p,⟨o,e⟩,st⟩:=x;exact⟨st _ _ p λo q=>k _ _ (.inl rfl) q,⟨o,k _ _ (.inl rfl) e⟩,st⟩
def iA.lt(x:iA P w H h)(e:H a=some o):a<h.objs.size:=(x a o e).lt
def iA.fresh(x:iA P w H h)(e:h.objs.size<=a):H a=none:=by
 cases q:H a with
 |none=>rfl
 |some u=>exact absurd (pE (x.lt q) e) (wq _)
def iA.kept(x:iA P w H h)(k:∀ b u,h.get? b=some u->h'.get? b=some u):iA P w H h':=λa o e =>
 (x a o e).fA (λb u _ q=>k b u q) (λ_ q=>q) λ_ _ q=>q
def iA.laid(x:iA P w H h)(k:∀ b u,h.get? b=some u->h'.get? b=some u)(hp:h.objs.size<=a)(new:kP P w (upd H a o) h' a o):iA P w (upd H a o) h':=λb u e=>by
 have hn:=x.fresh hp;by_cases hb:b=a
 ·subst hb;rw[fq] at e;cases e;exact new
 ·rw[dP hb] at e;exact(x b u e).fA (λc v _ q=>k c v q) (λc q=>by rw[dP (y4 q hn)];exact q) λc xs q=>by rw[dP (y4 q hn)];exact q
end
def Rd(H:Hp)(a:ah)(u:HO):Prop:=H a=some u\/∃ o,H a=some (.qE o u)
def Rd.ok{P:cv}(r:Rd H a u)(x:iA P w H h):kP P w H h a u:=by
 rcases r with r|⟨o,r⟩
 ·exact x a u r
 ·obtain⟨_,q⟩:=x a _ r;exact q
def RX:Option HO->Prop
 |some (.lst _)=>True
 |some (.dK _)=>True
 |some (.dT _)=>True
 |some (.set _ _)=>True
 |some (.ins _ _ _)=>True
 |some (.ext _)=>True
 |_=>False
section
variable {P:cv}{w:cK}{H:Hp}{h h':dr}{x e:ah}{o':HO}
def iA.write(ok:iA P w H h)(mu:RX (H x))(he:e=x\/H e=some (.own x))(k:∀ b u,b≠e->h.get? b=some u->h'.get? b=some u)(Pl:∃ u,h'.get? e=some u)(new:kP P w (upd H x o') h' x o'):iA P w (upd H x o') h':=λb u q=>by
 have bj':∀ c y,H c=some (.own y)->c≠x:=λc y r z=>by subst z;rw[r] at mu;exact mu
 have fC':∀ c xs,H c=some (.tup xs)->c≠x:=λc xs r z=>by subst z;rw[r] at mu;exact mu
 by_cases hb:b=x
 ·subst hb;rw[fq] at q;cases q;exact new
 ·rw[dP hb] at q;by_cases K0:b=e
  ·have q':H b=some (.own x):=by
    rcases he with z|z
    ·exact absurd (K0.trans z) hb
    ·rw[K0];exact z
   rw[q] at q';cases q';obtain⟨v,hv⟩:=Pl;exact⟨v,by rw[K0];exact hv⟩
  ·refine(ok b u q).fA (λc v hc r=>k c v ?_ r) (λc r=>by rw[dP (bj' c b r)];exact r) λc xs r=>by rw[dP (fC' c xs r)];exact r
   rcases hc with rfl|hc
   ·exact K0
   ·rintro rfl;rcases he with z|z
    ·exact bj' c b hc z
    ·rw[hc] at z;cases z;exact hb rfl
end
structure Un(fs ex:List ah)(H H':Hp)(h h':dr):Prop where
 keep:∀ b o,h.get? b=some o->H b=none->b∉fs->b∉ex->h'.get? b=some o
 slot:∀ b o,h.get? b=some o->H b=none->b∈fs->b∉ex->∃ sl,h'.get? b=some { o with slots:=sl }
 free:∀ b o,h.get? b=some o->H b=none->b∉ex->H' b=none
 there:∀ b o,h.get? b=some o->b∉ex->∃ o',h'.get? b=some o'
 j3:∀ b xs,H b=some (.tup xs)->H' b=some (.tup xs)
 xS:∀ b o u,H b=some (.qE o u)->H' b=some (.qE o u)
 y6:∀ b ps,H b=some (.He ps)->∃ more,H' b=some (.He (ps++more))
section
variable {fs ex:List ah}{H H1:Hp}{h h1 h':dr}{a x e:ah}{o:HO}
def Un.any(u:Un fs ex H H1 h h1)(q:h.get? b=some ob)(n:H b=none)(hx:b∉ex):∃ sl,h1.get? b=some { ob with slots:=sl }:=by
 by_cases hb:b∈fs
 ·exact u.slot b ob q n hb hx
 ·exact⟨ob.slots,u.keep b ob q n hb hx⟩
def Un.kept(k:∀ b u,h.get? b=some u->h'.get? b=some u):Un fs ex H H h h' :=
 ⟨λb ob q _ _ _=>k b ob q,λb ob q _ _ _=>⟨ob.slots,k b ob q⟩,λ_ _ _ n _=>n,λb ob q _=>⟨ob,k b ob q⟩,λ_ _ q=>q,λ_ _ _ q=>q,λ_ ps q=>⟨#[],by rw[q];simp⟩⟩
def Un.refl:Un fs ex H H h h:=Un.kept λ_ _ q=>q
def Un.laid(k:∀ b u,h.get? b=some u->h'.get? b=some u)(hp:h.objs.size<=a)(hn:H a=none):Un fs ex H (upd H a o) h h' where
 keep:=λb u q _ _ _=>k b u q
 slot:=λb u q _ _ _=>⟨u.slots,k b u q⟩
 free:=λb u q n _=>by rw[dP (gu (pE (eT q) hp))];exact n
 there:=λb u q _=>⟨u,k b u q⟩
 j3:=λb xs q=>by rw[dP (y4 q hn)];exact q
 xS:=λb u xs q=>by rw[dP (y4 q hn)];exact q
 y6:=λb ps q=>⟨#[],by rw[dP (y4 q hn),q];simp⟩
def Un.write(mu:RX (H x))(he:e=x\/H e=some (.own x))(k:∀ b u,b≠e->h.get? b=some u->h'.get? b=some u)(Pl:∃ u,h'.get? e=some u):Un fs ex H (upd H x o) h h':=by
 have hx:∀ b,H b=none->b≠x:=λb n z=>by subst z;rw[n] at mu;exact mu
 have hb:∀ b,H b=none->b≠e:=λb n z=>by
  subst z;rcases he with r|r
  ·exact hx b n r
  ·rw[n] at r;cases r
 have hm:∀ b u,H b=some u->¬ RX (some u)->b≠x:=λb u q nm z=>by subst z;rw[q] at mu;exact nm mu
 refine⟨λb u q n _ _=>k b u (hb b n) q,λb u q n _ _=>⟨u.slots,k b u (hb b n) q⟩,λb u q n _=>by rw[dP (hx b n)];exact n,λb u q _=>?_,
  λb xs q=>by rw[dP (hm b _ q λz=>z)];exact q,λb u xs q=>by rw[dP (hm b _ q λz=>z)];exact q,λb ps q=>⟨#[],by rw[dP (hm b _ q λz=>z),q];simp⟩⟩
 by_cases K0:b=e
 ·subst K0;exact Pl
 ·exact⟨u,k b u K0 q⟩
end
def Uz(h:dr)(H:Hp):List ah:=(List.range h.objs.size).filter λa=>(H a).isSome
def E7(h:dr)(H:Hp):dr:=PySem.W.hideAll h (Uz h H)
def fD'(h:dr)(H:Hp):(E7 h H).objs.size=h.objs.size:=PySem.W.hideAll_size _ _
def fE'(e:h.get? b=some o)(n:H b=none):(E7 h H).get? b=some o :=
 PySem.W.hideAll_get _ e λhm=>by have q:(H b).isSome=true:=(E2.mp hm).2;rw[n] at q;simp at q
def fF'(e:(E7 h H).get? b=some o):h.get? b=some o/\H b=none:=by
 have e':h.get? b=some o:=PySem.W.of_hideAll (Uz h H) e;refine⟨e',?_⟩
 cases q:H b with
 |none=>rfl
 |some x =>have hm:b∈Uz h H:=E2.mpr ⟨wo.mpr (eT e'),by simp[q]⟩;have z:(E7 h H).get? b=none:=PySem.W.hideAll_none (Uz h H) hm;rw[z] at e;cases e
def fG'(g h:dr)(L:ah):List (ah × Obj):=(List.range h.objs.size).filterMap λa=>if a=L\/(g.get? a).isSome=true then none else (h.get? a).map λo=>(a,o)
def rest(g h:dr)(L d:ah):List (ah × Obj):=(fG' g h L).filter λp=>decide (p.1≠d)
structure Mod(K:aI)(mg:Str->Option ag)(base:dr):Prop where
 Pm:K.In base
 glob:base.Ns gS mg
 blt:∃ mb,base.Ns builtinsNs mb/\∀ x:Str,x ≠ "__name__"->mb x=ly x
 nolimit:base.NoLimit
structure Cx where
 prog:cv
 w:cK
 K:aI
 mg:Str->Option ag
 base:dr
 A:eB
 N:List Str
 g7:ay
 HC:Hp
 env:Env
 outer:List Env
 stack:List Env
 ex:List ah
 fn:Str->Bool
 calm:Bool
 pn:List (ah × Obj)
 xe:ag->ay->Prop
def hG(l:List Env):List ah:=l.filterMap (·.frame)
abbrev Cx.fs(X:Cx):List ah:=hG X.outer
def RZ(sc:Scope)(x:Str):Prop:=sc.names.lookup x=some .local\/sc.names.lookup x=some .cell\/sc.names.lookup x=some .free
def Loc(sc:Scope)(x:Str):Prop:=sc.names.lookup x=some .local\/sc.names.lookup x=some .cell
def Look(env:Env)(h:dr)(m:Str->Option ag)(x:Str)(u:ag):Prop :=
 (env.kindOf x=some .local/\m x=some u)\/((env.kindOf x=some .cell\/env.kindOf x=some .free)/\∃ c,env.cells.lookup x=some c/\h.IsCell c (some u))
structure Cx.Ok(X:Cx):Prop where
 mod:Mod X.K X.mg X.base
 kind:X.env.scope.kind=.function
 glob:X.env.globals=gS
 blt:X.env.builtins=builtinsNs
 above:X.g7.heap.objs.size<=X.env.locals
 inj:∀ x y c,X.env.cells.lookup x=some c->X.env.cells.lookup y=some c->x=y
 has:∀ x,(X.env.kindOf x=some .cell\/X.env.kindOf x=some .free)->∃ c,X.env.cells.lookup x=some c
 DH:∀ x c,X.fn x=true->X.env.cells.lookup x=some c->X.g7.heap.objs.size<=c
 hd:X.calm=true->X.A.handled=none
 frames:X.A.frames=some X.stack
 E8:X.stack=X.outer\/(X.stack=X.env :: X.outer/\X.env.frame=some X.env.locals)
 E9:∀ b∈X.ex,b≠X.env.locals/\∀ x c,X.env.cells.lookup x=some c->c≠b
 bs:∀ b o,X.base.get? b=some o->X.g7.heap.get? b=some o/\X.HC b=none
 x3:X.base.objs.size<=X.g7.heap.objs.size
 DI:∀ b o,X.base.get? b=some o->b∉X.ex
 DJ:∀ b∈X.ex,b∉X.fs
 tq:X.g7.heap.FunFrames X.base X.outer
 A2:∀ b∈X.fs,X.HC b=none
structure Inv(X:Cx)(pins:List (ah × Obj))(σ:List (Option V))(H:Hp)(s:ay):Prop where
 ok:X.Ok
 os:s.os=X.g7.os
 bare:AllBare s.gens
 base:Un X.fs X.ex X.HC H X.g7.heap s.heap
 loc:∃ m,s.heap.Ns X.env.locals m/\∀ (i:Nat) (x:Str) (v:V),X.N[i]? = some x->σ[i]? = some (some v)->RZ X.env.scope x->∃ u,RelV v u/\Look X.env s.heap m x u
 cell:∀ x c,X.env.cells.lookup x=some c->∃ v,s.heap.IsCell c v
 free:H X.env.locals=none
 sq:∀ x c,X.env.cells.lookup x=some c->H c=none
 pin:∀ p∈X.pn++pins,s.heap.get? p.1=some p.2/\H p.1=none/\p.1≠X.env.locals/\p.1∉X.fs/\∀ v,p.2.data≠.cell v
 bX:iA X.prog X.w H s.heap
 len:σ.length=X.N.length
section
variable {X:Cx}{pins:List (ah × Obj)}{σ:List (Option V)}{H H':Hp}{s:ay}{h':dr}
def Cx.Ok.fH'(ok:X.Ok)(e:X.base.get? b=some o):b∉X.fs:=λhb=>by have:=(ok.tq.mem hb).1;rw[e] at this;cases this
def Inv.bs(I:Inv X pins σ H s):∀ b o,X.base.get? b=some o->s.heap.get? b=some o/\H b=none:=λb o e =>
 ⟨I.base.keep b o (I.ok.bs b o e).1 (I.ok.bs b o e).2 (I.ok.fH' e) (I.ok.DI b o e),I.base.free b o (I.ok.bs b o e).1 (I.ok.bs b o e).2 (I.ok.DI b o e)⟩
def Inv.bk(I:Inv X pins σ H s):∀ b o,X.base.get? b=some o->s.heap.get? b=some o:=λb o e=>(I.bs b o e).1
def Inv.mod(I:Inv X pins σ H s):Mod X.K X.mg X.base:=I.ok.mod
def Inv.hX(I:Inv X pins σ H s):X.K.In s.heap:=I.ok.mod.Pm.keeps I.bk
def Inv.lt(I:Inv X pins σ H s):X.env.locals<s.heap.objs.size:=let ⟨_,hn,_⟩:=I.loc;hn.lt
def Inv.sz(I:Inv X pins σ H s):X.g7.heap.objs.size<=s.heap.objs.size:=kL I.ok.above (AW I.lt)
def Inv.fI'(I:Inv X pins σ H s)(h:s.heap.objs.size<=a):a∉X.fs:=λhb=>by obtain⟨_,o,ho,_⟩:=I.ok.tq.mem hb;exact absurd (pE (eT ho) (kL I.sz h)) (wq _)
def Inv.Fc(I:Inv X pins σ H s):∀ x c,X.env.cells.lookup x=some c->c≠X.env.locals:=λx c e z=>by obtain⟨v,o,ho,hd⟩:=I.cell x c e;obtain⟨m,⟨o',es,ep,nE,WR,_⟩,_⟩:=I.loc;rw[z,nE] at ho;cases ho;rw[WR] at hd;cases hd
def Inv.tq(I:Inv X pins σ H s):s.heap.FunFrames X.base X.outer:=by
 have all:∀ l,(∀ b∈hG l,b∈X.fs)->X.g7.heap.FunFrames X.base l->s.heap.FunFrames X.base l:=by
  intro l
  induction l with
  |nil=>intro _ _;trivial
  |cons env r ih =>intro hs hl;obtain⟨hk,⟨L,o,hf,hn,ho,hd⟩,hr⟩:=hl;have hL:L∈X.fs:=hs L (by unfold hG;rw[CM,hf];exact fw);obtain⟨sl,e⟩:=I.base.slot L o ho (I.ok.A2 L hL) hL λz=>I.ok.DJ L z hL;exact⟨hk,⟨L,_,hf,hn,e,hd⟩,ih (λb hb=>hs b (by unfold hG;rw[CM,hf];exact fo _ hb)) hr⟩
 exact all X.outer (λ_ hb=>hb) I.ok.tq
def Inv.stack(I:Inv X pins σ H s):s.heap.FunFrames X.base X.stack:=by
 rcases I.ok.E8 with e|⟨e,hf⟩
 ·rw[e];exact I.tq
 ·rw[e];obtain⟨m,hn,_⟩:=I.loc;refine .cons (by rw[I.ok.kind];decide) hf hn ?_ I.tq;exact Heap.get?_none_of_le (kL I.ok.x3 I.ok.above)
def Inv.WU(I:Inv X pins σ H s):∀ b∈hG X.stack,b∈X.env.locals :: X.fs:=λb hb=>by
 rcases I.ok.E8 with e|⟨e,hf⟩
 ·rw[e] at hb;exact fo _ hb
 ·rw[e] at hb;unfold hG at hb;rw[CM,hf] at hb;exact hb
def Inv.WV(I:Inv X pins σ H s):∀ b∈hG X.stack,H b=none:=λb hb=>by
 rcases fm.mp (I.WU b hb) with e|hb
 ·rw[e];exact I.free
 ·obtain⟨_,o,ho,_⟩:=I.ok.tq.mem hb;exact I.base.free b o ho (I.ok.A2 b hb) λz=>I.ok.DJ b z hb
def Inv.step{g':Array GenState}{t':Nat}{d':Drawn}{ch:List ah}(I:Inv X pins σ H s)(DL:∀ b∈ch,(b∈X.ex\/X.g7.heap.objs.size<=b)/\b≠X.env.locals/\(∀ x c,X.env.cells.lookup x=some c->c≠b)/\∀ p∈X.pn++pins,p.1≠b)(keep:∀ b o,b≠X.env.locals->b∉X.fs->b∉ch->s.heap.get? b=some o->H b=none->h'.get? b=some o)(slot:∀ b o,b≠X.env.locals->b∈X.fs->b∉ch->s.heap.get? b=some o->H b=none->∃ sl,h'.get? b=some { o with slots:=sl }) (free:∀ b o,b∉ch->s.heap.get? b=some o->H b=none->H' b=none) (there:∀ b o,b∉ch->s.heap.get? b=some o->∃ o',h'.get? b=some o') (j3:∀ b xs,H b=some (.tup xs)->H' b=some (.tup xs)) (xS:∀ b o u,H b=some (.qE o u)->H' b=some (.qE o u)) (y6:∀ b ps,H b=some (.He ps)->∃ more,H' b=some (.He (ps++more))) (ns:∀ m,s.heap.Ns X.env.locals m->h'.Ns X.env.locals m) (bX:iA X.prog X.w H' h') (hg:AllBare g') :
  Inv X pins σ H' { s with heap:=h',gens:=g',drawn:=d',toks:=t' }:=by
 have R0:∀ b o,X.g7.heap.get? b=some o->b≠X.env.locals:=λb o e=>gu (pE (eT e) I.ok.above);have UA:∀ b o,X.g7.heap.get? b=some o->b∉X.ex->b∉ch:=λb o e hx hb=>by
  rcases (DL b hb).1 with z|z
  ·exact hx z
  ·exact absurd (pE (eT e) z) (wq _)
 have cellK:∀ x c,X.env.cells.lookup x=some c->∀ v,s.heap.IsCell c v->h'.IsCell c v:=λx c e v dS=>by
  obtain⟨o,ho,hd⟩:=dS;have R1:c∉ch:=λz=>(DL c z).2.2.1 x c e rfl;by_cases hc:c∈X.fs
  ·obtain⟨sl,q⟩:=slot c o (I.Fc x c e) hc R1 ho (I.sq x c e);exact⟨_,q,hd⟩
  ·exact⟨o,keep c o (I.Fc x c e) hc R1 ho (I.sq x c e),hd⟩
 refine⟨I.ok,I.os,hg,⟨λb o e n hb hx=>?_,λb o e n hb hx=>?_,λb o e n hx=>?_,λb o e hx=>?_,λb xs e=>j3 b xs (I.base.j3 b xs e),λb o xs e=>xS b o xs (I.base.xS b o xs e),λb ps e=>?_⟩,?_,λx c e=>?_,?_,λx c e=>?_,λp hp=>?_,bX,I.len⟩
 ·exact keep b o (R0 b o e) hb (UA b o e hx) (I.base.keep b o e n hb hx) (I.base.free b o e n hx)
 ·obtain⟨sl,e1⟩:=I.base.slot b o e n hb hx;obtain⟨UB,e2⟩:=slot b _ (R0 b o e) hb (UA b o e hx) e1 (I.base.free b o e n hx);exact⟨UB,e2⟩
 ·obtain⟨o',e1⟩:=I.base.there b o e hx;exact free b o' (UA b o e hx) e1 (I.base.free b o e n hx)
 ·obtain⟨o',e1⟩:=I.base.there b o e hx;exact there b o' (UA b o e hx) e1
 ·obtain⟨m1,e1⟩:=I.base.y6 b ps e;obtain⟨m2,e2⟩:=y6 b _ e1;exact⟨m1++m2,by rw[e2,RQ]⟩
 ·obtain⟨m,hn,hl⟩:=I.loc;refine⟨m,ns m hn,λi x v e1 e2 e3=>?_⟩;obtain⟨u,r,l⟩:=hl i x v e1 e2 e3;refine⟨u,r,?_⟩;rcases l with l|⟨k,c,e,z⟩
  ·exact .inl l
  ·exact .inr ⟨k,c,e,cellK x c e _ z⟩
 ·obtain⟨v,z⟩:=I.cell x c e;exact⟨v,cellK x c e v z⟩
 ·obtain⟨m,⟨o,_,_,ho,_⟩,_⟩:=I.loc;exact free _ o (λz=>(DL _ z).2.1 rfl) ho I.free
 ·obtain⟨v,o,ho,hd⟩:=I.cell x c e;exact free c o (λz=>(DL c z).2.2.1 x c e rfl) ho (I.sq x c e)
 ·obtain⟨e,n,ne,nf,d⟩:=I.pin p hp;have R1:p.1∉ch:=λz=>(DL p.1 z).2.2.2 p hp rfl;exact⟨keep p.1 p.2 ne nf R1 e n,free p.1 p.2 R1 e n,ne,nf,d⟩
def Inv.un{t':Nat}(I:Inv X pins σ H s)(u:Un X.fs [] H H' s.heap h')(bX:iA X.prog X.w H' h'):Inv X pins σ H' { s with heap:=h',toks:=t' }:=by
 obtain⟨m,⟨o,es,ep,ho,r⟩,_⟩:=id I.loc;obtain⟨sl,hL⟩:=u.any ho I.free (by simp);exact I.step (ch:=[]) (λ_ z=>nomatch z) (λb o _ hb _ e n=>u.keep b o e n hb (by simp)) (λb o _ hb _ e n=>u.slot b o e n hb (by simp)) (λb o _ e n=>u.free b o e n (by simp)) (λb o _ e=>u.there b o e (by simp)) u.j3 u.xS u.y6 (λm' hm=>by
  obtain⟨o',WW,WY,nE,r'⟩:=hm;rw[ho] at nE;cases nE;exact⟨_,WW,WY,hL,r'⟩) bX I.bare
def Inv.call{g':Array GenState}{t':Nat}{d':Drawn}{ch:List ah}(I:Inv X pins σ H s)(u:Un (hG X.stack) ch H H' s.heap h')(bX:iA X.prog X.w H' h')(hg:AllBare g')(DL:∀ b∈ch,(b∈X.ex\/X.g7.heap.objs.size<=b)/\b≠X.env.locals/\(∀ x c,X.env.cells.lookup x=some c->c≠b)/\∀ p∈X.pn++pins,p.1≠b) :
  Inv X pins σ H' { s with heap:=h',gens:=g',drawn:=d',toks:=t' }:=by
 obtain⟨m,⟨o,es,ep,ho,r⟩,_⟩:=id I.loc;obtain⟨sl,hL⟩:=u.any ho I.free λz=>(DL _ z).2.1 rfl;exact I.step DL (λb o hL hb hc e n=>u.keep b o e n (λz=>(fm.mp (I.WU b z)).elim hL hb) hc) (λb o _ _ hc e n=>u.any e n hc) (λb o hc e n=>u.free b o e n hc) (λb o hc e=>u.there b o e hc) u.j3 u.xS u.y6 (λm' hm=>by
  obtain⟨o',WW,WY,nE,r'⟩:=hm;rw[ho] at nE;cases nE;exact⟨_,WW,WY,hL,r'⟩) bX hg
def Inv.turned{t':Nat}{it:ah}(I:Inv X pins σ H s)(k:∀ b o,b≠it->s.heap.get? b=some o->h'.get? b=some o)(hn:H it=none)(hL:it≠X.env.locals)(h1:it∈X.ex\/X.g7.heap.objs.size<=it) (h2:∀ x c,X.env.cells.lookup x=some c->c≠it) (h3:∀ p∈X.pn++pins,p.1≠it):Inv X pins σ H { s with heap:=h',toks:=t' }:=by
 have HG:∀ b u,H b=some u->b≠it:=λb u e z=>by rw[z,hn] at e;cases e
 refine I.step (ch:=[it]) (λb hb=>?_) (λb o _ _ hc e _=>k b o (λz=>hc (by simp[z])) e) (λb o _ _ hc e _=>⟨o.slots,k b o (λz=>hc (by simp[z])) e⟩) (λ_ _ _ _ n=>n) (λb o hc e=>⟨o,k b o (λz=>hc (by simp[z])) e⟩) (λ_ _ e=>e) (λ_ _ _ e=>e) (λb ps e=>⟨#[],by rw[e];simp⟩) (λm hm=>?_) (λb u e=>?_) I.bare
 ·have e:b=it:=by simpa using hb
  subst e;exact⟨h1,hL,h2,h3⟩
 ·obtain⟨o,es,ep,ho,r⟩:=hm;exact⟨o,es,ep,k _ o (Ne.symm hL) ho,r⟩
 ·refine(I.bX b u e).fA (λc v hc q=>k c v ?_ q) (λ_ q=>q) λ_ _ q=>q;rcases hc with z|z
  ·rw[z];exact HG b u e
  ·exact HG c _ z
def Inv.tok(I:Inv X pins σ H s)(t:Nat):Inv X pins σ H { s with toks:=t }:=I.un Un.refl I.bX
def Inv.kept(I:Inv X pins σ H s)(k:∀ b u,s.heap.get? b=some u->h'.get? b=some u):Inv X pins σ H { s with heap:=h',toks:=t' }:=I.un (Un.kept k) (I.bX.kept k)
def Inv.laid(I:Inv X pins σ H s)(k:∀ b u,s.heap.get? b=some u->h'.get? b=some u)(hp:s.heap.objs.size<=a)(new:kP X.prog X.w (upd H a o) h' a o) :
  Inv X pins σ (upd H a o) { s with heap:=h',toks:=t' }:=I.un (Un.laid k hp (I.bX.fresh hp)) (I.bX.laid k hp new)
def Inv.write(I:Inv X pins σ H s)(mu:RX (H x))(he:e=x\/H e=some (.own x))(k:∀ b u,b≠e->s.heap.get? b=some u->h'.get? b=some u)(Pl:∃ u,h'.get? e=some u)(new:kP X.prog X.w (upd H x o) h' x o):Inv X pins σ (upd H x o) { s with heap:=h',toks:=t' }:=I.un (Un.write mu he k Pl) (I.bX.write mu he k Pl new)
def Inv.bk'(I:Inv X pins σ H s)(h:∀ p∈sv,s.heap.get? p.1=some p.2/\H p.1=none/\p.1≠X.env.locals/\p.1∉X.fs/\∀ v,p.2.data≠.cell v):Inv X sv σ H s :=
 ⟨I.ok,I.os,I.bare,I.base,I.loc,I.cell,I.free,I.sq,λp hp=>(eL.mp hp).elim (λz=>I.pin p (kr _ z)) (h p),I.bX,I.len⟩
def bl'{N:List Str}(hN:N.Nodup){i j:Nat}{x:Str}(a:N[i]? = some x)(b:N[j]? = some x):i=j:=by obtain⟨h1,e1⟩:=kM.mp a;obtain⟨h2,e2⟩:=kM.mp b;exact(Ww hN).mp (e1.trans e2.symm)
def bm'{M:Model}{A:eB}{E:ag->ay->Prop}{i:Nat}{x:Str}{v:V}{u:ag}{Q:Unit->ay->Prop}(I:Inv X pins σ H s)(hN:X.N.Nodup)(hi:X.N[i]? = some x)(hx:Loc X.env.scope x)(r:RelV v u)(h:∀ s',Inv X pins (σ.set i (some v)) H s'->(∃ a,Heap.SameBut a s.heap s'.heap/\(a=X.env.locals\/X.env.cells.lookup x=some a))->Q () s') (hf:X.fn x=true\/X.env.scope.names.lookup x=some .local:=by first|exact .inl rfl|exact .inr rfl|assumption):bE M A (storeName X.env x u) Q E s:=by
 obtain⟨m,hn,hl⟩:=id I.loc;have WZ:(X.env.scope.kind == .class || (X.env.scope.kind == .module && X.env.locals != X.env.globals))=false:=by rw[I.ok.kind];rfl
 have bn':i<σ.length:=by rw[I.len];exact(kM.mp hi).1
 have Fc:=I.Fc;have tracked:∀ {a:ah} {h':dr},(∃ o,s.heap.get? a=some o/\H a=none)->Heap.SameBut a s.heap h'->iA X.prog X.w H h':=λ{a h'} ha hs b ob e=>by
  obtain⟨_,_,bo'⟩:=ha;refine(I.bX b ob e).fA (λc w' hc q=>(hs.2 c ?_).trans q) (λ_ q=>q) λ_ _ q=>q;rintro rfl;rcases hc with rfl|hc
  ·rw[bo'] at e;cases e
  ·rw[bo'] at hc;cases hc
 rcases hx with hk|hk
 ·refine wpAny_storeName_local hk hn (λh' Fh hs=>?_) WZ;obtain⟨oL,_,_,Fm,_⟩:=id hn;refine h _ ⟨I.ok,I.os,I.bare,⟨λb o e n hb hx=>?_,λb o e n hb hx=>?_,I.base.free,λb o e hx=>?_,I.base.j3,I.base.xS,I.base.y6⟩,⟨_,Fh,λj y v' e1 e2 e3=>?_⟩,λy c e=>?_,I.free,I.sq,λp hp=>?_,tracked ⟨oL,Fm,I.free⟩ hs,by simpa using I.len⟩ ⟨_,hs,.inl rfl⟩
  ·exact(hs.2 b (gu (pE (eT e) I.ok.above))).trans (I.base.keep b o e n hb hx)
  ·obtain⟨sl,e1⟩:=I.base.slot b o e n hb hx;exact⟨sl,(hs.2 b (gu (pE (eT e) I.ok.above))).trans e1⟩
  ·obtain⟨o',e1⟩:=I.base.there b o e hx;exact⟨o',(hs.2 b (gu (pE (eT e) I.ok.above))).trans e1⟩
  ·by_cases hj:j=i
   ·subst hj;rw[hi] at e1;cases e1;rw[List.getElem?_set_self bn'] at e2;cases e2;exact⟨u,r,.inl ⟨hk,by simp⟩⟩
   ·rw[T_ (Ne.symm hj)] at e2;obtain⟨u',r',q⟩:=hl j y v' e1 e2 e3;refine⟨u',r',?_⟩;rcases q with⟨k,e⟩|⟨k,c,e,z⟩
    ·refine .inl ⟨k,?_⟩;have:y≠x:=λe=>hj (bl' hN e1 (e ▸ hi));simp[this,e]
    ·exact .inr ⟨k,c,e,z.sameBut hs (Fc y c e)⟩
  ·obtain⟨w',z⟩:=I.cell y c e;exact⟨w',z.sameBut hs (Fc y c e)⟩
  ·obtain⟨e,n,ne,nf,d⟩:=I.pin p hp;exact⟨(hs.2 p.1 ne).trans e,n,ne,nf,d⟩
 ·have W0:X.fn x=true:=by
   rcases hf with z|z
   ·exact z
   ·rw[z] at hk;cases hk
  obtain⟨c,hc⟩:=I.ok.has x (.inl hk);obtain⟨w',z⟩:=I.cell x c hc;refine wpAny_storeName_cell I.ok.kind hk hc z (λh' K2 hs=>?_);obtain⟨oc,Pp,fJ'⟩:=id z;refine h { s with heap:=h' } ⟨I.ok,I.os,I.bare,⟨λb o e n hb hx=>?_,λb o e n hb hx=>?_,I.base.free,λb o e hx=>?_,I.base.j3,I.base.xS,I.base.y6⟩,⟨m,hn.sameBut hs (Ne.symm (Fc x c hc)),λj y v' e1 e2 e3=>?_⟩,λy c' e=>?_,I.free,I.sq,λp hp=>?_,tracked ⟨oc,Pp,I.sq x c hc⟩ hs,by simpa using I.len⟩ ⟨c,hs,.inr hc⟩
  ·exact(hs.2 b (gu (pE (eT e) (I.ok.DH x c W0 hc)))).trans (I.base.keep b o e n hb hx)
  ·obtain⟨sl,e1⟩:=I.base.slot b o e n hb hx;exact⟨sl,(hs.2 b (gu (pE (eT e) (I.ok.DH x c W0 hc)))).trans e1⟩
  ·obtain⟨o',e1⟩:=I.base.there b o e hx;exact⟨o',(hs.2 b (gu (pE (eT e) (I.ok.DH x c W0 hc)))).trans e1⟩
  ·by_cases hj:j=i
   ·subst hj;rw[hi] at e1;cases e1;rw[List.getElem?_set_self bn'] at e2;cases e2;exact⟨u,r,.inr ⟨.inl hk,c,hc,K2⟩⟩
   ·rw[T_ (Ne.symm hj)] at e2;obtain⟨u',r',q⟩:=hl j y v' e1 e2 e3;refine⟨u',r',?_⟩;rcases q with q|⟨k,c',e,z'⟩
    ·exact .inl q
    ·refine .inr ⟨k,c',e,z'.sameBut hs ?_⟩;rintro rfl;exact hj (bl' hN e1 (I.ok.inj _ _ _ e hc ▸ hi))
  ·by_cases UC:c'=c
   ·subst UC;exact⟨_,K2⟩
   ·obtain⟨w2,z2⟩:=I.cell y c' e;exact⟨w2,z2.sameBut hs UC⟩
  ·obtain⟨e,n,ne,nf,d⟩:=I.pin p hp;refine⟨(hs.2 p.1 ?_).trans e,n,ne,nf,d⟩;intro q;rw[q,Pp] at e;have q':oc=p.2:=Option.some.inj e;exact d w' (by rw[<- q'];exact fJ')
def bp'(I:Inv X pins σ H s)(hN:X.N.Nodup)(hi:X.N[i]? = some x)(hx:Loc X.env.scope x)(r:RelV v u)(h:∀ s',Inv X pins (σ.set i (some v)) H s'->Q () s') (hf:X.fn x=true\/X.env.scope.names.lookup x=some .local:=by first|exact .inl rfl|exact .inr rfl|assumption):bE M A (storeName X.env x u) Q E s :=
 bm' I hN hi hx r (λs' I' _=>h s' I') hf
def Inv.fK'(I:Inv X pins σ H s)(ho:s'.os=s.os)(u:Un (hG X.stack) ch H H' s.heap s'.heap)(bX:iA X.prog X.w H' s'.heap)(hg:AllBare s'.gens)(DL:∀ b∈ch,(b∈X.ex\/X.g7.heap.objs.size<=b)/\b≠X.env.locals/\(∀ x c,X.env.cells.lookup x=some c->c≠b)/\∀ p∈X.pn++pins,p.1≠b):Inv X pins σ H' s':=by
 obtain⟨h',g',d',t',o'⟩:=s';have e:o'=s.os:=ho;subst e;exact I.call u bX hg DL
end
abbrev XK:=ag->Option ah->Hp->Prop
abbrev St:=List (Option V)
abbrev VK:=V->Hp->Prop
abbrev TE:=St->Hp->VK->Prop
abbrev TT:=St->Hp->(Bool->Hp->Prop)->Prop
abbrev TA:=St->Hp->(List V->Hp->Prop)->Prop
structure Ends where
 nx:St->Hp->Prop
 rt:VK
 bk:St->Hp->Prop:=fun _ _=>False
 ct:St->Hp->Prop:=fun _ _=>False
abbrev TS:=Ends->St->Hp->Prop
def EP(X:Cx)(pins:List (ah × Obj))(σ:St)(Q:VK)(u:ag)(s':ay):Prop:=∃ v H',Inv X pins σ H' s'/\RelV v u/\Q v H'
def TP(X:Cx)(pins:List (ah × Obj))(σ:St)(Q:Bool->Hp->Prop)(b:Bool)(s':ay):Prop:=∃ H',Inv X pins σ H' s'/\Q b H'
def AP(X:Cx)(pins:List (ah × Obj))(σ:St)(Q:List V->Hp->Prop)(us:List ag)(s':ay):Prop:=∃ vs H',Inv X pins σ H' s'/\Vals vs us/\Q vs H'
def SP(X:Cx)(pins:List (ah × Obj))(D:Ends)(f:Flow)(s':ay):Prop :=
 match f with
 |.next=>∃ cx H',Inv X pins cx H' s'/\D.nx cx H'
 |.brk=>∃ cx H',Inv X pins cx H' s'/\D.bk cx H'
 |.cont=>∃ cx H',Inv X pins cx H' s'/\D.ct cx H'
 |.ret u=>∃ v cx H',Inv X pins cx H' s'/\RelV v u/\D.rt v H'
def PE(X:Cx)(e:Expr)(t:TE):Prop :=
 ∀ (pins:List (ah × Obj)) (s:ay) (σ:St) (H:Hp) (Q:VK),Inv X pins σ H s->t σ H Q->bE (aT X.prog X.w) X.A (cp e X.env) (EP X pins σ Q) X.xe s
def PT(X:Cx)(e:Expr)(t:TT):Prop :=
 ∀ (pins:List (ah × Obj)) (s:ay) (σ:St) (H:Hp) (Q:Bool->Hp->Prop),Inv X pins σ H s->t σ H Q->bE (aT X.prog X.w) X.A (isTrue e X.env (cp e X.env)) (TP X pins σ Q) X.xe s
def PW(X:Cx)(e:Expr)(t:TT):Prop :=
 ∀ (whole:Sem ag) (pins:List (ah × Obj)) (s:ay) (σ:St) (H:Hp) (Q:Bool->Hp->Prop),Inv X pins σ H s->t σ H Q->bE (aT X.prog X.w) X.A (isTrue e X.env whole) (TP X pins σ Q) X.xe s
def PA(X:Cx)(es:List Expr)(t:TA):Prop :=
 ∀ (pos:Pos) (pins:List (ah × Obj)) (s:ay) (σ:St) (H:Hp) (Q:List V->Hp->Prop),Inv X pins σ H s->t σ H Q->bE (aT X.prog X.w) X.A (spliced (i3 pos (bT es X.env))) (AP X pins σ Q) X.xe s
def PS(X:Cx)(st:i5)(t:TS):Prop :=
 ∀ (pins:List (ah × Obj)) (s:ay) (σ:St) (H:Hp) (D:Ends),Inv X pins σ H s->t D σ H->bE (aT X.prog X.w) X.A (exec st X.env) (SP X pins D) X.xe s
def mn(X:Cx)(st:List i5)(t:TS):Prop :=
 ∀ (pins:List (ah × Obj)) (s:ay) (σ:St) (H:Hp) (D:Ends),Inv X pins σ H s->t D σ H->bE (aT X.prog X.w) X.A (execs st X.env) (SP X pins D) X.xe s
def cy{α:Type}{t:Sem α}{Q Q':α->ay->Prop}{M:Model}{A:eB}{E:ag->ay->Prop}{s:ay}(h:bE M A t Q E s)(hQ:∀ a s,Q a s->Q' a s):bE M A t Q' E s:=se h hQ λ_ _ x=>x
section
variable {X:Cx}
def kc(i:Nat):TE:=λσ H Q=>∃ v,σ[i]? = some (some v)/\Q v H
def tC(v:V):TE:=λ_ H Q=>Q v H
def R3 (hN:X.N[i]? = some x) (hv:RZ X.env.scope x) (hd:(x == ("__debug__" : Str))=false:=by decide) (tF:(x == ("__classdict__" : Str))=false:=by decide):PE X (.Name x pos) (kc i):=by
 walk_at"t";obtain⟨v,e,h⟩:=h;obtain⟨m,hn,hl⟩:=I.loc;obtain⟨u,r,l⟩:=hl i x v hN e hv;have fin:EP X pins σ Q u s:=⟨v,H,I,r,h⟩
 rcases l with⟨hk,hm⟩|⟨hk,c,hc,bq'⟩
 ·exact wpAny_Name (wpAny_loadName_local I.ok.kind hk hn hm fin) hd
 ·rcases hk with hk|hk
  ·exact wpAny_Name (wpAny_loadName_cell I.ok.kind hk hc bq' fin) hd
  ·exact wpAny_Name (wpAny_loadName_free I.ok.kind hk hc bq' fin tF) hd
def fL'{i j pos}:PE X (.Constant (.int i) j pos) (tC (.int i)):=λ_ _ _ H _ I h=>wpAny_Constant_int ⟨.int i,H,I.tok _,⟨_,rfl⟩,h⟩
def fM'{b j pos}:PE X (.Constant (.bool b) j pos) (tC (.bl b)):=λ_ _ _ H _ I h=>Constant_bool ⟨.bl b,H,I,rfl,h⟩
def fN'{x j pos}:PE X (.Constant (.str x) j pos) (tC (.str x)):=λ_ _ _ H _ I h=>Calls.Constant_str ⟨.str x,H,I.tok _,⟨_,rfl⟩,h⟩
def Gl(X:Cx)(x:Str):Prop:=X.env.kindOf x=some .globalImplicit
def Lc(I:Inv X pins σ H s)(hg:Gl X x)(hm:X.mg x=some u)(h:Q u s)(hd:(x == ("__debug__" : Str))=false:=by decide):bE (aT X.prog X.w) X.A (cp (.Name x pos) X.env) Q E s :=
 Calls.Name_function_global I.ok.kind hg (Calls.loadGlobal_global (by rw[I.ok.glob];exact I.mod.glob.keeps I.bk) hm h) hd
def DM(I:Inv X pins σ H s)(hg:Gl X x)(hm:X.mg x=none)(hv:ly x=some u)(h:Q u s)(hn:x ≠ "__name__" := by decide) (hd:(x == ("__debug__" : Str))=false:=by decide):bE (aT X.prog X.w) X.A (cp (.Name x pos) X.env) Q E s:=by
 obtain⟨mb,h1,h2⟩:=I.mod.blt;exact Calls.Name_function_global I.ok.kind hg (Calls.loadGlobal_builtin (by rw[I.ok.glob];exact I.mod.glob.keeps I.bk) hm (by rw[I.ok.blt];exact h1.keeps I.bk) ((h2 x hn).trans hv) h) hd
def Pt (hg:Gl X x) (hm:X.mg x=some u) (r:RelV v u) (hd:(x == ("__debug__" : Str))=false:=by decide):PE X (.Name x pos) (tC v) :=
 λ_ _ _ H _ I h=>Lc I hg hm ⟨v,H,I,r,h⟩ hd
def fO' (hg:Gl X x) (hm:X.mg x=none) (hv:ly x=some u) (r:RelV v u) (hn:x ≠ "__name__" := by decide) (hd:(x == ("__debug__" : Str))=false:=by decide):PE X (.Name x pos) (tC v) :=
 λ_ _ _ H _ I h=>DM I hg hm hv ⟨v,H,I,r,h⟩ hn hd
variable {a b:Expr}{ta tb:TE}{pos:Pos}
def PC(X:Cx)(op:CmpOp)(a b:Expr)(t:TE):Prop :=
 ∀ (pins:List (ah × Obj)) (s:ay) (σ:St) (H:Hp) (Q:VK),Inv X pins σ H s->t σ H Q ->
  bE (aT X.prog X.w) X.A (cp a X.env) (λv fz=>bE (aT X.prog X.w) X.A (cp b X.env) (λu ya=>bE (aT X.prog X.w) X.A (i7 op v u) (EP X pins σ Q) X.xe ya) X.xe fz) X.xe s
def tB(t:TE):TT:=λσ H Q=>t σ H λx H1=>∃ c,x=.bl c/\Q c H1
def fP'(h:PC X op a b t)(h1:GN op b=false:=by first|exact qH' _ (by decide) (by decide)|rfl):PT X (.Compare a [op] [b] pos) (tB t):=by intro pins s σ H Q I hw;refine wpAny_isTrue_Compare1 (cy (h pins s σ H _ I hw) λv s1 h1=>cy h1 λu s2 h2=>cy h2 λc s3 cq=>L2.eW cq λx H1 I1 r1 q1=>?_) h1;obtain⟨d,rfl,q⟩:=q1;cases r1;exact AJ ⟨H1,I1,q⟩
def fQ'(h:PE X e t)(he:∀ whole,isTrue e X.env whole=(do let v <- whole;standAt e.pos;holding [v] (truthy v)):=by intro _;rfl):PT X e (tB t):=by intro pins s σ H Q I hw;refine isTrue_plain (cy (h pins s σ H _ I hw) λv s1 cq=>L2.eW cq λx H1 I1 r1 q1=>?_) (he _);obtain⟨d,rfl,q⟩:=q1;cases r1;exact AJ ⟨H1,I1,q⟩
variable {tA tB':TT}{rest:List Expr}
def tOr(t u:TT):TT:=λσ H Q=>t σ H λc H1=>if c=true then Q true H1 else u σ H1 Q
def fS'(t:TT):TT:=λσ H Q=>t σ H λc H1=>Q (!c) H1
def pw_or1(ha:PT X a tA):PW X (.BoolOp .Or [a] pos) tA:=by
 intro wh pins s σ H Q I h;refine isTrue_or (cy (ha pins s σ H Q I h) λc s1 e=>?_)
 cases c with
 |false=>exact isTrue_or_nil e
 |true=>exact e
def pw_or(ha:PT X a tA)(hb:PW X (.BoolOp .Or (b :: rest) pos) tB'):PW X (.BoolOp .Or (a :: b :: rest) pos) (tOr tA tB'):=by
 intro wh pins s σ H Q I h;refine isTrue_or (cy (ha pins s σ H _ I h) λc s1 dS=>?_);obtain⟨H1,I1,q1⟩:=dS
 cases c with
 |true=>exact⟨H1,I1,q1⟩
 |false=>exact hb wh pins s1 σ H1 Q I1 q1
def fT'(ha:PT X a tA):PT X (.UnaryOp .Not a pos) (fS' tA):=by intro pins s σ H Q I h;exact isTrue_not (ha pins s σ H (λc H1=>Q (!c) H1) I h)
def fU'(ta tb:TE):TE:=λσ H Q=>ta σ H λx H1=>∃ c,x=.bl c/\if c=true then tb σ H1 Q else Q (.bl false) H1
def fV'(ta tb:TE):TE:=λσ H Q=>ta σ H λx H1=>∃ c,x=.bl c/\if c=true then Q (.bl true) H1 else tb σ H1 Q
def fW'(ta:TE):TE:=λσ H Q=>ta σ H λx H1=>∃ c,x=.bl c/\Q (.bl (!c)) H1
def fX'{op}(h:PE X a t):PE X (.BoolOp op [a] pos) t:=λpins s σ H Q I hw=>BoolOp_one (h pins s σ H Q I hw)
def fY'(ha:PE X a ta)(hb:PE X (.BoolOp .And (b :: rest) pos) tb):PE X (.BoolOp .And (a :: b :: rest) pos) (fU' ta tb):=by
 walk_at"t";refine BoolOp_and (cy (ha pins s σ H _ I h) λv s1 cq=>L2.eW cq λx H1 I1 r1 q1=>?_);obtain⟨c,rfl,q1⟩:=q1;cases r1;refine AJ ?_
 cases c with
 |true=>exact hb pins s1 σ H1 Q I1 q1
 |false=>exact⟨.bl false,H1,I1,rfl,q1⟩
def fZ'(ha:PE X a ta)(hb:PE X (.BoolOp .Or (b :: rest) pos) tb):PE X (.BoolOp .Or (a :: b :: rest) pos) (fV' ta tb):=by
 walk_at"t";refine BoolOp_or (cy (ha pins s σ H _ I h) λv s1 cq=>L2.eW cq λx H1 I1 r1 q1=>?_);obtain⟨c,rfl,q1⟩:=q1;cases r1;refine AJ ?_
 cases c with
 |false=>exact hb pins s1 σ H1 Q I1 q1
 |true=>exact⟨.bl true,H1,I1,rfl,q1⟩
def ga'(ha:PE X a ta):PE X (.UnaryOp .Not a pos) (fW' ta):=by intro pins s σ H Q I h;refine UnaryOp_ (cy (ha pins s σ H _ I h) λv s1 cq=>L2.eW cq λx H1 I1 r1 q1=>?_);obtain⟨c,rfl,q1⟩:=q1;cases r1;exact not_of (AJ ⟨.bl (!c),H1,I1,rfl,q1⟩)
end
def fE(K:aI)(H:Hp)(a:ah)(xs:List V):Prop :=
 Rd H a (.lst xs) \/
  ∃ (o:Obj) (its:Array ag) (n:Nat),K.lookup a=some o/\o.cls=.type "list"/\o.dict=none/\o.data=.seq its n/\its.size<=bS/\Vals xs its.toList
def kQ(K:aI)(H:Hp)(a:ah)(xs:List V):Prop :=
 Rd H a (.tup xs) \/
  ∃ (o:Obj) (its:Array ag) (n:Nat),K.lookup a=some o/\o.cls=.type "tuple"/\o.data=.seq its n/\its.size<=bS/\Vals xs its.toList
def gb':ag->Option V
 |.none=>some .non
 |.bool b=>some (.bl b)
 |.int i _=>some (.int i)
 |.str x _=>some (.str x)
 |.bytes b _=>some (.uk b)
 |.float b _=>some (.DF b)
 |.ref a=>some (.ref a)
 |.type n=>some (.ty n)
 |_=>none
def RelV.abs(r:RelV x u):gb' u=some x:=by
 cases x with
 |non=>cases r;rfl
 |bl _=>cases r;rfl
 |int _=>obtain⟨t,rfl⟩:=r;rfl
 |str _=>obtain⟨t,rfl⟩:=r;rfl
 |uk _=>obtain⟨t,rfl⟩:=r;rfl
 |DF _=>obtain⟨t,rfl⟩:=r;rfl
 |ref _=>cases r;rfl
 |ty _=>cases r;rfl
def RelV.inj(r:RelV x u)(q:RelV y u):x=y:=Option.some.inj (r.abs.symm.trans q.abs)
theorem Vals.inj:∀ {xs ys:List V} {us:List ag},Vals xs us->Vals ys us->xs=ys
 |_,_,_,.nil,.nil=>rfl
 |_,_,_,.cons r t,.cons r' t'=>by rw[r.inj r',Vals.inj t t']
section
variable {X:Cx}{pins:List (ah × Obj)}{σ:St}{H:Hp}{s:ay}{a:ah}{xs ys:List V}
def Inv.list(I:Inv X pins σ H s)(h:fE X.K H a xs):∃ its:List ag,Vals xs its/\PlainL s.heap a its.toArray/\xs.length<=bS:=by
 rcases h with h|⟨o,its,n,hk,hc,hd,hs,hz,r⟩
 ·obtain⟨z,its,n,r,e⟩:=h.ok I.bX;exact⟨its,r,⟨_,n,e,rfl,rfl,rfl⟩,z⟩
 ·refine⟨its.toList,r,⟨o,n,I.hX a o hk,hc,hd,by simpa using hs⟩,?_⟩;have e:=r.length;simp only[AZ] at e;lia
def Inv.tuple(I:Inv X pins σ H s)(h:kQ X.K H a xs):∃ its:List ag,Vals xs its/\IsTup s.heap a its.toArray/\xs.length<=bS:=by
 rcases h with h|⟨o,its,n,hk,hc,hs,hz,r⟩
 ·obtain⟨z,its,r,p⟩:=h.ok I.bX;exact⟨its,r,p,z⟩
 ·refine⟨its.toList,r,⟨o,I.hX a o hk,hc,n,by simpa using hs⟩,?_⟩;have e:=r.length;simp only[AZ] at e;lia
def Inv.bt'(I:Inv X pins σ H s)(h:fE X.K H a xs)(h':fE X.K H a ys):xs=ys:=by
 obtain⟨its,r,⟨o,n,e,_,_,d⟩,_⟩:=I.list h;obtain⟨Lv,r',⟨o',n',e',_,_,d'⟩,_⟩:=I.list h';rw[e] at e';cases e';rw[d] at d';injection d' with d1 _;have:its=Lv:=by simpa using congrArg Array.toList d1
 subst this;exact r.inj r'
def Inv.gc'(I:Inv X pins σ H s)(h:kQ X.K H a xs)(h':kQ X.K H a ys):xs=ys:=by
 obtain⟨its,r,⟨o,e,_,n,d⟩,_⟩:=I.tuple h;obtain⟨Lv,r',⟨o',e',_,n',d'⟩,_⟩:=I.tuple h';rw[e] at e';cases e';rw[d] at d';injection d' with d1 _;have:its=Lv:=by simpa using congrArg Array.toList d1
 subst this;exact r.inj r'
end
abbrev Cx.wish(X:Cx)(E:ag->ay->Prop):Cx:={ X with xe:=E }
abbrev Cx.yb(X:Cx):Cx:=X.wish λ_ _=>False
def Cx.Ok.wish{X:Cx}(ok:X.Ok)(E:ag->ay->Prop):(X.wish E).Ok :=
 ⟨ok.mod,ok.kind,ok.glob,ok.blt,ok.above,ok.inj,ok.has,ok.DH,ok.hd,ok.frames,ok.E8,ok.E9,ok.bs,ok.x3,ok.DI,ok.DJ,ok.tq,ok.A2⟩
def Cx.Ok.HK{X:Cx}(ok:(X.wish E).Ok):X.Ok :=
 ⟨ok.mod,ok.kind,ok.glob,ok.blt,ok.above,ok.inj,ok.has,ok.DH,ok.hd,ok.frames,ok.E8,ok.E9,ok.bs,ok.x3,ok.DI,ok.DJ,ok.tq,ok.A2⟩
section
variable {X:Cx}{pins:List (ah × Obj)}{σ:St}{H:Hp}{s:ay}{E:ag->ay->Prop}
def Inv.wish(I:Inv X pins σ H s)(E:ag->ay->Prop):Inv (X.wish E) pins σ H s:=⟨I.ok.wish E,I.os,I.bare,I.base,I.loc,I.cell,I.free,I.sq,I.pin,I.bX,I.len⟩
def Inv.HK(I:Inv (X.wish E) pins σ H s):Inv X pins σ H s:=⟨I.ok.HK,I.os,I.bare,I.base,I.loc,I.cell,I.free,I.sq,I.pin,I.bX,I.len⟩
def SP.HK{D:Ends}(h:SP (X.wish E) pins D f s'):SP X pins D f s':=by
 cases f with
 |next=>obtain⟨cx,H',I,q⟩:=h;exact⟨cx,H',I.HK,q⟩
 |brk=>obtain⟨cx,H',I,q⟩:=h;exact⟨cx,H',I.HK,q⟩
 |cont=>obtain⟨cx,H',I,q⟩:=h;exact⟨cx,H',I.HK,q⟩
 |ret u=>obtain⟨v,cx,H',I,r,q⟩:=h;exact⟨v,cx,H',I.HK,r,q⟩
def mn.yb{st:List i5}(h:mn X.yb st t):mn X st t:=λpins s σ H D I hw =>
 se (h pins s σ H D (I.wish _) hw) (λ_ _ q=>q.HK) λ_ _ z=>False.elim z
end
section
variable {X:Cx}{st:i5}{rest:List i5}{t u:TS}{e:Expr}{te:TE}{pos:Pos}
def bu':TS:=λD σ H=>D.nx σ H
def R4(t u:TS):TS:=λD σ H=>t { D with nx:=u D } σ H
def W3:mn X [] bu':=λ_ _ σ H _ I h=>wpAny_execs_nil ⟨σ,H,I,h⟩
def UD(h1:PS X st t)(h2:mn X rest u):mn X (st :: rest) (R4 t u):=by
 intro pins s σ H D I h;refine wpAny_execs_cons (cy (h1 pins s σ H { D with nx:=u D } I h) λf s1 q=>?_)
 cases f with
 |next =>obtain⟨cx,H',I',q⟩:=q;exact h2 pins s1 cx H' D I' q
 |ret v=>exact q
 |brk=>exact q
 |cont=>exact q
def R5(h1:PS X st t):mn X [st] t:=by
 intro pins s σ H D I h;refine wpAny_execs_cons (cy (h1 pins s σ H D I h) λf s1 q=>?_)
 cases f with
 |next=>exact wpAny_execs_nil q
 |ret v=>exact q
 |brk=>exact q
 |cont=>exact q
def Inv.quiet(I:Inv X pins σ H s):interactive X.env=false:=by simp[interactive,I.ok.kind]
def bv'(te:TE):TS:=λD σ H=>te σ H λ_ H1=>D.nx σ H1
def LB(he:PE X e te)(hs:autoParam (og e none pos.line X.env=pure false) bv):PS X (.Expr e pos) (bv' te):=by intro pins s σ H D I h;exact wpAny_Expr_any (cy (he pins s σ H _ I h) λv s1 cq=>L2.eW cq λx H1 I1 r1 q1=>⟨σ,H1,I1,q1⟩) I.quiet hs
def UE(te:TE):TS:=λD σ H=>te σ H D.rt
def R6(he:PE X e te):PS X (.Return (some e) pos) (UE te):=by intro pins s σ H D I h;exact wpAny_Return_some (cy (he pins s σ H _ I h) λv s1 cq=>L2.eW cq λx H1 I1 r1 q1=>⟨x,σ,H1,I1,r1,q1⟩)
def bw'(c:TT)(t u:TS):TS:=λD σ H=>c σ H λb H1=>if b=true then t D σ H1 else u D σ H1
def bx'(hc:PT X c tc)(ha:mn X a t)(hb:mn X b u):PS X (.If c a b pos) (bw' tc t u):=by
 intro pins s σ H D I h;refine wpAny_If (cy (hc pins s σ H _ I h) λd s1 dS=>?_);obtain⟨H1,I1,q1⟩:=dS
 cases d with
 |true=>exact ha pins s1 σ H1 D I1 q1
 |false=>exact hb pins s1 σ H1 D I1 q1
def gd':TS:=λ_ _ _=>False
def ge':mn X sts gd':=λ_ _ _ _ _ _ h=>h.elim
end
abbrev TG:=V->St->Hp->(St->Hp->Prop)->Prop
abbrev Pw:=List V->St->Hp->(St->Hp->Prop)->Prop
def PG(X:Cx)(target:Expr)(t:TG):Prop :=
 ∀ (pins:List (ah × Obj)) (s:ay) (σ:St) (H:Hp) (v:V) (u:ag) (Q:St->Hp->Prop),Inv X pins σ H s->RelV v u->t v σ H Q ->
  bE (aT X.prog X.w) X.A (assign target X.env u) (λ_ s'=>∃ cx H',Inv X pins cx H' s'/\Q cx H') X.xe s
def DS(X:Cx)(ts:List Expr)(t:Pw):Prop :=
 ∀ (pins:List (ah × Obj)) (s:ay) (σ:St) (H:Hp) (vs:List V) (us:List ag) (Q:St->Hp->Prop),Inv X pins σ H s->Vals vs us->t vs σ H Q ->
  bE (aT X.prog X.w) X.A (assignInOrder ((EL ts X.env).map (·.2)) us) (λ_ s'=>∃ cx H',Inv X pins cx H' s'/\Q cx H') X.xe s
section
variable {X:Cx}{pos:Pos}
def by'(i:Nat):TG:=λv σ H Q=>Q (σ.set i (some v)) H
def gf'(hN:X.N.Nodup)(hi:X.N[i]? = some x)(hx:Loc X.env.scope x)(hf:X.fn x=true\/X.env.scope.names.lookup x=some .local:=by first|exact .inl rfl|exact .inr rfl|assumption):PG X (.Name x pos) (by' i):=by intro pins s σ H v u Q I r h;exact wpAny_assign_Name (bp' I hN hi hx r (λs' I'=>⟨_,H,I',h⟩) hf)
def gg':Pw:=λvs σ H Q=>vs=[]/\Q σ H
def gh'(t:TG)(u:Pw):Pw:=λvs σ H Q=>∃ v r,vs=v :: r/\t v σ H λcx H'=>u r cx H' Q
def gi':DS X [] gg':=by intro pins s σ H vs us Q I r h;obtain⟨e,h⟩:=h;subst e;cases r;exact assignInOrder_nil ⟨σ,H,I,h⟩
def gj'(h1:PG X e t)(h2:DS X es u)(hs:autoParam ((EL (e :: es) X.env).map (·.2)=assign e X.env :: (EL es X.env).map (·.2)) bv):DS X (e :: es) (gh' t u):=by
 intro pins s σ H vs us Q I r h;obtain⟨v,vr,e1,h⟩:=h;subst e1
 cases r with
 |cons r rr =>rw[hs];refine assignInOrder_cons (cy (h1 pins s σ H _ _ _ I r h) λ_ s1 dS=>?_);obtain⟨σ1,H1,I1,q1⟩:=dS;exact h2 pins s1 σ1 H1 _ _ Q I1 rr q1
def gl'(K:aI)(n:Nat)(t:Pw):TG:=λv σ H Q=>∃ a xs,v=.ref a/\kQ K H a xs/\xs.length=n/\t xs σ H Q
def gm'(hc:X.calm=true)(h:DS X es t)(hn:autoParam ((EL es X.env).length=n) bv) (kE:autoParam ((EL es X.env).findIdx? (·.1)=none) bv):PG X (.Tuple es k pos) (gl' X.K n t):=by
 intro pins s σ H v u Q I r hw;obtain⟨a,xs,e1,hq,hl,hw⟩:=hw;subst e1;cases r;obtain⟨its,rv,ht,hz⟩:=I.tuple hq;refine assign_Tuple_tuple (I.ok.hd hc) ht (by simp[hn,<- hl,rv.length]) kE λh' hx=>?_;have I1:Inv X pins σ H { s with heap:=h' }:=I.kept λb o e=>hx b o (gu (eT e)) e;exact h pins _ σ H xs _ Q I1 (by simpa using rv) hw
def gn'(te:TE)(g:TG):TS:=λD σ H=>te σ H λx H1=>g x σ H1 D.nx
def bz'(hN:X.N.Nodup)(hi:X.N[i]? = some x)(hx:Loc X.env.scope x)(he:PE X e te)(hs:autoParam (og e (some (.Name x pos')) pos.line X.env=pure false) bv)(hf:X.fn x=true\/X.env.scope.names.lookup x=some .local:=by first|exact .inl rfl|exact .inr rfl|assumption) :
  PS X (.Assign [.Name x pos'] e pos) (gn' te (by' i)):=by
 intro pins s σ H D I h;refine wpAny_Assign_Name (cy (he pins s σ H _ I h) λv s1 cq=>L2.eW cq λy H1 I1 r1 q1=>?_) hs;exact bp' I1 hN hi hx r1 (λs2 I2=>⟨_,H1,I2,q1⟩) hf
end
structure It where
 go:Nat->Hp->Prop
 pT:Nat->Hp->V->Hp->Prop
 stop:Nat->Hp->Prop
def y8(X:Cx)(pins:List (ah × Obj))(H:Hp)(b:ah):Prop :=
 H b=none/\b≠X.env.locals/\b∉X.fs/\(b∈X.ex\/X.g7.heap.objs.size<=b)/\(∀ x c,X.env.cells.lookup x=some c->c≠b)/\∀ p∈X.pn++pins,p.1≠b
def Inv.LD{X:Cx}(I:Inv X pins σ H s)(hb:s.heap.objs.size<=b)(hn:H' b=none):y8 X pins H' b:=by
 refine⟨hn,OW (pE I.lt hb),I.fI' hb,.inr (kL I.sz hb),λx c e z=>?_,λp hp z=>?_⟩
 ·obtain⟨v,q⟩:=I.cell x c e;exact absurd (pE q.lt (by rw[z];exact hb)) (wq _)
 ·exact absurd (pE (eT (I.pin p hp).1) (by rw[z];exact hb)) (wq _)
structure Turn(P:cv)(w:cK)(K:aI)(tg:Expr)(J:It)(fp:List ah)(it:ah)(tn:Nat->dr->Prop):Prop where
 mem:it∈fp
 obj:∀ i h,tn i h->∀ b∈fp,∃ o,h.get? b=some o/\∀ v,o.data≠.cell v
 keep:∀ i h h',tn i h->(∀ b∈fp,∀ o,h.get? b=some o->h'.get? b=some o)->tn i h'
 item:∀ (X:Cx),X.prog=P->X.w=w->X.K=K->X.calm=true->∀ (i:Nat) (pins:List (ah × Obj)) (s:ay) (σ:St) (H:Hp) (E:ag->ay->Prop),Inv X pins σ H s->(∀ b∈fp,y8 X pins H b)->tn i s.heap->J.go i H ->
  bE (aT P w) X.A (pyNext (.ref it)) (fun r s1=>∃ u,r=some u /\
   bE (aT P w) X.A (letOwnedTupleGo tg (.ref it) u) (fun _ s2=>∃ x H',Inv X pins σ H' s2/\RelV x u/\J.pT i H x H'/\tn (i+1) s2.heap/\∀ b∈fp,H' b=none) E s1) E s
 done:∀ (X:Cx),X.prog=P->X.w=w->X.K=K->X.calm=true->∀ (i:Nat) (pins:List (ah × Obj)) (s:ay) (σ:St) (H:Hp) (E:ag->ay->Prop),Inv X pins σ H s->(∀ b∈fp,y8 X pins H b)->tn i s.heap->J.stop i H ->
  bE (aT P w) X.A (pyNext (.ref it)) (fun r s1=>r=none/\Inv X pins σ H s1) E s
 self:∀ (A:eB) (i:Nat) (s:ay) (Q:ag->ay->Prop) (E:ag->ay->Prop),tn i s.heap->Q (.ref it) s->bE (aT P w) A (pyIter (.ref it)) Q E s
abbrev TI:=St->Hp->(It->Hp->Prop)->Prop
def PIE(X:Cx)(pins:List (ah × Obj))(σ:St)(tg:Expr)(R:It->Hp->Prop)(W4:ag)(s2:ay):Prop :=
 ∃ (it:ah) (fp:List ah) (tn:Nat->dr->Prop) (J:It) (H':Hp),W4=.ref it/\Inv X pins σ H' s2/\Turn X.prog X.w X.K tg J fp it tn/\tn 0 s2.heap/\(∀ b∈fp,y8 X pins H' b)/\R J H'
def PI(X:Cx)(tg iter:Expr)(wi:TI):Prop :=
 ∀ (pins:List (ah × Obj)) (s:ay) (σ:St) (H:Hp) (R:It->Hp->Prop),Inv X pins σ H s->wi σ H R ->
  bE (aT X.prog X.w) X.A (cp iter X.env) (λv s1=>bE (aT X.prog X.w) X.A (pyIter v) (PIE X pins σ tg R) X.xe s1) X.xe s
def R7(ho:s.heap.get? it=some o)(hc:o.cls=.type n)(hd:o.data=.fields vs)(hn:["enumerate", "zip", "dict_itemiterator", "dict_reverseitemiterator", "odict_iterator", "itertools.zip_longest", "itertools.pairwise"].contains n=false) (hQ:Q () s):bE M A (letOwnedTupleGo tg (.ref it) u) Q E s:=by
 cases tg<;>first
  |exact bG hQ
  | (cases u<;>first
     |exact bG hQ
     | (refine ax (wpAny_load ho ?_)
        rw[hc,hd];show bE M A (if (["enumerate", "zip", "dict_itemiterator", "dict_reverseitemiterator", "odict_iterator", "itertools.zip_longest", "itertools.pairwise"].contains n && vs[0]? == some (oS _))=true then _ else _) Q E s;rw[if_neg (by intro h;rw[hn,Bool.false_and] at h;cases h)];exact bG hQ))
def UG(K:aI)(a:ah):It :=
 ⟨λi H=>∃ xs x,fE K H a xs/\xs[i]? = some x,λi H x H'=>H'=H/\∀ xs,fE K H a xs->xs[i]? = some x,λi H=>∃ xs,fE K H a xs/\xs.length<=i⟩
def W5(K:aI)(a:ah):It :=
 ⟨λi H=>∃ xs x,kQ K H a xs/\xs[i]? = some x,λi H x H'=>H'=H/\∀ xs,kQ K H a xs->xs[i]? = some x,λi H=>∃ xs,kQ K H a xs/\xs.length<=i⟩
def LG(lo:Int)(n:Nat):It:=⟨λi _=>i<n,λi H x H'=>H'=H/\x=.int (lo+i),λi _=>n<=i⟩
def gp'{P:cv}{K:aI}(a it:ah):Turn P w K tg (UG K a) [it] it (λi h=>h.IsListIter it a i) where
 mem:=by simp
 obj:=λi h st b hb=>by
  have e:b=it:=by simpa using hb
  subst e;obtain⟨o,e,c,d⟩:=st;exact⟨o,e,λv z=>by rw[d] at z;cases z⟩
 keep:=λi h h' st k=>st.at λo e=>k it (by simp) o e
 item:=by intro X hP hw hK hc i pins s σ H E I hf st hg;subst hP hw hK;obtain⟨xs,x,hq,hx⟩:=hg;obtain⟨its,rv,p,hz⟩:=I.list hq;obtain⟨u,hu,ru⟩:=rv.get hx;obtain⟨f0,f1,f2,f3,f4,f5⟩:=hf it (by simp);refine wpAny_pyNext_list_item st p.isList (x:=u) (by simpa using hu) λh' aw sb=>?_;have I1:Inv X pins σ H { s with heap:=h' }:=I.turned (t':=s.toks) (λb o hb e=>(sb.2 b hb).trans e) f0 f1 f3 f4 f5;obtain⟨o,e,c,d⟩:=id aw;exact⟨u,rfl,R7 (s:={ s with heap:=h' }) e c d (by decide) ⟨x,H,I1,ru,⟨rfl,λys hy=>by rw[I.bt' hy hq];exact hx⟩,aw,λb hb=>(hf b hb).1⟩⟩
 done:=by intro X hP hw hK hc i pins s σ H E I hf st hg;subst hP hw hK;obtain⟨xs,hq,hx⟩:=hg;obtain⟨its,rv,p,hz⟩:=I.list hq;obtain⟨f0,f1,f2,f3,f4,f5⟩:=hf it (by simp);have hl:=rv.length;exact wpAny_pyNext_list_end (I.ok.hd hc) st p.isList (by simp;lia) λh' eb=>⟨rfl,I.turned (t':=s.toks) (λb o hb e=>eb b o hb e) f0 f1 f3 f4 f5⟩
 self:=λ_ _ _ _ _ st h=>wpAny_pyIter_listiter st h
def gq'{P:cv}{K:aI}(a it:ah):Turn P w K tg (W5 K a) [it] it (λi h=>h.IsTupleIter it a i) where
 mem:=by simp
 obj:=λi h st b hb=>by
  have e:b=it:=by simpa using hb
  subst e;obtain⟨o,e,c,d⟩:=st;exact⟨o,e,λv z=>by rw[d] at z;cases z⟩
 keep:=λi h h' st k=>st.at λo e=>k it (by simp) o e
 item:=by intro X hP hw hK hc i pins s σ H E I hf st hg;subst hP hw hK;obtain⟨xs,x,hq,hx⟩:=hg;obtain⟨its,rv,p,hz⟩:=I.tuple hq;obtain⟨u,hu,ru⟩:=rv.get hx;obtain⟨f0,f1,f2,f3,f4,f5⟩:=hf it (by simp);refine wpAny_pyNext_tuple_item st (show s.heap.IsTuple a its.toArray from p) (x:=u) (by simpa using hu) λh' aw sb=>?_;have I1:Inv X pins σ H { s with heap:=h' }:=I.turned (t':=s.toks) (λb o hb e=>(sb.2 b hb).trans e) f0 f1 f3 f4 f5;obtain⟨o,e,c,d⟩:=id aw;exact⟨u,rfl,R7 (s:={ s with heap:=h' }) e c d (by decide) ⟨x,H,I1,ru,⟨rfl,λys hy=>by rw[I.gc' hy hq];exact hx⟩,aw,λb hb=>(hf b hb).1⟩⟩
 done:=by intro X hP hw hK hc i pins s σ H E I hf st hg;subst hP hw hK;obtain⟨xs,hq,hx⟩:=hg;obtain⟨its,rv,p,hz⟩:=I.tuple hq;obtain⟨f0,f1,f2,f3,f4,f5⟩:=hf it (by simp);have hl:=rv.length;exact wpAny_pyNext_tuple_end (I.ok.hd hc) st (show s.heap.IsTuple a its.toArray from p) (by simp;lia) λh' eb=>⟨rfl,I.turned (t':=s.toks) (λb o hb e=>eb b o hb e) f0 f1 f3 f4 f5⟩
 self:=λ_ _ _ _ _ st h=>wpAny_pyIter_tupleiter st h
def gr'{P:cv}{K:aI}(it:ah)(lo:Int)(n:Nat):Turn P w K tg (LG lo n) [it] it (λi h=>IsRangeIter h it (lo+(i:Nat)*1) ((n:Int)-(i:Nat)) 1) where
 mem:=by simp
 obj:=λi h st b hb=>by
  have e:b=it:=by simpa using hb
  subst e;exact⟨_,st,λv z=>by
   have z':Data.fields _=Data.cell v:=z;cases z'⟩
 keep:=λi h h' st k=>k it (by simp) _ st
 item:=by intro X hP hw hK hc i pins s σ H E I hf st hg;subst hP hw hK;obtain⟨f0,f1,f2,f3,f4,f5⟩:=hf it (by simp);have W:=Walks.range (prog:=X.prog) (w:=X.w) (I.ok.hd hc) it lo 1 n;refine W.item i s _ _ hg st λv h' tk hv aw kk=>?_;obtain⟨t,rfl⟩:=hv;have I1:Inv X pins σ H { s with heap:=h',toks:=tk }:=I.turned (λb o hb e=>kk b o (by simpa using hb) e) f0 f1 f3 f4 f5;refine⟨_,rfl,R7 (s:={ s with heap:=h',toks:=tk }) (n := "range_iterator") aw rfl rfl (by decide) ⟨.int (lo+i),H,I1,⟨t,?_⟩,⟨rfl,rfl⟩,aw,λb hb=>(hf b hb).1⟩⟩;rw[Int.mul_one]
 done:=by intro X hP hw hK hc i pins s σ H E I hf st hg;subst hP hw hK;obtain⟨f0,f1,f2,f3,f4,f5⟩:=hf it (by simp);exact wpAny_pyNext_range_end (I.ok.hd hc) st (by have:n<=i:=hg;lia) λh' eb=>⟨rfl,I.turned (t':=s.toks) (λb o hb e=>eb b o hb e) f0 f1 f3 f4 f5⟩
 self:=λ_ _ _ _ _ st h=>wpAny_pyIter_rangeiter st h
section
variable {X:Cx}{tg:Expr}
def gs'(K:aI)(tl:TE):TI:=λσ H R=>tl σ H λx H1=>∃ a,x=.ref a/\(∃ xs,fE K H1 a xs)/\R (UG K a) H1
def gt'(K:aI)(tl:TE):TI:=λσ H R=>tl σ H λx H1=>∃ a,x=.ref a/\(∃ xs,kQ K H1 a xs)/\R (W5 K a) H1
def bB'(hl:PE X l tl):PI X tg l (gs' X.K tl):=by
 intro pins s σ H R I h;refine cy (hl pins s σ H _ I h) λv s1 cq=>L2.eW cq λx H1 I1 r1 q1=>?_;obtain⟨a,e,⟨xs,hq⟩,q⟩:=q1;subst e;cases r1;obtain⟨its,rv,p,hz⟩:=I1.list hq;refine wpAny_pyIter_list p.isList ?_;refine⟨s1.heap.objs.size,[s1.heap.objs.size],_,_,H1,rfl,I1.kept λb o e=>eM _ e,gp' a _,⟨_,i9 _ rfl,rfl,rfl⟩,λb hb=>?_,q⟩;have e:b=s1.heap.objs.size:=by simpa using hb
 subst e;exact I1.LD (de _) (I1.bX.fresh (de _))
def bC'(hl:PE X l tl):PI X tg l (gt' X.K tl):=by
 intro pins s σ H R I h;refine cy (hl pins s σ H _ I h) λv s1 cq=>L2.eW cq λx H1 I1 r1 q1=>?_;obtain⟨a,e,⟨xs,hq⟩,q⟩:=q1;subst e;cases r1;obtain⟨its,rv,p,hz⟩:=I1.tuple hq;refine wpAny_pyIter_tuple (p) ?_;refine⟨s1.heap.objs.size,[s1.heap.objs.size],_,_,H1,rfl,I1.kept λb o e=>eM _ e,gq' a _,⟨_,i9 _ rfl,rfl,rfl⟩,λb hb=>?_,q⟩;have e:b=s1.heap.objs.size:=by simpa using hb
 subst e;exact I1.LD (de _) (I1.bX.fresh (de _))
def bD'{R:It->Hp->Prop}{lo hi:Int}(I:Inv X pins σ H s)(h1:-(2 ^ 62)<=lo)(h2:lo<2 ^ 62)(h3:-(2 ^ 62)<=hi)(h4:hi<2 ^ 62)(q:R (LG lo (hi-lo).toNat) H):bE (aT X.prog X.w) X.A (pyIter (.ref s.heap.objs.size)) (PIE X pins σ tg R) E { s with heap:=s.heap.push { cls:=.type "range",data:=.fields #[.int lo t,.int hi u,.int 1 v] },toks:=tk }:=by
 refine wpAny_pyIter_range (IsRange.new ..) (small_one h1 h2 h3 h4) ?_;have I1:Inv X pins σ H { s with heap:=s.heap.push { cls:=.type "range",data:=.fields #[.int lo t,.int hi u,.int 1 v] },toks:=tk }:=I.kept λb o e=>eM _ e;refine⟨(s.heap.push { cls:=.type "range",data:=.fields #[.int lo t,.int hi u,.int 1 v] }).objs.size,[(s.heap.push { cls:=.type "range",data:=.fields #[.int lo t,.int hi u,.int 1 v] }).objs.size],_,_,H,rfl,
  I1.kept λb o e=>eM _ e,gr' _ lo (hi-lo).toNat,?_,λb hb=>?_,q⟩
 ·have e1:lo+((0:Nat):Int)*1=lo:=by simp
  have e2:(((hi-lo).toNat:Nat):Int)-((0:Nat):Int)=Builtin.Range.rangeSize lo hi 1:=by rw[rangeSize_one];split<;>lia
  rw[e1,e2];exact i9 _ rfl
 ·have e:b=(s.heap.push { cls:=.type "range",data:=.fields #[.int lo t,.int hi u,.int 1 v] }).objs.size:=by simpa using hb
  subst e;exact I1.LD (de _) (I1.bX.fresh (de _))
def gu'(ta:TA):TI:=λσ H R=>ta σ H λvs H1=>∃ j:Int,vs=[.int j]/\-(2 ^ 62)<=j/\j<2 ^ 62/\R (LG 0 j.toNat) H1
def gv'(ta:TA):TI:=λσ H R=>ta σ H λvs H1=>∃ i j:Int,vs=[.int i,.int j]/\(-(2 ^ 62)<=i/\i<2 ^ 62/\-(2 ^ 62)<=j/\j<2 ^ 62)/\R (LG i (j-i).toNat) H1
def gw' (hg:Gl X "range") (hm:X.mg "range" = none) (ha:PA X [a] ta) (hs:autoParam (bT [a] X.env=[(false,cp a X.env)]) bv):PI X tg (.Call (.Name "range" p) [a] [] pos) (gu' ta):=by
 intro pins s σ H R I h;refine Call_ (DM I hg hm boot_range (PyProof.Rows.callWith_type1 (cy (ha pos pins s σ H _ I h) λus s1 cq=>L2.eW cq λvs H1 I1 r1 q1=>?_) hs rfl));obtain⟨j,e,q1,q2,q⟩:=q1;subst e
 cases r1 with
 |cons r rr =>cases rr;obtain⟨t,rfl⟩:=r;exact call_range_1 (bD' I1 (by lia) (by lia) q1 q2 (by simpa using q))
def gx' (hg:Gl X "range") (hm:X.mg "range" = none) (ha:PA X [a,b] ta) (hs:autoParam (bT [a,b] X.env=[(false,cp a X.env),(false,cp b X.env)]) bv) (kF:autoParam (bT [b] X.env=[(false,cp b X.env)]) bv) :
  PI X tg (.Call (.Name "range" p) [a,b] [] pos) (gv' ta):=by
 intro pins s σ H R I h;walk_at"n";obtain⟨i,j,e,⟨q1,q2,q3,q4⟩,q⟩:=q1;subst e
 cases r1 with
 |cons r rr =>
  cases rr with
  |cons r' rr =>cases rr;obtain⟨t,rfl⟩:=r;obtain⟨t',rfl⟩:=r';exact call_range_2 (bD' I1 q1 q2 q3 q4 q)
def gy'(wi:TI)(g:TG)(tb:TS):TS:=λD σ H=>wi σ H λJ H1=>∃ W:Nat->Nat->St->Hp->Prop,(∃ m,W 0 m σ H1)/\∀ i m σ H,W i m σ H -> (J.stop i H/\D.nx σ H)\/(J.go i H/\∃ N:St->Hp->Prop,(∀ cx H',N cx H'->∃ m',m'<m/\W (i+1) m' cx H')/\∀ x H',J.pT i H x H'->g x σ H' λom H2=>tb { D with nx:=N,ct:=N,bk:=D.nx } om H2)
def R8(fp:List ah)(h:dr):List (ah × Obj):=fp.filterMap λb=>(h.get? b).map λo=>(b,o)
def UH(hb:b∈fp)(e:h.get? b=some o):(b,o)∈R8 fp h:=Ws.mpr ⟨b,hb,by rw[e];rfl⟩
def gz'(hp:p∈R8 fp h):p.1∈fp/\h.get? p.1=some p.2:=by
 obtain⟨b,hb,e⟩:=Ws.mp hp
 cases q:h.get? b with
 |none=>rw[q] at e;cases e
 |some o =>rw[q] at e;have e':(b,o)=p:=Option.some.inj e;subst e';exact⟨hb,q⟩
def Inv.pinned(I:Inv X pins σ H s)(hf:∀ b∈fp,y8 X pins H b)(ho:∀ b∈fp,∃ o,s.heap.get? b=some o/\∀ v,o.data≠.cell v):Inv X (pins++R8 fp s.heap) σ H s :=
 I.bk' λp hp=>(eL.mp hp).elim (λz=>I.pin p (fh _ z)) λz=>by obtain⟨hb,e⟩:=gz' z;obtain⟨f0,f1,f2,_⟩:=hf p.1 hb;obtain⟨o,e',d⟩:=ho p.1 hb;rw[e] at e';cases e';exact⟨e,f0,f1,f2,d⟩
def Inv.UI(I:Inv X (pins++pl) σ H s):Inv X pins σ H s:=I.bk' λp hp=>I.pin p (fh _ (kr _ hp))
def gA'(hp:PassesOwn (aT X.prog X.w) X.A X.env X.xe)(hc:X.calm=true)(hi:PI X tg iter wi)(hg:PG X tg g)(hb:mn X body tb)(hs:∀ x,Rj iter X.env x=pure x:=by intro _;rfl):PS X (.For tg iter body [] pos) (gy' wi g tb):=by
 intro pins s σ H D I h;refine wpAny_For (cy (hi pins s σ H _ I h) λv s1 h1=>cy h1 λW4 s2 h2=>?_) hs;obtain⟨it,fp,tn,J,H2,e,I2,T,A4,f2,W,⟨m0,w0⟩,turn⟩:=h2;subst e
 -- what stays true of the iterator's objects through the loop
 have stat:∀ {H':Hp},(∀ b∈fp,H' b=none)->∀ b∈fp,y8 X pins H' b:=λhn b hb=>⟨hn b hb,(f2 b hb).2⟩
 refine codeAny_forLoop_any (λn s'=>∃ i cx H',Inv X pins cx H' s'/\tn i s'.heap/\(∀ b∈fp,H' b=none)/\W i n cx H') ?_ m0 ⟨0,σ,H2,I2,A4,λb hb=>(f2 b hb).1,w0⟩;rintro n s3 ⟨i,DT,H3,I3,A5,fr3,w3⟩;rcases turn i n DT H3 w3 with⟨stop,qn⟩|⟨go,N,hN,step⟩
 ·refine Rm hp (cy (T.done X rfl rfl rfl hc i pins s3 DT H3 X.xe I3 (stat fr3) A5 stop) λr s4 dS=>?_);obtain⟨hr,I4⟩:=dS;subst hr;exact wpAny_execs_nil ⟨DT,H3,I4,qn⟩
 ·refine Rm hp (cy (T.item X rfl rfl rfl hc i pins s3 DT H3 X.xe I3 (stat fr3) A5 go) λr s4 dS=>?_);obtain⟨u,hr,h4⟩:=dS;subst hr;refine Rm hp (cy h4 λ_ s5 dS=>?_);obtain⟨x,H5,I5,r5,y5,LH,UJ⟩:=dS;have I5':=I5.pinned (stat UJ) (T.obj _ _ LH);refine Rm hp (cy (hg _ s5 DT H5 x u _ I5' r5 (step x H5 y5)) λ_ s6 dS=>?_);obtain⟨σ6,H6,I6,q6⟩:=dS;refine Rm hp (cy (hb _ s6 σ6 H6 _ I6 q6) λf s7 q7=>?_);have again:∀ {BI:St} {H7:Hp},Inv X (pins++R8 fp s5.heap) BI H7 s7->N BI H7->∃ m,m<n/\∃ i cx H',Inv X pins cx H' s7/\tn i s7.heap/\(∀ b∈fp,H' b=none)/\W i m cx H':=λ{BI H7} I7 n7=>by obtain⟨m',hm,w7⟩:=hN BI H7 n7;refine⟨m',hm,i+1,BI,H7,I7.UI,T.keep _ _ _ LH λb hb o e=>(I7.pin (b,o) (fh _ (fh _ (UH hb e)))).1,λb hb=>?_,w7⟩;obtain⟨o,e,d⟩:=T.obj _ _ LH b hb;exact(I7.pin (b,o) (fh _ (fh _ (UH hb e)))).2.1
  cases f with
  |next=>obtain⟨BI,H7,I7,n7⟩:=q7;exact again I7 n7
  |cont=>obtain⟨BI,H7,I7,n7⟩:=q7;exact again I7 n7
  |brk=>obtain⟨BI,H7,I7,q7⟩:=q7;exact⟨BI,H7,I7.UI,q7⟩
  |ret v=>obtain⟨x7,BI,H7,I7,r7,q7⟩:=q7;exact⟨x7,BI,H7,I7.UI,r7,q7⟩
end
abbrev R2:=V->V->Hp->VK->Prop
def eP(X:Cx)(f:ag->ag->Sem ag)(r:R2):Prop :=
 ∀ (pins:List (ah × Obj)) (s:ay) (σ:St) (H:Hp) (x y:V) (v u:ag) (Q:VK),Inv X pins σ H s->RelV x v->RelV y u->r x y H Q ->
  bE (aT X.prog X.w) X.A (f v u) (EP X pins σ Q) X.xe s
def UK(X:Cx)(f:ag->Sem ag)(r:V->Hp->VK->Prop):Prop :=
 ∀ (pins:List (ah × Obj)) (s:ay) (σ:St) (H:Hp) (x:V) (v:ag) (Q:VK),Inv X pins σ H s->RelV x v->r x H Q ->
  bE (aT X.prog X.w) X.A (f v) (EP X pins σ Q) X.xe s
def lS(X:Cx)(f:ag)(r:List V->Hp->VK->Prop):Prop :=
 ∀ (pins:List (ah × Obj)) (s:ay) (σ:St) (H:Hp) (xs:List V) (us:List ag) (Q:VK),Inv X pins σ H s->Vals xs us->r xs H Q ->
  bE (aT X.prog X.w) X.A (call f us) (EP X pins σ Q) X.xe s
def gD'(X:Cx)(r:V->Hp->(Bool->Hp->Prop)->Prop):Prop :=
 ∀ (pins:List (ah × Obj)) (s:ay) (σ:St) (H:Hp) (x:V) (v:ag) (Q:Bool->Hp->Prop),Inv X pins σ H s->RelV x v->r x H Q ->
  bE (aT X.prog X.w) X.A (truthy v) (TP X pins σ Q) X.xe s
def PD(r:R2)(ta tb:TE):TE:=λσ H Q=>ta σ H λx H1=>tb σ H1 λy H2=>r x y H2 Q
def tUn(r:V->Hp->VK->Prop)(ta:TE):TE:=λσ H Q=>ta σ H λx H1=>r x H1 Q
def rI(C:Int->Int->Prop)(g:Int->Int->V):R2:=λx y H Q=>∃ i j,x=.int i/\y=.int j/\C i j/\Q (g i j) H
def LJ(g:Int->Int->V):R2:=λx y H Q=>∃ i j,x=.int i/\y=.int j/\Q (g i j) H
def rU(g:Int->V):V->Hp->VK->Prop:=λx H Q=>∃ i,x=.int i/\Q (g i) H
section
variable {X:Cx}{a b:Expr}{ta tb:TE}{pos:Pos}
def W6(ha:PE X a ta)(hb:PE X b tb){pins:List (ah × Obj)}{s:ay}{σ:St}{H:Hp}{R:V->V->Hp->Prop}(I:Inv X pins σ H s)(h:ta σ H λx H1=>tb σ H1 λy H2=>R x y H2) {Q:ag->ay->Prop} {f:ag->ag->Sem ag}(hf:∀ v u s2 x y H2,Inv X pins σ H2 s2->RelV x v->RelV y u->R x y H2->bE (aT X.prog X.w) X.A (f v u) Q X.xe s2) :
  bE (aT X.prog X.w) X.A (cp a X.env) (λv fz=>bE (aT X.prog X.w) X.A (cp b X.env) (λu ya=>bE (aT X.prog X.w) X.A (f v u) Q X.xe ya) X.xe fz) X.xe s:=by
 refine cy (ha pins s σ H _ I h) λv s1 cq=>L2.eW cq λx H1 I1 r1 q1=>?_;refine cy (hb pins s1 σ H1 _ I1 q1) λu s2 cq=>L2.eW cq λy H2 I2 r2 q2=>?_;exact hf v u s2 x y H2 I2 r1 r2 q2
def gE'{op:Operator}{r:R2}(ho:eP X (qA op) r)(ha:PE X a ta)(hb:PE X b tb):PE X (.BinOp a op b pos) (PD r ta tb):=by intro pins s σ H Q I h;exact wpAny_BinOp (W6 ha hb I h λv u s2 x y H2 I2 rx ry q=>ho pins s2 σ H2 x y v u Q I2 rx ry q)
def gF'(ho:UK X (unaryOp op) r)(ha:PE X a ta):PE X (.UnaryOp op a pos) (tUn r ta):=by intro pins s σ H Q I h;exact UnaryOp_ (cy (ha pins s σ H _ I h) λv s1 cq=>L2.eW cq λx H1 I1 r1 q1=>ho pins s1 σ H1 x v Q I1 r1 q1)
def W7{f:ag->ag->Sem ag}{C:Int->Int->Prop}{g:Int->Int->Int}(rule:∀ (i j:Int) (t u:Tok) (s:ay) (Q:ag->ay->Prop) (E:ag->ay->Prop),C i j->Q (.int (g i j) s.toks) { s with toks:=s.toks+1 }->bE (aT X.prog X.w) X.A (f (.int i t) (.int j u)) Q E s) :
  eP X f (rI C λi j=>.int (g i j)):=by
 walk_at"e";obtain⟨i,j,rfl,rfl,hc,q⟩:=h;obtain⟨t,rfl⟩:=rx;obtain⟨t',rfl⟩:=ry;exact rule i j t t' s _ _ hc ⟨.int (g i j),H,I.tok _,⟨_,rfl⟩,q⟩
def bG'{f:ag->ag->Sem ag}{g:Int->Int->Int}(rule:∀ (i j:Int) (t u:Tok) (s:ay) (Q:ag->ay->Prop) (E:ag->ay->Prop),Q (.int (g i j) s.toks) { s with toks:=s.toks+1 }->bE (aT X.prog X.w) X.A (f (.int i t) (.int j u)) Q E s) :
  eP X f (LJ λi j=>.int (g i j)):=by
 walk_at"e";obtain⟨i,j,rfl,rfl,q⟩:=h;obtain⟨t,rfl⟩:=rx;obtain⟨t',rfl⟩:=ry;exact rule i j t t' s _ _ ⟨.int (g i j),H,I.tok _,⟨_,rfl⟩,q⟩
def W8{f:ag->ag->Sem ag}{g:Int->Int->Bool}(rule:∀ (i j:Int) (t u:Tok) (s:ay) (Q:ag->ay->Prop) (E:ag->ay->Prop),Q (.bool (g i j)) s->bE (aT X.prog X.w) X.A (f (.int i t) (.int j u)) Q E s) :
  eP X f (LJ λi j=>.bl (g i j)):=by
 walk_at"e";obtain⟨i,j,rfl,rfl,q⟩:=h;obtain⟨t,rfl⟩:=rx;obtain⟨t',rfl⟩:=ry;exact rule i j t t' s _ _ ⟨.bl (g i j),H,I,rfl,q⟩
def gG'(i j:Int):Prop:=0<j/\j<1073741824
def HL(i j:Int):Prop:=(-(2 ^ 64)<i/\i<2 ^ 64)\/(-(2 ^ 64)<j/\j<2 ^ 64)
def HL.ok(h:HL i j):IntMulOk i j:=by
 rcases h with⟨h1,h2⟩|⟨h1,h2⟩
 ·exact .of_left (intBits_le_64 h1 h2)
 ·exact .of_right (intBits_le_64 h1 h2)
def gH':eP X (qA .Add) (LJ λi j=>.int (i+j)):=bG' λ_ _ _ _ _ _ _ q=>add_int q
def gI':eP X (qA .Sub) (LJ λi j=>.int (i-j)):=bG' λ_ _ _ _ _ _ _ q=>sub_int q
def gJ':eP X (qA .Mult) (rI HL λi j=>.int (i*j)):=W7 λ_ _ _ _ _ _ _ hc q=>mul_int q hc.ok
def gK':eP X (qA .FloorDiv) (rI gG' λi j=>.int (i / j)):=W7 λi j _ _ _ _ _ hc q=>by have h1:0<j:=hc.1;have h2:j<1073741824:=hc.2;exact floordiv_int (by lia) (by rw[Int.fdiv_eq_ediv_of_nonneg i (by lia)];exact q) (.inl (PyProof.noPylong_small (by lia)))
def gL':eP X (qA .Mod) (rI (λ_ j=>0<j) λi j=>.int (i % j)):=W7 λi j _ _ _ _ _ hc q=>by exact mod_int' (by lia) (by rw[Int.fmod_eq_emod_of_nonneg i (by lia)];exact q)
def unI{f:ag->Sem ag}{g:Int->Int}(rule:∀ (i:Int) (t:Tok) (s:ay) (Q:ag->ay->Prop) (E:ag->ay->Prop),Q (.int (g i) s.toks) { s with toks:=s.toks+1 }->bE (aT X.prog X.w) X.A (f (.int i t)) Q E s) :
  UK X f (rU λi=>.int (g i)):=by
 intro pins s σ H x v Q I rx h;obtain⟨i,rfl,q⟩:=h;obtain⟨t,rfl⟩:=rx;exact rule i t s _ _ ⟨.int (g i),H,I.tok _,⟨_,rfl⟩,q⟩
def gN':UK X (unaryOp .USub) (rU λi=>.int (-i)):=unI λ_ _ _ _ _ q=>neg_int q
end
def bH':V->V->Bool
 |.non,.non=>true|.non,.int _=>true|.int _,.non=>true|.non,.bl _=>true|.bl _,.non=>true|.non,.str _=>true|.str _,.non=>true
 |.int _,.int _=>true|.bl _,.bl _=>true|.str _,.str _=>true|.uk _,.uk _=>true
 |.int _,.str _=>true|.str _,.int _=>true|.bl _,.str _=>true|.str _,.bl _=>true
 |_,_=>false
def rEq:R2:=λx y H Q=>bH' x y=true/\Q (.bl (decide (x=y))) H
def rNe:R2:=λx y H Q=>bH' x y=true/\Q (.bl (!decide (x=y))) H
def bI':decide (V.int i=V.int j)=(i == j):=by rw[y1];simp
def bJ':decide (V.bl i=V.bl j)=(i == j):=by rw[y1];simp
def bK':decide (V.str i=V.str j)=(i == j):=by rw[y1];simp
def bL':decide (V.uk i=V.uk j)=(i.toList == j.toList):=by rw[y1];cases i;cases j;simp
section
variable {X:Cx}{a b c:Expr}{ta tb tc:TE}{pos:Pos}
def ky(I:Inv X pins σ H s)(q:Q (.bl k) H)(e:k=k'):EP X pins σ Q (.bool k') s:=by subst e;exact⟨.bl k,H,I,rfl,q⟩
def gQ':eP X (i7 .Eq) rEq:=by
 walk_at"e";obtain⟨hs,q⟩:=h
 cases x with
 |non =>
  cases rx
  cases y with
  |non=>cases ry;exact PySem.EqNone.eq_none_none (ky I q (by simp))
  |bl j=>cases ry;exact PySem.EqNone.eq_none_bool (ky I q (by simp))
  |int j=>obtain⟨t',rfl⟩:=ry;exact PySem.EqNone.eq_none_int (ky I q (by simp))
  |str j=>obtain⟨t',rfl⟩:=ry;exact PySem.EqNone.eq_none_str (ky I q (by simp))
  |_=>exact absurd (hs) nX
 |bl i =>
  cases rx
  cases y with
  |non=>cases ry;exact PySem.EqNone.eq_bool_none (ky I q (by simp))
  |bl j=>cases ry;exact eq_bool (ky I q bJ')
  |str j=>obtain⟨t',rfl⟩:=ry;exact PySem.EqMixed.eq_bool_str (ky I q (by simp))
  |_=>exact absurd (hs) nX
 |int i =>
  obtain⟨t,rfl⟩:=rx
  cases y with
  |non=>cases ry;exact PySem.EqNone.eq_int_none (ky I q (by simp))
  |int j=>obtain⟨t',rfl⟩:=ry;exact eq_int (ky I q bI')
  |str j=>obtain⟨t',rfl⟩:=ry;exact PySem.EqMixed.eq_int_str (ky I q (by simp))
  |_=>exact absurd (hs) nX
 |str i =>
  obtain⟨t,rfl⟩:=rx
  cases y with
  |non=>cases ry;exact PySem.EqNone.eq_str_none (ky I q (by simp))
  |bl j=>cases ry;exact PySem.EqMixed.eq_str_bool (ky I q (by simp))
  |int j=>obtain⟨t',rfl⟩:=ry;exact PySem.EqMixed.eq_str_int (ky I q (by simp))
  |str j=>obtain⟨t',rfl⟩:=ry;exact eq_str (ky I q bK')
  |_=>exact absurd (hs) nX
 |uk i =>
  obtain⟨t,rfl⟩:=rx
  cases y with
  |uk j=>obtain⟨t',rfl⟩:=ry;exact PySem.W.eq_bytes (ky I q bL')
  |_=>exact absurd (hs) nX
 |_=>cases y<;>exact absurd (hs) nX
def gR':eP X (i7 .NotEq) rNe:=by
 walk_at"e";obtain⟨hs,q⟩:=h
 cases x with
 |non =>
  cases rx
  cases y with
  |non=>cases ry;exact PySem.EqNone.ne_none_none (ky I q (by simp))
  |bl j=>cases ry;exact PySem.EqNone.ne_none_bool (ky I q (by simp))
  |int j=>obtain⟨t',rfl⟩:=ry;exact PySem.EqNone.ne_none_int (ky I q (by simp))
  |str j=>obtain⟨t',rfl⟩:=ry;exact PySem.EqNone.ne_none_str (ky I q (by simp))
  |_=>exact absurd (hs) nX
 |bl i =>
  cases rx
  cases y with
  |non=>cases ry;exact PySem.EqNone.ne_bool_none (ky I q (by simp))
  |bl j=>cases ry;exact ne_bool (ky I q (congrArg not bJ'))
  |str j=>obtain⟨t',rfl⟩:=ry;exact PySem.EqMixed.ne_bool_str (ky I q (by simp))
  |_=>exact absurd (hs) nX
 |int i =>
  obtain⟨t,rfl⟩:=rx
  cases y with
  |non=>cases ry;exact PySem.EqNone.ne_int_none (ky I q (by simp))
  |int j=>obtain⟨t',rfl⟩:=ry;exact ne_int (ky I q (congrArg not bI'))
  |str j=>obtain⟨t',rfl⟩:=ry;exact PySem.EqMixed.ne_int_str (ky I q (by simp))
  |_=>exact absurd (hs) nX
 |str i =>
  obtain⟨t,rfl⟩:=rx
  cases y with
  |non=>cases ry;exact PySem.EqNone.ne_str_none (ky I q (by simp))
  |bl j=>cases ry;exact PySem.EqMixed.ne_str_bool (ky I q (by simp))
  |int j=>obtain⟨t',rfl⟩:=ry;exact PySem.EqMixed.ne_str_int (ky I q (by simp))
  |str j=>obtain⟨t',rfl⟩:=ry;exact ne_str (ky I q (congrArg not bK'))
  |_=>exact absurd (hs) nX
 |uk i =>
  obtain⟨t,rfl⟩:=rx
  cases y with
  |uk j=>obtain⟨t',rfl⟩:=ry;exact PySem.W.ne_bytes (ky I q (congrArg not bL'))
  |_=>exact absurd (hs) nX
 |_=>cases y<;>exact absurd (hs) nX
def gS':eP X (i7 .Lt) (LJ λi j=>.bl (decide (i<j))):=W8 λ_ _ _ _ _ _ _ q=>lt_int q
def gT':eP X (i7 .LtE) (LJ λi j=>.bl (decide (i<=j))):=W8 λ_ _ _ _ _ _ _ q=>le_int q
def gU':eP X (i7 .Gt) (LJ λi j=>.bl (decide (j<i))):=W8 λ_ _ _ _ _ _ _ q=>gt_int q
def gV':eP X (i7 .Lt) (λx y H Q=>∃ i j,x=.str i/\y=.str j/\Q (.bl (decide (i.cps.toList<j.cps.toList))) H):=by intro pins s σ H x y v u Q I rx ry h;obtain⟨i,j,rfl,rfl,q⟩:=h;obtain⟨t,rfl⟩:=rx;obtain⟨t',rfl⟩:=ry;exact lt_str (ky I q rfl)
def gW':eP X (i7 .In) (λx y H Q=>∃ i j,x=.str i/\y=.str j/\Q (.bl (!(Builtin.Str.occurrences j i 0 j.length 1).isEmpty)) H):=by intro pins s σ H x y v u Q I rx ry h;obtain⟨i,j,rfl,rfl,q⟩:=h;obtain⟨t,rfl⟩:=rx;obtain⟨t',rfl⟩:=ry;exact in_str (ky I q rfl)
def eP.or(h:eP X f r)(h':eP X f r'):eP X f (λx y H Q=>r x y H Q\/r' x y H Q):=by
 intro pins s σ H x y v u Q I rx ry q;rcases q with q|q
 ·exact h pins s σ H x y v u Q I rx ry q
 ·exact h' pins s σ H x y v u Q I rx ry q
def bM'(b:Expr)(h:op≠.In:=by decide)(h2:op≠.NotIn:=by decide):GN op b=false:=by
 have e1:(op == CmpOp.In)=false:=by cases op<;>first|rfl|exact absurd rfl h
 have e2:(op == CmpOp.NotIn)=false:=by cases op<;>first|rfl|exact absurd rfl h2
 cases b<;>simp[GN,e1,e2]
def gX'{op:CmpOp}{r:R2}(ho:eP X (i7 op) r)(ha:PE X a ta)(hb:PE X b tb)(hm:GN op b=false):PE X (.Compare a [op] [b] pos) (PD r ta tb):=by intro pins s σ H Q I h;exact wpAny_Compare1 (W6 ha hb I h λv u s2 x y H2 I2 rx ry q=>ho pins s2 σ H2 x y v u Q I2 rx ry q) hm
def W9(t:TE):TT:=λσ H Q=>t σ H λx H'=>∃ k,x=.bl k/\Q k H'
def gY'(ho:eP X (i7 op) r)(ha:PE X a ta)(hb:PE X b tb)(hm:GN op b=false):PT X (.Compare a [op] [b] pos) (W9 (PD r ta tb)):=by
 intro pins s σ H Q I h;refine wpAny_isTrue_Compare1 (cy (ha pins s σ H _ I h) λv s1 cq=>L2.eW cq λx H1 I1 r1 q1=>cy (hb pins s1 σ H1 _ I1 q1) λu s2 cq=>L2.eW cq λy H2 I2 r2 q2 =>
  cy (ho pins s2 σ H2 x y v u _ I2 r1 r2 q2) λc s3 ⟨z,H3,I3,r3,k,e,q3⟩=>?_) hm
 subst e;cases r3;exact AJ ⟨H3,I3,q3⟩
def W_(r r':R2)(ta tb tc:TE):TE:=λσ H Q=>ta σ H λx H1=>tb σ H1 λy H2=>r x y H2 λz H3=>∃ k,z=.bl k /\ (if k=true then tc σ H3 λw' H4=>r' y w' H4 Q else Q (.bl false) H3)
def gZ'(ho:eP X (i7 op) r)(nE:eP X (i7 op') r')(ha:PE X a ta)(hb:PE X b tb)(hc:PE X c tc)(hm:lastMarks [op,op'] [b,c]=false:=by with_unfolding_all rfl):PE X (.Compare a [op,op'] [b,c] pos) (W_ r r' ta tb tc):=by
 intro pins s σ H Q I h;refine Compare_chain (cy (ha pins s σ H _ I h) λv s1 cq=>L2.eW cq λx H1 I1 r1 q1=>chain_link (cy (hb pins s1 σ H1 _ I1 q1) λu s2 cq=>L2.eW cq λy H2 I2 r2 q2 =>
  cy (ho pins s2 σ H2 x y v u _ I2 r1 r2 q2) λd s3 ⟨z,H3,I3,r3,k,e,q3⟩=>?_)) hm
 subst e;cases r3;refine AJ ?_
 cases k with
 |false=>exact ite_ff ⟨.bl false,H3,I3,rfl,q3⟩
 |true=>exact ite_tt (chain_last (cy (hc pins s3 σ H3 _ I3 q3) λw' s4 ⟨z',H4,I4,r4,q4⟩=>nE pins s4 σ H4 y z' u w' Q I4 r2 r4 q4))
def ha'(ho:eP X (i7 op) r)(nE:eP X (i7 op') r')(ha:PE X a ta)(hb:PE X b tb)(hc:PE X c tc)(hm:lastMarks [op,op'] [b,c]=false:=by with_unfolding_all rfl):PT X (.Compare a [op,op'] [b,c] pos) (W9 (W_ r r' ta tb tc)):=by
 intro pins s σ H Q I h;refine isTrue_chain (cy (ha pins s σ H _ I h) λv s1 cq=>L2.eW cq λx H1 I1 r1 q1=>test_link (cy (hb pins s1 σ H1 _ I1 q1) λu s2 cq=>L2.eW cq λy H2 I2 r2 q2 =>
  cy (ho pins s2 σ H2 x y v u _ I2 r1 r2 q2) λd s3 ⟨z,H3,I3,r3,k,e,q3⟩=>?_)) hm
 subst e;cases r3;refine AJ ?_
 cases k with
 |false =>obtain⟨k',e',q'⟩:=q3;cases e';exact ite_ff ⟨H3,I3,q'⟩
 |true =>refine ite_tt (test_last (cy (hc pins s3 σ H3 _ I3 q3) λw' s4 ⟨z',H4,I4,r4,q4⟩=>cy (nE pins s4 σ H4 y z' u w' _ I4 r2 r4 q4) λd' s5 dS=>?_));obtain⟨z2,H5,I5,r5,k2,e2,q5⟩:=dS;subst e2;cases r5;exact AJ ⟨H5,I5,q5⟩
def Za(K:aI)(x:V)(H:Hp)(k:Bool):Prop :=
 match x with
 |.non=>k=false
 |.bl b=>k=b
 |.int i=>k=(i != 0)
 |.str y=>y.length<=bS/\k=((y.length:Int) != 0)
 |.uk y=>y.size<=bS/\k=((y.size:Int) != 0)
 |.ref p=>(∃ xs,fE K H p xs/\k = !xs.isEmpty)\/(∃ xs,kQ K H p xs/\k = !xs.isEmpty)\/∃ ae,H p=some (.dK ae)/\k = !ae.isEmpty
 |_=>False
def hf'{κ:Type}{ae:List (κ × V)}{vs:List (κ × ag)}(r:KV ae vs):(!vs.isEmpty) = !ae.isEmpty:=by cases r<;>rfl
def bN'(r:Vals xs its):(!its.toArray.isEmpty) = !xs.isEmpty:=by cases r<;>simp
def Zb:(bS:Nat)<2 ^ 63:=by rw[kB];decide
def hg':gD' X (λx H Q=>∃ k,Za X.K x H k/\Q k H):=by
 intro pins s σ H x v Q I rx h;obtain⟨k,e,q⟩:=h;have hs:bS=16777216:=kB
 cases x with
 |non =>cases rx;have e':k=false:=e;subst e';exact truthy_none ⟨H,I,q⟩
 |bl b =>cases rx;have e':k=b:=e;subst e';exact AJ ⟨H,I,q⟩
 |int i =>obtain⟨t,rfl⟩:=rx;have e':k=(i != 0):=e;subst e';exact PySem.P.truthy_int ⟨H,I,q⟩
 |str y =>obtain⟨t,rfl⟩:=rx;obtain⟨hy,e'⟩:y.length<=bS/\k=((y.length:Int) != 0):=e;subst e';exact PySem.P.truthy_str (by lia) ⟨H,I.tok _,q⟩
 |uk y =>obtain⟨t,rfl⟩:=rx;obtain⟨hy,e'⟩:y.size<=bS/\k=((y.size:Int) != 0):=e;subst e';exact PySem.W.truthy_bytes (by lia) ⟨H,I.tok _,q⟩
 |ref p =>
  cases rx;have e':(∃ xs,fE X.K H p xs/\k = !xs.isEmpty)\/(∃ xs,kQ X.K H p xs/\k = !xs.isEmpty)\/∃ ae,H p=some (.dK ae)/\k = !ae.isEmpty:=e;rcases e' with⟨xs,hx,e'⟩|⟨xs,hx,e'⟩|⟨ae,hx,e'⟩
  ·subst e';obtain⟨its,r,pl,hz⟩:=I.list hx;have hlen:=r.length;exact wpAny_truthy_list pl.isList (by simp only[jI];lia) ⟨H,I.tok _,by rw[bN' r];exact q⟩
  ·subst e';obtain⟨its,r,pl,hz⟩:=I.tuple hx;have hlen:=r.length;exact truthy_tuple pl (by simp only[jI];lia) ⟨H,I.tok _,by rw[bN' r];exact q⟩
  ·subst e';obtain⟨hz,hS,vs,r,m⟩:ae.length<=bS/\(p == qq)=false/\∃ vs,KV ae vs/\s.heap.DictOf (iN X.prog X.w) p vs:=I.bX p _ hx;have hlen:ae.length=vs.length:=Paired.length r;exact wpAny_truthy_dict hS m (by lia) ⟨H,I.tok _,by rw[hf' r];exact q⟩
 |_=>exact(e).elim
def hw'(ha:PE X a ta)(he:∀ whole,isTrue a X.env whole=(do let v <- whole;standAt a.pos;holding [v] (truthy v))) :
  PT X a (λσ H Q=>ta σ H λx H'=>∃ k,Za X.K x H' k/\Q k H'):=by
 walk_at"t";exact isTrue_plain (cy (ha pins s σ H _ I h) λv s1 cq=>L2.eW cq λx H1 I1 r1 q1=>hg' pins s1 σ H1 x v Q I1 r1 q1) (he _)
def hx':eP X (qA .Add) (λx y H Q=>∃ i j,x=.str i/\y=.str j/\i.length+j.length<=bS/\Q (.str (i++j)) H):=by intro pins s σ H x y v u Q I rx ry h;obtain⟨i,j,rfl,rfl,hz,q⟩:=h;obtain⟨t,rfl⟩:=rx;obtain⟨t',rfl⟩:=ry;exact add_str (λt' tk=>⟨.str (i++j),H,I.tok _,⟨_,rfl⟩,q⟩) hz
def vals1(r:Vals [x] us):∃ u,us=[u]/\RelV x u:=by
 cases r with
 |cons r1 r2=>cases r2;exact⟨_,rfl,r1⟩
def vals2(r:Vals [x,y] us):∃ u w',us=[u,w']/\RelV x u/\RelV y w':=by
 cases r with
 |cons r1 r2 =>
  cases r2 with
  |cons r3 r4=>cases r4;exact⟨_,_,rfl,r1,r3⟩
def hy' (hc:X.calm=true):lS X (.builtin "min") (λxs H Q=>∃ i j,xs=[.int i,.int j]/\Q (.int (if j<i then j else i)) H):=by
 walk_at"f";obtain⟨i,j,rfl,q⟩:=h;obtain⟨u,w',rfl,⟨t,rfl⟩,⟨t',rfl⟩⟩:=vals2 r;refine min_two_ints (I.ok.hd hc) λh' tk k=>⟨_,H,I.kept k,?_,q⟩
 by_cases hj:j<i
 ·rw[if_pos hj,if_pos hj];exact⟨_,rfl⟩
 ·rw[if_neg hj,if_neg hj];exact⟨_,rfl⟩
def hA':lS X (.type "int") (λxs H Q=>(∃ i,xs=[.int i]/\Q (.int i) H)\/∃ k,xs=[.bl k]/\Q (.int (if k then 1 else 0)) H):=by
 walk_at"f";rcases h with⟨i,rfl,q⟩|⟨k,rfl,q⟩
 ·obtain⟨u,rfl,t,rfl⟩:=vals1 r;exact call_int_int ⟨.int i,H,I,⟨_,rfl⟩,q⟩
 ·obtain⟨u,rfl,r1⟩:=vals1 r;cases r1;exact call_int_bool ⟨.int (if k then 1 else 0),H,I.tok _,⟨_,rfl⟩,q⟩
def bO'(K:aI)(x:V)(H:Hp)(n:Nat):Prop :=
 match x with
 |.str y=>y.length<=bS/\n=y.length
 |.uk y=>y.size<=bS/\n=y.size
 |.ref p=>(∃ xs,fE K H p xs/\n=xs.length)\/∃ xs,kQ K H p xs/\n=xs.length
 |_=>False
def UL:lS X (.builtin "len") (λxs H Q=>∃ x n,xs=[x]/\bO' X.K x H n/\Q (.int n) H):=by
 walk_at"f";obtain⟨x,n,rfl,e,q⟩:=h;obtain⟨u,rfl,rx⟩:=vals1 r;have hs:bS=16777216:=kB
 cases x with
 |str y =>obtain⟨t,rfl⟩:=rx;obtain⟨hy,e'⟩:y.length<=bS/\n=y.length:=e;subst e';exact len_str (by lia) ⟨.int _,H,I.tok _,⟨_,rfl⟩,q⟩
 |uk y =>obtain⟨t,rfl⟩:=rx;obtain⟨hy,e'⟩:y.size<=bS/\n=y.size:=e;subst e';exact PySem.W.len_bytes (by lia) ⟨.int _,H,I.tok _,⟨_,rfl⟩,q⟩
 |ref p =>
  cases rx;have e':(∃ xs,fE X.K H p xs/\n=xs.length)\/∃ xs,kQ X.K H p xs/\n=xs.length:=e;rcases e' with⟨xs,hx,e'⟩|⟨xs,hx,e'⟩
  ·subst e';obtain⟨its,r',pl,hz⟩:=I.list hx;have hlen:=r'.length;exact Calls.call_len_list pl.isList (by simp only[jI];lia) ⟨.int xs.length,H,I.tok _,⟨_,by simp only[jI];rw[hlen]⟩,q⟩
  ·subst e';obtain⟨its,r',pl,hz⟩:=I.tuple hx;have hlen:=r'.length;exact len_tuple pl (by simp only[jI];lia) ⟨.int xs.length,H,I.tok _,⟨_,by simp only[jI];rw[hlen]⟩,q⟩
 |_=>exact(e).elim
end
structure LM(h:dr)(x dx C:ah)(mA:Str->Option ag):Prop where
 obj:h.get? x=some (GP C dx)
 ns:h.Ns1 dx mA
 ne:dx≠x
def lookIn_ns{h:dr}{dx:ah}{mA:Str->Option ag}(n:h.Ns1 dx mA):∃ od,h.get? dx=some od/\∀ name,T7 name od=some (mA name):=by
 obtain⟨o,es,ep,ho,hd,hk,_,hm⟩:=n;refine⟨o,ho,λname=>?_⟩;have e:=hm name;unfold nsFind findBy at e;rw[<- Array.find?_toList] at e;unfold T7;rw[hd];dsimp only;split
 ·rename_i y q;rw[q] at e;exact congrArg some e
 ·rename_i q;rw[q] at e;have a:es.toList.any (·.refKey)=false:=by rw[List.any_eq_false];intro y hy;obtain⟨z,t,hC'⟩:=hk y (Array.mem_toList_iff.mp hy);simp[DictEntry.refKey,hC']
  have a':¬ es.toList.any (·.refKey)=true:=by rw[a];exact nX
  rw[if_neg a'];exact congrArg some e
def LM.look(I:LM h x dx C mA):∃ od,PySem.W.InstAt h x (GP C dx) C (some od)/\∀ name,T7 name od=some (mA name) :=
 let ⟨od,ho,hl⟩:=lookIn_ns I.ns
 ⟨od,⟨I.obj,rfl,rfl,ho⟩,hl⟩
section
variable {prog:cv}{w:cK}{A:eB}{E:ag->ay->Prop}{s:ay}{K:aI}{x dx C f:ah}{mA:Str->Option ag}{name:Str}{v:ag}
def get_map(X:K.In s.heap)(I:LM s.heap x dx C mA)(hg:Ro K C name=true)(hh:T5 K C=true)(ha:nS K (.ref C) name=some none) (hv:mA name=some v) (y9:PySem.W.handedIn v=true) (h:Q v { s with toks:=s.toks+1 }) :
  bE (aT prog w) A (getAttr (.ref x) name expr) Q E s:=by
 obtain⟨od,J,hl⟩:=I.look;exact PySem.W.get_value X J (Wc hg).1 (PySem.W.findObj_own hh ha rfl (by rw[hl,hv])) y9 h
def hD'(X:K.In s.heap)(I:LM s.heap x dx C mA)(hg:Ro K C name=true)(hf:nS K (.ref C) name=some (some (.ref f))) (ht:JY K (.ref f)=true) (hv:mA name=none) (h:Q (.ref f,[.ref x]) s) :
  bE (aT prog w) A (getMethod (.ref x) name pl) Q E s:=by
 obtain⟨od,J,hl⟩:=I.look;exact PySem.W.method_fn X J (Wc hg).1 (Wc hg).2 hf (beq_iff_eq.mp ht) (by show(T7 name od).map (·.isSome)=some false;rw[hl,hv];rfl) h
def hE'(X:K.In s.heap)(I:LM s.heap x dx C mA)(hs:nS K (.ref C) "__setattr__" = some (some (.builtin "object.__setattr__"))) (hp:Wg K C=true) (ht:Wi K C name=some none) (hh:T5 K C=true)(hw:PySem.Within mA ns) (hJ:ns.length<=bS)(h:∀ h',LM h' x dx C (λy=>if y=name then some v else mA y)->Heap.SameBut dx s.heap h'->Q () { s with heap:=h',toks:=s.toks+2 }) :
  bE (aT prog w) A (setAttr (.ref x) name v) Q E s:=by
 obtain⟨od,J,hl⟩:=I.look;refine PySem.W.set_plain X J hs (PySem.W.osa_open X J hp ht λb=>?_);obtain⟨cd,hc,WR⟩:=PySem.W.any_some hh;have hx:s.heap.get? x=some ⟨.ref C,some dx,.plain,#[]⟩:=I.obj;refine ax (bG (ax (ax (wpAny_loadPart hx (ax (PySem.W.Looks.here (PySem.W.looks_clsIn X hc) ?_))))));rw[WR];refine bG (ax (bG (ax ?_)));refine wpAny_nsSet1 I.ns λh' DU kF=>?_;obtain⟨oD,esD,epD,hoD,hdD,hcD⟩:=DU.count (PySem.Within.cons name v hw);refine ax (wpAny_lookBehind hoD (by rw[hdD];exact pastItsLine_dict (kL hcD (by rw[oi];lia))) ?_);exact bG (h _ ⟨(kF.2 _ (Ne.symm I.ne)).trans I.obj,DU,I.ne⟩ kF)
def hI'{R:Result->ay->Prop}(X:K.In s.heap)(hm:Wj K C=true)(hi:nS K (.ref C) "__init__" = some (some (.ref f))) (hf:PySem.W.typeIn K (.ref f)=some (.type "function"))(h:ua (aT prog w) (A.under (.builtin "type.__call__" ⟨.ref C :: vs,kw⟩)) (.call (.ref f) ⟨.ref (s.heap.objs.size+1) :: vs,kw⟩) (PySem.W.InitBack (s.heap.objs.size+1) R) { s with heap:=(s.heap.push GO).push (GP C s.heap.objs.size) }) :
  ua (aT prog w) A (.call (.ref C) ⟨vs,kw⟩) R s:=by
 obtain⟨hh,g,d,t,os⟩:=s;exact PySem.W.make_core (PySem.W.makes_of X hm) (PySem.W.looks_findIn X hi) (λself=>PySem.W.bind_fn X self hf) (.inl rfl) h
end
def putF(f:Str)(v:V):List (Str × V)->List (Str × V)
 |[]=>[(f,v)]
 | (g,x) :: r=>if g=f then (g,v) :: r else (g,x) :: putF f v r
theorem bP'(f g:Str)(v:V):∀ fs:List (Str × V),(putF f v fs).lookup g=if g=f then some v else fs.lookup g
 |[]=>by
  show List.lookup g [(f,v)]=_;by_cases h:g=f
  ·have hb:(g == f)=true:=beq_iff_eq.mpr h;simp only[List.lookup,hb,if_pos h]
  ·have hb:(g == f)=false:=beq_eq_false_iff_ne.mpr h;simp only[List.lookup,hb,if_neg h]
 | (k,x) :: r=>by
  have ih:=bP' f g v r;walk_at"r";by_cases hk:k=f
  ·rw[if_pos hk];by_cases h:g=k
   ·have hb:(g == k)=true:=beq_iff_eq.mpr h;simp only[List.lookup,hb,if_pos (h.trans hk)]
   ·have hb:(g == k)=false:=beq_eq_false_iff_ne.mpr h;simp only[List.lookup,hb,if_neg (λe:g=f=>h (e.trans hk.symm))]
  ·rw[if_neg hk];by_cases h:g=k
   ·have hb:(g == k)=true:=beq_iff_eq.mpr h;simp only[List.lookup,hb,if_neg (λe:g=f=>hk (h.symm.trans e))]
   ·have hb:(g == k)=false:=beq_eq_false_iff_ne.mpr h;simp only[List.lookup,hb];exact ih
theorem Zc(f:Str)(v:V):∀ fs:List (Str × V),f∈(putF f v fs).map (·.1)/\∀ g,g∈fs.map (·.1)->g∈(putF f v fs).map (·.1)
 |[]=>⟨by simp[putF],λg h=>by simp at h⟩
 | (k,x) :: r=>by
  obtain⟨i1,i2⟩:=Zc f v r;walk_at"r";by_cases hk:k=f
  ·rw[if_pos hk];subst hk;exact⟨by simp,λg h=>by simpa using h⟩
  ·rw[if_neg hk];refine⟨?_,λg h=>?_⟩
   ·rw[jS];exact fo _ i1
   ·rw[jS] at h ⊢;rcases fm.mp h with e|e
    ·exact fm.mpr (.inl e)
    ·exact fo _ (i2 g e)
theorem bQ'(f:Str)(v:V):∀ fs:List (Str × V),(putF f v fs).length<=fs.length+1
 |[]=>by simp[putF]
 | (k,x) :: r=>by
  have ih:=bQ' f v r;walk_at"r";by_cases hk:k=f
  ·rw[if_pos hk,oi,oi];lia
  ·rw[if_neg hk,oi,oi];lia
def pS.some_of(r:pS (some v) o):∃ u,o=some u/\RelV v u:=by
 cases o with
 |none=>exact(r).elim
 |some u=>exact⟨u,rfl,r⟩
def pS.none_of(r:pS none o):o=none:=by
 cases o with
 |none=>rfl
 |some u=>exact(r).elim
def hJ'(r:RelV v u):PySem.W.handedIn u=true:=by
 cases v with
 |non=>cases (show u=Value.none from r);rfl
 |bl b=>cases (r);rfl
 |int i=>obtain⟨t,e⟩:=(r);cases e;rfl
 |str x=>obtain⟨t,e⟩:=(r);cases e;rfl
 |uk b=>obtain⟨t,e⟩:=(r);cases e;rfl
 |DF b=>obtain⟨t,e⟩:=(r);cases e;rfl
 |ref a=>cases (r);rfl
 |ty n=>cases (r);rfl
section
variable {P:cv}{w:cK}{H:Hp}{h:dr}{a C dx:ah}{fs:List (Str × V)}
def LN(bX:iA P w H h)(e:H a=some (.ins C dx fs)):∃ mA,LM h a dx C mA/\(∀ f,pS (fs.lookup f) (mA f))/\PySem.Within mA (fs.map (·.1))/\fs.length<=1000/\H dx=some (.own a):=by
 obtain⟨d,z,ne,ob,mA,n,r,q⟩:=(bX a _ e)
 exact⟨mA,⟨ob,n,ne⟩,r,q,z,d⟩
end
structure uS(K:aI)(C:ah):Prop where
 pg:Ro K C Str.empty=true
 hd:T5 K C=true
 po:Wg K C=true
 sa:nS K (.ref C) "__setattr__" = some (some (.builtin "object.__setattr__"))
def uS.get{K:aI}(c:uS K C)(f:Str):Ro K C f=true:=c.pg
def ve(K:aI)(C:ah)(f:Str):Prop:=nS K (.ref C) f=some none
def ve.hK'{K:aI}(n:ve K C f):Wi K C f=some none:=by unfold Wi;rw[show nS K (.ref C) f=some none from n];rfl
structure Meth(K:aI)(C:ah)(m:Str)(f:ah):Prop where
 at_:nS K (.ref C) m=some (some (.ref f))
 fn:JY K (.ref f)=true
 kp:wd K (.ref f)=true
section
variable {X:Cx}{pins:List (ah × Obj)}{σ:St}{H:Hp}{s:ay}{a C dx:ah}{fs:List (Str × V)}{f:Str}{v:V}{A:eB}{E:ag->ay->Prop}
def hL'(I:Inv X pins σ H s)(e:H a=some (.ins C dx fs))(c:uS X.K C)(n:ve X.K C f)(l:fs.lookup f=some v)(h:∀ u s',Inv X pins σ H s'->RelV v u->Q u s'):bE (aT X.prog X.w) A (getAttr (.ref a) f b) Q E s:=by
 obtain⟨mA,O,r,_,_,_⟩:=LN I.bX e;obtain⟨u,hu,ru⟩:=pS.some_of (by rw[<- l];exact r f);exact get_map I.hX O (c.get f) c.hd n hu (hJ' ru) (h u _ (I.tok _) ru)
def hO'(I:Inv X pins σ H s)(e:H a=some (.ins C dx fs))(c:uS X.K C)(k:Meth X.K C m g)(l:fs.lookup m=none)(h:Q (.ref g,[.ref a]) s):bE (aT X.prog X.w) A (getMethod (.ref a) m pl) Q E s:=by
 obtain⟨mA,O,r,_,_,_⟩:=LN I.bX e;have hn:mA m=none:=pS.none_of (by rw[<- l];exact r m);exact hD' I.hX O (c.get m) k.at_ k.fn hn h
def hQ'(I:Inv X pins σ H s)(e:H a=some (.ins C dx fs))(c:uS X.K C)(n:ve X.K C f)(hl:fs.length<1000)(ry:RelV y u)(h:∀ s',Inv X pins σ (upd H a (.ins C dx (putF f y fs))) s'->Q () s'):bE (aT X.prog X.w) A (setAttr (.ref a) f u) Q E s:=by
 obtain⟨mA,O,r,wi,_,ho⟩:=LN I.bX e;have hz:(fs.map (·.1)).length<=bS:=by rw[dc,kB];lia
 refine hE' I.hX O c.sa c.po n.hK' c.hd wi hz λh' O' sb=>h _ ?_;have hd:∃ o,h'.get? dx=some o:=let ⟨o,_,_,e',_⟩:=O'.ns;⟨o,e'⟩
 refine I.write (by rw[e];exact True.intro) (.inr ho) (λb q hb z=>(sb.2 b hb).trans z) hd ?_;refine⟨by rw[dP O.ne];exact ho,?_,O.ne,O'.obj,_,O'.ns,λg=>?_,λg hg=>?_⟩
 ·have:=bQ' f y fs;lia
 ·show pS ((putF f y fs).lookup g) (if g=f then some u else mA g);rw[bP'];by_cases q:g=f
  ·rw[if_pos q,if_pos q];exact ry
  ·rw[if_neg q,if_neg q];exact r g
 ·by_cases q:g=f
  ·rw[q];exact(Zc f y fs).1
  ·refine(Zc f y fs).2 g (wi g λz=>hg ?_);show(if g=f then some u else mA g)=none;rw[if_neg q];exact z
def Inv.made(I:Inv X pins σ H s):Inv X pins σ (upd (upd H s.heap.objs.size (.own (s.heap.objs.size+1))) (s.heap.objs.size+1) (.ins C s.heap.objs.size [])) { s with heap:=(s.heap.push GO).push (GP C s.heap.objs.size) }:=by
 have e1:(s.heap.push GO).get? s.heap.objs.size=some GO:=i9 s.heap rfl;have e2:((s.heap.push GO).push (GP C s.heap.objs.size)).get? (s.heap.objs.size+1)=some (GP C s.heap.objs.size):=by have:=i9 (s.heap.push GO) (o:=GP C s.heap.objs.size) rfl;rwa[Uh] at this
 have e3:(s.heap.push GO).Ns s.heap.objs.size (λ_=>none):=⟨GO,#[],_,e1,rfl,(λe he=>absurd he (by simp)),λ_=>rfl⟩
 have I1:=I.laid (a:=s.heap.objs.size) (o:=.own (s.heap.objs.size+1)) (t':=s.toks) (λb u q=>eM _ q) (de _) ⟨_,e1⟩;refine I1.laid (t':=s.toks) (λb u q=>eM _ q) (RJ (Uh _ _)) ?_;have ne:s.heap.objs.size≠s.heap.objs.size+1:=gu (Uk _);refine⟨by rw[dP ne,fq],fR _,ne,e2,λ_=>none,(Heap.Ns1.of_empty e3).at λo q=>eM _ q,λ_=>True.intro,λy hy=>absurd rfl hy⟩
def hR'(hb:yB e f env (cp e env)=cp e env)(h:bE (aT prog w) A (cp e env) (λo fz=>bE (aT prog w) A (getAttr o f true) Q E fz) E s):bE (aT prog w) A (cp (.Attribute e f pos) env) Q E s :=
 Attribute_any_ h (by rw[arm_eval_Attribute,hb])
end
def Fn(K:aI)(ta:TE)(f:Str):TE:=λσ H Q=>ta σ H λx H1=>∃ a C dx fs v,x=.ref a/\H1 a=some (.ins C dx fs)/\uS K C/\ve K C f/\fs.lookup f=some v/\Q v H1
def Zd(K:aI)(ta tv:TE)(f:Str):TS:=λD σ H=>tv σ H λy H1=>ta σ H1 λx H2=>∃ a C dx fs,x=.ref a/\H2 a=some (.ins C dx fs)/\uS K C/\ve K C f/\fs.length<1000 /\
 D.nx σ (upd H2 a (.ins C dx (putF f y fs)))
section
variable {X:Cx}{o e value:Expr}{f:Str}{pos pos':Pos}{ta tv:TE}
def PF(he:PE X e ta)(hb:yB e f X.env (cp e X.env)=cp e X.env):PE X (.Attribute e f pos) (Fn X.K ta f):=by intro pins s σ H Q I h;refine hR' hb (cy (he pins s σ H _ I h) λu s1 dS=>?_);obtain⟨x,H1,I1,rx,a,C,dx,fs,v,ex,ea,c,n,l,q⟩:=dS;subst ex;obtain rfl:u=Value.ref a:=rx;exact hL' I1 ea c n l λu' s2 I2 ru=>⟨v,H1,I2,ru,q⟩
def bR'(ha:PE X o ta)(hv:PE X value tv)(hs:og value (some (.Attribute o f pos')) pos.line X.env=pure false):PS X (.Assign [.Attribute o f pos'] value pos) (Zd X.K ta tv f):=by intro pins s σ H D I h;refine plainObj_wpAny_Assign_Attribute (cy (hv pins s σ H _ I h) λu s1 cq=>L2.eW cq λy H1 I1 ry q=>cy (ha pins s1 σ H1 _ I1 q) λov s2 dS=>?_) hs;obtain⟨x,H2,I2,rx,a,C,dx,fs,ex,ea,c,n,l,q2⟩:=dS;subst ex;obtain rfl:ov=Value.ref a:=rx;exact hQ' I2 ea c n l ry λs3 I3=>⟨σ,_,I3,q2⟩
end
section
variable {X:Cx}{pins:List (ah × Obj)}{σ:St}{H:Hp}{s:ay}{A:eB}{E:ag->ay->Prop}{Q:ag->ay->Prop}{c:ag}{b:Bool}
inductive A6(K:aI)(H:Hp):V->ag->Prop where
 |non:A6 K H .non (.type "NoneType")
 |bl (x:Bool):A6 K H (.bl x) (.type "bool")
 |int (i:Int):A6 K H (.int i) (.type "int")
 |str (x:Str):A6 K H (.str x) (.type "str")
 |DF (x:UInt64):A6 K H (.DF x) (.type "float")
 |lst {a:ah} {xs:List V} (e:H a=some (.lst xs)):A6 K H (.ref a) (.type "list")
 |qE {a:ah} {o:Obj} {xs:List V} (e:H a=some (.qE o (.lst xs))):A6 K H (.ref a) (.type "list")
 |tup {a:ah} {xs:List V} (e:H a=some (.tup xs)):A6 K H (.ref a) (.type "tuple")
 |dK {a:ah} {ae:List (Key × V)} (e:H a=some (.dK ae)):A6 K H (.ref a) (.type "dict")
 |dT {a:ah} {ae:List (List Key × V)} (e:H a=some (.dT ae)):A6 K H (.ref a) (.type "dict")
 |ins {a C dx:ah} {fs:List (Str × V)} (e:H a=some (.ins C dx fs)) (cl:uS K C) (ha:nS K (.ref C) "__class__" = some (some (.builtin "object.__class__")))
   (hn:PySem.W.specialIn K (.builtin "object.__class__") "__get__" = some (some (.builtin "getset_descriptor.__get__"))) (htk:PySem.W.takesIn K (.builtin "object.__class__")=some true)
   (hm:T8 K C (.type "object")=some true):A6 K H (.ref a) (.ref C)
def R9(I:Inv X pins σ H s)(rx:RelV x u)(ty:A6 X.K H x t)(e:AK X.K t c=some b)(h:∀ tk,Q (.bool b) { s with toks:=tk }) :
  bE (aT X.prog X.w) A (call (.builtin "isinstance") [u,c]) Q E s:=by
 cases ty with
 |non=>cases (show u=Value.none from rx);exact xE PySem.W.kitx_none I.hX True.intro e (λz=>nomatch z) h
 |bl y=>cases (show u=Value.bool y from rx);exact xE PySem.W.kitx_bool I.hX True.intro e (λz=>nomatch z) h
 |int i=>obtain⟨t,q⟩:=(rx);cases q;exact xE PySem.W.kitx_int I.hX True.intro e (λz=>nomatch z) h
 |str y=>obtain⟨t,q⟩:=(show ∃ t,u=Value.str y t from rx);cases q;exact xE PySem.W.kitx_str I.hX True.intro e (λz=>nomatch z) h
 |DF y=>obtain⟨t,q⟩:=(rx);cases q;exact xE PySem.W.kitx_float I.hX True.intro e (λz=>nomatch z) h
 |@lst a xs ea =>
  cases (show u=Value.ref a from rx);obtain⟨_,_,n,_,h1⟩:=(I.bX a _ ea)
  exact xE Wh I.hX ⟨_,h1,rfl⟩ e (λz=>nomatch z) h
 |@qE a ob xs ea =>
  cases (show u=Value.ref a from rx);obtain⟨_,_,_,n,_,h1⟩:=(I.bX a _ ea)
  exact xE Wh I.hX ⟨_,h1,rfl⟩ e (λz=>nomatch z) h
 |@tup a xs ea =>
  cases (show u=Value.ref a from rx);obtain⟨_,_,_,p⟩:=(I.bX a _ ea)
  obtain⟨o,h1,h2,_⟩:=p;exact xE PySem.W.kitx_tuple I.hX ⟨o,h1,h2⟩ e (λz=>nomatch z) h
 |@dK a ae ea =>
  cases (show u=Value.ref a from rx);obtain⟨_,_,vs,_,p⟩:=(I.bX a _ ea)
  obtain⟨o,es,ep,h1,h2,_⟩:=p;exact xE T6 I.hX ⟨o,h1,h2.1⟩ e (λz=>nomatch z) h
 |@dT a ae ea =>
  cases (show u=Value.ref a from rx);obtain⟨_,_,xs,_,o,es,ep,h1,h2,_⟩:=(I.bX a _ ea)
  exact xE T6 I.hX ⟨o,h1,h2.1⟩ e (λz=>nomatch z) h
 |@ins a C dx fs ea cl ha hn htk hm =>cases (show u=Value.ref a from rx);obtain⟨mA,O,_⟩:=LN I.bX ea;obtain⟨od,J,_⟩:=O.look;exact xE (PySem.W.kitx_own (cl.get _) cl.hd ha hn htk hm) I.hX J e (λz=>nomatch z) h
end
structure hU(k:Nat)(A:eB):Prop where
 hd:A.handled=none
 dp:A.depth+3*k+5<recursionLimit
 un:A.units+16*k+200<gv
def hU.mono(r:hU k A)(h:j<=k):hU j A:=⟨r.hd,by have:=r.dp;lia,by have:=r.un;lia⟩
def hU.deeper(r:hU (k+1) A)(env:Env):hU k (A.deeper env) :=
 ⟨r.hd,by have:=r.dp;show A.depth+1+3*k+5<_;lia,by have:=r.un;show A.units+3+16*k+200<_;lia⟩
def hT' {A:eB} {C:ah} {us:List ag} {kw:List (Str × ag)}:(A.under (.builtin "type.__call__" ⟨.ref C :: us,kw⟩)).depth=A.depth+1:=by first|rfl|simp[Around.under,Code.weight,Code.isCreation,Code.isGuard,Code.isCaller,Code.frames,Code.isFrame,guardIds]
def hU' {A:eB} {C:ah} {us:List ag} {kw:List (Str × ag)}:(A.under (.builtin "type.__call__" ⟨.ref C :: us,kw⟩)).units=A.units+1:=by first|rfl|simp[Around.under,Code.cUnits,Code.frames,Code.isFrame]
def hU.make (r:hU (k+1) A) (C:ah) (us:List ag) (kw:List (Str × ag)):hU k (A.under (.builtin "type.__call__" ⟨.ref C :: us,kw⟩)) :=
 ⟨r.hd,by have:=r.dp;rw[hT'];lia,by have:=r.un;rw[hU'];lia⟩
def hU.depth(r:hU k A):A.depth<recursionLimit:=by have:=r.dp;lia
def hU.units(r:hU k A):A.units+64<gv:=by have:=r.un;lia
def LP:TA:=λ_ H Q=>Q [] H
def R_(ta:TE)(tr:TA):TA:=λσ H Q=>ta σ H λx H1=>tr σ H1 λxs H2=>Q (x :: xs) H2
section
variable {X:Cx}{e:Expr}{es:List Expr}{te:TE}{t:TA}{pos:Pos}
def oo:PA X [] LP:=λ_ _ _ _ H Q I h=>Calls.spliced_nil ⟨[],H,I,.nil,h⟩
def kR(ha:PE X e te)(hr:PA X es t)(hs:autoParam (bT (e :: es) X.env=(false,cp e X.env) :: bT es X.env) bv):PA X (e :: es) (R_ te t):=by intro pos pins s σ H Q I h;rw[hs];refine Calls.spliced_cons (cy (ha pins s σ H _ I h) λu s1 cq=>L2.eW cq λx H1 I1 r1 q1=>?_);exact cy (hr pos pins s1 σ H1 _ I1 q1) λus s2 cq=>L2.eW cq λxs H2 I2 r2 q2=>⟨x :: xs,H2,I2,.cons r1 r2,q2⟩
def hV'(t:TA):TE:=λσ H Q=>t σ H λxs H1=>xs.length<=bS/\∀ p,H1 p=none->Q (.ref p) (upd H1 p (.tup xs))
def bT'(t:TA):TE:=λσ H Q=>t σ H λxs H1=>xs.length<=bS/\∀ p,H1 p=none->Q (.ref p) (upd H1 p (.lst xs))
def Ze{x1}(h:PA X es t):PE X (.Tuple es x1 pos) (hV' t):=by intro pins s σ H Q I hq;refine wpAny_Tuple_spliced (cy (h pos pins s σ H _ I hq) λus s1 ⟨xs,H1,I1,r,z,q⟩=>⟨by rw[<- r.length];exact z,?_⟩);have hf:H1 s1.heap.objs.size=none:=I1.bX.fresh (de _);refine⟨.ref s1.heap.objs.size,upd H1 s1.heap.objs.size (.tup xs),I1.laid (λb u e=>eM _ e) (de _) ?_,rfl,q _ hf⟩;exact⟨z,us,r,⟨_,i9 _ rfl,rfl,_,rfl⟩⟩
def bU'(h:PA X es t):PE X (.List es pos) (bT' t):=by intro pins s σ H Q I hq;refine wpAny_List_spliced (cy (h pos pins s σ H _ I hq) λus s1 ⟨xs,H1,I1,r,z,q⟩=>⟨by rw[<- r.length];exact z,?_⟩);have hf:H1 s1.heap.objs.size=none:=I1.bX.fresh (de _);refine⟨.ref s1.heap.objs.size,upd H1 s1.heap.objs.size (.lst xs),I1.laid (λb u e=>eM _ e) (de _) ?_,rfl,q _ hf⟩;exact⟨z,us,0,r,i9 _ rfl⟩
end
abbrev Sp:=List V->Hp->VK->XK->Prop
abbrev Fs:=List Env->Hp->ay->XK->ag->ay->Prop
structure LS(P:cv)(w:cK)(K:aI)(mg:Str->Option ag)(base:dr)(A:eB)(outer:List Env)(s:ay)(H:Hp):Prop where
 frames:A.frames=some outer
 mod:Mod K mg base
 bs:∀ b o,base.get? b=some o->s.heap.get? b=some o/\H b=none
 x3:base.objs.size<=s.heap.objs.size
 tq:s.heap.FunFrames base outer
 A2:∀ b∈hG outer,H b=none
 bX:iA P w H s.heap
 bare:AllBare s.gens
def CE(outer:List Env)(P:cv)(w:cK)(H:Hp)(s:ay)(Q:VK)(u:ag)(s':ay):Prop :=
 ∃ v H',s'.os=s.os/\AllBare s'.gens/\Un (hG outer) [] H H' s.heap s'.heap/\iA P w H' s'.heap/\RelV v u/\Q v H'
def CR(CX:Fs)(outer:List Env)(P:cv)(w:cK)(H:Hp)(s:ay)(Q:VK)(E:XK)(r:Result)(s':ay):Prop :=
 match r with
 |.ok (.ret u)=>CE outer P w H s Q u s'
 |.ok _=>False
 |.error e=>CX outer H s E e s'
structure kS(P:cv)(w:cK)(K:aI)(mg:Str->Option ag)(base:dr)(CX:Fs)(k:Nat)(f:ah)(fd:qB)(ps:List Str)(sp:Sp):Prop where
 len:∀ vs H Q E,sp vs H Q E->vs.length=ps.length
 run:∀ (A:eB) (outer:List Env) (s:ay) (H:Hp) (args:Args) (us:List ag) (vs:List V) (Q:VK) (E:XK),hU k A->LS P w K mg base A outer s H->BindsTo s fd args (ps.zip us)->Vals vs us->sp vs H Q E ->
  ua (aT P w) A (.call (.ref f) args) (CR CX outer P w H s Q E) s
def LS.make{P:cv}{K:aI}(e:LS P w K mg base A outer s H)(C:ah)(us:List ag)(kw:List (Str × ag)) :
  LS P w K mg base (A.under (.builtin "type.__call__" ⟨.ref C :: us,kw⟩)) outer s H:=⟨by first|exact e.frames|(simpa[Around.under,Code.envs,Code.isFrame,pushEnvs] using e.frames),e.mod,e.bs,e.x3,e.tq,e.A2,e.bX,e.bare⟩
section
variable {X:Cx}{pins:List (ah × Obj)}{σ:St}{H:Hp}{s s':ay}
def Inv.Zf(I:Inv X pins σ H s):LS X.prog X.w X.K X.mg X.base X.A X.stack s H :=
 ⟨I.ok.frames,I.ok.mod,I.bs,kL I.ok.x3 I.sz,I.stack,I.WV,I.bX,I.bare⟩
def Inv.after(I:Inv X pins σ H s)(h:CE X.stack X.prog X.w H s Q u s'):EP X pins σ Q u s':=by obtain⟨v,H',os,bare,un,bX,r,q⟩:=h;obtain⟨hh,g,d,t,Zg⟩:=s';obtain rfl:Zg=s.os:=os;exact⟨v,H',I.call un bX bare (λb z=>absurd z (by simp)),r,q⟩
end
def LV(sp:Sp)(qS:List V)(E:XK)(t:TA):TE:=λσ H Q=>t σ H λvs H1=>sp (vs++qS) H1 Q E
def hW'(C:ah)(m:Str)(sp:Sp)(qS:List V)(E:XK)(ta:TE)(t:TA):TE:=λσ H Q=>ta σ H λx H1=>∃ a dx fs,x=.ref a/\H1 a=some (.ins C dx fs)/\fs.lookup m=none /\
 t σ H1 λvs H2=>sp (x :: (vs++qS)) H2 Q E
def hX'(C:ah)(sp:Sp)(qS:List V)(E:XK)(t:TA):TE:=λσ H Q=>t σ H λvs H1=>∀ x dx,H1 x=none->H1 dx=none->dx≠x ->
 sp (.ref x :: (vs++qS)) (upd (upd H1 dx (.own x)) x (.ins C dx [])) (λv H2=>v=.non/\Q (.ref x) H2) E
def Binds(K:aI)(fd:qB)(ps:List Str)(ds:List ag):Prop :=
 ∀ (s:ay) (us:List ag),K.In s.heap->(us++ds).length=ps.length->BindsTo s fd ⟨us,[]⟩ (ps.zip (us++ds))
def Binds.all{K:aI}{ps:List Str}(h:∀ us:List ag,us.length=ps.length->bindArgs fd ⟨us,[]⟩=pure (ps.zip us)):Binds K fd ps []:=λs us _ hl=>by rw[mM] at hl ⊢;exact .of_eq (h us hl)
def Passes(CX:Fs)(X:Cx)(E:XK):Prop:=∀ (pins:List (ah × Obj)) (σ:St) (H:Hp) (s:ay) (e:ag) (s':ay),Inv X pins σ H s->CX X.stack H s E e s'->X.xe e s'
section
variable {X:Cx}{CX:Fs}{k:Nat}{f C:ah}{fd:qB}{ps:List Str}{sp:Sp}{qS:List V}{ds:List ag}{E:XK}{x m:Str}{p pos apos:Pos}{e o:Expr}{es:List Expr}{ta:TE}{t:TA}
def bV'(F:kS X.prog X.w X.K X.mg X.base CX k f fd ps sp)(hr:hU k X.A)(hb:Binds X.K fd ps ds)(hd:Vals qS ds)(hx:Passes CX X E)(I:Inv X pins σ H s) (r:Vals vs us) (h:sp (vs++qS) H Q E):bE (aT X.prog X.w) X.A (call (.ref f) us) (EP X pins σ Q) X.xe s:=by
 have r2:Vals (vs++qS) (us++ds):=r.append hd;have hl:(us++ds).length=ps.length:=by rw[<- r2.length];exact F.len _ _ _ _ h
 refine wpAny_call (Jn (F.run X.A X.stack s H ⟨us,[]⟩ (us++ds) (vs++qS) Q E hr I.Zf (hb s us I.hX hl) r2 h) λr s' hq=>?_)
 cases r with
 |error e=>exact hx pins σ H s e s' I hq
 |ok fl =>
  cases fl with
  |ret u=>exact I.after hq
  |next=>exact False.elim hq
  |brk=>exact False.elim hq
  |cont=>exact False.elim hq
def bW'(F:kS X.prog X.w X.K X.mg X.base CX k f fd ps sp)(hr:hU k X.A)(hg:Gl X x)(hm:X.mg x=some (.ref f))(hk:wd X.K (.ref f)=true)(hb:Binds X.K fd ps ds)(hd:Vals qS ds)(hx:Passes CX X E)(ha:PA X (e :: es) t) (kf:(x == ("__debug__" : Str))=false:=by decide) (he:autoParam (bT (e :: es) X.env=(false,cp e X.env) :: bT es X.env) bv) (iO:autoParam ((i3 pos (bT es X.env)).any (·.1)=false) bv) :
  PE X (.Call (.Name x p) (e :: es) [] pos) (LV sp qS E t):=by
 walk_at"t";refine GL (Lc I hg hm ?_ kf);refine Wd I.ok.mod.Pm hk (cy (ha pos pins s σ H _ I h) λus s1 cq=>L2.eW cq λvs H1 I1 r q=>⟨I1.hX,?_⟩) he iO;exact bV' F hr hb hd hx I1 r q
def bX'(he:PE X o ta)(c:uS X.K C)(hm:Meth X.K C m f)(F:kS X.prog X.w X.K X.mg X.base CX k f fd ps sp)(hr:hU k X.A)(hb:Binds X.K fd ps ds)(hd:Vals qS ds)(hx:Passes CX X E)(ha:PA X (e :: es) t)(kE:autoParam (bT (e :: es) X.env=(false,cp e X.env) :: bT es X.env) bv) (iO:autoParam ((i3 pos (bT es X.env)).any (·.1)=false) bv) (ht:autoParam (cp (.Call (.Attribute o m apos) (e :: es) [] pos) X.env=(do
   let ov ← eval o X.env
   standAt apos.atName
   let (f,first) ← holding [ov] (getMethod ov m pl)
   callWith pos f first (i3 pos (bT (e :: es) X.env)) (backToKw pos (CF [] X.env)))) bv) :
  PE X (.Call (.Attribute o m apos) (e :: es) [] pos) (hW' C m sp qS E ta t):=by
 walk_at"t";refine PySem.W.methodCall_KW (cy (he pins s σ H _ I h) λu s1 dS=>?_) ht;obtain⟨x,H1,I1,rx,a,dx,fs,ex,ea,l,q⟩:=dS;subst ex;obtain rfl:u=Value.ref a:=rx;refine hO' I1 ea c hm l ?_;refine Wd I.ok.mod.Pm hm.kp (cy (ha pos pins s1 σ H1 _ I1 q) λus s2 cq=>L2.eW cq λvs H2 I2 r q2=>⟨I2.hX,?_⟩) kE iO;exact bV' (vs:=.ref a :: vs) F hr hb hd hx I2 (.cons rfl r) q2
structure Mk(K:aI)(C f:ah):Prop where
 makes:Wj K C=true
 init:nS K (.ref C) "__init__" = some (some (.ref f))
 fn:JY K (.ref f)=true
 kp:wd K (.ref C)=true
def hY'(M:Mk X.K C f)(F:kS X.prog X.w X.K X.mg X.base CX k f fd ps sp)(hr:hU (k+1) X.A)(hb:Binds X.K fd ps ds)(hd:Vals qS ds)(hx:Passes CX X E) (I:Inv X pins σ H s) (r:Vals vs us)(h:∀ x dx,H x=none->H dx=none->dx≠x->sp (.ref x :: (vs++qS)) (upd (upd H dx (.own x)) x (.ins C dx [])) (λv H2=>v=.non/\Q (.ref x) H2) E) :
  bE (aT X.prog X.w) X.A (call (.ref C) us) (EP X pins σ Q) X.xe s:=by
 have hq:=h (s.heap.objs.size+1) s.heap.objs.size (I.bX.fresh (RN _)) (I.bX.fresh (de _)) (gu (Uk _));have I2:=Inv.made (C:=C) I;have r2:Vals (V.ref (s.heap.objs.size+1) :: (vs++qS)) (Value.ref (s.heap.objs.size+1) :: (us++ds)):=.cons rfl (r.append hd);have hl:(Value.ref (s.heap.objs.size+1) :: us++ds).length=ps.length:=by have e:=r2.length;rw[F.len _ _ _ _ hq] at e;exact e.symm
 refine wpAny_call (hI' I.hX M.makes M.init (beq_iff_eq.mp M.fn) (Jn (F.run _ X.stack _ _ ⟨Value.ref (s.heap.objs.size+1) :: us,[]⟩ (Value.ref (s.heap.objs.size+1) :: (us++ds)) _ _ E (hr.make C us []) (I2.Zf.make C us []) (hb _ (Value.ref (s.heap.objs.size+1) :: us) I2.hX hl) r2 hq) λr s' LW=>?_))
 cases r with
 |error e=>exact hx pins σ _ _ e s' I2 LW
 |ok fl =>
  cases fl with
  |ret u =>obtain⟨v,H',I3,rv,ev,q3⟩:=I2.after LW;subst ev;exact⟨rv,⟨V.ref (s.heap.objs.size+1),H',I3,rfl,q3⟩⟩
  |next=>exact False.elim LW
  |brk=>exact False.elim LW
  |cont=>exact False.elim LW
def hZ'(M:Mk X.K C f)(F:kS X.prog X.w X.K X.mg X.base CX k f fd ps sp)(hr:hU (k+1) X.A)(hg:Gl X x)(hm:X.mg x=some (.ref C))(hb:Binds X.K fd ps ds)(hd:Vals qS ds)(hx:Passes CX X E)(kf:(x == ("__debug__" : Str))=false:=by decide):PE X (.Call (.Name x p) [] [] pos) (hX' C sp qS E LP):=by
 walk_at"t";refine GL (Lc I hg hm ?_ kf);exact PySem.W.callWith_K0 I.hX M.kp (hY' M F hr hb hd hx I .nil h)
end
structure zh(N P:List Str)(sc:Scope):Prop where
 kind:sc.kind=.function
 co:sc.isCoroutine=false
 gen:sc.isGenerator=false
 nd:N.Nodup
 pre:N.take P.length=P
 par:∀ x∈P,sc.names.lookup x=some .local\/sc.names.lookup x=some .cell
 ic':∀ y∈sc.names,y.2≠.free
theorem bY'{fS:Str->Option BH}:∀ {binds:List (Str × ag)} {m:Str->Option ag},(∀ v,(x,v)∉binds)->bindL fS binds m x=m x
 |[],_,_=>rfl
 | (n,v) :: r,m,h=>by
  unfold bindL;rw[bY' λw hw=>h w (fo _ hw)];split
  ·have:x≠n:=by rintro rfl;exact h v fw
   simp[this]
  ·rfl
theorem bZ'{fS:Str->Option BH}:∀ {binds:List (Str × ag)} {m:Str->Option ag},(∀ v,(x,v)∉binds)->bindC fS binds m x=m x
 |[],_,_=>rfl
 | (n,v) :: r,m,h=>by
  unfold bindC;rw[bZ' λw hw=>h w (fo _ hw)];split
  ·rfl
  ·have:x≠n:=by rintro rfl;exact h v fw
   simp[this]
def ca'{fS:Str->Option BH}:∀ {P:List Str} {vs:List ag} {i:Nat} {m:Str->Option ag},P.Nodup->P[i]? = some x->vs[i]? = some v->fS x=some .local ->
  bindL fS (P.zip vs) m x=some v
 |[],_,_,_,_,h,_,_=>by simp at h
 |_ :: _,[],_,_,_,_,h,_=>by simp at h
 |p :: P,w :: vs,0,m,nd,h1,h2,hk=>by simp at h1 h2;subst h1;subst h2;show bindL fS ((p,w) :: P.zip vs) m p=_;unfold bindL;rw[bY' λv hv=>(oj.mp nd).1 (List.of_mem_zip hv).1,if_pos hk];simp
 |p :: P,w :: vs,i+1,m,nd,h1,h2,hk=>by unfold bindL;exact ca' (oj.mp nd).2 (by simpa using h1) (by simpa using h2) hk
def cb'{fS:Str->Option BH}:∀ {P:List Str} {vs:List ag} {i:Nat} {m:Str->Option ag},P.Nodup->P[i]? = some x->vs[i]? = some v->fS x≠some .local ->
  bindC fS (P.zip vs) m x=some v
 |[],_,_,_,_,h,_,_=>by simp at h
 |_ :: _,[],_,_,_,_,h,_=>by simp at h
 |p :: P,w :: vs,0,m,nd,h1,h2,hk=>by simp at h1 h2;subst h1;subst h2;show bindC fS ((p,w) :: P.zip vs) m p=_;unfold bindC;rw[bZ' λv hv=>(oj.mp nd).1 (List.of_mem_zip hv).1,if_neg hk];simp
 |p :: P,w :: vs,i+1,m,nd,h1,h2,hk=>by unfold bindC;exact cb' (oj.mp nd).2 (by simpa using h1) (by simpa using h2) hk
def start(N:List Str)(vs:List V):St:=vs.map some++List.replicate (N.length-vs.length) none
def oz(CX:Fs)(P:cv)(w:cK)(K:aI)(mg:Str->Option ag)(base:dr)(N:List Str)(qual:Str)(scope:Scope)(f:ah)(cd:ag)(A:eB)(outer:List Env)(s:ay)(H:Hp)(E:XK):Cx where
 prog:=P
 w:=w
 K:=K
 mg:=mg
 base:=base
 A:=A.deeper (kN qual scope s.heap.objs.size f cd)
 N:=N
 g7:=s
 HC:=H
 env:=kN qual scope s.heap.objs.size f cd
 outer:=outer
 stack:=kN qual scope s.heap.objs.size f cd :: outer
 ex:=[]
 calm:=true
 fn:=λ_=>true
 pn:=[]
 xe:=λe s'=>bE (aT P w) (A.deeper (kN qual scope s.heap.objs.size f cd)) (leaving (kN qual scope s.heap.objs.size f cd) e) (λ_ HM=>CX outer H s E e HM) (λe' HM=>CX outer H s E e' HM) s'
def cc'{sc:Scope}{n:Nat}{x:Str}(h:sc.names.lookup x=some .cell):∃ c,(cellsFrom n sc.names []).lookup x=some c:=by have q:=PySem.W.cellsFrom_some sc.names n [] (.inl h);exact Ut.mp q
def ie'{CX:Fs}{P:cv}{w:cK}{K:aI}{mg:Str->Option ag}{base:dr}{N ps:List Str}{qual:Str}{scope:Scope}{f:ah}{cd:ag}{A:eB}{outer:List Env}{s s1:ay}{H:Hp}{E:XK}{us:List ag}{vs:List V}(S:zh N ps scope) (hd:A.handled=none) (e0:LS P w K mg base A outer s H) (hl:vs.length=ps.length) (r:Vals vs us)(x:InCallC s s.heap.objs.size (bindL (kN qual scope s.heap.objs.size f cd).kindOf (ps.zip us) λ_=>none) (cellsFrom (s.heap.objs.size+1) scope.names []) (bindC (kN qual scope s.heap.objs.size f cd).kindOf (ps.zip us) λ_=>none) s1) :
  Inv (oz CX P w K mg base N qual scope f cd A outer s H E) [] (start N vs) H s1:=by
 have iO:ps.length<=N.length:=by have:=congrArg List.length S.pre;rw[nV] at this;lia
 obtain⟨h1,tk,rfl,hk⟩:=x.done;have Sb:∀ b:ah,b∉(oz CX P w K mg base N qual scope f cd A outer s H E).ex:=λb z=>absurd (show b∈([]:List ah) from z) (by simp);refine⟨⟨e0.mod,S.kind,rfl,rfl,de _,λy z c h1 h2=>?_,λy hy=>?_,λy c _ h=>?_,λ_=>hd,Around.frames_deeper e0.frames,.inr ⟨rfl,rfl⟩,λb z=>absurd z (Sb b),e0.bs,e0.x3,λb _ _=>Sb b,λb z=>absurd z (Sb b),e0.tq,e0.A2⟩,
  rfl,e0.bare,Un.kept hk,⟨_,x.toInCall.ns,λi y v h1 h2 h3=>?_⟩,λy c h=>⟨_,x.cell y c h⟩,e0.bX.fresh (de _),λy c h=>?_,λp hp=>absurd (show p∈([]:List (ah × Obj)) from hp) (by simp),e0.bX.kept hk,?_⟩
 ·exact name_of_addr x.apart (PySem.mem_of_lookup h1) (PySem.mem_of_lookup h2)
 ·have hy:scope.names.lookup y=some .cell\/scope.names.lookup y=some .free:=hy;rcases hy with hy|hy
  ·exact cc' hy
  ·exact absurd rfl (S.ic' _ (PySem.mem_of_lookup hy))
 ·exact AW (x.above y c (PySem.mem_of_lookup h))
 ·have hi:i<vs.length:=by
   unfold start at h2;by_cases hi:i<vs.length
   ·exact hi
   ·rw[EV (by simpa using hi)] at h2;rw[Wm] at h2;split at h2<;>cases h2
  have ha:vs[i]? = some v:=by
   unfold start at h2;rw[EW (by simpa using hi),ku] at h2
   cases e:vs[i]? with
   |none=>rw[e] at h2;cases h2
   |some a=>rw[e] at h2;cases h2;rfl
  obtain⟨u,hu,rv⟩:=r.get ha;have hp:ps[i]? = some y:=by rw[<- S.pre,List.getElem?_take_of_lt (by lia)];exact h1
  have ndP:ps.Nodup:=by rw[<- S.pre];exact S.nd.sublist (List.take_sublist _ _)
  refine⟨u,rv,?_⟩;rcases S.par y (pf hp) with k|k
  ·exact .inl ⟨k,ca' ndP hp hu k⟩
  ·obtain⟨c,e⟩:=cc' k;refine .inr ⟨.inl k,c,e,?_⟩;have q:=x.cell y c e;rw[cb' ndP hp hu (by show scope.names.lookup y≠_;rw[k];decide)] at q;exact q
 ·exact e0.bX.fresh (AW (x.above y c (PySem.mem_of_lookup h)))
 ·unfold start;show _=N.length;rw[mI,dc,Wn];lia
def ce'{P:cv}{K:aI}{dV kV doc pm dE ct oc:ag}{N ps:List Str} (lk:K.lookup f=some ⟨oc,od,.func (sf name qual params body scope dV kV doc pm an dE ct),BM⟩) (tF:CL K dE qual=true) (S:zh N ps scope)(len:∀ vs H Q E,sp vs H Q E->vs.length=ps.length)(xa:∀ (A:eB) (outer:List Env) (s:ay) (H:Hp) (vs:List V) (Q:VK) (E:XK),hU k (A.deeper (kN qual scope s.heap.objs.size f dE))->sp vs H Q E ->
   ∃ t,mn (oz CX P w K mg base N qual scope f dE A outer s H E) body t/\t { nx:=λ_ H'=>Q .non H',rt:=Q } (start N vs) H) :
  kS P w K mg base CX (k+1) f (sf name qual params body scope dV kV doc pm an dE ct) ps sp:=by
 refine⟨len,λA outer s H args us vs Q E hr e0 hb r DV=>?_⟩;have hl:=len _ _ _ _ DV;have KX:K.In s.heap:=e0.mod.Pm.keeps λb o e=>(e0.bs b o e).1;have lim:s.heap.NoLimit:=e0.mod.nolimit.keeps λb o e=>(e0.bs b o e).1;have ig':∀ y∈ps.zip us,scope.names.lookup y.1=some .local\/(scope.names.lookup y.1=some .cell/\((cellsFrom (s.heap.objs.size+1) scope.names []).lookup y.1).isSome=true):=λ⟨n,v⟩ hy=>by
  rcases S.par n (List.of_mem_zip hy).1 with q|q
  ·exact .inl q
  ·exact .inr ⟨q,PySem.W.cellsFrom_some _ _ _ (.inl q)⟩
 refine codeAny_call_function hr.depth (KX _ _ lk) rfl S.co S.gen rfl (PySem.W.codeRec_of KX tF) (hb _ _ _ _ ?_);refine wpAny_newFunctionEnv_cells S.kind ig' λenv he s1 x=>?_;subst he;refine⟨lim.keeps x.toInCall.keep,codeAny_func ?_⟩;obtain⟨t,ht,hq⟩:=xa A outer s H vs Q E (hr.deeper _) DV;have I:Inv (oz CX P w K mg base N qual scope f dE A outer s H E) [] (start N vs) H s1:=ie' S hr.hd e0 hl r x;refine se (ht [] s1 (start N vs) H _ I hq) (λfl s' hs=>?_) λe s' hs=>hs;have fin:∀ {cx:St} {H':Hp} {v:V} {u:ag},Inv (oz CX P w K mg base N qual scope f dE A outer s H E) [] cx H' s'->RelV v u->Q v H'->CE outer P w H s Q u s' :=
  λ{cx H' v u} J rv q=>⟨v,H',J.os,J.bare,J.base,J.bX,rv,q⟩
 cases fl with
 |ret u =>obtain⟨v,cx,H',J,rv,q⟩:=hs;exact fin J rv q
 |next =>obtain⟨cx,H',J,q⟩:=hs;exact fin (v:=V.non) J rfl q
 |brk =>obtain⟨_,_,_,q⟩:=hs;exact False.elim q
 |cont =>obtain⟨_,_,_,q⟩:=hs;exact False.elim q
section
variable {X:Cx}{x:Str}{p pos:Pos}{e:Expr}{es:List Expr}{t:TA}{id T:String}{r:List V->Hp->VK->Prop}
def UM(r:List V->Hp->VK->Prop)(t:TA):TE:=λσ H Q=>t σ H λvs H1=>r vs H1 Q
def PH (hc:lS X (.builtin id) r) (hg:Gl X x) (hm:X.mg x=none) (hv:ly x=some (.builtin id)) (ha:PA X (e :: es) t) (hn:x ≠ "__name__" := by decide) (kf:(x == ("__debug__" : Str))=false:=by decide) (he:autoParam (bT (e :: es) X.env=(false,cp e X.env) :: bT es X.env) bv) (iO:autoParam ((i3 pos (bT es X.env)).any (·.1)=false) bv):PE X (.Call (.Name x p) (e :: es) [] pos) (UM r t):=by
 walk_at"t";refine GL (DM I hg hm hv ?_ hn kf);exact PyProof.Rows.callWith_builtin1 (cy (ha pos pins s σ H _ I h) λus s1 cq=>L2.eW cq λvs H1 I1 r1 q1=>hc pins s1 σ H1 vs us Q I1 r1 q1) he iO
def ih' (hc:lS X (.type T) r) (hg:Gl X x) (hm:X.mg x=none) (hv:ly x=some (.type T)) (ha:PA X (e :: es) t) (hn:x ≠ "__name__" := by decide) (kf:(x == ("__debug__" : Str))=false:=by decide) (he:autoParam (bT (e :: es) X.env=(false,cp e X.env) :: bT es X.env) bv) (iO:autoParam ((i3 pos (bT es X.env)).any (·.1)=false) bv):PE X (.Call (.Name x p) (e :: es) [] pos) (UM r t):=by
 walk_at"t";refine GL (DM I hg hm hv ?_ hn kf);exact PyProof.Rows.callWith_type1 (cy (ha pos pins s σ H _ I h) λus s1 cq=>L2.eW cq λvs H1 I1 r1 q1=>hc pins s1 σ H1 vs us Q I1 r1 q1) he iO
end
end L2
end
namespace HT
open PySem PyProof.Rows
section
open PySem.SeqAt
open PySem.AutoSeq1 (wpAny_loadPart')
open PySem.MeetsSeq PySem.MeetsSeq2 PySem.MeetsSeq3
end
section
variable {prog:cv}{w:cK}{A:eB}{E:ag->ay->Prop}{s:ay}
def ii'(ht:IsTup s.heap t vs.toArray)(hb:IsTup s.heap b ws.toArray)(hv:vs≠[])(h1:ws=[]->Q (.ref t) s) (h2:ws≠[]->Q (.ref s.heap.objs.size) { s with heap:=s.heap.push { cls:=.type "tuple",data:=.seq (vs++ws).toArray } }) (hJ:vs.length+ws.length<=bS):bE (aT prog w) A (qA .Add (.ref t) (.ref b)) Q E s:=by
 obtain⟨⟨cls,dd,data,sl⟩,ho,hc,n,hd⟩:=id ht;obtain⟨⟨ij',UN,data2,UO⟩,Fu,UQ,n2,hd2⟩:=id hb;subst hc hd UQ hd2;have e:vs.toArray++ws.toArray=(vs++ws).toArray:=by simp
 by_cases hw:ws=[]
 ·exact concat_meets ⟨_,ho,rfl⟩ ⟨_,Fu,rfl⟩ noFill_tuple_add seq_tuple_add PySem.F.slot_tuple_add PySem.F.entry_tuple_add (PySem.F.args_tuple_add_2 _ _) (tuple_addW1 t b vs.toArray ws.toArray n n2 dd UN sl UO (by simpa using hv) (by simp[hw])) ⟨ho,Fu,h1 hw⟩
 ·refine concat_meets ⟨_,ho,rfl⟩ ⟨_,Fu,rfl⟩ noFill_tuple_add seq_tuple_add PySem.F.slot_tuple_add PySem.F.entry_tuple_add (PySem.F.args_tuple_add_2 _ _) (tuple_addW2 t b vs.toArray ws.toArray n n2 dd UN sl UO (by simpa using hv) (by simpa using hw) (by rw[jI,jI];exact hJ)) ⟨ho,Fu,?_⟩
  rw[e];exact h2 hw
def dz(n d:Nat):Option Int->Nat
 |none=>d
 |some v=>if v<0 then (v+(n:Int)).toNat else min v.toNat n
def cf'(v:Int)(n d:Nat):(if v<0 then max (v+(n:Int)) 0 else min v (n:Int))=((dz n d (some v):Nat):Int):=by
 show(if v<0 then max (v+n) 0 else min v n)=(((if v<0 then (v+n).toNat else min v.toNat n):Nat):Int)
 by_cases hv:v<0
 ·simp only[if_pos hv];lia
 ·simp only[if_neg hv];lia
def ik'(lo hi:Option Int)(n:Nat):Builtin.Slice.sliceAdjust lo hi 1 (n:Int)=(((dz n 0 lo:Nat):Int),((dz n n hi:Nat):Int)):=by
 refine Prod.ext ?_ ?_
 ·cases lo with
  |none=>rfl
  |some v=>exact cf' v n 0
 ·cases hi with
  |none=>rfl
  |some v=>exact cf' v n n
def il'(i j:Nat):Builtin.Slice.slicePlaces (i:Int) (j:Int) 1=j-i:=by unfold Builtin.Slice.slicePlaces;split<;>lia
def cg'(p:IsPart v o)(h:Q o s):bE (aT prog w) A (Builtin.Slice.slicePartIndex v) Q E s:=by
 cases p with
 |none=>exact slicePart_none h
 |int i t=>exact slicePart_int h
def im'{sl:ah}{vl vu:ag}{lo hi:Option Int}{n:Nat}{Q:Int × Int × Nat->ay->Prop}(hs:s.heap.IsSliceOf sl vl vu .none)(pl:IsPart vl lo)(pu:IsPart vu hi)(h:Q (((dz n 0 lo:Nat):Int),1,dz n n hi-dz n 0 lo) s):bE (aT prog w) A (Builtin.Slice.sliceApplied (.ref sl) (pure (n:Int))) Q E s:=by
 obtain⟨os,Sd,FC,Se⟩:=id hs;refine ax (ax (wpAny_field Sd Se rfl (ax (wpAny_field Sd Se rfl (ax (wpAny_field Sd Se rfl (bG ?_)))))));refine ax (slicePart_none ?_);refine ax (cg' pl (ax (cg' pu (ax (bG ?_)))));show bE _ _ (match Builtin.Slice.sliceAdjust lo hi 1 n with|(lo,hi)=>pure (lo,(1:Int),Builtin.Slice.slicePlaces lo hi 1)) _ _ s;rw[ik' lo hi n];show bE _ _ (pure (((dz n 0 lo:Nat):Int),1,Builtin.Slice.slicePlaces ((dz n 0 lo:Nat):Int) ((dz n n hi:Nat):Int) 1)) _ _ s;rw[il'];exact bG h
def io'(xs:Array ag)(i k:Nat):((List.range k).filterMap λ(m:Nat)=>xs[((i:Int)+(m:Int)*1).toNat]?).toArray=((xs.toList.drop i).take k).toArray:=by
 have e:(λ(m:Nat)=>xs[(i+(m:Int)*1).toNat]?)=λm=>xs[i+m]? := by
  funext m;have:(i+(m:Int)*1).toNat=i+m:=by lia
  rw[this]
 rw[e];have:=pick_run xs i k;rw[Wt] at this;have e2:((λx=>xs[x]?) ∘ λx=>i+x)=λm=>xs[i+m]? := rfl;rw[e2] at this;rw[this]
def ip'{lo hi:Option Int}(ht:IsTup s.heap t items)(hs:s.heap.IsSliceOf sl vl vu .none)(pl:IsPart vl lo)(pu:IsPart vu hi)(hw:¬ (dz items.size 0 lo=0/\dz items.size items.size hi=items.size))(h:Q (.ref s.heap.objs.size) { s with heap:=s.heap.push { cls:=.type "tuple",data:=.seq ((items.toList.drop (dz items.size 0 lo)).take (dz items.size items.size hi-dz items.size 0 lo)).toArray } }) (hJ:items.size<=bS):bE (aT prog w) A (getItem (.ref t) (.ref sl)) Q E s:=by
 have UR:sizeOk (.seq ((items.toList.drop (dz items.size 0 lo)).take (dz items.size items.size hi-dz items.size 0 lo)).toArray):=by show((items.toList.drop (dz items.size 0 lo)).take (dz items.size items.size hi-dz items.size 0 lo)).toArray.size<=bS;rw[jI,nV,GW,AZ];lia
 obtain⟨os,Sd,FC,Se⟩:=id hs;have hTs:s.TypeIs (.ref sl) "slice" := ⟨os,Sd,FC⟩
 unfold getItem;try with_reducible refine xC ?_
 first|refine ax (bG ?_)|skip
 refine ax (wpAny_sequenceKey ht.typeIs (by decide) ?_);refine ax (Rh ht.typeIs PyProof.Rows.slot_tuple_getitem (EK PyProof.Rows.slot_tuple_getitem ht.typeIs entry_tuple_getitem ?_ (args_tuple_getitem _ _)))
 show bE _ _ (Builtin.Tuple.tupleItemsOf (.ref t) >>= _) _ _ s;refine ax (tupleItemsOf_ ht ?_);refine ax (wpAny_typeOf hTs ?_);refine ax (im' hs pl pu ?_);have UT:¬ ((((dz items.size 0 lo:Nat):Int) == 0 && (1:Int) == 1 && (dz items.size items.size hi-dz items.size 0 lo) == items.size)=true):=by intro q;rw[mS,mS] at q;have q1:((dz items.size 0 lo:Nat):Int)=0:=eq_of_beq q.1.1;have q2:dz items.size items.size hi-dz items.size 0 lo=items.size:=eq_of_beq q.2;exact hw ⟨by lia,by lia⟩
 show bE _ _ (if (((dz items.size 0 lo:Nat):Int) == 0 && 1 == 1 && (dz items.size items.size hi-dz items.size 0 lo) == items.size)=true then _ else _) _ _ s;rw[if_neg UT,io'];first
  |exact ax (sR (bG ⟨_,rfl,bG h⟩) UR)
  |exact ax (sR (ax (bG (bG ⟨_,rfl,bG h⟩))) UR)
  |exact ax (ax (sR (bG (bG ⟨_,rfl,bG h⟩)) UR))
  |exact ax (ax (sR (bG ⟨_,rfl,bG h⟩) UR))
end
end HT
section
open PySem PySem.Spec PyProof.Rows
namespace L2
abbrev TO:=St->Hp->(Option Int->Hp->Prop)->Prop
def PO(X:Cx)(e:Option Expr)(t:TO):Prop :=
 ∀ (pins:List (ah × Obj)) (s:ay) (σ:St) (H:Hp) (Q:Option Int->Hp->Prop),Inv X pins σ H s->t σ H Q ->
  bE (aT X.prog X.w) X.A (evalPart e X.env) (λu s'=>∃ o H',Inv X pins σ H' s'/\IsPart u o/\Q o H') X.xe s
def ir':TO:=λ_ H Q=>Q none H
def is'(t:TE):TO:=λσ H Q=>t σ H λx H1=>∃ i,x=.int i/\Q (some i) H1
section
variable {X:Cx}{e:Expr}{te:TE}{lo hi:Option Expr}{tl th:TO}{pos p2:Pos}
def it':PO X none ir':=by intro pins s σ H Q I h;exact bG ⟨none,H,I,.none,h⟩
def iu'(h:PE X e te):PO X (some e) (is' te):=by intro pins s σ H Q I hw;refine cy (h pins s σ H _ I hw) λu s1 cq=>L2.eW cq λx H1 I1 r1 q1=>?_;obtain⟨i,rfl,q⟩:=q1;obtain⟨t,rfl⟩:=r1;exact⟨some i,H1,I1,.int i t,q⟩
def PK(X:Cx)(r:V->Option Int->Option Int->Hp->VK->Prop):Prop :=
 ∀ (pins:List (ah × Obj)) (s:ay) (σ:St) (H:Hp) (x:V) (v vl vu:ag) (lo hi:Option Int) (sl:ah) (Q:VK),Inv X pins σ H s->RelV x v->s.heap.IsSliceOf sl vl vu .none->IsPart vl lo->IsPart vu hi->r x lo hi H Q ->
  ∃ T id,typeLookup (.type T) "__getitem__" = pure (some (.builtin id))/\s.TypeIs v T/\bE (aT X.prog X.w) X.A (getItem v (.ref sl)) (EP X pins σ Q) X.xe s
def tSl(r:V->Option Int->Option Int->Hp->VK->Prop)(te:TE)(tl th:TO):TE:=λσ H Q=>te σ H λx H1=>tl σ H1 λl H2=>th σ H2 λu H3=>r x l u H3 Q
def ix'(hr:PK X r)(he:PE X e te)(hl:PO X lo tl)(hu:PO X hi th):PE X (.Subscript e (.Slice lo hi none p2) pos) (tSl r te tl th):=by intro pins s σ H Q I h;refine Subscript_ (cy (he pins s σ H _ I h) λv s1 cq=>L2.eW cq λx H1 I1 r1 q1=>?_);refine wpAny_Slice (cy (hl pins s1 σ H1 _ I1 q1) λvl s2 cq=>L2.eW cq λl H2 I2 pl q2=>cy (hu pins s2 σ H2 _ I2 q2) λvu s3 cq=>L2.eW cq λu H3 I3 pu q3=>?_);refine bG ?_;have I4:Inv X pins σ H3 { s3 with heap:=s3.heap.push { cls:=.type "slice",data:=.fields #[vl,vu,.none] } }:=I3.kept λb ob q=>eM _ q;obtain⟨T,id,hT,ht,hg⟩:=hr pins { s3 with heap:=s3.heap.push { cls:=.type "slice",data:=.fields #[vl,vu,.none] } } σ H3 x v vl vu l u s3.heap.objs.size Q I4 r1 (Heap.IsSliceOf.new ..) pl pu q3;exact tail_any ht hT hg (by with_unfolding_all rfl)
def LZ(xs:List V)(lo hi:Option Int):List V:=(xs.drop (HT.dz xs.length 0 lo)).take (HT.dz xs.length xs.length hi-HT.dz xs.length 0 lo)
def ch'(xs:List V)(lo hi:Option Int):(LZ xs lo hi).length<=xs.length:=by unfold LZ;rw[nV,GW];lia
def ci'(K:aI):V->Option Int->Option Int->Hp->VK->Prop:=λx lo hi H Q=>∃ a xs,x=.ref a/\kQ K H a xs /\
 ¬ (HT.dz xs.length 0 lo=0/\HT.dz xs.length xs.length hi=xs.length)/\∀ p,H p=none->Q (.ref p) (upd H p (.tup (LZ xs lo hi)))
def iy':PK X (ci' X.K):=by
 intro pins s σ H x v vl vu lo hi sl Q I rx hs pl pu h;obtain⟨a,xs,rfl,hx,hw,q⟩:=h;cases rx;obtain⟨its,r,ht,hz⟩:=I.tuple hx;have hlen:its.toArray.size=xs.length:=by rw[jI];exact r.length.symm
 refine⟨"tuple",_,PyProof.Rows.slot_tuple_getitem.lookup,ht.typeIs,?_⟩;refine HT.ip' ht hs pl pu (by rw[hlen];exact hw) ?_ (by rw[hlen];exact hz);rw[hlen];refine⟨.ref s.heap.objs.size,_,I.laid (λb ob q=>eM _ q) (de _) ?_,rfl,q _ (I.bX.fresh (de _))⟩;exact⟨kL (ch' xs lo hi) hz,_,(r.drop (HT.dz xs.length 0 lo)).take (HT.dz xs.length xs.length hi-HT.dz xs.length 0 lo),IsTup.new _ _⟩
def Zh(K:aI):R2:=λx y H Q=>∃ a b xs ys,x=.ref a/\y=.ref b/\kQ K H a xs/\kQ K H b ys/\xs≠[]/\xs.length+ys.length<=bS /\ (ys=[]->Q (.ref a) H)/\(ys≠[]->∀ p,H p=none->Q (.ref p) (upd H p (.tup (xs++ys))))
def Vals.Zi(r:Vals xs us):us=[]↔xs=[]:=by
 cases r with
 |nil=>simp
 |cons _ _=>simp
def iz':eP X (qA .Add) (Zh X.K):=by intro pins s σ H x y v u Q I rx ry h;obtain⟨a,b,xs,ys,rfl,rfl,ha,hb,hx,hz,q1,q2⟩:=h;cases rx;cases ry;obtain⟨its,r1,p1,_⟩:=I.tuple ha;obtain⟨UU,r2,p2,_⟩:=I.tuple hb;refine HT.ii' p1 p2 (λz=>hx (r1.Zi.mp z)) (λz=>⟨.ref a,H,I,rfl,q1 (r2.Zi.mp z)⟩) (λz=>?_) (by rw[<- r1.length,<- r2.length];exact hz);refine⟨.ref s.heap.objs.size,_,I.laid (λb ob q=>eM _ q) (de _) ?_,rfl,q2 (λw=>z (r2.Zi.mpr w)) _ (I.bX.fresh (de _))⟩;exact⟨by rw[mI];exact hz,_,r1.append r2,IsTup.new _ _⟩
end
def qV(n:Nat)(i:Int):Option Nat:=if 0<=i then (if i<n then some i.toNat else none) else if -(n:Int)<=i then some (i+n).toNat else none
def fF{α:Type}(xs:List α)(i:Int):Option α:=(qV xs.length i).bind λj=>xs[j]?
def cj'(h:qV n i=some j):seqIndex? i n=some j/\j<n/\-(n:Int)<=i/\i<n:=by
 unfold qV at h;by_cases h0:0<=i
 ·rw[if_pos h0] at h;by_cases h1:i<n
  ·rw[if_pos h1] at h;have e:i.toNat=j:=Option.some.inj h;exact⟨by rw[seqIndex_of h0 h1,e],by lia,by lia,h1⟩
  ·rw[if_neg h1] at h;cases h
 ·rw[if_neg h0] at h;by_cases h1:-n<=i
  ·rw[if_pos h1] at h;have e:(i+n).toNat=j:=Option.some.inj h;exact⟨by rw[seqIndex_neg (by lia) h1,e],by lia,h1,by lia⟩
  ·rw[if_neg h1] at h;cases h
def Zj{α:Type}{xs:List α}{i:Int}{v:α}(h:fF xs i=some v):∃ j,seqIndex? i xs.length=some j/\xs[j]? = some v/\j<xs.length/\-(xs.length:Int)<=i/\i<xs.length:=by
 unfold fF at h
 cases e:qV xs.length i with
 |none=>rw[e] at h;cases h
 |some j =>rw[e] at h;obtain⟨h1,h2,h3,h4⟩:=cj' e;exact⟨j,h1,h,h2,h3,h4⟩
def vi{α:Type}{xs:List α}{j:Nat}{v:α}(h:xs[j]? = some v):fF xs (j:Int)=some v:=by
 have hj:j<xs.length:=(kM.mp h).1;have e:qV xs.length j=some j:=by unfold qV;rw[if_pos (by lia),if_pos (by lia)];simp
 unfold fF;rw[e];exact h
def ck'{α:Type}(xs:List α)(v:α):fF (xs++[v]) (-1)=some v:=by
 have hl:(xs++[v]).length=xs.length+1:=by simp
 have e:qV (xs++[v]).length (-1)=some xs.length:=by unfold qV;rw[hl,if_neg (by decide),if_pos (by lia)];congr 1;lia
 unfold fF;rw[e];simp
def UW(b:Expr):Prop:=∀ o i,subscripted b false o i=operate [o,i] (getItem o i)
def zi(X:Cx)(r:R2):Prop :=
 ∀ (value slice:Expr) (pins:List (ah × Obj)) (s:ay) (σ:St) (H:Hp) (x y:V) (v u:ag) (Q:VK),Inv X pins σ H s->RelV x v->RelV y u->r x y H Q ->
  subscripted slice false v u=operate [v,u] (getItem v u)->bE (aT X.prog X.w) X.A (subscriptTail value slice v u) (EP X pins σ Q) X.xe s
def Zk(X:Cx)(id:String)(r:V->List V->Hp->VK->Prop):Prop :=
 ∀ (pins:List (ah × Obj)) (s:ay) (σ:St) (H:Hp) (x:V) (xs:List V) (v:ag) (us:List ag) (Q:VK),Inv X pins σ H s->RelV x v->Vals xs us->r x xs H Q ->
  bE (aT X.prog X.w) X.A (call (.builtin id) (v :: us)) (EP X pins σ Q) X.xe s
section
variable {X:Cx}{a b:Expr}{ta tb:TE}{pos:Pos}
def zi.or(h:zi X r)(h':zi X r'):zi X (λx y H Q=>r x y H Q\/r' x y H Q):=by
 intro value slice pins s σ H x y v u Q I rx ry q hs;rcases q with q|q
 ·exact h value slice pins s σ H x y v u Q I rx ry q hs
 ·exact h' value slice pins s σ H x y v u Q I rx ry q hs
def Zm{r:R2}(hr:zi X r)(ha:PE X a ta)(hb:PE X b tb)(hs:UW b):PE X (.Subscript a b pos) (PD r ta tb):=by intro pins s σ H Q I h;exact Subscript_ (W6 ha hb I h λv u s2 x y H2 I2 rx ry q=>hr a b pins s2 σ H2 x y v u Q I2 rx ry q (hs _ _))
def cl'(K:aI):R2:=λx y H Q=>∃ p xs i v,x=.ref p/\y=.int i/\fE K H p xs/\fF xs i=some v/\Q v H
def cm'(K:aI):R2:=λx y H Q=>∃ p xs i v,x=.ref p/\y=.int i/\kQ K H p xs/\fF xs i=some v/\Q v H
def cn':R2:=λx y H Q=>∃ z i c,x=.str z/\y=.int i/\z.length<=bS/\fF z.cps.toList i=some c/\Q (.str ⟨#[c]⟩) H
def iA':zi X (cl' X.K):=by
 intro value slice pins s σ H x y v u Q I rx ry h hs;obtain⟨p,xs,i,z,rfl,rfl,hq,he,q⟩:=h;cases rx;obtain⟨t,rfl⟩:=ry;obtain⟨its,r,pl,hz⟩:=I.list hq;obtain⟨j,h1,h2,h3,h4,h5⟩:=Zj he;obtain⟨w,ew,oB⟩:=r.get h2;have hl:=r.length;have hn:=Zb;have fin:EP X pins σ Q w s:=⟨z,H,I,oB,q⟩
 by_cases h0:0<=i
 ·have hj:i.toNat=j:=by rw[seqIndex_of h0 h5] at h1;exact Option.some.inj h1
  exact item_listR pl.isList h0 (by lia) (by rw[hj];simpa using ew) fin hs
 ·have hj:(i+its.toArray.size).toNat=j:=by rw[seqIndex_neg (by lia) h4] at h1;rw[jI,<- hl];exact Option.some.inj h1
  exact subscriptTail_builtinR pl.isList.typeIs slot_list_getitem.lookup (wpAny_getItem_list_neg pl.isList (by lia) (by rw[jI]<;>lia) (by lia) (by rw[hj];simpa using ew) ⟨rfl,fin⟩) hs
def iB':zi X (cm' X.K):=by
 intro value slice pins s σ H x y v u Q I rx ry h hs;obtain⟨p,xs,i,z,rfl,rfl,hq,he,q⟩:=h;cases rx;obtain⟨t,rfl⟩:=ry;obtain⟨its,r,pl,hz⟩:=I.tuple hq;obtain⟨j,h1,h2,h3,h4,h5⟩:=Zj he;obtain⟨w,ew,oB⟩:=r.get h2;have hl:=r.length;have hn:=Zb;have fin:EP X pins σ Q w s:=⟨z,H,I,oB,q⟩
 exact subscriptTail_builtinR pl.typeIs slot_tuple_getitem.lookup (getItem_tuple pl (by lia) (by lia) (by rw[jI,<- hl];exact h1) (by simpa using ew) ⟨rfl,fin⟩) hs
def iC':zi X cn':=by
 intro value slice pins s σ H x y v u Q I rx ry h hs;obtain⟨z,i,c,rfl,rfl,hz,he,q⟩:=h;obtain⟨t,rfl⟩:=rx;obtain⟨t',rfl⟩:=ry;obtain⟨j,h1,h2,h3,h4,h5⟩:=Zj he;have hl:z.cps.toList.length=z.length:=by simp[Str.length]
 rw[hl] at h1 h4 h5;have hn:=Zb;exact tail_any (typeIs_str s z t) slot_str_getitem.lookup (getItem_str (by
  have e1:decide (i < -(2 ^ 63:Int))=false:=decide_eq_false (by lia);have e2:decide (i >= 2 ^ 63)=false:=decide_eq_false (by lia);rw[e1,e2,Bool.or_false]) (by rw[h1];simpa using h2) ⟨.str ⟨#[c]⟩,H,I.tok _,⟨_,rfl⟩,q⟩) hs
def rIx(K:aI):R2:=λx y H Q=>cl' K x y H Q\/cm' K x y H Q\/cn' x y H Q
def iE':zi X (rIx X.K):=iA'.or (iB'.or iC')
def iF'(lo hi:Option Int)(n:Nat):(JA lo hi none n).1=((HT.dz n 0 lo:Nat):Int)/\(JA lo hi none n).2.1=((HT.dz n n hi:Nat):Int)/\(JA lo hi none n).2.2=1:=by
 refine⟨?_,?_,rfl⟩
 ·cases lo with
  |none=>simp[JA,HT.dz]
  |some i =>
   simp only[JA,HT.dz,Option.getD_none,show 1>0 by decide,if_true];by_cases h:i<0
   ·simp only[h,if_true]<;>lia
   ·simp only[h,if_false]<;>lia
 ·cases hi with
  |none=>simp[JA,HT.dz]
  |some i =>
   simp only[JA,HT.dz,Option.getD_none,show 1>0 by decide,if_true];by_cases h:i<0
   ·simp only[h,if_true]<;>lia
   ·simp only[h,if_false]<;>lia
def iG'(its:List ag)(lo hi:Option Int):slicePick its.toArray lo hi none=((its.drop (HT.dz its.length 0 lo)).take (HT.dz its.length its.length hi-HT.dz its.length 0 lo)).toArray:=by obtain⟨h1,h2,h3⟩:=iF' lo hi its.toArray.size;unfold slicePick;rw[h1,h2,h3];simp only[sliceRange_one,pick_run,jI]<;>rfl
def iH'(K:aI):V->Option Int->Option Int->Hp->VK->Prop:=λx lo hi H Q=>∃ a xs,x=.ref a/\fE K H a xs/\∀ p,H p=none->Q (.ref p) (upd H p (.lst (LZ xs lo hi)))
def iI':PK X (iH' X.K):=by intro pins s σ H x v vl vu lo hi sl Q I rx hs pl pu h;obtain⟨a,xs,rfl,hx,q⟩:=h;cases rx;obtain⟨its,r,ht,hz⟩:=I.list hx;have hlen:=r.length;refine⟨"list",_,slot_list_getitem.lookup,ht.isList.typeIs,?_⟩;refine wpAny_getItem_list_slice ht.isList hs pl pu .none (by simp) ?_ (by rw[jI]<;>lia);rw[iG',<- hlen];refine⟨.ref s.heap.objs.size,_,I.laid (λb ob q=>eM _ q) (de _) ?_,rfl,q _ (I.bX.fresh (de _))⟩;exact⟨kL (ch' xs lo hi) hz,_,0,(r.drop (HT.dz xs.length 0 lo)).take (HT.dz xs.length xs.length hi-HT.dz xs.length 0 lo),i9 _ rfl⟩
def DZ:V->Bool
 |.non=>true
 |.bl _=>true
 |.int _=>true
 |.str _=>true
 |_=>false
def FD:V->V->Bool
 |.non,.non=>true
 |.bl a,.bl b=>a == b
 |.bl a,.int b=>(if a then 1 else 0) == b
 |.int a,.bl b=>a == (if b then 1 else 0)
 |.int a,.int b=>a == b
 |.str a,.str b=>a == b
 |_,_=>false
def iJ'(ry:RelV y u)(rx:RelV x v)(fy:DZ y=true)(fx:DZ x=true):SeqAt.EqAt A s u v (FD y x):=by
 cases y with
 |non =>
  cases ry
  cases x with
  |non=>cases rx;exact SeqAt.EqAt.same _
  |bl b=>cases rx;exact SeqAt.EqAt.none_bool b
  |int b=>obtain⟨t,rfl⟩:=rx;exact SeqAt.EqAt.none_int b t
  |str b=>obtain⟨t,rfl⟩:=rx;exact SeqAt.EqAt.none_str b t
  |_=>exact absurd (fx) nX
 |bl a =>
  cases ry
  cases x with
  |non=>cases rx;exact SeqAt.EqAt.bool_none a
  |bl b=>cases rx;exact SeqAt.EqAt.bool_bool a b
  |int b=>obtain⟨t,rfl⟩:=rx;exact SeqAt.EqAt.bool_int a b t
  |str b=>obtain⟨t,rfl⟩:=rx;exact SeqAt.EqAt.bool_str a b t
  |_=>exact absurd (fx) nX
 |int a =>
  obtain⟨t',rfl⟩:=ry
  cases x with
  |non=>cases rx;exact SeqAt.EqAt.int_none a t'
  |bl b=>cases rx;exact SeqAt.EqAt.int_bool a t' b
  |int b=>obtain⟨t,rfl⟩:=rx;exact SeqAt.EqAt.int_int a t' b t
  |str b=>obtain⟨t,rfl⟩:=rx;exact SeqAt.EqAt.int_str a t' b t
  |_=>exact absurd (fx) nX
 |str a =>
  obtain⟨t',rfl⟩:=ry
  cases x with
  |non=>cases rx;exact SeqAt.EqAt.str_none a t'
  |bl b=>cases rx;exact SeqAt.EqAt.str_bool a t' b
  |int b=>obtain⟨t,rfl⟩:=rx;exact SeqAt.EqAt.str_int a t' b t
  |str b=>obtain⟨t,rfl⟩:=rx;exact SeqAt.EqAt.str_str a t' b t
  |_=>exact absurd (fx) nX
 |_=>exact absurd (fy) nX
def FE(x:V)(u:ag):Bool:=match u with
 |.none=>FD .non x
 |.bool b=>FD (.bl b) x
 |.int i _=>FD (.int i) x
 |.str z _=>FD (.str z) x
 |_=>false
def co'(r:RelV y u)(f:DZ y=true):FE x u=FD y x:=by
 cases y with
 |non=>cases r;rfl
 |bl b=>cases r;rfl
 |int i=>obtain⟨t,rfl⟩:=r;rfl
 |str z=>obtain⟨t,rfl⟩:=r;rfl
 |_=>exact absurd (f) nX
theorem Zn:∀ {xs:List V} {us:List ag},Vals xs us->xs.all DZ=true->us.any (FE x)=xs.any λy=>FD y x
 |_,_,.nil,_=>rfl
 |y :: xs,u :: us,.cons r t,f=>by rw[E4,mS] at f;rw[Dx,Dx,co' r f.1,Zn t f.2]
theorem Zo(rx:RelV x v)(fx:DZ x=true):∀ {xs:List V} {us:List ag},Vals xs us->xs.all DZ=true->∀ u∈us,SeqAt.EqAt A s u v (FE x u)
 |_,_,.nil,_=>λu hu=>by cases hu
 |y :: xs,u :: us,.cons r t,f=>λu' hu=>by
  rw[E4,mS] at f;rcases fm.mp hu with rfl|hu
  ·rw[co' r f.1];exact iJ' r rx f.1 fx
  ·exact Zo rx fx t f.2 u' hu
def UX(x:V)(xs:List V):Bool:=xs.any λy=>FD y x
def UY(K:aI)(neg:Bool):R2:=λx y H Q=>∃ p xs,y=.ref p/\(fE K H p xs\/kQ K H p xs)/\DZ x=true/\xs.all DZ=true/\Q (.bl (if neg then !UX x xs else UX x xs)) H
def iK':eP X (i7 .In) (UY X.K false):=by
 walk_at"e";obtain⟨p,xs,rfl,hq,fx,fs,q⟩:=h;cases ry;rcases hq with hq|hq
 ·obtain⟨its,r,pl,hz⟩:=I.list hq;refine SeqAt.in_listAt (FE x) pl.isList (λw hw=>Zo rx fx r fs w (by simpa using hw)) ⟨.bl _,H,I,rfl,?_⟩;rw[show its.toArray.any (FE x)=its.any (FE x) by simp,Zn r fs];exact q
 ·obtain⟨its,r,pl,hz⟩:=I.tuple hq;refine SeqAt.in_tupleAt (FE x) pl (λw hw=>Zo rx fx r fs w (by simpa using hw)) ⟨.bl _,H,I,rfl,?_⟩;rw[show its.toArray.any (FE x)=its.any (FE x) by simp,Zn r fs];exact q
def lS.or(h:lS X f r)(h':lS X f r'):lS X f (λxs H Q=>r xs H Q\/r' xs H Q):=by
 intro pins s σ H xs us Q I rs q;rcases q with q|q
 ·exact h pins s σ H xs us Q I rs q
 ·exact h' pins s σ H xs us Q I rs q
def iL':lS X (.type "list") (λxs H Q=>∃ p ys,xs=[.ref p]/\(fE X.K H p ys\/kQ X.K H p ys)/\∀ l,H l=none->Q (.ref l) (upd H l (.lst ys))):=by
 walk_at"f";obtain⟨p,ys,rfl,hq,q⟩:=h;obtain⟨u,rfl,rx⟩:=vals1 r;cases rx;have fin:∀ its,Vals ys its->ys.length<=bS->∀ h' c',(∀ b o',s.heap.get? b=some o'->h'.get? b=some o') ->
   h'.get? s.heap.objs.size=some { cls:=.type "list",dict:=none,data:=.seq its.toArray c',slots:=#[] }->EP X pins σ Q (.ref s.heap.objs.size) { s with heap:=h' }:=λits r' hz h' c' kp e =>
  ⟨.ref s.heap.objs.size,_,I.laid kp (de _) (show kP X.prog X.w _ h' _ (.lst ys) from⟨hz,its,c',r',e⟩),rfl,q _ (I.bX.fresh (de _))⟩
 rcases hq with hq|hq
 ·obtain⟨its,r',pl,hz⟩:=I.list hq;have hlen:=r'.length;obtain⟨o,ho,hc,n,hd⟩:=pl.isList;exact call_list_seq p (.inl rfl) ho hc hd (λh' c' kp e=>fin its r' hz h' c' kp e) (by simp only[jI]<;>lia)
 ·obtain⟨its,r',pl,hz⟩:=I.tuple hq;have hlen:=r'.length;obtain⟨o,ho,hc,n,hd⟩:=pl;exact call_list_seq p (.inr rfl) ho hc hd (λh' c' kp e=>fin its r' hz h' c' kp e) (by simp only[jI]<;>lia)
def iM':lS X (.type "tuple") (λxs H Q=>∃ p ys,xs=[.ref p]/\((fE X.K H p ys/\∀ l,H l=none->Q (.ref l) (upd H l (.tup ys)))\/(kQ X.K H p ys/\Q (.ref p) H))):=by
 walk_at"f";obtain⟨p,ys,rfl,h⟩:=h;obtain⟨u,rfl,rx⟩:=vals1 r;cases rx;rcases h with⟨hq,q⟩|⟨hq,q⟩
 ·obtain⟨its,r',pl,hz⟩:=I.list hq;have hlen:=r'.length;refine call_tuple_list pl.isList (λh' kp=>?_) (by simp only[jI]<;>lia);have I1:Inv X pins σ H { s with heap:=h' }:=I.kept kp;have I2:Inv X pins σ (upd H h'.objs.size (.tup ys)) { s with heap:=h'.push { cls:=.type "tuple",data:=.seq its.toArray } } :=
   I1.laid (λb o e=>eM _ e) (de _) (⟨hz,its,r',IsTup.new _ _⟩)
  exact⟨.ref h'.objs.size,_,I2,rfl,q _ (I1.bX.fresh (de _))⟩
 ·obtain⟨its,r',pl,hz⟩:=I.tuple hq;exact call_tuple_same pl ⟨.ref p,H,I,rfl,q⟩
def UZ(K:aI)(T:String)(x:V)(H:Hp):Prop:=match x with
 |.str _=>T = "str"
 |.int _=>T = "int"
 |.ref p=>(T = "list"/\∃ xs,fE K H p xs)\/(T = "tuple"/\∃ o,K.lookup p=some o/\o.cls=.type "tuple"/\o.dict=none) \/
   (T = "dict"/\((∃ ae,H p=some (.dK ae))\/∃ ae,H p=some (.dT ae)))\/(T = "set"/\∃ S n,H p=some (.set S n))
 |_=>False
def cp'{T:String}(I:Inv X pins σ H s)(r:RelV x v)(ty:UZ X.K T x H) :
  s.TypeIs v T/\∀ a,v=.ref a->∃ ob,s.heap.get? a=some ob/\ob.dict=none:=by
 cases x with
 |str z =>obtain⟨t,rfl⟩:=r;cases (ty);exact⟨typeIs_str s z t,λ_ e=>nomatch e⟩
 |int i =>obtain⟨t,rfl⟩:=r;cases (ty);exact⟨typeIs_int s i t,λ_ e=>nomatch e⟩
 |ref p =>
  cases r;rcases ty with⟨rfl,xs,hq⟩|⟨rfl,o,hk,hc,hd⟩|⟨rfl,hk⟩|⟨rfl,S,n,hk⟩
  ·obtain⟨its,_,pl,_⟩:=I.list hq;refine⟨pl.isList.typeIs,λa e=>?_⟩;cases e;obtain⟨o,n,e,c,hd,_⟩:=pl;exact⟨o,e,hd⟩
  ·refine⟨⟨o,I.hX p o hk,hc⟩,λa e=>?_⟩;cases e;exact⟨o,I.hX _ o hk,hd⟩
  ·have z:∃ o,s.heap.get? p=some o/\o.ExactDict:=by
    rcases hk with⟨ae,hk⟩|⟨ae,hk⟩
    ·obtain⟨_,_,_,_,o,_,_,e,ex,_⟩:=I.bX p _ hk;exact⟨o,e,ex⟩
    ·obtain⟨_,_,_,_,o,_,_,e,ex,_⟩:=I.bX p _ hk;exact⟨o,e,ex⟩
   obtain⟨o,e,ex⟩:=z;refine⟨⟨o,e,ex.1⟩,λa e2=>?_⟩;cases e2;exact⟨o,e,ex.2.1⟩
  ·obtain⟨o,_,_,_,e,ex,_⟩:=I.bX p _ hk;refine⟨⟨o,e,ex.1⟩,λa e2=>?_⟩;cases e2;exact⟨o,e,ex.2.1⟩
 |_=>exact False.elim ty
def iN'(K:aI)(T:String)(r:V->List V->Hp->VK->Prop)(to:TE):TE:=λσ H Q=>to σ H λx H1=>UZ K T x H1/\r x [] H1 Q
def tBM(K:aI)(T:String)(r:V->List V->Hp->VK->Prop)(to:TE)(t:TA):TE:=λσ H Q=>to σ H λx H1=>UZ K T x H1/\t σ H1 λxs H2=>r x xs H2 Q
variable {o e:Expr}{es:List Expr}{to:TE}{t:TA}{name:Str}{apos hZ:Pos}{T id:String}{r:V->List V->Hp->VK->Prop}
def iO' (pa:PlainAttrs T) (slot:Slot T name id) (HP:typeOf (.builtin id)=pure (.type "method_descriptor")) (hm:Zk X id r) (ho:PE X o to)(xh:autoParam (yB o name X.env (cp o X.env)=cp o X.env) bv) (hline:autoParam ((apos.endLine == hZ.line)=true) bv):PE X (.Call (.Attribute o name apos) [] [] hZ) (iN' X.K T r to):=by
 walk_at"t";refine wpAny_Call_method0_late xh hline (cy (ho pins s σ H _ I h) λv s1 dS=>?_);obtain⟨x,H1,I1,r1,ty,q1⟩:=dS;obtain⟨h1,h2⟩:=cp' I1 r1 ty;exact⟨T,id,pa,slot,HP,h1,h2,Calls.callWith_builtin rfl (PySem.evalArgs_none (hm pins s1 σ H1 x [] v [] Q I1 r1 .nil q1))⟩
def Sf (pa:PlainAttrs T) (slot:Slot T name id) (HP:typeOf (.builtin id)=pure (.type "method_descriptor")) (hm:Zk X id r) (ho:PE X o to) (ha:PA X (e :: es) t)(xh:autoParam (yB o name X.env (cp o X.env)=cp o X.env) bv) (zk:autoParam (((i3 hZ (bT (e :: es) X.env)).all (λx=>!x.1) && (backToKw hZ (CF [] X.env)).all (λx=>x.1.isSome)
   && decide ((e :: es).length+([]:List xD).length+(if ([]:List xD).isEmpty then 0 else 1)<30))=true) bv)
  (hline:autoParam ((apos.endLine == hZ.line)=true) bv) (hs:autoParam (bT (e :: es) X.env=(false,cp e X.env) :: bT es X.env) bv) (BO:autoParam ((i3 hZ (bT es X.env)).any (·.1)=false) bv) :
  PE X (.Call (.Attribute o name apos) (e :: es) [] hZ) (tBM X.K T r to t):=by
 walk_at"t";refine wpAny_Call_method_late xh zk hline rfl (cy (ho pins s σ H _ I h) λv s1 dS=>?_);obtain⟨x,H1,I1,r1,ty,q1⟩:=dS;obtain⟨h1,h2⟩:=cp' I1 r1 ty;refine⟨T,id,pa,slot,HP,h1,h2,?_⟩;have hA:=ha hZ pins s1 σ H1 _ I1 q1;rw[hs] at hA ⊢;refine Calls.callWith_builtin (by show(false || (i3 hZ (bT es X.env)).any (·.1))=false;rw[BO]<;>rfl) (Calls.evalArgs_plain ?_);exact cy hA λus s2 cq=>L2.eW cq λvs H2 I2 r2 q2=>hm pins s2 σ H2 x vs v us Q I2 r1 r2 q2
end
def MtM(X:Cx)(id:String)(r:V->List V->Hp->VK->Prop):Prop :=
 ∀ (pins:List (ah × Obj)) (s:ay) (σ:St) (H:Hp) (x:V) (xs:List V) (v:ag) (us:List ag) (Q:VK),Inv X pins σ H s->RelV x v->Vals xs us->r x xs H Q ->
  bE (aT X.prog X.w) X.A (call (.builtin id) (v :: us)) (EP X pins σ Q) X.xe s
def Vals.one{x:V}{us:List ag}(h:Vals [x] us):∃ u,us=[u]/\RelV x u:=by cases h;rename_i r h;cases h;exact⟨_,rfl,‹_›⟩
def Vals.two{x y:V}{us:List ag}(h:Vals [x,y] us):∃ u v,us=[u,v]/\RelV x u/\RelV y v:=by cases h;rename_i r h;cases h;rename_i q h;cases h;exact⟨_,_,rfl,‹_›,‹_›⟩
theorem Vals.zero:∀ {us:List ag},Vals [] us->us=[]
 |_,.nil=>rfl
section
variable {X:Cx}{pins:List (ah × Obj)}{σ:St}{H:Hp}{s:ay}{l:ah}{xs ys:List V}
def Inv.U0{its Lv:List ag}{n:Nat}{f:Array ag->Array ag}{t':Nat}(I:Inv X pins σ H s)(hH:H l=some (.lst xs))(e:s.heap.get? l=some { cls:=.type "list",data:=.seq its.toArray n }) (hf:f its.toArray=Lv.toArray) (hv:Vals ys Lv) (hz:ys.length<=bS) :
  Inv X pins σ (upd H l (.lst ys)) { s with heap:=s.heap.update l (Obj.mapSeq f),toks:=t' }:=by
 have q:=PySem.IsL.update e f;rw[hf] at q;refine I.write (by rw[hH];exact trivial) (.inl rfl) (λb' u hb hu=>(DB s.heap (Obj.mapSeq f) (Ne.symm hb)).trans hu) ⟨_,q⟩ ?_;exact⟨hz,Lv,_,hv,q⟩
def Inv.cs'(I:Inv X pins σ H s)(hv:Vals ys its)(hz:ys.length<=bS) :
  Inv X pins σ (upd H s.heap.objs.size (.lst ys)) { s with heap:=s.heap.push { cls:=.type "list",data:=.seq its.toArray },toks:=t' } :=
 I.laid (λ_ _ q=>eM _ q) (de _) ⟨hz,its,0,hv,i9 _ rfl⟩
def Inv.fresh(I:Inv X pins σ H s):H s.heap.objs.size=none:=I.bX.fresh (de _)
def Inv.U4 (I:Inv X pins σ H s) (hH:H l=some (.lst xs)):xs.length<=bS/\∃ (its:List ag) (n:Nat),Vals xs its/\xs.length=its.length/\s.heap.get? l=some { cls:=.type "list",data:=.seq its.toArray n }:=by obtain⟨z,its,n,r,e⟩:=I.bX l _ hH;exact⟨z,its,n,r,r.length,e⟩
end
section
variable {X:Cx}
def Zq:V->List V->Hp->VK->Prop:=λx vs H Q=>∃ l xs y,x=.ref l/\vs=[y]/\H l=some (.lst xs)/\xs.length<bS/\Q .non (upd H l (.lst (xs++[y])))
def Sg:MtM X "list.append" Zq:=by intro pins s σ H x vs v us Q I rx rv h;obtain⟨l,xs,y,rfl,rfl,hH,hz,q⟩:=h;cases rx;obtain⟨u,rfl,ru⟩:=rv.one;obtain⟨z,its,n,r,hl,e⟩:=I.U4 hH;refine call_meets F.slot_list_append ⟨_,e,rfl⟩ F.entry_list_append (F.args_list_append_2 _ _) (PySem.list_append l its.toArray n u (by rw[jI];lia)) ⟨e,?_⟩;refine⟨.non,_,I.U0 hH e (by simp) (r.append (.cons ru .nil)) ?_,rfl,q⟩;rw[mI,Kj];lia
def iP':V->List V->Hp->VK->Prop:=λx vs H Q=>∃ l xs,x=.ref l/\vs=[]/\H l=some (.lst xs)/\Q .non (upd H l (.lst []))
def iQ':MtM X "list.clear" iP':=by intro pins s σ H x vs v us Q I rx rv h;obtain⟨l,xs,rfl,rfl,hH,q⟩:=h;cases rx;have hus:=rv.zero;subst hus;obtain⟨z,its,n,r,hl,e⟩:=I.U4 hH;refine call_meets F.slot_list_clear ⟨_,e,rfl⟩ F.entry_list_clear (F.args_list_clear_1 _) (AutoSeq1.list_clear_list_0 l its.toArray n (by rw[jI];lia)) ⟨e,?_⟩;exact⟨.non,_,I.U0 hH e rfl .nil (fR _),rfl,q⟩
def len_rep{α:Type}(xs:List α)(k:Nat):(List.replicate k xs).flatten.length=k*xs.length:=by
 induction k with
 |zero=>simp
 |succ k ih=>rw[Wq,List.flatten_cons,mI,ih,Nat.succ_mul,RK]
end
section
set_option maxRecDepth 100000 in
end
section
variable {κ:Type}[DecidableEq κ]
def gL(ae:List (κ × V))(k:κ):Option V:=(ae.find? λkv=>decide (kv.1=k)).map (·.2)
def putK(ae:List (κ × V))(k:κ)(v:V):List (κ × V) :=
 if (ae.any λkv=>decide (kv.1=k))=true then ae.map (λkv=>if kv.1=k then (kv.1,v) else kv) else ae++[(k,v)]
def zo{p:κ × V}{r:List (κ × V)}{k:κ}(e:p.1=k):gL (p :: r) k=some p.2:=by simp[gL,E3,e]
def zt{p:κ × V}{r:List (κ × V)}{k:κ}(e:¬ p.1=k):gL (p :: r) k=gL r k:=by simp[gL,E3,e]
theorem Si(k:κ):∀ ae:List (κ × V),(ae.any λkv=>decide (kv.1=k))=(gL ae k).isSome
 |[]=>rfl
 |p :: r=>by
  rw[Dx];by_cases e:p.1=k
  ·simp only[zo e,decide_eq_true e,Bool.true_or,Option.isSome_some]
  ·rw[zt e,decide_eq_false e,Bool.false_or];exact Si k r
theorem ct'(k j:κ)(y:V):∀ ae:List (κ × V),gL (ae.map λkv=>if kv.1=k then (kv.1,y) else kv) j=(gL ae j).map λx=>if j=k then y else x
 |[]=>rfl
 |p :: r=>by
  have ih:=ct' k j y r;rw[jS];by_cases h:p.1=k
  ·rw[if_pos h];by_cases e:p.1=j
   ·rw[zo (p:=(p.1,y)) e,zo e,RT,if_pos (e.symm.trans h)]
   ·rw[zt (p:=(p.1,y)) e,zt e,ih]
  ·rw[if_neg h];by_cases e:p.1=j
   ·rw[zo e,zo e,RT,if_neg (λz=>h (e.trans z))]
   ·rw[zt e,zt e,ih]
theorem cu'(k j:κ)(y:V):∀ ae:List (κ × V),gL ae k=none->gL (ae++[(k,y)]) j=if j=k then some y else gL ae j
 |[],_=>by
  by_cases e:k=j
  ·rw[if_pos e.symm];exact zo e
  ·rw[if_neg (λz=>e z.symm)];exact zt e
 |p :: r,hn=>by
  rw[Wx];have hk:¬ p.1=k:=λz=>by rw[zo z] at hn;cases hn
  rw[zt hk] at hn;have ih:=cu' k j y r hn;by_cases e:p.1=j
  ·rw[zo e,zo e,if_neg (λz=>hk (e.trans z))]
  ·rw[zt e,zt e,ih]
def iS'(ae:List (κ × V))(k j:κ)(y:V):gL (putK ae k y) j=if j=k then some y else gL ae j:=by
 unfold putK;by_cases a:(ae.any λkv=>decide (kv.1=k))=true
 ·rw[if_pos a,ct'];rw[Si] at a;by_cases e:j=k
  ·obtain⟨x,hx⟩:=Ut.mp a;rw[if_pos e,e,hx,RT,if_pos rfl]
  ·rw[if_neg e]
   cases gL ae j with
   |none=>rfl
   |some x=>rw[RT,if_neg e]
 ·rw[if_neg a];refine cu' k j y ae ?_;rw[Si] at a
  cases q:gL ae k with
  |none=>rfl
  |some x=>rw[q] at a;exact(a rfl).elim
def U5(ae:List (κ × V))(k:κ)(v:V):(putK ae k v).length<=ae.length+1:=by
 unfold putK;split
 ·rw[dc];exact Nat.le_add_right _ _
 ·rw[mI,oi,RB];exact de _
def pS.Sj(r:pS o u):o.isSome=u.isSome:=by
 cases o with
 |none=>cases u with
  |none=>rfl
  |some _=>exact(r).elim
 |some _=>cases u with
  |none=>exact(r).elim
  |some _=>rfl
def pS.getD(r:pS o u)(rd:RelV d d'):RelV (o.getD d) (u.getD d'):=by
 cases o with
 |none=>cases u with
  |none=>exact rd
  |some _=>exact(r).elim
 |some _=>cases u with
  |none=>exact(r).elim
  |some _=>exact r
def KV.val{ae:List (κ × V)}{vs:List (κ × ag)}(r:KV ae vs)(k:κ):pS (gL ae k) (valueAt vs k):=by
 induction r with
 |nil=>exact True.intro
 |@cons p q ps qs h t ih =>
  obtain⟨h1,h2⟩:=h;by_cases e:p.1=k
  ·have e':q.1=k:=h1.symm.trans e;have b:valueAt (q :: qs) k=some q.2:=by simp[valueAt,E3,e']
   rw[zo e,b];exact h2
  ·have e':¬ q.1=k:=λz=>e (h1.trans z);have b:valueAt (q :: qs) k=valueAt qs k:=by simp[valueAt,E3,e']
   rw[zt e,b];exact ih
def KV.any(r:KV ae vs)(k:κ):(ae.any λkv=>decide (kv.1=k))=vs.any λkv=>decide (kv.1=k):=by
 induction r with
 |nil=>rfl
 |cons h t ih=>rw[Dx,Dx,ih,h.1]
def KV.repl(r:KV ae vs)(k:κ)(ry:RelV y u) :
  KV (ae.map λkv=>if kv.1=k then (kv.1,y) else kv) (vs.map λkv=>if kv.1=k then (kv.1,u) else kv):=by
 induction r with
 |nil=>exact .nil
 |@cons p q ps qs h t ih =>
  rw[jS,jS];refine .cons ?_ ih;obtain⟨h1,h2⟩:=h;by_cases e:p.1=k
  ·rw[if_pos e,if_pos (h1.symm.trans e)];exact⟨h1,ry⟩
  ·rw[if_neg e,if_neg (λz=>e (h1.trans z))];exact⟨h1,h2⟩
def KV.put(r:KV ae vs)(k:κ)(ry:RelV y u):KV (putK ae k y) (stored vs k u):=by
 unfold putK stored;rw[r.any k];by_cases e:(vs.any λkv=>decide (kv.1=k))=true
 ·rw[if_pos e,if_pos e];exact r.repl k ry
 ·rw[if_neg e,if_neg e];exact Paired.snoc r ⟨rfl,ry⟩
def KV.length(r:KV ae vs):ae.length=vs.length:=Paired.length r
end
def L4{P:cv}(r:RelV (kV k) u):(iN P w).is k u=true:=by
 cases k with
 |inl i=>obtain⟨t,e⟩:=(r);subst e;exact fB' P w i t
 |inr x=>obtain⟨t,e⟩:=(r);subst e;exact Uw P w x t
theorem Zr{P:cv}:∀ {ks:List Key} {us:List ag},Vals (ks.map kV) us->ItemsAre (iN P w) ks us
 |[],_,r=>by rw[List.map_nil] at r;cases r;exact .nil
 |k :: ks,_,r=>by
  cases r with
  |cons h t=>exact .cons (L4 h) (Zr t)
abbrev KT(H:Hp):List (List Key × V)->List (List Key × ah × ag)->Prop:=Paired λp q=>p.1=q.1/\H q.2.1=some (.tup (p.1.map kV))/\RelV p.2 q.2.2
def KT.val{H:Hp}{ae:List (List Key × V)}{xs:List (List Key × ah × ag)}(r:KT H ae xs)(k:List Key):pS (gL ae k) ((atKey xs k).map (·.2)):=by
 induction r with
 |nil=>exact True.intro
 |@cons p q ps qs h t ih =>
  obtain⟨h1,_,h2⟩:=h;by_cases e:p.1=k
  ·have e':q.1=k:=h1.symm.trans e;have b:atKey (q :: qs) k=some q.2:=by simp[atKey,E3,e']
   rw[zo e,b];exact h2
  ·have e':¬ q.1=k:=λz=>e (h1.trans z);have b:atKey (q :: qs) k=atKey qs k:=by simp[atKey,E3,e']
   rw[zt e,b];exact ih
def KT.repl(r:KT H ae xs)(k:List Key)(ry:RelV y u) :
  KT H (ae.map λkv=>if kv.1=k then (kv.1,y) else kv) (xs.map (putAt k u)):=by
 induction r with
 |nil=>exact .nil
 |@cons p q ps qs h t ih =>
  rw[jS,jS];refine .cons ?_ ih;obtain⟨h1,h2,h3⟩:=h;unfold putAt;by_cases e:p.1=k
  ·rw[if_pos e,if_pos (h1.symm.trans e)];exact⟨h1,h2,ry⟩
  ·rw[if_neg e,if_neg (λz=>e (h1.trans z))];exact⟨h1,h2,h3⟩
def KT.put(r:KT H ae xs)(k:List Key)(hb:H b=some (.tup (k.map kV)))(ry:RelV y u) :
  KT H (putK ae k y) (storedH xs k b u):=by
 have e:(ae.any λkv=>decide (kv.1=k))=(atKey xs k).isSome:=by rw[Si,(r.val k).Sj,Uv]
 unfold putK storedH;rw[e];by_cases q:(atKey xs k).isSome=true
 ·rw[if_pos q,if_pos q];exact r.repl k ry
 ·rw[if_neg q,if_neg q];exact Paired.snoc r ⟨rfl,hb,ry⟩
def KT.keeps(r:KT H ae xs)(ht:∀ b ys,H b=some (.tup ys)->H' b=some (.tup ys)):KT H' ae xs :=
 Paired.Uy r λ_ _ z=>⟨z.1,ht _ _ z.2.1,z.2.2⟩
section
variable {P:cv}{w:cK}{H:Hp}{h:dr}{a:ah}
def L5(ok:iA P w H h)(e:Rd H a u):kP P w H h a u:=e.ok ok
def L6(ok:iA P w H h)(e:Rd H a (.dK ae)):ae.length<=bS/\(a == qq)=false/\∃ vs,KV ae vs/\h.DictOf (iN P w) a vs :=
 show kP P w H h a (.dK ae) from L5 ok e
def cv'(ok:iA P w H h)(e:H a=some (.dK ae)):ae.length<=bS/\(a == qq)=false/\∃ vs,KV ae vs/\h.DictOf (iN P w) a vs:=L6 ok (.inl e)
def L7(ok:iA P w H h)(e:H a=some (.tup (ks.map kV))):(ER (iN P w)).is h ks a:=by
 obtain⟨_,its,r,o,h1,h2,n,h3⟩:=(ok a _ e)
 exact⟨o,its.toArray,n,h1,h2,h3,by simpa using Zr r⟩
def PR(ok:iA P w H h)(e:Rd H a (.dT ae)):ae.length<=bS/\(a == qq)=false /\
  ∃ xs,KT H ae xs/\h.DictOfH (ER (iN P w)) a xs:=by
 obtain⟨z,y,xs,r,o,es,ep,h1,h2,h3,h4,h5⟩:=(L5 ok e)
 refine⟨z,y,xs,r,o,es,ep,h1,h2,h3,h4,λx hx=>?_,h5⟩;have all:∀ {l:List (List Key × V)} {m:List (List Key × ah × ag)},KT H l m->∀ x∈m,(ER (iN P w)).is h x.1 x.2.1:=by
  intro l m q
  induction q with
  |nil=>intro x hx;exact nomatch hx
  |@cons p q ps qs hq t ih =>
   intro x hx;rcases fm.mp hx with e|hx
   ·subst e;exact L7 ok (by rw[<- hq.1];exact hq.2.1)
   ·exact ih x hx
 exact all r x hx
def cw'(ok:iA P w H h)(e:H a=some (.dT ae)):ae.length<=bS/\(a == qq)=false /\
  ∃ xs,KT H ae xs/\h.DictOfH (ER (iN P w)) a xs:=PR ok (.inl e)
end
def sA(H:Hp)(a:ah)(y:V)(r:Option V):Prop :=
 (∃ ae k,Rd H a (.dK ae)/\y=kV k/\r=gL ae k)\/∃ ae k b,Rd H a (.dT ae)/\y=.ref b/\H b=some (.tup (k.map kV))/\r=gL ae k
def HV(H:Hp)(a:ah)(y v:V)(H':Hp):Prop :=
 (∃ ae k,H a=some (.dK ae)/\y=kV k/\ae.length<bS/\H'=upd H a (.dK (putK ae k v))) \/
 ∃ ae k b,H a=some (.dT ae)/\y=.ref b/\H b=some (.tup (k.map kV))/\ae.length<bS/\H'=upd H a (.dT (putK ae k v))
def HV.k{H:Hp}{a:ah}{ae:List (Key × V)}{k:Key}{v:V}(e:H a=some (.dK ae))(hl:ae.length<bS):HV H a (kV k) v (upd H a (.dK (putK ae k v))):=.inl ⟨ae,k,e,rfl,hl,rfl⟩
def HV.t{H:Hp}{a b:ah}{ae:List (List Key × V)}{k:List Key}{v:V}(e:H a=some (.dT ae))(eb:H b=some (.tup (k.map kV)))(hl:ae.length<bS) :
  HV H a (.ref b) v (upd H a (.dT (putK ae k v))):=.inr ⟨ae,k,b,e,rfl,eb,hl,rfl⟩
section
variable {X:Cx}{pins:List (ah × Obj)}{σ:St}{H:Hp}{s:ay}{a:ah}{y v:V}{u r:ag}{o:Option V}{A:eB}{E:ag->ay->Prop}
def Inv.big(I:Inv X pins σ H s):qq<s.heap.objs.size:=by have h:gS<s.heap.objs.size:=(I.mod.glob.keeps I.bk).lt;exact WD (by decide) h
def iT'(hu:A.units+1<gv)(I:Inv X pins σ H s)(g:sA H a y (some v))(ry:RelV y u)(h:∀ w' s',Inv X pins σ H s'->RelV v w'->Q w' s') :
  bE (aT X.prog X.w) A (getItem (.ref a) u) Q E s:=by
 rcases g with⟨ae,k,e,ey,l⟩|⟨ae,k,b,e,ey,eb,l⟩
 ·subst ey;obtain⟨z,hd,vs,rel,dd⟩:=L6 I.bX e;obtain⟨w',hw,oB⟩:=pS.some_of (by rw[l];exact rel.val k);exact wpAny_getItem_of (L4 ry) dd.mapOf hw (h w' _ (I.tok _) oB)
 ·subst ey;cases (ry);obtain⟨z,hd,xs,rel,dd⟩:=PR I.bX e;obtain⟨w',hw,oB⟩:=pS.some_of (by rw[l];exact rel.val k);obtain⟨p,hp,hp2⟩:=Uu.mp hw;refine wpAny_getItem_heap (Ri hu) (L7 I.bX eb) dd hp ?_;rw[hp2];exact h w' _ (I.tok _) oB
def iV'(hu:A.units+1<gv)(I:Inv X pins σ H s)(g:sA H a y o)(ry:RelV y u)(h:∀ s',Inv X pins σ H s'->Q (.bool o.isSome) s') :
  bE (aT X.prog X.w) A (i7 .In u (.ref a)) Q E s:=by
 rcases g with⟨ae,k,e,ey,l⟩|⟨ae,k,b,e,ey,eb,l⟩
 ·subst ey;obtain⟨z,hd,vs,rel,dd⟩:=L6 I.bX e;refine wpAny_in_of (L4 ry) hd dd.mapOf ?_;rw[<- (rel.val k).Sj,<- l];exact h _ (I.tok _)
 ·subst ey;cases (ry);obtain⟨z,hd,xs,rel,dd⟩:=PR I.bX e;refine wpAny_in_heap (Ri hu) (L7 I.bX eb) hd dd ?_;have q:=(rel.val k).Sj;rw[Uv] at q;rw[<- q,<- l];exact h _ (I.tok _)
def Sn(I:Inv X pins σ H s)(mu:RX (H a))(hs:Heap.SameBut a s.heap h')(he:∃ q,h'.get? a=some q)(new:kP X.prog X.w (upd H a ob) h' a ob) :
  Inv X pins σ (upd H a ob) { s with heap:=h',toks:=t' } :=
 I.write mu (.inl rfl) (λb q hb z=>(hs.2 b hb).trans z) he new
def cx'{P:cv}(z:ae.length<=bS)(hd:(a == qq)=false)(rel:KV ae vs)(dd:h'.DictOf (iN P w) a vs) :
  kP P w H' h' a (.dK ae):=⟨z,hd,vs,rel,dd⟩
def iW'(hu:A.units+1<gv)(I:Inv X pins σ H s)(g:HV H a y v H')(ry:RelV y u)(rv:RelV v r)(h:∀ s',Inv X pins σ H' s'->Q () s') :
  bE (aT X.prog X.w) A (setItem (.ref a) u r) Q E s:=by
 rcases g with⟨ae,k,e,ey,l,eH⟩|⟨ae,k,b,e,ey,eb,l,eH⟩
 ·subst ey eH;obtain⟨z,hd,vs,rel,dd⟩:=cv' I.bX e;have hz:vs.length<=bS:=by rw[<- rel.length];exact z
  have hl:(putK ae k v).length<=bS:=by have:=U5 ae k v;lia
  refine wpAny_setItem_pairs (L4 ry) dd λh' BQ hs=>h _ ?_;have he:∃ q,h'.get? a=some q:=let ⟨q,_,_,hq,_⟩:=BQ;⟨q,hq⟩
  exact Sn I (by rw[e];exact True.intro) hs he (cx' hl hd (rel.put k rv) BQ)
 ·subst ey eH;cases (ry);obtain⟨z,hd,xs,rel,dd⟩:=cw' I.bX e;have hz:xs.length<=bS:=by rw[<- Paired.length rel];exact z
  have hl:(putK ae k v).length<=bS:=by have:=U5 ae k v;lia
  refine wpAny_setItem_heap (Ri hu) (L7 I.bX eb) dd λh' BQ hs=>h _ ?_;obtain⟨q,es,ep,hq,h2,h3,h4,_,h5⟩:=BQ;refine Sn I (by rw[e];exact True.intro) hs ⟨q,hq⟩ ⟨hl,hd,_,(rel.put k eb rv).keeps λc ys ec=>?_,q,es,ep,hq,h2,h3,h4,h5⟩;rw[dP (bi' ec e (λz=>nomatch z))];exact ec
end
section
variable {X:Cx}{pins:List (ah × Obj)}{σ:St}{H:Hp}{s:ay}{a:ah}{ae:List (Key × V)}{A:eB}{E:ag->ay->Prop}
def iX' (I:Inv X pins σ H s) (e:Rd H a (.dK ae)) (h:∀ t s',Inv X pins σ H s'->Q (.int ae.length t) s'):bE (aT X.prog X.w) A (call (.builtin "len") [.ref a]) Q E s:=by obtain⟨z,hd,vs,rel,dd⟩:=L6 I.bX e;refine call_len_dict hd dd (by rw[<- rel.length];rw[kB] at z;lia) ?_;rw[<- rel.length];exact h _ _ (I.tok _)
end
def U6(i:Expr):Prop:=∀ ov iv,subscripted i false ov iv=operate [ov,iv] (getItem ov iv)
def cy'{T id:String}(hl:typeLookup (.type T) "__getitem__" = pure (some (.builtin id))) (hs:U6 slice)(h:bE (aT prog w) A (cp value env) (λo fz=>bE (aT prog w) A (cp slice env) (λi ya=>ya.TypeIs o T/\bE (aT prog w) A (getItem o i) Q E ya) E fz) E s) :
  bE (aT prog w) A (cp (.Subscript value slice pos) env) Q E s:=by
 refine Subscript_ (se h (λo fz L8=>se L8 (λi ya Sq=>?_) λ_ _ x=>x) λ_ _ x=>x);obtain⟨hT,Sq⟩:=Sq;refine ax ?_;refine ax (wpAny_specialOf hT hl ?_);have fin:bE (aT prog w) A (subscripted slice false o i) (λr mr=>bE (aT prog w) A (letTemporaryGo value o r >>= λ_=>pure r) Q E mr) E ya:=by rw[hs o i];exact wpAny_operating (se Sq (λr mr U7=>ax (wpAny_letTemporaryGo (bG U7))) λ_ _ x=>x)
 first
  |exact bG (ax fin)
  |exact ax (bG (ax fin))
  |exact ax fin
def iY' {X:Cx} (I:Inv X pins σ H s) (g:sA H a y o):s.TypeIs (.ref a) "dict" := by
 rcases g with⟨ae,k,e,_,_⟩|⟨ae,k,b,e,_,_,_⟩
 ·obtain⟨_,_,vs,_,dd⟩:=L6 I.bX e;exact dd.typeIs
 ·obtain⟨_,_,xs,_,dd⟩:=PR I.bX e;exact dd.typeIs
def iZ'(td ty tv:TE):TS:=λD σ H=>tv σ H λv H1=>td σ H1 λx H2=>ty σ H2 λy H3=>∃ a H4,x=.ref a/\HV H3 a y v H4/\D.nx σ H4
section
variable {X:Cx}{o i value:Expr}{pos pos':Pos}{td ty tv:TE}
def ja'(hu:X.A.units+1<gv)(ho:PE X o td)(hi:PE X i ty)(hv:PE X value tv)(hs:og value (some (.Subscript o i pos')) pos.line X.env=pure false) :
  PS X (.Assign [.Subscript o i pos'] value pos) (iZ' td ty tv):=by
 intro pins s σ H D I h;walk_at"b";obtain⟨y,H3,I3,ry,a,H4,ex,g,q3⟩:=dS;subst ex;obtain rfl:u=Value.ref a:=rx;exact iW' hu I3 g ry rv λs4 I4=>⟨σ,H4,I4,q3⟩
end
def cz' {P:cv} (h:dr) (hb:qq<h.objs.size):kP P w H (h.push { cls:=.type "dict",data:=.dict #[] }) h.objs.size (.dK []) :=
 ⟨fR _,beq_eq_false_iff_ne.mpr (Ne.symm (gu hb)),[],.nil,Heap.DictOf.new h⟩
def jb' {P:cv} (h:dr) (hb:qq<h.objs.size):kP P w H (h.push { cls:=.type "dict",data:=.dict #[] }) h.objs.size (.dT []) :=
 ⟨fR _,beq_eq_false_iff_ne.mpr (Ne.symm (gu hb)),[],.nil,_,#[],0,i9 _ rfl,⟨rfl,rfl,rfl⟩,rfl,rfl,nv⟩
def jc':TE:=λ_ H Q=>∀ p,H p=none->Q (.ref p) (upd H p (.dK []))
def jd':TE:=λ_ H Q=>∀ p,H p=none->Q (.ref p) (upd H p (.dT []))
section
variable {X:Cx}{pos:Pos}
def je':PE X (.Dict [] [] pos) jc':=λpins s σ H Q I h =>
 wpAny_Dict_empty ⟨.ref s.heap.objs.size,_,I.laid (λ_ _ q=>eM _ q) (de _) (cz' s.heap I.big),rfl,h _ (I.bX.fresh (de _))⟩
def jf':PE X (.Dict [] [] pos) jd':=λpins s σ H Q I h =>
 wpAny_Dict_empty ⟨.ref s.heap.objs.size,_,I.laid (λ_ _ q=>eM _ q) (de _) (jb' s.heap I.big),rfl,h _ (I.bX.fresh (de _))⟩
end
def Zt:List (TE × TE)->St->Hp->(List (V × V)->Hp->Prop)->Prop
 |[],_,H,Q=>Q [] H
 | (tk,tv) :: r,σ,H,Q=>tk σ H λx H1=>tv σ H1 λy H2=>Zt r σ H2 λps H3=>Q ((x,y) :: ps) H3
abbrev VV:List (V × V)->List (ag × ag)->Prop:=Paired λp q=>RelV p.1 q.1/\RelV p.2 q.2
def U8(X:Cx)(pos:Pos)(keys:List (Option Expr))(values:List Expr)(L9:List (TE × TE)):Prop :=
 ∀ (pins:List (ah × Obj)) (s:ay) (σ:St) (H:Hp) (Q:List (V × V)->Hp->Prop),Inv X pins σ H s->Zt L9 σ H Q ->
  bE (aT X.prog X.w) X.A (evalPairs (pairTrees keys values X.env pos)) (λvs s'=>∃ ps H',Inv X pins σ H' s'/\VV ps vs/\Q ps H') X.xe s
def jg'{X:Cx}:U8 X pos [] [] []:=λpins s σ H Q I h=>pairTrees_nil_walk ⟨[],H,I,.nil,h⟩
def jh'{X:Cx}(hk:PE X k tk)(hv:PE X v tv)(hr:U8 X pos ks vs L9) :
  U8 X pos (some k :: ks) (v :: vs) ((tk,tv) :: L9):=λpins s σ H Q I h =>
 pairTrees_cons_walk (cy (hk pins s σ H _ I h) λu s1 cq=>L2.eW cq λx H1 I1 rx q1=>cy (hv pins s1 σ H1 _ I1 q1) λw2 s2 cq=>L2.eW cq λy H2 I2 ry q2 =>
  cy (hr pins s2 σ H2 _ I2 q2) λws s3 cq=>L2.eW cq λps H3 I3 rel q3=>⟨(x,y) :: ps,H3,I3,.cons ⟨rx,ry⟩ rel,q3⟩)
def Sr(ae more:List (Key × V)):List (Key × V):=more.foldl (λacc kv=>putK acc kv.1 kv.2) ae
def KV.merge:∀ {more:List (Key × V)} {rs:List (Key × ag)} {ae:List (Key × V)} {vs:List (Key × ag)},KV more rs->KV ae vs->KV (Sr ae more) (merged vs rs):=by
 intro more rs ae vs r
 induction r generalizing ae vs with
 |nil=>intro q;exact q
 |@cons p q ps qs h t ih =>
  intro r0;have e:KV (putK ae p.1 p.2) (stored vs q.1 q.2):=by have:=r0.put p.1 h.2;rw[<- h.1];exact this
  exact ih e
theorem cA':∀ (more ae:List (Key × V)),(Sr ae more).length<=ae.length+more.length
 |[],ae=>by show ae.length<=ae.length+0;lia
 |p :: r,ae=>by have h1:=cA' r (putK ae p.1 p.2);have h2:=U5 ae p.1 p.2;show(Sr (putK ae p.1 p.2) r).length<=_;rw[oi];lia
theorem cB'{P:cv}:∀ {ae:List (Key × V)} {ws:List (ag × ag)},VV (ae.map λkv=>(kV kv.1,kv.2)) ws->∃ rs,Carries (iN P w) ws rs/\KV ae rs
 |[],_,r=>by rw[List.map_nil] at r;cases r;exact⟨[],True.intro,.nil⟩
 |p :: ae,_,r=>by
  cases r with
  |@cons a b as bs h t =>obtain⟨rs,c,q⟩:=cB' t;obtain⟨b1,b2⟩:=b;exact⟨(p.1,b2) :: rs,⟨L4 h.1,rfl,c⟩,.cons ⟨rfl,h.2⟩ q⟩
def ji'(L9:List (TE × TE)):TE:=λσ H Q=>∀ p,H p=none->Zt L9 σ (upd H p (.dK [])) λps H2=>H2 p=some (.dK [])/\∃ ae:List (Key × V),ps=ae.map (λkv=>(kV kv.1,kv.2))/\ae.length<=15/\Q (.ref p) (upd H2 p (.dK (Sr [] ae)))
def jj'{X:Cx}(h:U8 X pos keys values L9)(rg:keys.all (·.isSome)=true)(hl:keys.length=values.length)(h0:keys≠[])(h15:keys.length<=15):PE X (.Dict keys values pos) (ji' L9):=by
 intro pins s σ H Q I q;have hn:=I.bX.fresh (de s.heap.objs.size);have I1:=I.laid (t':=s.toks) (λ_ _ q=>eM _ q) (de _) (cz' s.heap I.big);refine wpAny_Dict_walk (knd:=iN X.prog X.w) rg hl h0 h15 (cy (h pins _ σ _ _ I1 (q _ hn)) λws s2 dS=>?_);obtain⟨ps,H2,I2,rel,e,ae,ep,lk,q2⟩:=dS;subst ep;obtain⟨rs,c,rk⟩:=cB' (P:=X.prog) (w:=X.w) rel;obtain⟨z,hd,vs0,r0,dd⟩:=cv' I2.bX e;cases r0;refine⟨rs,c,dd,λh' BQ hs=>⟨.ref s.heap.objs.size,_,?_,rfl,q2⟩⟩;have hz:(Sr [] ae).length<=bS:=by have h1:=cA' ae [];rw[RB] at h1;rw[kB];lia
 have he:∃ q,h'.get? s.heap.objs.size=some q:=let ⟨q,_,_,hq,_⟩:=BQ;⟨q,hq⟩
 exact Sn I2 (by rw[e];exact True.intro) hs he (cx' hz hd (rk.merge .nil) BQ)
structure M2(X:Cx)(o:Expr)(m:Str)(apos:Pos)(e f:Expr)(hZ:Pos):Prop where
 base:yB o m X.env (cp o X.env)=cp o X.env
 few:((i3 hZ (bT [e,f] X.env)).all (fun x=>!x.1) && (backToKw hZ (CF [] X.env)).all (fun x=>x.1.isSome)
  && decide (([e,f]:List Expr).length+([]:List xD).length+(if ([]:List xD).isEmpty then 0 else 1)<30))=true
 line:(apos.endLine == hZ.line)=true
 trees:i3 hZ (bT [e,f] X.env)=[(false,cp e X.env),(false,cp f X.env)]
def U9(H:Hp)(a:ah):Prop:=(∃ ae,Rd H a (.dK ae))\/∃ ae,Rd H a (.dT ae)
def cC'{X:Cx}(I:Inv X pins σ H s)(d:U9 H a) :
  s.TypeIs (.ref a) "dict"/\(∀ b,Value.ref a=.ref b->∃ ob,s.heap.get? b=some ob/\ob.dict=none)/\(a == qq)=false:=by
 rcases d with⟨ae,e⟩|⟨ae,e⟩
 ·obtain⟨_,hd,vs,_,dd⟩:=L6 I.bX e;refine⟨dd.typeIs,λb q=>?_,hd⟩;cases q;obtain⟨ob,_,_,h1,h2,_⟩:=dd;exact⟨ob,h1,h2.2.1⟩
 ·obtain⟨_,hd,xs,_,dd⟩:=PR I.bX e;refine⟨dd.typeIs,λb q=>?_,hd⟩;cases q;obtain⟨ob,_,_,h1,h2,_⟩:=dd;exact⟨ob,h1,h2.2.1⟩
section
variable {X:Cx}{pins:List (ah × Obj)}{σ:St}{H:Hp}{s:ay}{a:ah}{y d:V}{u r:ag}{o:Option V}{A:eB}{E:ag->ay->Prop}
def jl'(hu:A.units+1<gv)(I:Inv X pins σ H s)(g:sA H a y o)(ry:RelV y u)(rd:RelV d r)(h:∀ w' s',Inv X pins σ H s'->RelV (o.getD d) w'->Q w' s') :
  bE (aT X.prog X.w) A (call (.builtin "dict.get") [.ref a,u,r]) Q E s:=by
 rcases g with⟨ae,k,e,ey,l⟩|⟨ae,k,b,e,ey,eb,l⟩
 ·subst ey;obtain⟨z,hd,vs,rel,dd⟩:=L6 I.bX e;refine call_meetsIn PySem.F.slot_dict_get dd.typeIs PySem.F.entry_dict_get (PySem.F.args_dict_get_3 _ _ _) (meets_dict_get_default (iN X.prog X.w) a (L4 ry) hd r) ⟨_,dd.mapOf,h _ _ (I.tok _) ?_⟩;rw[l];exact(rel.val k).getD rd
 ·subst ey;cases (ry);obtain⟨z,hd,xs,rel,dd⟩:=PR I.bX e;refine call_meetsIn PySem.F.slot_dict_get dd.typeIs PySem.F.entry_dict_get (PySem.F.args_dict_get_3 _ _ _) (meetsH_dict_get_default (ER (iN X.prog X.w)) a b hd r) ⟨Ri hu,k,xs,L7 I.bX eb,dd,h _ _ (I.tok _) ?_⟩;rw[l];exact(rel.val k).getD rd
end
def cD'(td ty tx:TE):TE:=λσ H Q=>td σ H λx H1=>∃ a,x=.ref a/\U9 H1 a/\ty σ H1 λy H2=>tx σ H2 λz H3=>∃ o,sA H3 a y o/\Q (o.getD z) H3
section
variable {X:Cx}{o e f:Expr}{apos hZ:Pos}{td ty tx:TE}
def jm' (hu:X.A.units+1<gv) (ho:PE X o td) (he:PE X e ty) (hf:PE X f tx) (m:M2 X o "get" apos e f hZ):PE X (.Call (.Attribute o "get" apos) [e,f] [] hZ) (cD' td ty tx):=by
 intro pins s σ H Q I h;refine wpAny_Call_method m.base m.few m.line PySem.F.plainAttrs_dict PySem.F.slot_dict_get PySem.F.type_dict_get (cy (ho pins s σ H _ I h) λu s1 dS=>?_);obtain⟨x,H1,I1,rx,a,ex,d,q1⟩:=dS;subst ex;obtain rfl:u=Value.ref a:=rx;obtain⟨t1,t2,_⟩:=cC' I1 d;refine⟨t1,t2,?_⟩;rw[m.trees];refine Calls.callWith_builtin rfl (Calls.evalArgs_plain (Calls.spliced_cons (cy (he pins s1 σ H1 _ I1 q1) λiv s2 cq=>L2.eW cq λy H2 I2 ry q2 =>
  Calls.spliced_cons (cy (hf pins s2 σ H2 _ I2 q2) λfv s3 ⟨z,H3,I3,rz,ov,g,q3⟩=>Calls.spliced_nil ?_))))
 exact jl' hu I3 g ry rz λw' s4 I4 oB=>⟨_,H3,I4,oB,q3⟩
end
end L2
end
namespace Att
open PySem PySem.W PySem.Calls PyProof.Rows
def jn'{P:Params}:∀ (ns:List Int) (vs:List ag),WellAll P h vs (ns.map WData.int)->IntsAre vs ns:=by
 intro ns
 induction ns with
 |nil =>intro vs w;cases w;exact .nil
 |cons n ns ih =>
  intro vs w
  cases w with
  |cons a b =>cases a;exact .cons _ _ (ih _ b)
def jo'{l:OpenLaw}{n:Nat}(hn:l.most=some n){P:Params}{h:dr}{args:List WData}{vals:List ag}(HZ:l.row.toRowW.claim.pre args=true) (Zu:WellAll P h vals args) :
  ∃ a vs ns,vals=[Value.ref a]/\args=[WData.list (ns.map WData.int)]/\h.get? a=some { cls:=.type "list",data:=.seq vs.toArray }/\IntsAre vs ns/\ns.length<=n:=by
 have D0:WShape.hasAll [] args [.list .int]=true:=(pre_splitW HZ).1;have hc:l.pre.holds [] { args:=args }=true:=(pre_splitW HZ).2;obtain⟨d,r,rfl,h1,h2⟩:=hasAllW_cons D0;obtain rfl:=hasAllW_nil h2;obtain⟨xs,rfl,h3⟩:=hasW_list h1;obtain⟨ns,rfl⟩:=items_int h3;have hlen:ns.length<=n:=by
  have h4:(WTm.not (.lt (.lit (.int n)) (.len (.arg 0)))).holds [] { args:=[.list (ns.map .int)] }=true:=by have h4:=(holds_andW hc).1;rw[hn] at h4;exact h4
  have h5:=condW_of h4 (w_not (w_lt w_lit (w_len_list (w_arg rfl))));refine Nat.le_of_not_lt λq=>?_;first
   | (rw[decide_eq_true q'] at h5;exact absurd h5 (by decide))
   | (simp at h5;lia)
 cases Zu with
 |cons w1 w2 =>
  cases w2
  cases w1 with
  |list ho rg=>exact⟨_,_,ns,rfl,rfl,ho,jn' ns _ rg,hlen⟩
def jp'(l:OpenLaw)(args:List WData):l.row.toRowW.claim.post args (.bool true) args=true :=
 postW_of (by first|rfl|decide|simp[WShape.has,WShape.arms,WShape.armsAll]) (w_eq_bool (w_res rfl) w_lit) rfl
def jq'{l:OpenLaw}{n:Nat}{q:cv}{loose:List Str}{XP:(Str->Option ag)->dr->Prop}{YP:cK->dr->Prop}{d:DefRec}(hn:l.most=some n) (Ss:d.params.defaults=[])(call:∀ (w:cK) (g7 fz:ay) (mg mb:Str->Option ag) (fa:ah) (o:Obj) (pm cd doc:ag) (a:ah) (vs:List ag) (ns:List Int),
   Ground q loose [] XP w g7 mg mb fz.heap->YP w fz.heap ->
   fz.heap.get? fa=some o->o.data=.func (docDef d.name d.params d.body d.scope pm cd doc)->fz.heap.CodeRec cd d.name->mg d.name=some (.ref fa) ->
   fz.heap.get? a=some { cls:=.type "list",data:=.seq vs.toArray }->IntsAre vs ns->ns.length<=n->fz.gens = #[] ->
   ua (aT l.prog w) callerA (.call (.ref fa) ⟨[.ref a],[]⟩) (λr s'=>r=.ok (.ret (.bool true))/\OldK fz.heap s'.heap/\s'.os=fz.os/\AllBare s'.gens) fz) :
  WalkO q loose XP YP l.row.toRowW d [] (λf vs=>PySem.call f vs):=by
 intro w g7 fz mg mb G Y fa o pm cd doc dV kV ho hd tF hD Sv hg args vals as HZ hlay hrd Zu Ic;obtain rfl:dV=.none:=Dflts.none hD Ss;obtain rfl:kV=.none:=Dflts.noKw hD;obtain⟨a,vs,ns,rfl,rfl,Zv,hints,hlen⟩:=jo' hn HZ Zu;refine enter_call (Jn (call w g7 fz mg mb fa o pm cd doc a vs ns G Y ho (fd_plain hd) tF Sv Zv hints hlen hg) λr s' hq=>?_);obtain⟨rfl,h2,h3,h4⟩:=hq;exact⟨.inl ⟨.bool true,.bool true,[],rfl,λ_=>rfl,.bool true,jp' l _,λ_=>⟨List.Pairwise.nil,λ_ hm=>(nomatch hm)⟩⟩,h2,h3,h4⟩
end Att
section
open PySem PySem.Spec PyProof.Rows
namespace L2
theorem cF':∀ {vs:List ag} {ns:List Int},IntsAre vs ns->Vals (ns.map V.int) vs
 |_,_,.nil=>.nil
 |_,_,.cons n t h=>.cons ⟨t,rfl⟩ (cF' h)
def Only(H:Hp):Prop:=∀ b,H b=none\/∃ o xs,H b=some (.qE o (.lst xs))
def jr'{P:cv}{K:aI}(KX:K.In fz.heap) (hns:fz.heap.Ns gS mg) (hb:fz.heap.Ns builtinsNs mb) (hbb:∀ x:Str,x ≠ "__name__"->mb x=ly x) (jt':fz.heap.NoLimit) (hg:fz.gens = #[])(ha:fz.heap.get? a=some { cls:=.type "list",data:=.seq vs.toArray }) (hi:IntsAre vs ns) (hl:ns.length<=bS) (hr:hU k callerA) (F:∀ base:dr,K.In base->base.Ns gS mg->kS P w K mg base CX k fa fd [x] sp) (ju':∀ (s:ay) (u:ag),BindsTo s fd ⟨[u],[]⟩ [(x,u)]) (DV:∀ H:Hp,Only H->fE K H a (ns.map V.int)->sp [.ref a] H (λv _=>v=.bl true) λ_ _ _=>False) (Zw:∀ H e s',CX [] H fz (λ_ _ _=>False) e s'->False) :
  ua (aT P w) callerA (.call (.ref fa) ⟨[.ref a],[]⟩) (λr s'=>r=.ok (.ret (.bool true))/\OldK fz.heap s'.heap/\s'.os=fz.os/\AllBare s'.gens) fz:=by
 have rv:=cF' hi;have jv':=hi.length
 -- from an abstract heap in which nothing but the script may be tracked
 have core:∀ H:Hp,Only H->fE K H a (ns.map V.int)->iA P w H fz.heap->(∀ b,H b≠none->b=a)->(H a≠none->K.lookup a=none) ->
   ua (aT P w) callerA (.call (.ref fa) ⟨[.ref a],[]⟩) (λr s'=>r=.ok (.ret (.bool true))/\OldK fz.heap s'.heap/\s'.os=fz.os/\AllBare s'.gens) fz:=by
  intro H hO hS bX hA hK;have cH':∀ {b:ah} {o:Obj},fz.heap.get? b=some o->H b=none->(E7 fz.heap H).get? b=some o:=λe n=>fE' e n;have Sb:∀ {b:ah} {o:Obj} {es:Array DictEntry} {ep:Nat},fz.heap.get? b=some o->o.data=.dict es ep->H b=none:=λ{b o es ep} e d=>by
   cases q:H b with
   |none=>rfl
   |some u =>have e':b=a:=hA b (by rw[q];simp);subst e';rw[ha] at e;cases e;have d':Data.seq vs.toArray _=Data.dict es ep:=d;cases d'
  have U_:∀ {b:ah} {m:Str->Option ag},fz.heap.Ns b m->(E7 fz.heap H).Ns b m:=λ{b m} ⟨o,es,ep,e,d,r⟩=>⟨o,es,ep,cH' e (Sb e d),d,r⟩
  have hKb:K.In (E7 fz.heap H):=λb o e=>cH' (KX b o e) (by
   cases q:H b with
   |none=>rfl
   |some u =>
    have e':b=a:=hA b (by rw[q];simp);subst e';rw[hK (by rw[q];simp)] at e;cases e)
  have hM:Mod K mg (E7 fz.heap H):=⟨hKb,U_ hns,⟨mb,U_ hb,hbb⟩,let ⟨mc,h1,h2⟩:=jt';⟨mc,U_ h1,h2⟩⟩
  have e0:LS P w K mg (E7 fz.heap H) callerA [] fz H:=⟨rfl,hM,λb o e=>fF' e,RJ (fD' _ _),trivial,λb hb=>absurd (show b∈([]:List ah) from hb) (by simp),bX,.of_eq hg⟩
  refine Jn ((F _ hKb (U_ hns)).run callerA [] fz H ⟨[.ref a],[]⟩ [.ref a] [.ref a] _ _ hr e0 (ju' fz (.ref a)) (.cons rfl .nil) (DV H hO hS)) λr s' h=>?_
  cases r with
  |error e=>exact(Zw H e s' h).elim
  |ok fl =>
   cases fl with
   |next=>exact False.elim h
   |brk=>exact False.elim h
   |cont=>exact False.elim h
   |ret u =>
    obtain⟨v,H',os,bare,un,jw',r',q⟩:=h;have q':v=.bl true:=q;subst q';obtain rfl:u=Value.bool true:=r';refine⟨rfl,OldK.of_keep λb o e=>?_,os,bare⟩
    cases q:H b with
    |none=>exact un.keep b o e q (by intro z;exact absurd (show b∈([]:List ah) from z) (by simp)) (by simp)
    |some u =>
     rcases hO b with z|⟨ob,xs,z⟩
     ·rw[q] at z;cases z
     ·have z2:=un.xS b ob _ z;obtain⟨e1,_⟩:=bX b _ z;obtain⟨e2,_⟩:=jw' b _ z2;rw[e] at e1;cases e1;exact e2
 cases hk:K.lookup a with
 |some o =>
  -- the script is one of the module's own objects
  have e:=KX a o hk;rw[ha] at e;cases e;refine core (λ_=>none) (λ_=>.inl rfl) (.inr ⟨_,vs.toArray,_,hk,rfl,rfl,rfl,by rw[jI,jv'];exact hl,by simpa using rv⟩) (λb u z=>by have z':none=some u:=z;cases z') (λb z=>absurd rfl z) λz=>absurd rfl z
 |none =>
  refine core (λb=>if b=a then some (.qE { cls:=.type "list",data:=.seq vs.toArray } (.lst (ns.map V.int))) else none) (λb=>?_) (.inl (.inr ⟨{ cls:=.type "list",data:=.seq vs.toArray },if_pos rfl⟩)) (λb u z=>?_) (λb z=>?_) λ_=>hk
  ·by_cases hb:b=a
   ·exact .inr ⟨_,_,if_pos hb⟩
   ·exact .inl (if_neg hb)
  ·by_cases hb:b=a
   ·have z':=(if_pos hb).symm.trans z;cases z';subst hb;exact⟨ha,by rw[dc];exact hl,vs,_,rv,ha⟩
   ·have z':=(if_neg hb).symm.trans z;cases z'
  ·by_cases hb:b=a
   ·exact hb
   ·exact absurd (if_neg hb) z
def jx'{l:Wk}{n k:Nat}{q:cv}{loose:List Str}{XP:(Str->Option ag)->dr->Prop}{YP:cK->dr->Prop}{d:DefRec}{K:Params->aI}{CX:cK->Fs}{sp:cK->Sp}{x:Str}(hn:l.most=some n) (DU:n<=bS) (Ss:d.params.defaults=[]) (hr:hU k callerA)(hY:∀ (w:cK) (h:dr),YP w h->(K w.params).In h)(F:∀ (w:cK) (mg:Str->Option ag) (fa:ah) (h:dr),(K w.params).In h->h.Ns gS mg->mg d.name=some (.ref fa) ->
   ∃ fd:qB,(∀ (s:ay) (u:ag),BindsTo s fd ⟨[u],[]⟩ [(x,u)]) /\
    ∀ base:dr,(K w.params).In base->base.Ns gS mg->kS l.prog w (K w.params) mg base (CX w) k fa fd [x] (sp w))
  (DV:∀ (w:cK) (H:Hp) (a:ah) (ns:List Int),ns.length<=n->Only H->fE (K w.params) H a (ns.map V.int)->sp w [.ref a] H (λv _=>v=.bl true) λ_ _ _=>False)
  (Zw:∀ (w:cK) (H:Hp) (s:ay) (e:ag) (s':ay),CX w [] H s (λ_ _ _=>False) e s'->False) :
  PySem.W.WalkO q loose XP YP l.row.toRowW d [] (λf vs=>PySem.call f vs):=by
 refine Att.jq' hn Ss λw g7 fz mg mb fa o pm cd doc a vs ns G Y ho hd tF Sv Zv hints hlen hg=>?_;have KX:=hY w _ Y;obtain⟨fd,hb,hF⟩:=F w mg fa _ KX G.T.g Sv;exact jr' KX G.T.g G.T.b G.T.builtins G.T.nolimit hg Zv hints (kL hlen DU) hr hF hb (λH hO hS=>DV w H a ns hlen hO hS) λH e s'=>Zw w H fz e s'
def vj(s:i5):Arguments:=match s with
 |.FunctionDef _ a _ _ _ _ _ _ _ _=>a
 |_=>{ posonlyargs:=[],args:=[],vararg:=none,kwonlyargs:=[],kw_defaults:=[],kwarg:=none,defaults:=[] }
def nh(s:i5):List i5:=match s with
 |.FunctionDef _ _ b _ _ _ _ _ _ _=>b
 |_=>[]
def fe(s:i5):Scope:=match s with
 |.FunctionDef _ _ _ _ _ _ sc _ _ _=>sc
 |_=>{ kind:=.function,names:=[],isGenerator:=false,isCoroutine:=false }
abbrev kG:Fs:=λ_ _ _ _ _ _=>False
abbrev E0:XK:=λ_ _ _=>False
def Va{X:Cx}:Passes kG X E0:=λ_ _ _ _ _ _ _ h=>h.elim
structure oC(K:aI)(x qual:Str)(st:i5)(f:ah)(fd:qB):Prop where
 ex:∃ (oc:ag) (od:Option ah) (kV doc pm:ag) (an:Option ah) (dE ct:ag) (BM:Array (Option ag)),
  fd=sf x qual (vj st) (nh st) (fe st) .none kV doc pm an dE ct/\K.lookup f=some ⟨oc,od,.func fd,BM⟩/\CL K dE qual=true
 kp:wd K (.ref f)=true
section
variable {P:cv}{w:cK}{K:aI}{mg:Str->Option ag}{base:dr}
def oC.ok{st:i5}{N ps:List Str}(F:oC K x qual st f fd)(S:zh N ps (fe st))(len:∀ vs H Q E,sp vs H Q E->vs.length=ps.length)(xa:∀ (dE:ag) (A:eB) (outer:List Env) (s:ay) (H:Hp) (vs:List V) (Q:VK) (E:XK),hU k (A.deeper (kN qual (fe st) s.heap.objs.size f dE))->sp vs H Q E ->
   ∃ t,mn (oz kG P w K mg base N qual (fe st) f dE A outer s H E).yb (nh st) t/\t { nx:=λ_ H'=>Q .non H',rt:=Q } (start N vs) H):kS P w K mg base kG (k+1) f fd ps sp:=by
 obtain⟨oc,od,kV,doc,pm,an,dE,ct,BM,rfl,lk,tF⟩:=F.ex;refine ce' lk tF S len λA outer s H vs Q E hr DV=>?_;obtain⟨t,h,q⟩:=xa dE A outer s H vs Q E hr DV;exact⟨t,h.yb,q⟩
def oC.binds{st:i5}{ps:List Str}(F:oC K x qual st f fd)(h:∀ (kV doc pm:ag) (an:Option ah) (dE ct:ag) (us:List ag),us.length=ps.length->bindArgs (sf x qual (vj st) (nh st) (fe st) .none kV doc pm an dE ct) ⟨us,[]⟩=pure (ps.zip us)):Binds K fd ps []:=by
 obtain⟨oc,od,kV,doc,pm,an,dE,ct,BM,rfl,lk,tF⟩:=F.ex;exact .all (h kV doc pm an dE ct)
def PY{st:i5}{kV doc pm dE ct:ag}(l:K.lookup f=some ⟨oc,od,.func (sf x qual (vj st) (nh st) (fe st) .none kV doc pm an dE ct),BM⟩)(c:CL K dE qual=true) (k:wd K (.ref f)=true):oC K x qual st f (sf x qual (vj st) (nh st) (fe st) .none kV doc pm an dE ct):=⟨⟨oc,od,kV,doc,pm,an,dE,ct,BM,rfl,l,c⟩,k⟩
end
section
variable {X:Cx}
def pv (i:Nat) (hN:autoParam (X.N[i]? = some x) bv) (hv:RZ X.env.scope x:=by first|exact Or.inl rfl|exact Or.inr (Or.inl rfl)|exact Or.inr (Or.inr rfl)) (hd:(x == ("__debug__" : Str))=false:=by decide) (tF:(x == ("__classdict__" : Str))=false:=by decide):PE X (.Name x pos) (kc i):=R3 hN hv hd tF
end
def bI(H H':Hp):Prop:=∀ b o,H b=some o->H' b=some o
def bI.refl(H:Hp):bI H H:=λ_ _ h=>h
def bI.trans(a:bI H H1)(b:bI H1 H2):bI H H2:=λc o h=>b c o (a c o h)
def bI.free(e:bI H H')(h:H' l=Option.none):H l=Option.none:=by
 cases q:H l with
 |none=>rfl
 |some o =>rw[e l o q] at h;cases h
def bI.seq{K:aI}(e:bI H H')(h:fE K H a xs):fE K H' a xs:=by
 rcases h with(h|⟨o,h⟩)|h
 ·exact .inl (.inl (e _ _ h))
 ·exact .inl (.inr ⟨o,e _ _ h⟩)
 ·exact .inr h
end L2
namespace L2
def xi(env:Env):List (Str × BH)->List (Str × ah)->List (Str × ah)
 |[],cs=>cs
 | (n,k) :: r,cs=>xi env r (if k == NameKind.free then (n,(env.cells.lookup n).getD 0) :: cs else cs)
def g_(env:Env):∀ (names:List (Str × BH)) (cs:List (Str × ah)),(∀ y∈names,y.2=.free->∃ c,env.cells.lookup y.1=some c) -> (forIn names cs λx r=>match x with
   | (name,kind)=>if (kind == NameKind.free)=true then do let a <- cellOf env name;pure (ForInStep.yield ((name,a) :: r)) else pure (ForInStep.yield r):Sem (List (Str × ah)))=pure (xi env names cs)
 |[],cs,_=>rfl
 | (n,k) :: r,cs,h=>by
  rw[List.forIn_cons];have ih:=g_ env r;by_cases hk:k=.free
  ·subst hk;obtain⟨c,e⟩:=h (n,.free) fw rfl;have e2:cellOf env n=pure c:=by unfold cellOf;rw[e]
   have e3:xi env ((n,.free) :: r) cs=xi env r ((n,c) :: cs):=by show xi env r (if (NameKind.free == NameKind.free)=true then (n,(env.cells.lookup n).getD 0) :: cs else cs)=_;rw[e];rfl
   rw[e3,<- ih ((n,c) :: cs) λy hy=>h y (fo _ hy)];simp only[beq_self_eq_true,if_true,e2];rfl
  ·have hb:(k == NameKind.free)=false:=by simpa using hk
   have e3:xi env ((n,k) :: r) cs=xi env r cs:=by show xi env r (if (k == NameKind.free)=true then _ else cs)=_;rw[hb];rfl
   rw[e3,<- ih cs λy hy=>h y (fo _ hy)];simp only[hb,uj,if_false];rfl
def pA(h:∀ y∈scope.names,y.2=.free->∃ c,env.cells.lookup y.1=some c):closureFor scope env=pure (xi env scope.names []):=by have:=g_ env scope.names [] h;rw[<- bind_pure (forIn scope.names [] _)] at this;exact this
theorem nJ:∀ {names:List (Str × BH)} {cs:List (Str × ah)},(∀ y∈names,y.2=.free->∃ c,env.cells.lookup y.1=some c)->(∀ y d,cs.lookup y=some d->env.cells.lookup y=some d) -> (xi env names cs).lookup x=some c->env.cells.lookup x=some c
 |[],cs,_,h,e=>h x c e
 | (n,k) :: r,cs,hf,h,e=>by
  refine nJ (λy hy=>hf y (fo _ hy)) ?_ e;intro y d hd;by_cases hk:k=.free
  ·subst hk;obtain⟨c',e'⟩:=hf (n,.free) fw rfl;simp only[beq_self_eq_true,if_true,e',Option.getD_some,Uc] at hd
   cases hb:y == n with
   |true=>rw[hb] at hd;have:y=n:=eq_of_beq hb;subst this;rw[e'];exact hd
   |false=>rw[hb] at hd;exact h y d hd
  ·have hb:(k == NameKind.free)=false:=by simpa using hk
   simp only[hb,uj,if_false] at hd;exact h y d hd
theorem jM:∀ {names:List (Str × BH)} {cs:List (Str × ah)},((x,NameKind.free)∈names\/∃ c,cs.lookup x=some c)->∃ c,(xi env names cs).lookup x=some c
 |[],cs,h=>by
  rcases h with h|h
  ·exact nomatch h
  ·exact h
 | (n,k) :: r,cs,h=>by
  refine jM (names:=r) ?_;rcases h with h|⟨c,h⟩
  ·rcases fm.mp h with e|h
   ·cases e;refine .inr ⟨(env.cells.lookup x).getD 0,?_⟩;simp only[beq_self_eq_true,if_true,Uc]
   ·exact .inl h
  ·refine .inr ?_;by_cases hk:(k == NameKind.free)=true
   ·simp only[hk,if_true,Uc]
    cases hb:x == n with
    |true=>exact⟨_,rfl⟩
    |false=>exact⟨c,h⟩
   ·simp only[hk,if_false];exact⟨c,h⟩
def bD(X:Cx)(scope:Scope)(C:ah)(N:List Str)(fp:List ah)(mr:ay)(rh:Hp):Cx :=
 { X with N:=N,g7:=mr,HC:=rh,env:=compEnvC scope (xi X.env scope.names []) C X.env,outer:=X.stack,stack:=X.stack,ex:=fp,fn:=λ_=>false,pn:=[],xe:=λ_ _=>False }
def FG(X:Cx)(ifs:List Expr)(t:TT):Prop :=
 ∀ (pins:List (ah × Obj)) (s:ay) (σ:St) (H:Hp) (Q:Bool->Hp->Prop),Inv X pins σ H s->t σ H Q ->
  bE (aT X.prog X.w) X.A (forIn ifs true λc r=>if r=true then do let ok <- isTrue c X.env (cp c X.env);pure (ForInStep.yield ok) else pure (ForInStep.yield r)) (TP X pins σ Q) X.xe s
def jy':TT:=λ_ H Q=>Q true H
def Gw{X:Cx}:FG X [] jy':=λ_ _ _ H _ I h=>wpAny_tests_nil ⟨H,I,h⟩
def FN{X:Cx}(h:PT X c t):FG X [c] t:=λpins s σ H Q I hw=>wpAny_tests_one (h pins s σ H Q I hw)
def fG{R:Result->ay->Prop}(I:Nat->ay->Prop)(E:ag->ay->Prop)(turn:∀ n s,I n s->bE (aT prog w) A (pyNext it) (λr fz=>match r with
   |none=>R (.ok .next) fz
   |some v=>bE (aT prog w) A (letOwnedTupleGo target it v) (λ_ g7=>bE (aT prog w) A (assign target env v) (λ_ ya =>
     bE (aT prog w) A (forIn ifs true λc r=>if r=true then do let ok <- isTrue c env (cp c env);pure (ForInStep.yield ok) else pure (ForInStep.yield r)) (λok mr =>
      if ok=true then bE (aT prog w) A (cp elt env) (λx cJ' =>
       bE (aT prog w) A (call (.builtin "list.append") [acc,x]) (λ_ cK'=>∃ m,m<n/\I m cK') E cJ') E mr
      else ∃ m,m<n/\I m mr) E ya) E g7) E fz) E s)
  (hE:∀ e s',E e s'->notedBy (aT prog w) A env (λe s'=>R (.error e) s') e s')
  (n:Nat) (h:I n s) :
  ua (aT prog w) A (.compLoop (.ListComp elt [⟨target,iter,ifs,0⟩] scope pos) 0 it acc env) R s:=by
 refine codeAny_loop rfl I (λn s hI=>?_) n h;refine wpAny_noted ?_;refine se ?_ (λ_ _ q=>q) hE;refine ax (wpAny_standAt (ax (se (turn n s hI) (λr fz L8=>?_) λ_ _ h'=>h')))
 cases r with
 |none=>exact bG L8
 |some v =>
  refine ax (se L8 (λ_ g7 h₀=>?_) λ_ _ h'=>h');refine ax (se h₀ (λ_ ya Sq=>ax (se Sq (λok mr U7=>?_) λ_ _ h'=>h')) λ_ _ h'=>h')
  cases ok with
  |false=>exact bG ⟨rfl,U7⟩
  |true =>exact ax (ax (se U7 (λx cJ' jz'=>ax (se jz' (λ_ cK' jA'=>bG (bG ⟨rfl,jA'⟩)) λ_ _ h'=>h')) λ_ _ h'=>h'))
def qR(tn:Nat)(ix:List Nat)(σ:St):St:=List.replicate tn none++ix.map λj=>(σ[j]?).join
def Hn(wi:TI)(g:TG)(tc:TT)(te:TE)(tn:Nat)(ix:List Nat):TE:=λσ H Q=>wi σ H λJ H1=>∀ D,H1 D=none ->
 ∃ W:Nat->Nat->St->Hp->Prop,(∃ m,W 0 m (qR tn ix σ) (upd H1 D (.lst [])))/\∀ i m τ H,W i m τ H -> (J.stop i H/\Q (.ref D) H)\/(J.go i H/\∃ (N1:St->V->Hp->Prop) (N2:St->Hp->Prop), (∀ D1 v H4,N1 D1 v H4->∃ ys m',H4 D=some (.lst ys)/\ys.length<bS/\m'<m/\W (i+1) m' D1 (upd H4 D (.lst (ys++[v])))) /\ (∀ D1 H3,N2 D1 H3->∃ m',m'<m/\W (i+1) m' D1 H3) /\
   ∀ x H',J.pT i H x H'->g x τ H' λD1 H2=>tc D1 H2 λb H3=>if b=true then te D1 H3 (N1 D1) else N2 D1 H3)
section
variable {X:Cx}{tg iter elt:Expr}{ifs:List Expr}{scope:Scope}{pos:Pos}{wi:TI}{g:TG}{tc:TT}{te:TE}{tn cn:List Str}{ix:List Nat}
structure iw(X:Cx)(scope:Scope)(tn cn:List Str)(ix:List Nat):Prop where
 kind:scope.kind=.function
 jB':∀ y∈scope.names,y.2≠.cell
 free:∀ y∈scope.names,y.2=.free->X.env.scope.names.lookup y.1=some .cell\/X.env.scope.names.lookup y.1=some .free
 names:∀ y∈scope.names,y.2=.local->scope.names.lookup y.1=some .local
 len:ix.length=cn.length
 cap:∀ (k j:Nat),ix[k]? = some j->∃ y,cn[k]? = some y/\X.N[j]? = some y/\(X.env.scope.names.lookup y=some .cell\/X.env.scope.names.lookup y=some .free)/\(y,NameKind.free)∈scope.names /\
  ((relabel scope X.env).names.lookup y=some .cell\/(relabel scope X.env).names.lookup y=some .free)
 all:∀ x,(relabel scope X.env).names.lookup x=some .cell\/(relabel scope X.env).names.lookup x=some .free->(x,NameKind.free)∈scope.names
def wR(O:iw X scope tn cn ix)(I:Inv X pins σ H s)(hf:∀ b∈fp,y8 X pins H b)(hfs:∀ b∈fp,b<s.heap.objs.size)(hC:s.heap.objs.size<=C) : (bD X scope C (tn++cn) fp s H).Ok:=by
 have pV:∀ y∈scope.names,y.2=.free->∃ c,X.env.cells.lookup y.1=some c:=λy hy hk=>I.ok.has y.1 (O.free y hy hk);have sub:∀ x c,(xi X.env scope.names []).lookup x=some c->X.env.cells.lookup x=some c:=λx c e=>nJ pV (λy d h=>by simp at h) e;refine⟨I.ok.mod,O.kind,I.ok.glob,I.ok.blt,hC,λx y c h1 h2=>I.ok.inj x y c (sub x c h1) (sub y c h2),λx hx=>jM (.inl (O.all x hx)),(λx c h _=>nomatch h),I.ok.hd,I.ok.frames,.inl rfl,λb hb=>⟨?_,λx c e=>?_⟩,
  I.bs,kL I.ok.x3 I.sz,λb o e hb=>?_,λb hb=>?_,I.stack,I.WV⟩
 ·exact gu (pE (hfs b hb) hC)
 ·exact(hf b hb).2.2.2.2.1 x c (sub x c e)
 ·rcases (hf b hb).2.2.2.1 with z|z
  ·exact I.ok.DI b o e z
  ·exact absurd (pE (eT e) (kL I.ok.x3 z)) (wq _)
 ·intro hz;rcases fm.mp (I.WU b hz) with e|e
  ·exact(hf b hb).2.1 e
  ·exact(hf b hb).2.2.1 e
def Bq{P:ag->ay->Prop}(hc:X.calm=true)(hi:PI X tg iter wi)(O:iw X scope tn cn ix)(hg:∀ C fp mr rh,PG (bD X scope C (tn++cn) fp mr rh) tg g) (FC:∀ C fp mr rh,FG (bD X scope C (tn++cn) fp mr rh) ifs tc) (he:∀ C fp mr rh,PE (bD X scope C (tn++cn) fp mr rh) elt te)(hs:∀ x,Rj iter X.env x=pure x) (I:Inv X pins σ H s) (h:Hn wi g tc te tn.length ix σ H Q)(fin:∀ (C D:ah) (m:Str->Option ag) (H5:Hp) (s6:ay) (r:Flow),Inv X pins σ H5 s6->s6.heap.Ns C m->H5 C=none->y8 X pins H5 C->Q (.ref D) H5->compPost (aT X.prog X.w) X.A X.xe use P (.ref D) C (.ok r) s6) :
  bE (aT X.prog X.w) X.A (comprehension (.ListComp elt [⟨tg,iter,ifs,0⟩] scope pos) scope X.env qN' (newList []) false (cp iter X.env) use) P X.xe s:=by
 have pV:∀ y∈scope.names,y.2=.free->∃ c,X.env.cells.lookup y.1=some c:=λy hy hk=>I.ok.has y.1 (O.free y hy hk);have sub:∀ x c,(xi X.env scope.names []).lookup x=some c->X.env.cells.lookup x=some c:=λx c e=>nJ pV (λy d h=>by simp at h) e;refine wpAny_comprehension_free rfl hs (pA pV) O.kind O.names (cy (hi pins s σ H _ I h) λv s1 h1=>cy h1 λW4 s2 h2=>?_);obtain⟨it,fp,Vb,J,H2,e,I2,T,A4,f2,h2⟩:=h2;subst e;obtain⟨W,⟨m0,w0⟩,turn⟩:=h2 s2.heap.objs.size (I2.bX.fresh (de _));refine sR ?_;have I3:Inv X pins σ (upd H2 s2.heap.objs.size (.lst [])) { s2 with heap:=s2.heap.push { cls:=.type "list",data:=.seq ([]:List ag).toArray } }:=I2.cs' .nil (fR _);generalize hD:s2.heap.objs.size=D at *
 generalize Zx:({ s2 with heap:=s2.heap.push { cls:=.type "list",data:=.seq ([]:List ag).toArray } }:ay)=s3 at *
 have k23:∀ b o,s2.heap.get? b=some o->s3.heap.get? b=some o:=λb o e=>by rw[<- Zx];exact eM _ e
 have f3:∀ b∈fp,y8 X pins (upd H2 D (.lst [])) b:=λb hb=>by obtain⟨f0,fr⟩:=f2 b hb;obtain⟨o,ho,_⟩:=T.obj _ _ A4 b hb;refine⟨?_,fr⟩;rw[dP (gu (by rw[<- hD];exact eT ho))];exact f0
 have A5:Vb 0 s3.heap:=T.keep _ _ _ A4 λb hb o e=>k23 b o e;have lt3:∀ b∈fp,b<s3.heap.objs.size:=λb hb=>by obtain⟨o,ho,_⟩:=T.obj _ _ A5 b hb;exact eT ho
 refine wpAny_newFunctionEnv O.jB' (by intro y hy;simp at hy) (λL8 jF' jG'=>?_) O.kind;have Mb:∀ b o,s3.heap.get? b=some o->L8.get? b=some o:=λb o e=>jG'.extBut b o (gu (eT e)) (eM _ e)
 -- the block's context
 have Vc:=wR O I3 f3 lt3 (de _);have I4:Inv (bD X scope s3.heap.objs.size (tn++cn) fp s3 (upd H2 D (.lst []))) [] (qR tn.length ix σ) (upd H2 D (.lst [])) { s3 with heap:=L8,toks:=s3.toks+([]:List (Str × ag)).length }:=by
  refine⟨Vc,rfl,I3.bare,Un.kept Mb,⟨_,jF',λi x v e1 e2 e3=>?_⟩,λx c e=>?_,I3.bX.fresh (de _),λx c e=>I3.sq x c (sub x c e),λp hp=>absurd hp (by simp[bD]),I3.bX.kept Mb,?_⟩
  ·have n4:tn.length<=i:=by
    by_cases q:i<tn.length
    ·unfold qR at e2;rw[EW (by simpa using q),Wm] at e2;simp[q] at e2
    ·lia
   unfold qR at e2;rw[EV (by simpa using n4),Wn,ku] at e2;have e1:(tn++cn)[i]? = some x:=e1;rw[EV n4] at e1
   cases q:ix[i-tn.length]? with
   |none=>rw[q] at e2;cases e2
   |some j =>
    rw[q] at e2;obtain⟨y,c1,c2,c3,c4,c5⟩:=O.cap _ _ q;rw[c1] at e1;cases e1;have e2:σ[j]?.join=some v:=Option.some.inj e2;have ej:σ[j]? = some (some v):=by
     cases z:σ[j]? with
     |none=>rw[z] at e2;cases e2
     |some o=>rw[z] at e2;exact congrArg some e2
    obtain⟨m,hn,hl⟩:=I3.loc;obtain⟨u,r,l⟩:=hl j x v c2 ej (c3.elim (λz=>.inr (.inl z)) λz=>.inr (.inr z));refine⟨u,r,.inr ⟨c5,?_⟩⟩;rcases l with⟨hk,_⟩|⟨hk,c,UC,hce⟩
    ·have hk:X.env.scope.names.lookup x=some .local:=hk;rcases c3 with z|z
     ·rw[z] at hk;cases hk
     ·rw[z] at hk;cases hk
    ·obtain⟨c',K2⟩:=jM (Or.inl c4);have:=sub x c' K2;rw[UC] at this;cases this;obtain⟨o,ho,hd⟩:=hce;exact⟨c,K2,o,Mb _ _ ho,hd⟩
  ·obtain⟨v,o,ho,hd⟩:=I3.cell x c (sub x c e);exact⟨v,o,Mb _ _ ho,hd⟩
  ·show(qR tn.length ix σ).length=(tn++cn).length;unfold qR;simp[O.len]
 -- from the block back to the body
 have back:∀ {τ:St} {H':Hp} {s':ay},Inv (bD X scope s3.heap.objs.size (tn++cn) fp s3 (upd H2 D (.lst []))) [] τ H' s'->Inv X pins σ H' s':=λ{τ H' s'} I' =>
  Inv.fK' I3 I'.os I'.base I'.bX I'.bare λb hb=>by obtain⟨_,f1,_,f3',f4,f5⟩:=f3 b hb;exact⟨f3',f1,f4,f5⟩
 have Zy:∀ {H':Hp},(∀ b∈fp,H' b=none)->∀ b∈fp,y8 (bD X scope s3.heap.objs.size (tn++cn) fp s3 (upd H2 D (.lst []))) [] H' b:=λhn b hb =>
  ⟨hn b hb,(Vc.E9 b hb).1,Vc.DJ b hb,.inl hb,(Vc.E9 b hb).2,λp hp=>absurd hp (by simp[bD])⟩
 have loop:∀ s4:ay,Inv (bD X scope s3.heap.objs.size (tn++cn) fp s3 (upd H2 D (.lst []))) [] (qR tn.length ix σ) (upd H2 D (.lst [])) s4->Vb 0 s4.heap ->
   ua (aT X.prog X.w) X.A (.compLoop (.ListComp elt [⟨tg,iter,ifs,0⟩] scope pos) 0 (.ref it) (.ref D) (compEnvC scope (xi X.env scope.names []) s3.heap.objs.size X.env)) (compPost (aT X.prog X.w) X.A X.xe use P (.ref D) s3.heap.objs.size) s4:=by
  intro s4 I4 BU;refine fG (λn s'=>∃ i τ H',Inv (bD X scope s3.heap.objs.size (tn++cn) fp s3 (upd H2 D (.lst []))) [] τ H' s'/\Vb i s'.heap/\(∀ b∈fp,H' b=none)/\W i n τ H') (λ_ _=>False) ?_ (λ_ _ z=>z.elim) m0 ⟨0,_,_,I4,BU,λb hb=>(f3 b hb).1,w0⟩
  rintro n s5 ⟨i,τ,H5,I5,LH,UJ,w5⟩;rcases turn i n τ H5 w5 with⟨stop,qn⟩|⟨go,N1,N2,hN1,Sw,step⟩
  ·refine cy (T.done (bD X scope s3.heap.objs.size (tn++cn) fp s3 (upd H2 D (.lst []))) rfl rfl rfl hc i [] s5 τ H5 (λ_ _=>False) I5 (Zy UJ) LH stop) λr s6 dS=>?_;obtain⟨hr,I6⟩:=dS;subst hr;have J6:=back I6;obtain⟨m,hn,_⟩:=I6.loc;exact fin _ D m H5 s6 _ J6 hn I6.free (I3.LD (de _) I6.free) qn
  ·refine cy (T.item (bD X scope s3.heap.objs.size (tn++cn) fp s3 (upd H2 D (.lst []))) rfl rfl rfl hc i [] s5 τ H5 (λ_ _=>False) I5 (Zy UJ) LH go) λr s6 dS=>?_;obtain⟨u,hr,h6⟩:=dS;subst hr;refine cy h6 λ_ s7 dS=>?_;obtain⟨x,H7,I7,r7,y7,Zz,fr7⟩:=dS;have I7':=I7.pinned (Zy fr7) (T.obj _ _ Zz);refine cy (hg _ _ _ _ _ s7 τ H7 x u _ I7' r7 (step x H7 y7)) λ_ s8 dS=>?_;obtain⟨PZ,H8,I8,q8⟩:=dS;refine cy (FC _ _ _ _ _ s8 PZ H8 _ I8 q8) λok s9 dS=>?_;obtain⟨H9,I9,q9⟩:=dS;have again:∀ {s':ay} {H':Hp} {m':Nat},Inv (bD X scope s3.heap.objs.size (tn++cn) fp s3 (upd H2 D (.lst []))) ([]++R8 fp s7.heap) PZ H' s'->m'<n->W (i+1) m' PZ H' ->
     ∃ m,m<n/\∃ i τ H',Inv (bD X scope s3.heap.objs.size (tn++cn) fp s3 (upd H2 D (.lst []))) [] τ H' s'/\Vb i s'.heap/\(∀ b∈fp,H' b=none)/\W i m τ H':=λ{s' H' m'} J hm w'=>by
    refine⟨m',hm,i+1,PZ,H',J.UI,T.keep _ _ _ Zz λb hb o e=>(J.pin (b,o) (fh _ (fh _ (UH hb e)))).1,λb hb=>?_,w'⟩;obtain⟨o,e,d⟩:=T.obj _ _ Zz b hb;exact(J.pin (b,o) (fh _ (fh _ (UH hb e)))).2.1
   cases ok with
   |false =>obtain⟨m',hm,w'⟩:=Sw _ _ q9;exact again I9 hm w'
   |true =>refine cy (he _ _ _ _ _ s9 PZ H9 _ I9 q9) λx9 s10 cq=>L2.eW cq λv10 H10 I10 r10 q10=>?_;obtain⟨ys,m',hH,hz,hm,w'⟩:=hN1 _ _ _ q10;refine cy (Sg _ s10 PZ H10 (.ref D) [v10] (.ref D) [x9] (λ_ H'=>H'=upd H10 D (.lst (ys++[v10]))) I10 rfl (.cons r10 .nil) ⟨D,ys,v10,rfl,rfl,hH,hz,rfl⟩) λ_ s11 cq=>L2.eW cq λ_ H11 I11 _ q11=>?_;subst q11;exact again I11 hm w'
 exact codeAny_compStart_list (loop _ I4 (T.keep _ _ _ A5 λb hb o e=>Mb b o e)) (T.self _ 0 _ _ _ (T.keep _ _ _ A5 λb hb o e=>Mb b o e) (loop _ I4 (T.keep _ _ _ A5 λb hb o e=>Mb b o e)))
def Hk(hc:X.calm=true)(hi:PI X tg iter wi)(O:iw X scope tn cn ix)(hg:∀ C fp mr rh,PG (bD X scope C (tn++cn) fp mr rh) tg g) (FC:∀ C fp mr rh,FG (bD X scope C (tn++cn) fp mr rh) ifs tc) (he:∀ C fp mr rh,PE (bD X scope C (tn++cn) fp mr rh) elt te)(hs:∀ x,Rj iter X.env x=pure x:=by intro _;rfl):PE X (.ListComp elt [⟨tg,iter,ifs,0⟩] scope pos) (Hn wi g tc te tn.length ix):=by
 walk_at"t";exact Bq hc hi O hg FC he hs I h λC D m H5 s6 r J6 hn hf ⟨_,g1,_,g3,g4,g5⟩ qn=>⟨m,hn,λh' hsb=>⟨.ref D,H5,J6.turned (λb o hb e=>hsb.extBut b o hb e) hf g1 g3 g4 g5,rfl,qn⟩⟩
end
def P1 (a b:String):Bool:=a == b || (a == "bool" && b == "int")
def ZC (b:String):Bool:=["str", "int", "bool", "list", "tuple", "dict"].contains b
def jg (K:aI) (a b:String) (ha:a∈["NoneType", "bool", "int", "str", "list", "tuple", "dict"]) (hb:b∈["str", "int", "bool", "list", "tuple", "dict"]):AK K (.type a) (.type b)=some (P1 a b):=by simp only[fm,EX,or_false] at ha hb;rcases ha with rfl|rfl|rfl|rfl|rfl|rfl|rfl<;>rcases hb with rfl|rfl|rfl|rfl|rfl|rfl<;>kernel_rfl
section
variable {X:Cx}
def eP.imp(h:eP X f r)(hi:∀ x y H Q,r' x y H Q->r x y H Q):eP X f r' :=
 λpins s σ H x y v u Q I rx ry q=>h pins s σ H x y v u Q I rx ry (hi x y H Q q)
def KQ(K:aI):R2:=λx y H Q=>∃ l b xs zs,x=.ref l/\y=.ref b/\fE K H l xs/\fE K H b zs/\xs.length+zs.length<=bS/\∀ p,H p=none->Q (.ref p) (upd H p (.lst (xs++zs)))
def Gu:eP X (qA .Add) (KQ X.K):=by
 walk_at"e";obtain⟨l,b,xs,zs,rfl,rfl,hH,hB,hz,q⟩:=h;cases rx;cases ry;obtain⟨its,r,pl,z⟩:=I.list hH;obtain⟨UU,r2,pl2,z2⟩:=I.list hB;have hl:=r.length;have My:=r2.length;obtain⟨⟨cls,dd,data,sl⟩,ho,hc,n,hd⟩:=id pl.isList;obtain⟨⟨ij',UN,data2,UO⟩,Fu,UQ,n2,hd2⟩:=id pl2.isList;subst hc hd UQ hd2;have ea:its.toArray++UU.toArray=(its++UU).toArray:=by simp
 refine concat_meets ⟨_,ho,rfl⟩ ⟨_,Fu,rfl⟩ noFill_list_add seq_list_add PySem.F.slot_list_add PySem.F.entry_list_add (PySem.F.args_list_add_2 _ _) (list_addW l b its.toArray UU.toArray n n2 dd UN sl UO (by simp only[jI];lia)) ⟨ho,Fu,?_⟩;rw[ea];exact⟨.ref _,_,I.cs' (r.append r2) (by rw[mI];lia),rfl,q _ I.fresh⟩
def Al(K:aI):R2:=λx y H Q=>match x,y with
 |.int i,.int j=>Q (.int (i+j)) H
 |.str i,.str j=>i.length+j.length<=bS/\Q (.str (i++j)) H
 |.ref a,.ref b=>∃ xs zs,fE K H a xs/\fE K H b zs/\xs.length+zs.length<=bS/\∀ p,H p=none->Q (.ref p) (upd H p (.lst (xs++zs)))
 |_,_=>False
def Hx:eP X (qA .Add) (Al X.K):=by
 refine(gH'.or (hx'.or Gu)).imp λx y H Q h=>?_;unfold Al at h;split at h
 ·exact .inl ⟨_,_,rfl,rfl,h⟩
 ·exact .inr (.inl ⟨_,_,rfl,rfl,h.1,h.2⟩)
 ·obtain⟨xs,zs,h1,h2,h3,h4⟩:=h;exact .inr (.inr ⟨_,_,xs,zs,rfl,rfl,h1,h2,h3,h4⟩)
 ·exact h.elim
def Eg:R2:=λx y H Q=>match x,y with
 |.int i,.int j=>Q (.int (i-j)) H
 |_,_=>False
def G7:eP X (qA .Sub) Eg:=gI'.imp λx y H Q h=>by
 unfold Eg at h;split at h
 ·exact⟨_,_,rfl,rfl,h⟩
 ·exact h.elim
def Gf:R2:=λx y H Q=>match x,y with
 |.int i,.int j=>HL i j/\Q (.int (i*j)) H
 |_,_=>False
def GC:eP X (qA .Mult) Gf:=gJ'.imp λx y H Q h=>by
 unfold Gf at h;split at h
 ·exact⟨_,_,rfl,rfl,h.1,h.2⟩
 ·exact h.elim
def Fo:R2:=λx y H Q=>match x,y with
 |.int i,.int j=>(0<j/\j<1073741824)/\Q (.int (i / j)) H
 |_,_=>False
def G5:eP X (qA .FloorDiv) Fo:=gK'.imp λx y H Q h=>by
 unfold Fo at h;split at h
 ·exact⟨_,_,rfl,rfl,h.1,h.2⟩
 ·exact h.elim
def F_:R2:=λx y H Q=>match x,y with
 |.int i,.int j=>0<j/\Q (.int (i % j)) H
 |_,_=>False
def Eu:eP X (qA .Mod) F_:=gL'.imp λx y H Q h=>by
 unfold F_ at h;split at h
 ·exact⟨_,_,rfl,rfl,h.1,h.2⟩
 ·exact h.elim
def xk(x y:Str):Bool:=decide (x.cps.toList<y.cps.toList)
def ZD:R2:=λx y H Q=>match x,y with
 |.int i,.int j=>Q (.bl (decide (i<j))) H
 |.str i,.str j=>Q (.bl (xk i j)) H
 |_,_=>False
def qL:eP X (i7 .Lt) ZD:=(gS'.or gV').imp λx y H Q h=>by
 unfold ZD at h;split at h
 ·exact .inl ⟨_,_,rfl,rfl,h⟩
 ·exact .inr ⟨_,_,rfl,rfl,h⟩
 ·exact h.elim
def wZ:eP X (i7 .LtE) (λx y H Q=>∃ i j,x=.str i/\y=.str j/\Q (.bl (!xk j i)) H):=by intro pins s σ H x y v u Q I rx ry h;obtain⟨i,j,rfl,rfl,q⟩:=h;obtain⟨t,rfl⟩:=rx;obtain⟨t',rfl⟩:=ry;exact PySem.P.le_str ⟨.bl _,H,I,rfl,q⟩
def ZE:R2:=λx y H Q=>match x,y with
 |.int i,.int j=>Q (.bl (decide (i<=j))) H
 |.str i,.str j=>Q (.bl (!xk j i)) H
 |_,_=>False
def ir:eP X (i7 .LtE) ZE:=(gT'.or wZ).imp λx y H Q h=>by
 unfold ZE at h;split at h
 ·exact .inl ⟨_,_,rfl,rfl,h⟩
 ·exact .inr ⟨_,_,rfl,rfl,h⟩
 ·exact h.elim
def ZF:R2:=λx y H Q=>match x,y with
 |.int i,.int j=>Q (.bl (decide (j<i))) H
 |_,_=>False
def qg:eP X (i7 .Gt) ZF:=gU'.imp λx y H Q h=>by
 unfold ZF at h;split at h
 ·exact⟨_,_,rfl,rfl,h⟩
 ·exact h.elim
def Inv.rd(I:Inv X pins σ H s)(e:Rd H a u):kP X.prog X.w H s.heap a u:=e.elim (I.bX a _) λ⟨o,e⟩=>(I.bX a _ e).2
def Vd(K:aI):List V->Hp->VK->Prop:=λxs H Q=>match xs with
 |[.str y]=>y.length<=bS/\Q (.int y.length) H
 |[.ref p]=>(∃ ys,fE K H p ys/\Q (.int ys.length) H)\/(∃ ys,kQ K H p ys/\Q (.int ys.length) H)\/∃ ae,Rd H p (.dK ae)/\Q (.int ae.length) H
 |_=>False
def zR:lS X (.builtin "len") (Vd X.K):=by
 walk_at"f";unfold Vd at h;split at h
 ·exact UL pins s σ H _ us Q I r ⟨_,_,rfl,⟨h.1,rfl⟩,h.2⟩
 ·rcases h with⟨ys,h1,h2⟩|⟨ys,h1,h2⟩|⟨ae,h1,h2⟩
  ·exact UL pins s σ H _ us Q I r ⟨_,_,rfl,.inl ⟨ys,h1,rfl⟩,h2⟩
  ·exact UL pins s σ H _ us Q I r ⟨_,_,rfl,.inr ⟨ys,h1,rfl⟩,h2⟩
  ·obtain⟨u,rfl,ru⟩:=vals1 r;cases ru;exact iX' I h1 λt s' I'=>⟨.int ae.length,H,I',⟨t,rfl⟩,h2⟩
 ·exact h.elim
def Ve(K:aI):R2:=λx y H Q=>match x,y with
 |.ref p,.int i=>(∃ xs v,fE K H p xs/\fF xs i=some v/\Q v H)\/∃ xs v,kQ K H p xs/\fF xs i=some v/\Q v H
 |.str z,.int i=>z.length<=bS/\∃ c,fF z.cps.toList i=some c/\Q (.str ⟨#[c]⟩) H
 |_,_=>False
def Ds:zi X (Ve X.K):=by
 intro value slice pins s σ H x y v u Q I rx ry h hs;refine iE' value slice pins s σ H x y v u Q I rx ry ?_ hs;unfold Ve at h;split at h
 ·rcases h with⟨xs,w,h1,h2,h3⟩|⟨xs,w,h1,h2,h3⟩
  ·exact .inl ⟨_,xs,_,w,rfl,rfl,h1,h2,h3⟩
  ·exact .inr (.inl ⟨_,xs,_,w,rfl,rfl,h1,h2,h3⟩)
 ·obtain⟨h1,c,h2,h3⟩:=h;exact .inr (.inr ⟨_,_,c,rfl,rfl,h1,h2,h3⟩)
 ·exact h.elim
def oq(z:Str)(lo hi:Option Int):Str:=⟨((z.cps.toList.drop (HT.dz z.length 0 lo)).take (HT.dz z.length z.length hi-HT.dz z.length 0 lo)).toArray⟩
end
def yr(l:List Nat)(lo hi:Option Int)(h:((l.drop (HT.dz l.length 0 lo)).take (HT.dz l.length l.length hi-HT.dz l.length 0 lo)).length=l.length) : (l.drop (HT.dz l.length 0 lo)).take (HT.dz l.length l.length hi-HT.dz l.length 0 lo)=l:=by
 generalize HT.dz l.length 0 lo=a at *
 by_cases hl:l.length=0
 ·have:l=[]:=Rq.mp hl;subst this;simp
 ·rw[nV,GW] at h;have h1:a=0:=by lia
  subst h1;rw[List.drop_zero];exact OQ (by lia)
def z_(lo hi:Option Int)(n:Nat):Builtin.Str.strSliceIndices lo hi 1 n=(List.range (HT.dz n n hi-HT.dz n 0 lo)).map (HT.dz n 0 lo + ·):=by
 have e1:(match lo with|none=>0|some i=>max 0 (min (if i<0 then i+n else i) n))=((HT.dz n 0 lo:Nat):Int):=by
  cases lo with
  |none=>simp[HT.dz]
  |some i =>
   simp only[HT.dz];by_cases h:i<0
   ·simp only[h,if_true]<;>lia
   ·simp only[h,if_false]<;>lia
 have e2:(match hi with|none=>n|some i=>max 0 (min (if i<0 then i+n else i) n))=((HT.dz n n hi:Nat):Int):=by
  cases hi with
  |none=>simp[HT.dz]
  |some i =>
   simp only[HT.dz];by_cases h:i<0
   ·simp only[h,if_true]<;>lia
   ·simp only[h,if_false]<;>lia
 rw[<- sliceRange_one,<- e1,<- e2];cases lo<;>cases hi<;>rfl
section
variable {X:Cx}
def part_of(h:IsPart v o):∃ p:Option (Int × Tok),v=partValue p/\p.map (·.1)=o:=by
 cases h with
 |none=>exact⟨none,rfl,rfl⟩
 |int i t=>exact⟨some (i,t),rfl,rfl⟩
def ZG(K:aI):V->Option Int->Option Int->Hp->VK->Prop:=λx lo hi H Q=>match x with
 |.str z=>z.length<=bS/\Q (.str (oq z lo hi)) H
 |.ref a=>∃ xs,fE K H a xs/\∀ p,H p=none->Q (.ref p) (upd H p (.lst (LZ xs lo hi)))
 |_=>False
def Ji:PK X (λx lo hi H Q=>∃ z,x=.str z/\z.length<=bS/\Q (.str (oq z lo hi)) H):=by
 intro pins s σ H x v vl vu lo hi sl Q I rx hs pl pu h;obtain⟨z,rfl,hz,q⟩:=h;obtain⟨t,rfl⟩:=rx;obtain⟨p1,rfl,e1⟩:=part_of pl;obtain⟨p2,rfl,e2⟩:=part_of pu;refine⟨"str",_,F.slot_str_getitem.lookup,typeIs_str s z t,wpAny_getItem_str_slice (st:=none) hs rfl ?_⟩;have hl:z.cps.toList.length=z.length:=by simp[Str.length]
 have ep:slicePicked z p1 p2 none=(List.range (HT.dz z.length z.length hi-HT.dz z.length 0 lo)).map (HT.dz z.length 0 lo + ·):=by unfold slicePicked;rw[e1,e2];exact z_ lo hi z.length
 have ef:(slicePicked z p1 p2 none).filterMap (z.cps[·]?)=(z.cps.toList.drop (HT.dz z.length 0 lo)).take (HT.dz z.length z.length hi-HT.dz z.length 0 lo):=by rw[ep];exact pick_run z.cps _ _
 unfold sliceMade;split
 ·rename_i hc;have hw:(slicePicked z p1 p2 none).length=z.length:=by simpa using hc
  have:oq z lo hi=z:=by
   unfold oq;have e3:((z.cps.toList.drop (HT.dz z.cps.toList.length 0 lo)).take (HT.dz z.cps.toList.length z.cps.toList.length hi-HT.dz z.cps.toList.length 0 lo)).length=z.cps.toList.length:=by
    rw[hl,nV,GW,hl];rw[ep,dc,Ry] at hw;have h1:HT.dz z.length z.length hi<=z.length:=by
     cases hi with
     |none=>simp[HT.dz]
     |some i=>simp only[HT.dz];split<;>lia
    lia
   have:=yr z.cps.toList lo hi e3;rw[hl] at this;rw[this]
  rw[this] at q;exact⟨.str z,H,I,⟨t,rfl⟩,q⟩
 ·rw[ef];exact⟨by
   show(oq z lo hi).length<=bS;unfold oq Str.length;simp only[jI,nV,GW,hl];lia,⟨.str (oq z lo hi),H,I.tok _,⟨_,rfl⟩,q⟩⟩
def Jc:PK X (ZG X.K):=by
 intro pins s σ H x v vl vu lo hi sl Q I rx hs pl pu h;unfold ZG at h;split at h
 ·exact Ji pins s σ H _ v vl vu lo hi sl Q I rx hs pl pu ⟨_,rfl,h.1,h.2⟩
 ·obtain⟨xs,h1,h2⟩:=h;exact iI' pins s σ H _ v vl vu lo hi sl Q I rx hs pl pu ⟨_,xs,rfl,h1,h2⟩
 ·exact h.elim
def Sx(z:Str):It:=⟨λi _=>i<z.cps.size,λi H x H'=>H'=H/\∃ c,z.cps[i]? = some c/\x=.str ⟨#[c]⟩,λi _=>z.cps.size<=i⟩
def uh {P:cv} {K:aI} (HP:ty = "str_ascii_iterator"\/ty = "str_iterator") :
  Turn P w K tg (Sx z) [it] it (λi h=>h.IsStrIter it ty z t i/\i<=z.cps.size) where
 mem:=by simp
 obj:=λi h st b hb=>by
  have e:b=it:=by simpa using hb
  subst e;obtain⟨⟨o,e,c,d⟩,_⟩:=st;exact⟨o,e,λv z=>by rw[d] at z;cases z⟩
 keep:=λi h h' st k=>let ⟨⟨o,e,c,d⟩,l⟩:=st;⟨⟨o,k it (by simp) o e,c,d⟩,l⟩
 item:=by
  intro X hP hw hK hc i pins s σ H E I hf st hg;subst hP hw hK;obtain⟨f0,f1,f2,f3,f4,f5⟩:=hf it (by simp);obtain⟨st,_⟩:=st;have hg:i<z.cps.size:=hg;have W:Walks X.prog X.w X.A it [it] [it] z.cps.size (SignAt z) (λi h=>h.IsStrIter it ty z t i):=by
   rcases HP with rfl|rfl
   ·exact Walks.strAscii (I.ok.hd hc) it z t
   ·exact Walks.strWide (I.ok.hd hc) it z t
  refine W.item i s _ _ hg st λv h' tk hv aw kk=>?_;obtain⟨c,u,ec,rfl⟩:=hv;have I1:Inv X pins σ H { s with heap:=h',toks:=tk }:=I.turned (λb o hb e=>kk b o (by simpa using hb) e) f0 f1 f3 f4 f5;obtain⟨o,e,c',d⟩:=id aw;exact⟨_,rfl,R7 (s:={ s with heap:=h',toks:=tk }) e c' d (by rcases HP with rfl|rfl<;>decide) ⟨.str ⟨#[c]⟩,H,I1,⟨u,rfl⟩,⟨rfl,c,ec,rfl⟩,⟨aw,hg⟩,λb hb=>(hf b hb).1⟩⟩
 done:=by
  intro X hP hw hK hc i pins s σ H E I hf st hg;subst hP hw hK;obtain⟨f0,f1,f2,f3,f4,f5⟩:=hf it (by simp);obtain⟨st,hle⟩:=st;have hg:z.cps.size<=i:=hg;have e:i=z.cps.size:=Nat.le_antisymm hle hg;subst e;have W:Walks X.prog X.w X.A it [it] [it] z.cps.size (SignAt z) (λi h=>h.IsStrIter it ty z t i):=by
   rcases HP with rfl|rfl
   ·exact Walks.strAscii (I.ok.hd hc) it z t
   ·exact Walks.strWide (I.ok.hd hc) it z t
  exact W.done s _ _ st λh' tk kk=>⟨rfl,I.turned (λb o hb e=>kk b o (by simpa using hb) e) f0 f1 f3 f4 f5⟩
 self:=λA i s Q E st h=>by
  rcases HP with rfl|rfl
  ·exact wpAny_pyIter_striter_ascii st.1 h
  ·exact wpAny_pyIter_striter_wide st.1 h
def Jf(hl:PE X l tl):PI X tg l (λσ H R=>tl σ H λx H1=>∃ z,x=.str z/\R (Sx z) H1):=by
 intro pins s σ H R I h;refine cy (hl pins s σ H _ I h) λv s1 cq=>L2.eW cq λx H1 I1 r1 q1=>?_;obtain⟨z,rfl,q⟩:=q1;obtain⟨t,rfl⟩:=r1;have fp:∀ b∈[s1.heap.objs.size],y8 X pins H1 b:=λb hb=>by
  have e:b=s1.heap.objs.size:=by simpa using hb
  subst e;exact I1.LD (de _) (I1.bX.fresh (de _))
 cases ha:z.cps.all (· < 128)
 ·exact wpAny_pyIter_wide ha ⟨s1.heap.objs.size,[s1.heap.objs.size],_,_,H1,rfl,I1.kept λb o e=>eM _ e,uh (.inr rfl),⟨⟨_,i9 _ rfl,rfl,rfl⟩,fR _⟩,fp,q⟩
 ·exact wpAny_pyIter_ascii ha ⟨s1.heap.objs.size,[s1.heap.objs.size],_,_,H1,rfl,I1.kept λb o e=>eM _ e,uh (.inl rfl),⟨⟨_,i9 _ rfl,rfl,rfl⟩,fR _⟩,fp,q⟩
end
structure fD(J:It)(its:List V)(cond:Hp->Prop):Prop where
 go:∀ i H,cond H->i<its.length->J.go i H
 pT:∀ i H x H',cond H->i<its.length->J.pT i H x H'->H'=H/\its[i]? = some x
 stop:∀ H,cond H->J.stop its.length H
def Vf(z:Str):List V:=z.cps.toList.map λc=>.str ⟨#[c]⟩
def Fy(z:Str):fD (Sx z) (Vf z) (λ_=>True) where
 go:=λi H _ h=>by simpa[Vf,Sx] using h
 pT:=λi H x H' _ _ h=>by obtain⟨rfl,c,e,rfl⟩:=h;refine⟨rfl,?_⟩;unfold Vf;rw[ku,tj,e];rfl
 stop:=λH _=>by simp[Vf,Sx]
def Bd(K:aI)(a:ah)(xs:List V):fD (UG K a) xs (λH=>fE K H a xs) where
 go:=λi H h hi=>⟨xs,xs[i],h,by simp[hi]⟩
 pT:=λi H x H' h _ y=>⟨y.1,y.2 xs h⟩
 stop:=λH h=>⟨xs,h,de _⟩
def xj(K:aI)(a:ah)(xs:List V):fD (W5 K a) xs (λH=>kQ K H a xs) where
 go:=λi H h hi=>⟨xs,xs[i],h,by simp[hi]⟩
 pT:=λi H x H' h _ y=>⟨y.1,y.2 xs h⟩
 stop:=λH h=>⟨xs,h,de _⟩
def yg(lo:Int)(n:Nat):List V:=(List.range n).map λi=>.int (lo+(i:Nat))
def zN(lo:Int)(n:Nat):fD (LG lo n) (yg lo n) (λ_=>True) where
 go:=λi H _ h=>by simpa[yg,LG] using h
 pT:=λi H x H' _ hi h=>by
  have hi:i<n:=by simpa[yg] using hi
  obtain⟨rfl,rfl⟩:=h;refine⟨rfl,?_⟩;simp[yg,hi]
 stop:=λH _=>by simp[yg,LG]
mutual
inductive Rep(K:aI)(H:Hp):PyData->V->Prop
 |none:Rep K H .none .non
 |bool (b:Bool):Rep K H (.bool b) (.bl b)
 |int (i:Int):Rep K H (.int i) (.int i)
 |str (x:Str):Rep K H (.str x) (.str x)
 |list {a:ah} {vs:List V} {ds:List PyData}:fE K H a vs->ck K H ds vs->Rep K H (.list ds) (.ref a)
 |tuple {a:ah} {vs:List V} {ds:List PyData}:kQ K H a vs->ck K H ds vs->Rep K H (.tuple ds) (.ref a)
inductive ck(K:aI)(H:Hp):List PyData->List V->Prop
 |nil:ck K H [] []
 |cons {d:PyData} {v:V} {ds:List PyData} {vs:List V}:Rep K H d v->ck K H ds vs->ck K H (d :: ds) (v :: vs)
end
section
variable {X:Cx}{pins:List (ah × Obj)}{σ:St}{H:Hp}{s:ay}
mutual
theorem Rep.reads(I:Inv X pins σ H s):∀ {d:PyData} {v:V} {u:ag},Rep X.K H d v->RelV v u->∃ as,Reads s.heap u d as
 |_,_,_,.none,r=>by cases (r);exact⟨_,.none⟩
 |_,_,_,.bool b,r=>by cases (r);exact⟨_,.bool b⟩
 |_,_,_,.int i,r=>by obtain⟨t,e⟩:=r;subst e;exact⟨_,.int i t⟩
 |_,_,_,.str x,r=>by obtain⟨t,e⟩:=r;subst e;exact⟨_,.str x t⟩
 |_,_,_,.list h hs,r=>by cases r;obtain⟨its,rv,pl,_⟩:=I.list h;obtain⟨o,e,c,n,d⟩:=pl.isList;obtain⟨as,q⟩:=ck.reads I hs rv;exact⟨_,.list e c d q⟩
 |_,_,_,.tuple h hs,r=>by cases r;obtain⟨its,rv,⟨o,e,c,n,d⟩,_⟩:=I.tuple h;obtain⟨as,q⟩:=ck.reads I hs rv;exact⟨_,.tuple e c d q⟩
theorem ck.reads(I:Inv X pins σ H s):∀ {ds:List PyData} {vs:List V} {us:List ag},ck X.K H ds vs->Vals vs us->∃ as,ReadsAll s.heap us ds as
 |_,_,_,.nil,.nil=>⟨_,.nil⟩
 |_,_,_,.cons h hs,.cons r rs=>by obtain⟨as,q⟩:=Rep.reads I h r;obtain⟨bs,q'⟩:=ck.reads I hs rs;exact⟨_,.cons q q'⟩
end
def ZH(K:aI):R2:=λx y H Q=>∃ d e,Rep K H d x/\Rep K H e y/\d.canLay0=true/\e.canLay0=true/\d.depth<=60/\Q (.bl (PyData.eqv d e)) H
def ZI(K:aI):R2:=λx y H Q=>∃ d e,Rep K H d x/\Rep K H e y/\d.canLay0=true/\e.canLay0=true/\d.depth<=60/\Q (.bl (!PyData.eqv d e)) H
def Jz(hu:X.A.units+64<gv):eP X (i7 .Eq) (ZH X.K):=by intro pins s σ H x y v u Q I rx ry h;obtain⟨d,e,h1,h2,h3,h4,h5,q⟩:=h;obtain⟨as,r1⟩:=h1.reads I rx;obtain⟨bs,r2⟩:=h2.reads I ry;exact PySem.SeqAt.rcAt_reads r1 r2 h3 h4 (by lia) X.prog X.w X.xe _ ⟨.bl _,H,I,rfl,q⟩
def Je(hu:X.A.units+64<gv):eP X (i7 .NotEq) (ZI X.K):=by intro pins s σ H x y v u Q I rx ry h;obtain⟨d,e,h1,h2,h3,h4,h5,q⟩:=h;obtain⟨as,r1⟩:=h1.reads I rx;obtain⟨bs,r2⟩:=h2.reads I ry;exact PySem.SeqAt.rcNeAt_reads r1 r2 h3 h4 (by lia) X.prog X.w X.xe _ ⟨.bl _,H,I,rfl,q⟩
def Vg(K:aI):R2:=λx y H Q=>match x,y with
 |.int i,.int j=>Q (.bl (decide (i=j))) H
 |.str i,.str j=>Q (.bl (decide (i=j))) H
 |.bl i,.bl j=>Q (.bl (decide (i=j))) H
 |_,_=>ZH K x y H Q
def Kr(hu:X.A.units+64<gv):eP X (i7 .Eq) (Vg X.K):=(gQ'.or (Jz hu)).imp λx y H Q h=>by
 unfold Vg at h;split at h
 ·refine .inl ⟨rfl,?_⟩;simpa using h
 ·refine .inl ⟨rfl,?_⟩;simpa using h
 ·refine .inl ⟨rfl,?_⟩;simpa using h
 ·exact .inr h
def Vh(K:aI):R2:=λx y H Q=>match x,y with
 |.int i,.int j=>Q (.bl (!decide (i=j))) H
 |.str i,.str j=>Q (.bl (!decide (i=j))) H
 |.bl i,.bl j=>Q (.bl (!decide (i=j))) H
 |_,_=>ZI K x y H Q
def Jm(hu:X.A.units+64<gv):eP X (i7 .NotEq) (Vh X.K):=(gR'.or (Je hu)).imp λx y H Q h=>by
 unfold Vh at h;split at h
 ·refine .inl ⟨rfl,?_⟩;simpa using h
 ·refine .inl ⟨rfl,?_⟩;simpa using h
 ·refine .inl ⟨rfl,?_⟩;simpa using h
 ·exact .inr h
def Vi(K:aI):List V->Hp->VK->Prop:=λxs H Q=>match xs with
 |[.ref a]=>∃ bs:List Bool,fE K H a (bs.map V.bl)/\Q (.bl (bs.all id)) H
 |_=>False
def wW (hc:X.calm=true):lS X (.builtin "all") (Vi X.K):=by
 walk_at"f";unfold Vi at h;split at h
 ·rename_i a;obtain⟨bs,e,q⟩:=h;obtain⟨u,rfl,ru⟩:=Vals.one r;cases ru;obtain⟨its,rv,pl,hz⟩:=I.list e;have hl:s.heap.IsList a its.toArray:=pl.isList;obtain⟨o,ho,Pp,n,FH⟩:=id hl;have hlen:=rv.length;rw[dc] at hlen;refine call_all_walk (wpAny_pyIter_list hl ?_);have i6:a≠s.heap.objs.size:=gu (eT ho);have P2:X.A.in1.handled=none:=I.ok.hd hc;refine⟨s.heap.objs.size,_,_,_,_,_,λi=>bs.getD i true,rfl,Walks.list P2 s.heap.objs.size a i6 its.toArray,⟨⟨_,i9 _ rfl,rfl,rfl⟩,⟨_,eM _ ho,Pp,n,FH⟩⟩,?_,λh' tk hk=>?_⟩
  ·intro i v s' Q' E' hv hq;have y9:its[i]? = some v:=by simpa using hv
   have hi:i<bs.length:=by have:=(kM.mp y9).1;lia
   obtain⟨w',e1,r1⟩:=rv.get (i:=i) (x:=V.bl bs[i]) (by simp[hi]);rw[y9] at e1;cases e1;cases (r1);have e2:bs.getD i true=bs[i]:=by simp[List.getD,hi]
   have hq:Q' (bs.getD i true) s':=hq;rw[e2] at hq;exact AJ hq
  ·have e3:((List.range its.toArray.size).all λi=>bs.getD i true)=bs.all id:=by
    rw[jI,<- hlen];apply y1.mpr;simp only[CY,wo,id];constructor
    ·intro h b hb;obtain⟨i,hi,rfl⟩:=List.mem_iff_getElem.mp hb;have:=h i hi;simpa[List.getD,hi] using this
    ·intro h i hi;have:=h bs[i] (Ud hi);simpa[List.getD,hi] using this
   rw[e3];exact⟨.bl (bs.all id),H,I.kept λb o e=>hk b o (by simp;exact gu (eT e)) (eM _ e),rfl,q⟩
 ·exact h.elim
end
end L2
namespace L2
section
variable {X:Cx}{pins:List (ah × Obj)}{σ:St}{H:Hp}{s:ay}{h':dr}
def Inv.M6{t':Nat}{fp:List ah}(I:Inv X pins σ H s)(hf:∀ b∈fp,y8 X pins H b)(k:∀ b o,b∉fp->s.heap.get? b=some o->h'.get? b=some o):Inv X pins σ H { s with heap:=h',toks:=t' }:=by
 have HG:∀ b u,H b=some u->b∉fp:=λb u e z=>by rw[(hf b z).1] at e;cases e
 refine I.step (λb hb=>?_) (λb o _ _ hc e _=>k b o hc e) (λb o _ _ hc e _=>⟨o.slots,k b o hc e⟩) (λ_ _ _ _ n=>n) (λb o hc e=>⟨o,k b o hc e⟩) (λ_ _ e=>e) (λ_ _ _ e=>e) (λb ps e=>⟨#[],by rw[e];simp⟩) (λm hm=>?_) (λb u e=>?_) I.bare
 ·obtain⟨f0,f1,f2,f3,f4,f5⟩:=hf b hb;exact⟨f3,f1,f4,f5⟩
 ·obtain⟨o,es,ep,ho,r⟩:=hm;exact⟨o,es,ep,k _ o (λz=>(hf _ z).2.1 rfl) ho,r⟩
 ·refine(I.bX b u e).fA (λc v hc q=>k c v ?_ q) (λ_ q=>q) λ_ _ q=>q;rcases hc with z|z
  ·rw[z];exact HG b u e
  ·exact HG c _ z
def Inv.jU'{t':Nat}{fp:List ah}{p:ah}{xs:List V}(I:Inv X pins σ H s)(hf:∀ b∈fp,y8 X pins H b)(k:∀ b o,b∉fp->s.heap.get? b=some o->h'.get? b=some o)(hp:s.heap.objs.size<=p)(new:kP X.prog X.w (upd H p (.tup xs)) h' p (.tup xs)):Inv X pins σ (upd H p (.tup xs)) { s with heap:=h',toks:=t' }:=by
 have hn:=I.bX.fresh hp;have HG:∀ b u,H b=some u->b∉fp:=λb u e z=>by rw[(hf b z).1] at e;cases e
 have lt:∀ b o,s.heap.get? b=some o->b≠p:=λb o e=>gu (pE (eT e) hp);refine I.step (λb hb=>?_) (λb o _ _ hc e _=>k b o hc e) (λb o _ _ hc e _=>⟨o.slots,k b o hc e⟩) (λb o _ e n=>by rw[dP (lt b o e)];exact n) (λb o hc e=>⟨o,k b o hc e⟩) (λ_ _ e=>by rw[dP (y4 e hn)];exact e) (λ_ _ _ e=>by rw[dP (y4 e hn)];exact e) (λb ps e=>⟨#[],by rw[dP (y4 e hn),e];simp⟩) (λm hm=>?_) (λb u e=>?_) I.bare
 ·obtain⟨f0,f1,f2,f3,f4,f5⟩:=hf b hb;exact⟨f3,f1,f4,f5⟩
 ·obtain⟨o,es,ep,ho,r⟩:=hm;exact⟨o,es,ep,k _ o (λz=>(hf _ z).2.1 rfl) ho,r⟩
 ·by_cases hb:b=p
  ·subst hb;rw[fq] at e;cases e;exact new
  ·rw[dP hb] at e;refine(I.bX b u e).fA (λc v hc q=>k c v ?_ q) (λc q=>by rw[dP (y4 q hn)];exact q) λc xs q=>by rw[dP (y4 q hn)];exact q
   rcases hc with z|z
   ·rw[z];exact HG b u e
   ·exact HG c _ z
end
def ZJ(K:aI)(a:ah):It :=
 ⟨λi H=>∃ xs x,fE K H a xs/\xs[i]? = some x,λi H x H'=>∃ p v,x=.ref p/\H p=none/\H'=upd H p (.tup [.int i,v])/\∀ xs,fE K H a xs->xs[i]? = some v,λi H=>∃ xs,fE K H a xs/\xs.length<=i⟩
def Di:(2:Nat)<=bS:=by rw[kB];decide
def yx{P:cv}{w:cK}{K:aI}{elts:List Expr}{k:Nat}{pos:Pos}(a e it:ah)(ZK:e≠it):Turn P w K (.Tuple elts k pos) (ZJ K a) [e,it] e (λi h=>(∃ old,IsEnum h e it i old)/\h.IsListIter it a i) where
 mem:=by simp
 obj:=λi h ⟨⟨old,he⟩,st⟩ b hb=>by
  rcases fm.mp hb with rfl|hb
  ·exact⟨_,he,λv z=>nomatch z⟩
  ·have e:b=it:=by simpa using hb
   subst e;obtain⟨o,e,c,d⟩:=st;exact⟨o,e,λv z=>by rw[d] at z;cases z⟩
 keep:=λi h h' ⟨⟨old,he⟩,st⟩ k=>⟨⟨old,k e (by simp) _ he⟩,st.at λo e=>k it (by simp) o e⟩
 item:=by
  intro X hP hw hK hc i pins s σ H E I hf st hg;subst hP hw hK;obtain⟨xs,x,hq,hx⟩:=hg;obtain⟨its,rv,p,hz⟩:=I.list hq;obtain⟨u,hu,ru⟩:=rv.get hx;obtain⟨⟨old,he⟩,hit⟩:=st;refine wpAny_pyNext_enum_item he hit p.isList (x:=u) (by simpa using hu) ZK λh1 ho jV' hT hJ hk=>⟨_,rfl,?_⟩
  refine wpAny_letOwnedTupleGo_enum (s:={ s with heap:=h1,toks:=s.toks+1 }) ho λh2 MA kF=>?_;have ke:∀ b o,b∉[e,it]->s.heap.get? b=some o->h2.get? b=some o:=λb o hb q=>(kF.2 b λz=>hb (by simp[z])).trans (hk b o (λz=>hb (by simp[z])) (λz=>hb (by simp[z])) q);have eR:e<s.heap.objs.size:=eT he;have hT2:h2.get? s.heap.objs.size=some { cls:=.type "tuple",data:=.seq #[.int i s.toks,u] }:=(kF.2 _ (OW eR)).trans hT;have I1:Inv X pins σ (upd H s.heap.objs.size (.tup [.int i,x])) { s with heap:=h2,toks:=s.toks+1 } :=
   I.jU' hf ke (de _) ⟨Di,[.int i s.toks,u],.cons ⟨s.toks,rfl⟩ (.cons ru .nil),_,hT2,rfl,_,rfl⟩
  refine⟨.ref s.heap.objs.size,_,I1,rfl,⟨_,x,rfl,I.fresh,rfl,λys hy=>by rw[I.bt' hy hq];exact hx⟩,⟨⟨u,by simpa using MA⟩,jV'.at λo q=>(kF.2 it ZK.symm).trans q⟩,λb hb=>?_⟩;rw[dP]
  ·exact(hf b hb).1
  ·rcases fm.mp hb with rfl|hb
   ·exact gu eR
   ·have e:b=it:=by simpa using hb
    subst e;obtain⟨o,q,_⟩:=hit;exact gu (eT q)
 done:=by intro X hP hw hK hc i pins s σ H E I hf st hg;subst hP hw hK;obtain⟨xs,hq,hx⟩:=hg;obtain⟨its,rv,p,hz⟩:=I.list hq;obtain⟨⟨old,he⟩,hit⟩:=st;have hl:=rv.length;exact wpAny_pyNext_enum_end (I.ok.hd hc) he hit p.isList (by simp;lia) λh' eb=>⟨rfl,I.M6 (t':=s.toks) hf λb o hb q=>eb b o (λz=>hb (by simp[z])) q⟩
 self:=λ_ _ _ _ _ ⟨⟨old,he⟩,_⟩ h=>wpAny_pyIter_enum he h
def Jr(h:b∈[n+1,n]):n<=b:=by simp at h;lia
section
variable {X:Cx}
def K3(K:aI)(ta:TA):TI:=λσ H R=>ta σ H λvs H1=>∃ a,vs=[.ref a]/\(∃ xs,fE K H1 a xs)/\R (ZJ K a) H1
def Hj (hg:Gl X "enumerate") (hm:X.mg "enumerate" = none) (ha:PA X [a] ta) (hs:autoParam (bT [a] X.env=[(false,cp a X.env)]) bv) :
  PI X (.Tuple elts k tp) (.Call (.Name "enumerate" p) [a] [] pos) (K3 X.K ta):=by
 intro pins s σ H R I h;refine Call_ (DM I hg hm boot_enumerate (PyProof.Rows.callWith_type1 (cy (ha pos pins s σ H _ I h) λus s1 cq=>L2.eW cq λvs H1 I1 r1 q1=>?_) hs rfl));obtain⟨l,e,⟨xs,hq⟩,q⟩:=q1;subst e
 cases r1 with
 |cons r rr =>cases rr;cases r;obtain⟨its,rv,pl,hz⟩:=I1.list hq;refine call_enumerate_list pl.isList λh2 he hit hJ hk=>?_;refine wpAny_pyIter_enum he ?_;refine⟨s1.heap.objs.size+1,[s1.heap.objs.size+1,s1.heap.objs.size],_,_,H1,rfl,I1.kept hk,yx l _ _ (Nat.succ_ne_self _),⟨⟨_,he⟩,hit⟩,λb hb=>?_,q⟩;have e:s1.heap.objs.size<=b:=Jr hb;exact I1.LD e (I1.bX.fresh e)
end
def Vj(sc:Scope)(names:List (Str × BH)):List (Str × BH):=names.map λy=>if (y.2 == NameKind.free && sc.kind == .function && sc.names.lookup y.1 == some .cell)=true then (y.1,NameKind.cell) else (y.1,y.2)
def Sy(o:Option BH):Bool:=o == some .cell || o == some .free
def Er(sc scope:Scope)(N cn:List Str)(ix:List Nat):Bool :=
 scope.kind == .function && scope.names.all (λy=>y.2 != .cell) && scope.names.all (λy=>y.2 != .free || Sy (sc.names.lookup y.1)) && scope.names.all (λy=>y.2 != .local || scope.names.lookup y.1 == some .local) &&
 ix.length == cn.length && (List.range ix.length).all (λk=>match ix[k]?,cn[k]? with
  |some j,some y=>N[j]? == some y && Sy (sc.names.lookup y) && scope.names.contains (y,NameKind.free) && Sy ((Vj sc scope.names).lookup y)
  |_,_=>false) &&
 (Vj sc scope.names).all (λy=>!(y.2 == .cell || y.2 == .free) || scope.names.contains (y.1,NameKind.free))
def qZ(h:Sy o=true):o=some .cell\/o=some .free:=by unfold Sy at h;simpa using h
def iw.of{X:Cx}(FI:X.env.scope=sc)(hN:X.N=N)(h:Er sc scope N cn ix=true):iw X scope tn cn ix:=by
 unfold Er at h;simp only[mS] at h;obtain⟨⟨⟨⟨⟨⟨h1,h2⟩,h3⟩,h4⟩,h5⟩,h6⟩,h7⟩:=h;rw[CY] at h2 h3 h4 h6 h7;have erl:(relabel scope X.env).names=Vj sc scope.names:=by rw[<- FI];rfl
 refine⟨by simpa using h1,λy hy=>by simpa using h2 y hy,λy hy hk=>?_,λy hy hk=>?_,by simpa using h5,λk j hk=>?_,λx hx=>?_⟩
 ·have:=h3 y hy;rw[hk] at this;rw[FI];exact qZ (by simpa using this)
 ·have:=h4 y hy;rw[hk] at this;simpa using this
 ·have kg:k<ix.length:=(kM.mp hk).1;have:=h6 k (wo.mpr kg);rw[hk] at this
  cases e:cn[k]? with
  |none=>rw[e] at this;cases this
  |some y =>rw[e] at this;simp only[mS] at this;obtain⟨⟨⟨a1,a2⟩,a3⟩,a4⟩:=this;refine⟨y,rfl,by rw[hN];simpa using a1,by rw[FI];exact qZ a2,by simpa using a3,by rw[erl];exact qZ a4⟩
 ·rw[erl] at hx;have mem:∃ k,(x,k)∈Vj sc scope.names/\(k=.cell\/k=.free):=by
   rcases hx with hx|hx
   ·exact⟨_,PySem.mem_of_lookup hx,.inl rfl⟩
   ·exact⟨_,PySem.mem_of_lookup hx,.inr rfl⟩
  obtain⟨k,hm,hk⟩:=mem;have:=h7 _ hm;rcases hk with rfl|rfl<;>simpa using this
def iw.by{X:Cx}(c:X.env.scope=sc/\X.N=N)(h:Er sc scope N cn ix=true):iw X scope tn cn ix:=.of c.1 c.2 h
structure Vk(P:cv)(w:cK)(K:aI)(mg:Str->Option ag)(base:dr)(k:Nat)(x:Str)(ps:List Str)(sp:Sp):Prop where
 ex:∃ (g:ah) (fd:qB),mg x=some (.ref g)/\wd K (.ref g)=true/\Binds K fd ps []/\kS P w K mg base kG k g fd ps sp
section
variable {X:Cx}{k:Nat}{x:Str}{ps:List Str}{sp:Sp}{p pos:Pos}{e:Expr}{es:List Expr}{t:TA}
def IW (C:Vk X.prog X.w X.K X.mg X.base k x ps sp) (hr:hU k X.A) (ha:PA X (e :: es) t) (hg:autoParam (Gl X x) bv) (kf:(x == ("__debug__" : Str))=false:=by decide) (he:autoParam (bT (e :: es) X.env=(false,cp e X.env) :: bT es X.env) bv) (iO:autoParam ((i3 pos (bT es X.env)).any (·.1)=false) bv):PE X (.Call (.Name x p) (e :: es) [] pos) (LV sp [] E0 t):=by
 obtain⟨g,fd,hm,hk,hb,F⟩:=C.ex;exact bW' F hr hg hm hk hb .nil Va ha kf he iO
end
def oC.cal{P:cv}{K:aI}{st:i5}{ps:List Str}(F:oC K x qual st f fd)(hm:mg x=some (.ref f))(G:kS P w K mg base kG k f fd ps sp)(h:∀ (kV doc pm:ag) (an:Option ah) (dE ct:ag) (us:List ag),us.length=ps.length->bindArgs (sf x qual (vj st) (nh st) (fe st) .none kV doc pm an dE ct) ⟨us,[]⟩=pure (ps.zip us)):Vk P w K mg base k x ps sp :=
 ⟨f,fd,hm,F.kp,F.binds h,G⟩
def Vl(mg:Str->Option ag)(x:Str)(z:Str):Prop:=∃ t,mg x=some (.str z t)
def P4(mg:Str->Option ag)(x:Str)(i:Int):Prop:=∃ t,mg x=some (.int i t)
def Mh {X:Cx} (h:Vl X.mg x z) (hg:autoParam (Gl X x) bv) (hd:(x == ("__debug__" : Str))=false:=by decide):PE X (.Name x pos) (tC (.str z)):=by obtain⟨t,e⟩:=h;exact Pt hg e ⟨t,rfl⟩ hd
def Ld {X:Cx} (h:P4 X.mg x i) (hg:autoParam (Gl X x) bv) (hd:(x == ("__debug__" : Str))=false:=by decide):PE X (.Name x pos) (tC (.int i)):=by obtain⟨t,e⟩:=h;exact Pt hg e ⟨t,rfl⟩ hd
def qP:ly "str" = some (.type "str"):=by decide +kernel
def uc:ly "int" = some (.type "int"):=by decide +kernel
def yu:ly "bool" = some (.type "bool"):=by decide +kernel
def jV:ly "list" = some (.type "list"):=by decide +kernel
def fj:ly "tuple" = some (.type "tuple"):=by decide +kernel
def du:ly "isinstance" = some (.builtin "isinstance"):=by decide +kernel
def ym:ly "all" = some (.builtin "all"):=by decide +kernel
def aP:ly "len" = some (.builtin "len"):=by decide +kernel
def fH {X:Cx} {T:String} (hm:X.mg x=none) (hv:ly x=some (.type T)) (hg:autoParam (Gl X x) bv) (hn:x ≠ "__name__" := by decide) (hd:(x == ("__debug__" : Str))=false:=by decide):PE X (.Name x pos) (tC (.ty T)) :=
 fO' hg hm hv rfl hn hd
def D2(i j:Str):Bool:=!(Builtin.Str.occurrences j i 0 j.length 1).isEmpty
def Fp(c:Nat)(j:Str):D2 ⟨#[c]⟩ j=decide (c∈j.cps.toList):=PySem.StrLaws.found_one j c
def Vm(K:aI)(neg:Bool):R2:=λx y H Q=>match x,y with
 |.str i,.str j=>Q (.bl (if neg then !D2 i j else D2 i j)) H
 |_,.ref p=>(∃ o,sA H p x o/\Q (.bl (if neg then !o.isSome else o.isSome)) H)\/UY K neg x y H Q
 |_,_=>False
def JN{X:Cx}(hu:X.A.units+64<gv):eP X (i7 .In) (Vm X.K false):=by
 walk_at"e";unfold Vm at h;split at h
 ·exact gW' pins s σ H _ _ v u Q I rx ry ⟨_,_,rfl,rfl,h⟩
 ·rcases h with⟨o,g,q⟩|h
  ·cases ry;exact iV' (by lia) I g rx λs3 I3=>⟨.bl o.isSome,H,I3,rfl,q⟩
  ·exact iK' pins s σ H _ _ v u Q I rx ry h
 ·exact h.elim
def bI.upd(h:bI H H')(hp:H' p=none):bI H (upd H' p o):=λb u e=>by have e':=h b u e;rw[dP (y4 e' hp)];exact e'
def bI.lst{K:aI}(e:bI H H')(h:fE K H a xs):fE K H' a xs:=e.seq h
def bI.tup{K:aI}(e:bI H H')(h:kQ K H a xs):kQ K H' a xs:=by
 rcases h with(h|⟨o,h⟩)|h
 ·exact .inl (.inl (e _ _ h))
 ·exact .inl (.inr ⟨o,e _ _ h⟩)
 ·exact .inr h
section
variable {X:Cx}{K:aI}
def kIx(hK:autoParam (X.K=K) bv):zi X (Ve K):=by subst hK;exact Ds
def ja(hK:autoParam (X.K=K) bv)(hu:X.A.units+64<gv:=by assumption):eP X (i7 .Eq) (Vg K):=by subst hK;exact Kr hu
def Vn(hK:autoParam (X.K=K) bv)(hu:X.A.units+64<gv:=by assumption):eP X (i7 .NotEq) (Vh K):=by subst hK;exact Jm hu
def hX(hK:autoParam (X.K=K) bv)(hu:X.A.units+64<gv:=by assumption):eP X (i7 .In) (Vm K false):=by subst hK;exact JN hu
def ZL (hc:autoParam (X.calm=true) bv) (hK:autoParam (X.K=K) bv):lS X (.builtin "all") (Vi K):=by subst hK;exact wW hc
end
def PQ{α:Type}{a:α}{p:α->Prop}:(∃ v,a=v/\p v)↔p a:=⟨λ⟨_,e,h⟩=>e ▸ h,λh=>⟨a,rfl,h⟩⟩
abbrev ZM:=Array DictEntry
def yi(h:dr)(d:ah)(es:ZM)(ep:Nat):Prop:=∃ o,h.get? d=some o/\o.ExactDict/\o.data=.dict es ep
def yi.typ {s:ay} {d:ah} {es:ZM} {ep:Nat} (x:yi s.heap d es ep):s.TypeIs (.ref d) "dict" := let ⟨o,e,c,_⟩:=x;⟨o,e,c.1⟩
section
variable {prog:cv}{w:cK}{A:eB}{E:ag->ay->Prop}{s:ay}{d it:ah}{es:ZM}{ep i:Nat}
def Bv{Q:ag->ay->Prop}(lo:(d == qq)=false)(x:yi s.heap d es ep)(q:Q (.ref s.heap.objs.size) { s with heap:=s.heap.push { cls:=.type "dict_keyiterator",data:=.fields #[.ref d,.int 0 0,.int es.size 0,.int ep 0] } }):bE (aT prog w) A (pyIter (.ref d)) Q E s:=by
 obtain⟨o,ho,hc,Vo⟩:=id x;refine wpAny_pyIter_slot x.typ F.slot_dict_iter (EK F.slot_dict_iter x.typ F.entry_dict_iter ?_ (F.args_dict_iter_1 _));refine ax ?_;refine ax (wpAny_notOrdered_dict x.typ ?_);refine(bG ?_);refine(show bE _ _ (Builtin.Dict.showsAll d >>= _) _ _ s from ?_);unfold Builtin.Dict.showsAll;rw[if_neg (by rw[lo];decide)];refine ax (bG (ax (Rk ho Vo (ax (wpAny_dictEpoch ho Vo (ax (sR (bG ⟨_,rfl, "dict_keyiterator",_,⟨_,i9 _ rfl,rfl⟩,F.slot_dict_keyiterator_next.lookup,?_⟩))))))));simpa[oS] using q
def BZ(hit:s.heap.IsKeyIter it d i es.size ep)(x:yi s.heap d es ep)(hx:i<es.size)(q:∀ h',h'.IsKeyIter it d (i+1) es.size ep->Heap.SameBut it s.heap h'->Q (some es[i].key) { s with heap:=h' }):bE (aT prog w) A (pyNext (.ref it)) Q E s:=by
 obtain⟨o,ho,hc,hd⟩:=id hit;obtain⟨od,FH,tF,Sz⟩:=id x;have ty:=hit.typeIs;walk_at"s";refine ax (bG (ax (ax ?_)));first|refine ax (T2 ty (bG ?_))|refine ax (T3 ty (bG ?_))
 refine ax (wpAny_fieldsOf ho hd ?_);refine(show bE _ _ (if (Value.ref d == Value.none)=true then _ else _) _ _ s from ?_);refine ax (bG (ax (Rk FH Sz ?_)));rw[if_neg (by intro h;simp at h)];refine ax (bG (ax (wpAny_dictEpoch FH Sz ?_)));rw[if_neg (by intro h;simp at h)];refine bG ?_;simp only[show ¬ (i<0) by lia,if_false,KG,DE hx];refine ax ?_;first|refine ax (T2 ty (bG ?_))|refine ax (T3 ty (bG ?_))
 refine ax (wpAny_isOneOf_keyiter ty ?_);refine(show bE _ _ (setField (.ref it) 1 (oS (i+1)) >>= _) _ _ s from ax (wpAny_setField ho hd (by simp) ?_));have cN':(s.heap.update it (Obj.mapFields (·.setIfInBounds 1 (oS (i+1))))).IsKeyIter it d (i+1) es.size ep :=
  ⟨_,GY _ ho (Obj.isFreed_of_fields (Obj.data_mapFields hd _)),(Obj.cls_mapFields ..).trans hc,by rw[Obj.data_mapFields hd];simp[oS]⟩
 refine ax (xC (ax (wpAny_isOneOf_keyiter cN'.typeIs ?_)));refine(bG (bG ⟨_,rfl,bG (q _ cN' (Heap.SameBut.update ..))⟩))
def Bw(hh:A.handled=none)(hit:s.heap.IsKeyIter it d es.size es.size ep)(x:yi s.heap d es ep)(q:∀ h',Heap.ExtBut it s.heap h'->Q none { s with heap:=h' }) :
  bE (aT prog w) A (pyNext (.ref it)) Q E s:=by
 obtain⟨o,ho,hc,hd⟩:=id hit;obtain⟨od,FH,tF,Sz⟩:=id x;have ty:=hit.typeIs;walk_at"s";refine ax (bG (ax (ax ?_)));first|refine ax (T2 ty (bG ?_))|refine ax (T3 ty (bG ?_))
 refine ax (wpAny_fieldsOf ho hd ?_);refine(show bE _ _ (if (Value.ref d == Value.none)=true then _ else _) _ _ s from ?_);refine ax (bG (ax (Rk FH Sz ?_)));rw[if_neg (by intro h;simp at h)];refine ax (bG (ax (wpAny_dictEpoch FH Sz ?_)));rw[if_neg (by intro h;simp at h)];refine bG ?_;simp only[show ¬ (es.size<0) by lia,if_false,KG,O0 (de es.size)];refine ax ?_;first|refine ax (T2 ty (bG ?_))|refine ax (T3 ty (bG ?_))
 refine(show bE _ _ (setField (.ref it) 0 .none >>= _) _ _ s from ax (wpAny_setField ho hd (by simp) ?_));refine(ax ?_);refine ax (sR ?_ (by size_fits));refine ax (JJ (by first|rfl|(simp only[firstArgMember];rfl)) (sR ?_ (by size_fits)));refine ax (wpAny_handled ?_);rw[show A.in1.handled=none from hh];refine ax (bG (wpAny_throw ?_));refine ax (wpAny_isInstance ⟨_,i9 _ rfl,rfl⟩ isSubtype_stop ?_);exact bG (q _ (((Heap.SameBut.update ..).extBut.push _).push _))
def yi.at(x:yi h d es ep)(e:∀ o,h.get? d=some o->h'.get? d=some o):yi h' d es ep:=let ⟨o,ho,r⟩:=x;⟨o,e o ho,r⟩
def yi.lt(x:yi h d es ep):d<h.objs.size:=let ⟨_,e,_⟩:=x;eT e
def Aa(hh:A.handled=none)(I:ah)(i6:d≠I):Walks prog w A I [I,d] [I] es.size (λi v=>∃ e,es[i]? = some e/\v=e.key) (λi h=>h.IsKeyIter I d i es.size ep/\yi h d es ep) where
 sub:=λb hb=>by simp at hb;simp[hb]
 frame:=λ_ _ _ st hk=>⟨st.1.at λo e=>hk I (by simp) o e,st.2.at λo e=>hk d (by simp) o e⟩
 item:=λi s Q E hi st hQ=>BZ st.1 st.2 hi λh' a b=>hQ _ h' s.toks ⟨es[i],by simp[hi],rfl⟩ ⟨a,st.2.at λo e=>b.extBut d o i6 e⟩ λc o hb e=>b.extBut c o (λh=>hb (by simp[h])) e
 done:=λs Q E st hQ=>Bw hh st.1 st.2 λh' Vp=>hQ h' s.toks λb o hb e=>Vp b o (λh=>hb (by simp[h])) e
 self:=λ_ _ _ _ st hQ=>wpAny_pyIter_keyiter st.1 hQ
def Fw (lo:(d == qq)=false):PySem.W.KdlSrc prog w "dict" d d es.size (λi v=>∃ e,es[i]? = some e/\v=e.key) (λh=>yi h d es ep) where
 type:=λ_ x=>x.typ
 there:=λ_ x=>⟨x.lt,x.lt⟩
 keep:=λ_ _ x hk=>x.at λo e=>hk d (.inl rfl) o e
 notList:=by decide
 notTuple:=by decide
 hint:=λ_ _ _ _ x hq=>PySem.W.kdl_hint_dict x.typ hq
 iter:=λ_ _ hh x=>⟨_,_,(λ_ _ hq=>Bv lo x hq),Aa hh _ (gu x.lt),⟨⟨_,i9 _ rfl,rfl,rfl⟩,x.at λo e=>eM _ e⟩⟩
end
def Paired.n0{α β:Type}{R:α->β->Prop}{bs:List β}(h:Paired R [] bs):bs=[]:=by cases h;rfl
def Paired.c{α β:Type}{R:α->β->Prop}{a:α}{as:List α}{bs:List β}(h:Paired R (a :: as) bs):∃ b cs,bs=b :: cs/\R a b/\Paired R as cs:=by
 cases h with
 |cons r t=>exact⟨_,_,rfl,r,t⟩
def c7(H:Hp)(ys:List V)(ks:List (List Key)):Prop:=Paired (λ(v:V) (k:List Key)=>∃ b,v=.ref b/\H b=some (.tup (k.map kV))) ys ks
section
variable {X:Cx}
def uw:List V->Hp->VK->Prop:=λxs H Q=>match xs with
 |[.ref p]=>∃ ae,Rd H p (.dT ae)/\∀ ys l,c7 H ys (ae.map (·.1))->H l=none->Q (.ref l) (upd H l (.lst ys))
 |_=>False
def DW (h:Paired (λ(p:List Key × V) (q:List Key × ah × ag)=>p.1=q.1/\H q.2.1=some (.tup (p.1.map kV))/\RelV p.2 q.2.2) ae xs) :
  c7 H (xs.map λq=>.ref q.2.1) (ae.map (·.1))/\Vals (xs.map λq=>.ref q.2.1) ((xs.map (entryOfKey (ER (iN prog w)))).map (·.key)):=by
 induction h with
 |nil=>exact⟨.nil,.nil⟩
 |cons r t ih=>exact⟨.cons ⟨_,rfl,r.2.1⟩ ih.1,.cons rfl ih.2⟩
def vh (hc:X.calm=true):lS X (.type "list") uw:=by
 walk_at"f";unfold uw at h;split at h
 ·rename_i p;obtain⟨ae,e,q⟩:=h;obtain⟨u,rfl,ru⟩:=Vals.one r;cases ru;obtain⟨z,y,ps,rel,o,es,ep,h1,h2,h3,h4,h5⟩:=(I.rd e)
  obtain⟨ta,va⟩:=DW rel;have hlen:es.size=ae.length:=by have:=congrArg List.length h4;rw[AZ,dc] at this;rw[this];exact rel.length.symm
  refine PySem.W.kdl_call (Fw y) (I.ok.hd hc) ⟨o,h1,h2,h3⟩ (by lia) λh' tk acc c kp eo Iq=>?_;have hv:acc.toList=(ps.map (entryOfKey (ER (iN X.prog X.w)))).map (·.key):=by
   apply OS;intro i;by_cases hi:i<es.size
   ·have sC:i<acc.size:=by rw[Iq.1];exact hi
    obtain⟨en,e1,e2⟩:=Iq.2 i acc[i] (by simp[sC]);rw[<- h4,ku,tj,tj,e1];simp[sC,e2]
   ·rw[<- h4,ku,tj,tj,O0 (by rw[Iq.1];lia),O0 (by lia)];rfl
  refine⟨.ref s.heap.objs.size,_,I.laid kp (de _) (show kP X.prog X.w _ h' _ (.lst (ps.map λq=>.ref q.2.1)) from⟨?_,acc.toList,c,?_,?_⟩),rfl,q _ _ ta (I.bX.fresh (de _))⟩
  ·rw[dc,<- rel.length];exact z
  ·rw[hv];exact va
  ·rw[WL];exact eo
 ·exact h.elim
end
end L2
end
namespace D3
open PySem PyProof.Rows
def R(r:ag->Int)(xs:Array cf)(i:Nat):Int:=match xs[i]? with
 |some p=>r p.1
 |none=>0
def cI(h:xs[i]? = ys[j]?):R r xs i=R r ys j:=by unfold R;rw[h]
def qa(prog:cv)(w:cK)(A:eB)(s:ay)(κ:tf)(r:ag->Int)(P:ag->Prop):Prop :=
 ∀ x y,P x->P y->∀ (Q:Bool->ay->Prop) (E:ag->ay->Prop),Q (decide (r x<r y)) s->bE (aT prog w) A (keyLt' κ x y) Q E s
def AllP(P:ag->Prop)(xs:Array cf):Prop:=∀ p∈xs.toList,P p.1
def AllP.perm{P:ag->Prop}(h:AllP P xs)(hp:ys.Perm xs):AllP P ys:=λp hm=>h p ((WK.mp hp).mem_iff.mp hm)
def AllP.at{P:ag->Prop}{xs:Array cf}(h:AllP P xs){i:Nat}{p:cf}(e:xs[i]? = some p):P p.1:=h p (by
 obtain⟨hi,rfl⟩:=OZ.mp e;simp)
structure ot(lo hi:Nat)(st aw:d5):Prop where
 kind:fS aw=fS st
 failed:ti aw=ti st
 pend:ny aw=ny st
 perm:(b9 aw).Perm (b9 st)
 out:∀ k,k<lo\/hi<=k->(b9 aw)[k]? = (b9 st)[k]?
def ot.refl(lo hi:Nat)(st:d5):ot lo hi st st:=⟨rfl,rfl,rfl,Array.Perm.refl _,λ_ _=>rfl⟩
def ot.trans{lo hi:Nat}{a b c:d5}(h:ot lo hi a b)(g:ot lo hi b c):ot lo hi a c :=
 ⟨g.kind.trans h.kind,g.failed.trans h.failed,g.pend.trans h.pend,g.perm.trans h.perm,λk hk=>(g.out k hk).trans (h.out k hk)⟩
def ot.mono{lo hi MB n4:Nat}{a b:d5}(h:ot lo hi a b)(h1:MB<=lo)(h2:hi<=n4):ot MB n4 a b :=
 ⟨h.kind,h.failed,h.pend,h.perm,λk hk=>h.out k (by lia)⟩
def ot.size{lo hi:Nat}{a b:d5}(h:ot lo hi a b):(b9 b).size=(b9 a).size:=h.perm.size_eq
def Up(r:ag->Int)(xs:Array cf)(lo hi:Nat):Prop:=∀ i j,lo<=i->i<=j->j<hi->R r xs i<=R r xs j
def Down(r:ag->Int)(xs:Array cf)(lo hi:Nat):Prop:=∀ i j,lo<=i->i<=j->j<hi->R r xs j<=R r xs i
def uI(hs:src<xs.size)(hd:d<=src)(k:Nat) :
  R r (bubble xs src d) k=if k=src-d then R r xs src else if src-d<k/\k<=src then R r xs (k-1) else R r xs k:=by
 have e:=getElem?_bubble hs d hd k;by_cases h1:k=src-d
 ·rw[if_pos h1] at e ⊢;exact cI e
 ·rw[if_neg h1] at e ⊢;by_cases h2:src-d<k/\k<=src
  ·rw[if_pos h2] at e ⊢;exact cI e
  ·rw[if_neg h2] at e ⊢;exact cI e
def mX(hj:j<=xs.size)(k:Nat) :
  R r (mirror xs i j ((j-i) / 2)) k=if i<=k/\k<j then R r xs (i+j-1-k) else R r xs k:=by
 have e:=getElem?_mirror_all (i:=i) hj k;by_cases h1:i<=k/\k<j
 ·rw[if_pos h1] at e ⊢;exact cI e
 ·rw[if_neg h1] at e ⊢;exact cI e
def bF(hj:j<=xs.size)(heq:∀ k,i<=k->k<j->R r xs k=R r xs (j-1))(k:Nat) :
  R r (mirror xs i j ((j-i) / 2)) k=R r xs k:=by
 rw[mX hj];split
 ·rw[heq _ (by lia) (by lia),heq k (by lia) (by lia)]
 ·rfl
section
variable {prog:cv}{w:cK}{A:eB}{E:ag->ay->Prop}{s:ay}{κ:tf}{r:ag->Int}{P:ag->Prop}
def pJ{st:d5}{x y:cf}{Q:Option Bool->d5->Prop}(C:qa prog w A s κ r P)(hk:fS st=κ)(hx:P x.1)(hy:P y.1)(h:Q (some (decide (r x.1<r y.1))) st) :
  wpS (aT prog w) A E s (lt' x y) Q st:=by
 rw[lt'_eq];refine cS (wpS_get ?_);rw[hk];exact cS (wpS_lift (wpAny_attempt (C x.1 y.1 hx hy _ _ ⟨rfl,dQ h⟩)))
def aK{xs:Array cf}{i:Nat}{Q:cf->d5->Prop}{st:d5}(hi:i<xs.size)(h:∀ p,xs[i]? = some p->Q p st):wpS (aT prog w) A E s (elem' xs i) Q st:=by rw[elem'_eq,getElem?_pos xs i hi];exact dQ (h _ (getElem?_pos xs i hi))
def jQ{st:d5}{i j:Nat}{Q:Option Bool->d5->Prop}(C:qa prog w A s κ r P)(hk:fS st=κ)(hP:AllP P (b9 st))(hi:i<(b9 st).size)(hj:j<(b9 st).size)(h:Q (some (decide (R r (b9 st) i<R r (b9 st) j))) st):wpS (aT prog w) A E s (ltAt' i j) Q st:=by
 refine cS (wpS_get ?_);refine cS (aK hi λp ep=>cS (aK hj λq eq=>pJ C hk (hP.at ep) (hP.at eq) ?_));have e1:R r (b9 st) i=r p.1:=by unfold R;rw[ep]
 have e2:R r (b9 st) j=r q.1:=by unfold R;rw[eq]
 rw[<- e1,<- e2];exact h
def cN{st:d5}{i j:Nat}{Q:Unit->d5->Prop}(h:Q () (setArr st (mirror (b9 st) i j ((j-i) / 2)))) :
  wpS (aT prog w) A E s (reverseSlice' i j) Q st:=by
 rw[reverseSlice'_eq];exact E6 h
def eZ{st:d5}{i j:Nat}(hj:j<=(b9 st).size):ot i j st (setArr st (mirror (b9 st) i j ((j-i) / 2))) :=
 ⟨rfl,rfl,rfl,mirror_perm _ _ _ _,λk hk=>by
  have e:=getElem?_mirror_all (i:=i) hj k;rw[if_neg (by lia)] at e;exact e⟩
def wz{st:d5}{lo src d:Nat}(hs:src<(b9 st).size)(hd:lo+d<=src):ot lo (src+1) st (setArr st (bubble (b9 st) src d)) :=
 ⟨rfl,rfl,rfl,bubble_perm _ _ _,λk hk=>by
  have e:=getElem?_bubble hs d (by lia) k;rw[if_neg (by lia),if_neg (by lia)] at e;exact e⟩
def wpS_binarySort{st:d5}{lo n ok:Nat}{Q:Bool->d5->Prop}(C:qa prog w A s κ r P)(hk:fS st=κ)(hP:AllP P (b9 st))(hn:lo+n<=(b9 st).size)(bX:ok<=n)(hs:Up r (b9 st) lo (lo+ok))(h:∀ aw,ot lo (lo+n) st aw->Up r (b9 aw) lo (lo+n)->Q true aw):wpS (aT prog w) A E s (binarySort' lo n ok) Q st:=by
 refine cS (wt (sT (I:=λk c aw=>c=(none,())/\ot lo (lo+n) st aw/\Up r (b9 aw) lo (lo+min k n)) (Q:=λc aw=>c=(none,())/\ot lo (lo+n) st aw/\Up r (b9 aw) lo (lo+n)) ?step ?fin ?init) ?post)
 case post =>
  rintro c aw ⟨rfl,kU,iE⟩;exact dQ (h aw kU iE)
 case init =>
  refine⟨rfl,.refl _ _ _,λi j hl mw hj=>?_⟩;by_cases h1:ok=0
  ·have:i=j:=by lia
   subst this;exact AY _
  ·exact hs i j hl mw (by lia)
 case fin =>
  rintro c aw ⟨hc,kU,iE⟩;refine⟨hc,kU,?_⟩;rwa[show min (max (max ok 1) n) n=n by lia] at iE
 case step =>
  rintro k c aw hak ZN ⟨rfl,kU,iE⟩;rw[show min k n=k by lia] at iE;have hJ:=kU.size;have kg:fS aw=κ:=kU.kind.trans hk;have ox:=hP.perm kU.perm;refine cS (wt (sT (I:=λx c FK=>FK=aw/\∃ l r',c=(none,l,r')/\l<=r'/\r'<=k/\r'-l<=k-x /\ (∀ i,lo<=i->i<lo+l->R r (b9 aw) i<=R r (b9 aw) (lo+k))/\(∀ i,lo+r'<=i->i<lo+k->R r (b9 aw) (lo+k)<R r (b9 aw) i)) (Q:=λc FK=>FK=aw/\∃ l r',c=(none,l,r')/\l<=k /\ (∀ i,lo<=i->i<lo+l->R r (b9 aw) i<=R r (b9 aw) (lo+k))/\(∀ i,lo+l<=i->i<lo+k->R r (b9 aw) (lo+k)<R r (b9 aw) i)) ?jZ' ?ka' ?kb') ?kc')
  case kb'=>exact⟨rfl,0,k,rfl,by lia,by lia,by lia,λi _ hi=>by lia,λi h1 h2=>by lia⟩
  case ka' =>
   rintro c FK ⟨rfl,l,r',rfl,hlr,ZO,hm,Ic,D4⟩;have:l=r':=by lia
   subst this;exact⟨rfl,l,l,rfl,ZO,Ic,D4⟩
  case jZ' =>
   rintro x c FK _ hxk ⟨rfl,l,r',rfl,hlr,ZO,hm,Ic,D4⟩;dsimp only;by_cases vk:l >= r'
   ·rw[if_pos vk];have:l=r':=by lia
    subst this;exact dQ ⟨rfl,l,l,rfl,ZO,Ic,D4⟩
   ·rw[if_neg vk];refine cS (jQ C kg ox (by lia) (by lia) ?_);by_cases zv:R r (b9 FK) (lo+k)<R r (b9 FK) (lo+(l+r') / 2)
    ·simp only[zv,decide_true,if_true];exact dQ ⟨rfl,l,(l+r') / 2,rfl,by lia,by lia,by lia,Ic,λi h1 h2=>Int.lt_of_lt_of_le zv (iE _ _ (by lia) h1 h2)⟩
    ·simp only[zv,decide_false,uj,if_false];exact dQ ⟨rfl,(l+r') / 2+1,r',rfl,by lia,by lia,by lia,λi h0 h1=>AX (iE i (lo+(l+r') / 2) h0 (by lia) (by lia)) (Int.not_lt.mp zv),D4⟩
  case kc' =>
   rintro c FK ⟨rfl,l,r',rfl,hlk,Ic,D4⟩;show wpS _ _ _ _ (do moveDown' (lo+k) (lo+l);pure (ForInStep.yield (none,()))) _ _;rw[moveDown'_eq];have ZP:lo+k<(b9 FK).size:=by lia
   refine cS (E6 (dQ ⟨rfl,kU.trans ((wz ZP (by lia)).mono (de _) (by lia)),?_⟩));intro i j hl mw hj;rw[uI ZP (by lia),uI ZP (by lia),show lo+k-(lo+k-(lo+l))=lo+l by lia]
   repeat' split
   all_goals first
    | (exfalso;lia)
    |exact AY _
    |exact Ic _ (by lia) (by lia)
    |exact KL (D4 _ (by lia) (by lia))
    |exact iE _ _ (by lia) (by lia) (by lia)
end
def ascL(lo a nrem:Nat):StateT d5 Sem AscSt :=
 forIn [a:nrem] ((none,a):AscSt) λ_ __s=>do
  let __x ← ltAt' (lo + __s.snd) (lo + __s.snd - 1)
  match __x with
  |some smaller=>if smaller=true then pure (ForInStep.done (none,__s.snd)) else pure (ForInStep.yield (none,__s.snd+1))
  |_=>pure (ForInStep.done (some none,__s.snd))
def xf(lo n nrem:Nat):StateT d5 Sem (Option Nat):=do
 reverseSlice' lo (lo+n)
 let __s ← ascL lo n nrem
 match __s.fst with
 |some r=>pure r
 |none=>pure (some __s.snd)
def Iw(lo n nrem:Nat):StateT d5 Sem DescSt :=
 forIn [n:nrem] ((none,n,0):DescSt) λ_ __s=>do
  let __x ← ltAt' (lo + __s.snd.fst) (lo + __s.snd.fst - 1)
  match __x with
  |some smaller =>
   if smaller=true then
    if __s.snd.snd>0 then do
     reverseSlice' (lo+__s.snd.fst-(__s.snd.snd+1)) (lo+__s.snd.fst)
     pure (ForInStep.yield (none,__s.snd.fst+1,0))
    else pure (ForInStep.yield (none,__s.snd.fst+1,0))
   else do
    let __x ← ltAt' (lo+__s.snd.fst - 1) (lo+__s.snd.fst)
    match __x with
    |some larger =>
     if larger=true then pure (ForInStep.done (none,__s.snd.fst,__s.snd.snd))
     else pure (ForInStep.yield (none,__s.snd.fst+1,__s.snd.snd+1))
    |_=>pure (ForInStep.done (some none,__s.snd.fst,__s.snd.snd))
  |_=>pure (ForInStep.done (some none,__s.snd.fst,__s.snd.snd))
def kW(lo n nrem:Nat):StateT d5 Sem (Option Nat):=do
 liftM (rule "list.sort.descending-run")
 let __s ← Iw lo (n+1) nrem
 match __s.fst with
 |some r=>pure r
 |none =>
  if __s.snd.snd>0 then do
   reverseSlice' (lo+__s.snd.fst-(__s.snd.snd+1)) (lo+__s.snd.fst)
   xf lo __s.snd.fst nrem
  else xf lo __s.snd.fst nrem
def qD(lo nrem:Nat):countRun' lo nrem=(do
  let __s ← ascL lo 1 nrem
  match __s.fst with
  |some r=>pure r
  |none =>
   if (__s.snd == nrem)=true then pure (some __s.snd)
   else if __s.snd>1 then do
    let __x ← ltAt' lo (lo+__s.snd - 1)
    match __x with
    |some cO'=>if cO'=true then pure (some __s.snd) else do
      reverseSlice' lo (lo+__s.snd)
      kW lo __s.snd nrem
    |_=>pure none
   else kW lo __s.snd nrem):=by
 rw[countRun'_eq];dsimp only;congr 1;funext __s;obtain⟨r,n⟩:=__s
 cases r with
 |some r=>rfl
 |none =>
  dsimp only;split
  ·rfl
  ·split
   ·congr 1;funext x
    cases x with
    |none=>rfl
    |some cO' =>
     dsimp only;split
     ·rfl
     ·congr 1;funext _r
      (congr 1;funext _u;congr 1;congr 1;funext s2;obtain⟨r2,n2,q2⟩:=s2;cases r2 with
       |some r2=>rfl
       |none=>(dsimp only;split;(congr 1;funext _v;(congr 1;funext _w;congr 1;(funext s3;obtain⟨r3,n3⟩:=s3;cases r3<;>rfl)));(congr 1;funext _w;congr 1;(funext s3;obtain⟨r3,n3⟩:=s3;cases r3<;>rfl))))
   ·(congr 1;funext _u;congr 1;congr 1;funext s2;obtain⟨r2,n2,q2⟩:=s2;cases r2 with
     |some r2=>rfl
     |none=>(dsimp only;split;(congr 1;funext _v;(congr 1;funext _w;congr 1;(funext s3;obtain⟨r3,n3⟩:=s3;cases r3<;>rfl)));(congr 1;funext _w;congr 1;(funext s3;obtain⟨r3,n3⟩:=s3;cases r3<;>rfl))))
section
variable {prog:cv}{w:cK}{A:eB}{E:ag->ay->Prop}{s:ay}{κ:tf}{r:ag->Int}{P:ag->Prop}
def uf{st:d5}{lo a nrem:Nat}{Q:AscSt->d5->Prop}(C:qa prog w A s κ r P)(hk:fS st=κ)(hP:AllP P (b9 st))(hn:lo+nrem<=(b9 st).size)(ha:1<=a)(han:a<=nrem)(hs:Up r (b9 st) lo (lo+a))(h:∀ n,a<=n->n<=nrem->Up r (b9 st) lo (lo+n)->(n=nrem\/R r (b9 st) (lo+n)<R r (b9 st) (lo+n-1))->Q (none,n) st) :
  wpS (aT prog w) A E s (ascL lo a nrem) Q st:=by
 refine sT (I:=λx c aw=>aw=st/\c=(none,x)/\Up r (b9 st) lo (lo+x)) ?step ?fin ⟨rfl,rfl,hs⟩;case fin =>
  rintro c aw ⟨rfl,rfl,iE⟩;rw[show max a nrem=nrem by lia] at iE ⊢;exact h nrem han (de _) iE (.inl rfl)
 case step =>
  rintro x c aw ZQ hxn ⟨rfl,rfl,iE⟩;refine cS (jQ C hk hP (by lia) (by lia) ?_);by_cases zv:R r (b9 aw) (lo+x)<R r (b9 aw) (lo+x-1)
  ·simp only[zv,decide_true,if_true];exact dQ (h x ZQ (by lia) iE (.inr zv))
  ·simp only[zv,decide_false,uj,if_false];refine dQ ⟨rfl,rfl,λi j hl mw hj=>?_⟩;by_cases SD:j<lo+x
   ·exact iE i j hl mw SD
   ·have A7:j=lo+x:=by lia
    subst A7;by_cases n4:i=lo+x
    ·subst n4;exact AY _
    ·exact AX (iE i (lo+x-1) hl (by lia) (by lia)) (Int.not_lt.mp zv)
def l_{st:d5}{lo n nrem:Nat}{Q:Option Nat->d5->Prop}(C:qa prog w A s κ r P)(hk:fS st=κ)(hP:AllP P (b9 st))(hn:lo+nrem<=(b9 st).size)(h1:1<=n)(FL:n<=nrem)(hs:Down r (b9 st) lo (lo+n)) (h:∀ m aw,ot lo (lo+nrem) st aw->1<=m->m<=nrem->Up r (b9 aw) lo (lo+m)->Q (some m) aw) :
  wpS (aT prog w) A E s (xf lo n nrem) Q st:=by
 have hJ:lo+n<=(b9 st).size:=by lia
 refine cS (cN ?_);have kU:=eZ (i:=lo) hJ;refine cS (uf C (kU.kind.trans hk) (hP.perm kU.perm) (by rw[kU.size];exact hn) h1 FL ?_ λm zC A8 ZR _=>dQ (h m _ (kU.mono (de _) (by lia)) (by lia) A8 ZR));intro i j hl mw hj;rw[mX hJ,mX hJ,if_pos (by lia),if_pos (by lia)];exact hs _ _ (by lia) (by lia) (by lia)
def xu{st:d5}{lo n nrem:Nat}{Q:DescSt->d5->Prop}(C:qa prog w A s κ r P)(hk:fS st=κ)(hP:AllP P (b9 st))(hn:lo+nrem<=(b9 st).size)(h1:1<=n)(FL:n<=nrem)(hs:Down r (b9 st) lo (lo+n))(h:∀ m vn aw,ot lo (lo+nrem) st aw->n<=m->m<=nrem->Down r (b9 aw) lo (lo+m)->vn+1<=m->(∀ i,lo+m-(vn+1)<=i->i<lo+m->R r (b9 aw) i=R r (b9 aw) (lo+m-1))->Q (none,m,vn) aw) :
  wpS (aT prog w) A E s (Iw lo n nrem) Q st:=by
 refine sT (I:=λx c aw=>∃ vn,c=(none,x,vn)/\ot lo (lo+nrem) st aw/\Down r (b9 aw) lo (lo+x)/\vn+1<=x /\ (∀ i,lo+x-(vn+1)<=i->i<lo+x->R r (b9 aw) i=R r (b9 aw) (lo+x-1))) ?step ?fin ⟨0,rfl,.refl _ _ _,hs,by lia,λi h1 h2=>by congr 1;lia⟩
 case fin =>
  rintro c aw ⟨vn,rfl,kU,iE,hq,he⟩;rw[show max n nrem=nrem by lia] at iE hq he ⊢;exact h nrem vn aw kU FL (de _) iE hq he
 case step =>
  rintro x c aw ZQ hxn ⟨vn,rfl,kU,iE,hq,he⟩;dsimp only;have hz:=kU.size;have hJ:lo+x<=(b9 aw).size:=by lia
  have kg:=kU.kind.trans hk;have ox:=hP.perm kU.perm;refine cS (jQ C kg ox (by lia) (by lia) ?_);by_cases zv:R r (b9 aw) (lo+x)<R r (b9 aw) (lo+x-1)
  ·simp only[zv,decide_true,if_true];have cP':∀ xs:Array cf,(∀ k,R r xs k=R r (b9 aw) k)->Down r xs lo (lo+(x+1)):=by
    intro xs hkk i j hl mw hj;rw[hkk,hkk];by_cases SD:j<lo+x
    ·exact iE i j hl mw SD
    ·have A7:j=lo+x:=by lia
     subst A7;by_cases n4:i=lo+x
     ·subst n4;exact AY _
     ·exact AX (KL zv) (iE i (lo+x-1) hl (by lia) (by lia))
   by_cases SF:vn>0
   ·rw[if_pos SF];refine cS (cN (dQ ⟨0,rfl,kU.trans ((eZ hJ).mono (by lia) (by lia)),cP' _ (bF hJ he),by lia,λi h1 h2=>by congr 1;lia⟩))
   ·rw[if_neg SF];exact dQ ⟨0,rfl,kU,cP' _ (λ_=>rfl),by lia,λi h1 h2=>by congr 1;lia⟩
  ·simp only[zv,decide_false,uj,if_false];refine cS (jQ C kg ox (by lia) (by lia) ?_);by_cases cR':R r (b9 aw) (lo+x-1)<R r (b9 aw) (lo+x)
   ·simp only[cR',decide_true,if_true];exact dQ (h x vn aw kU ZQ (by lia) iE hq he)
   ·simp only[cR',decide_false,uj,if_false];have cS':R r (b9 aw) (lo+x)=R r (b9 aw) (lo+x-1):=by lia
    refine dQ ⟨vn+1,rfl,kU,λi j hl mw hj=>?_,by lia,λi h1 h2=>?_⟩
    ·by_cases SD:j<lo+x
     ·exact iE i j hl mw SD
     ·have A7:j=lo+x:=by lia
      subst A7;by_cases n4:i=lo+x
      ·subst n4;exact AY _
      ·rw[cS'];exact iE i (lo+x-1) hl (by lia) (by lia)
    ·rw[show lo+(x+1)-1=lo+x by lia];by_cases MD:i=lo+x
     ·subst MD;rfl
     ·rw[cS'];exact he i (by lia) (by lia)
def gQ{st:d5}{lo n nrem:Nat}{Q:Option Nat->d5->Prop}(C:qa prog w A s κ r P)(hk:fS st=κ)(hP:AllP P (b9 st))(hn:lo+nrem<=(b9 st).size)(FL:n+1<=nrem)(hs:Down r (b9 st) lo (lo+(n+1))) (h:∀ m aw,ot lo (lo+nrem) st aw->1<=m->m<=nrem->Up r (b9 aw) lo (lo+m)->Q (some m) aw) :
  wpS (aT prog w) A E s (kW lo n nrem) Q st:=by
 walk_at"v";refine cS (xu C hk hP hn (by lia) FL hs λm vn aw kU zC A8 iE hq he=>?_);dsimp only;have hz:=kU.size;have hJ:lo+m<=(b9 aw).size:=by lia
 have kg:=kU.kind.trans hk;have ox:=hP.perm kU.perm;by_cases SF:vn>0
 ·rw[if_pos SF];have hW:=eZ (i:=lo+m-(vn+1)) hJ;refine cS (cN (l_ C (hW.kind.trans kg) (ox.perm hW.perm) (by rw[hW.size,hz];exact hn) (by lia) A8 ?_ λm2 A4 SG=>h m2 A4 ((kU.trans (hW.mono (by lia) (by lia))).trans SG)));intro i j hl mw hj;rw[bF hJ he,bF hJ he];exact iE i j hl mw hj
 ·rw[if_neg SF];exact l_ C kg ox (by rw[hz];exact hn) (by lia) A8 iE λm2 A4 SG=>h m2 A4 (kU.trans SG)
def wpS_countRun{st:d5}{lo nrem:Nat}{Q:Option Nat->d5->Prop}(C:qa prog w A s κ r P)(hk:fS st=κ)(hP:AllP P (b9 st))(hn:lo+nrem<=(b9 st).size)(h1:1<=nrem)(h:∀ m aw,ot lo (lo+nrem) st aw->1<=m->m<=nrem->Up r (b9 aw) lo (lo+m)->Q (some m) aw) :
  wpS (aT prog w) A E s (countRun' lo nrem) Q st:=by
 rw[qD];refine cS (uf C hk hP hn (de 1) h1 (λi j hl mw hj=>by
  have:i=j:=by lia
  subst this;exact AY _) λn hn1 DU qc hor=>?_)
 by_cases FL:n=nrem
 ·rw[if_pos (by simpa using FL)];exact dQ (h n st (.refl _ _ _) hn1 DU qc)
 ·rw[if_neg (by simpa using FL)];have eR:R r (b9 st) (lo+n)<R r (b9 st) (lo+n-1):=hor.resolve_left FL;by_cases hgt:n>1
  ·rw[if_pos hgt];refine cS (jQ C hk hP (by lia) (by lia) ?_);by_cases cV':R r (b9 st) lo<R r (b9 st) (lo+n-1)
   ·simp only[cV',decide_true,if_true];exact dQ (h n st (.refl _ _ _) hn1 DU qc)
   ·simp only[cV',decide_false,uj,if_false];have hJ:lo+n<=(b9 st).size:=by lia
    have rg:∀ k,lo<=k->k<lo+n->R r (b9 st) k=R r (b9 st) (lo+n-1):=by intro k hl hk;have a1:=qc lo k (by lia) hl hk;have a2:=qc k (lo+n-1) hl (by lia) (by lia);lia
    have hW:=eZ (i:=lo) hJ;refine cS (cN (gQ C (hW.kind.trans hk) (hP.perm hW.perm) (by rw[hW.size];exact hn) (by lia) ?_ λm2 A4 SG=>h m2 A4 ((hW.mono (de _) (by lia)).trans SG)));intro i j hl mw hj;rw[bF hJ rg,bF hJ rg];by_cases SJ:j<lo+n
    ·rw[rg i hl (by lia),rg j (by lia) SJ];exact AY _
    ·have A7:j=lo+n:=by lia
     subst A7;by_cases n4:i=lo+n
     ·subst n4;exact AY _
     ·rw[rg i hl (by lia)];exact KL eR
  ·rw[if_neg hgt];have kh':n=1:=by lia
   subst kh';refine gQ C hk hP hn (by lia) ?_ h;intro i j hl mw hj;by_cases n4:i=j
   ·subst n4;exact AY _
   ·have SK:i=lo:=by lia
    have hj1:j=lo+1:=by lia
    subst SK;subst hj1;exact KL eR
end
def Ho(left:Bool)(key:cf)(arr:Array cf)(base i:Nat):StateT d5 Sem (Option Bool):=do
 let x ← elem' arr (base+i)
 if left then lt' x key else return (<- lt' key x).map (!·)
def kJ:Bool->cf->Array cf->Nat->Nat->Nat->StateT d5 Sem (Option Nat):=sortPriv% PySem.Builtin.gallop
section
variable {prog:cv}{w:cK}{A:eB}{E:ag->ay->Prop}{s:ay}{κ:tf}{r:ag->Int}{P:ag->Prop}
def gX(r:ag->Int)(left:Bool)(key:cf)(arr:Array cf)(base i:Nat):Bool :=
 if left then decide (R r arr (base+i)<r key.1) else !decide (r key.1<R r arr (base+i))
def cW{st:d5}{left:Bool}{key:cf}{arr:Array cf}{base i:Nat}{Q:Option Bool->d5->Prop}(C:qa prog w A s κ r P)(hk:fS st=κ)(hP:AllP P arr)(hy:P key.1)(hi:base+i<arr.size)(h:Q (some (gX r left key arr base i)) st):wpS (aT prog w) A E s (Ho left key arr base i) Q st:=by
 refine cS (aK hi λp ep=>?_);have e1:R r arr (base+i)=r p.1:=by unfold R;rw[ep]
 unfold gX at h;rw[e1] at h
 cases left with
 |true =>exact pJ C hk (hP.at ep) hy h
 |false =>exact cS (pJ C hk hy (hP.at ep) (dQ h))
def BK(hu:Up r arr base (base+n))(mw:i<=j)(hj:j<n)(h:gX r left key arr base j=true):gX r left key arr base i=true:=by
 have q:=hu (base+i) (base+j) (by lia) (by lia) (by lia);unfold gX at h ⊢
 cases left with
 |true=>simp only[if_true,decide_eq_true_eq] at h ⊢;lia
 |false=>simp only[uj,if_false,WH,decide_eq_false_iff_not] at h ⊢;lia
def cD{st:d5}{left:Bool}{key:cf}{arr:Array cf}{base n hint:Nat}{Q:Option Nat->d5->Prop}(C:qa prog w A s κ r P)(hk:fS st=κ)(hP:AllP P arr)(hy:P key.1)(hn:base+n<=arr.size)(hh:hint<n)(hu:Up r arr base (base+n))(h:∀ k,k<=n->(∀ i,i<k->gX r left key arr base i=true)->(∀ i,k<=i->i<n->gX r left key arr base i=false)->Q (some k) st):wpS (aT prog w) A E s (kJ left key arr base n hint) Q st:=by
 have mono:∀ {i j},i<=j->j<n->gX r left key arr base j=true->gX r left key arr base i=true:=λa b c=>BK hu a b c;have Vq:∀ {i j},i<=j->j<n->gX r left key arr base i=false->gX r left key arr base j=false:=λ{i j} a b c=>by
  cases q:gX r left key arr base j with
  |false=>rfl
  |true=>rw[mono a b q] at c;cases c
 refine cS (cW C hk hP hy (by lia) ?_);dsimp only
 cases q0:gX r left key arr base hint with
 |true =>
  refine cS (wt (sT (I:=λx c aw=>aw=st/\∃ lst g9,c=(none,lst,g9)/\lst<g9/\lst<n-hint/\x+1<=g9/\gX r left key arr base (hint+lst)=true) (Q:=λc aw=>aw=st/\∃ lst g9,c=(none,lst,g9)/\lst<g9/\lst<n-hint/\gX r left key arr base (hint+lst)=true/\(n-hint<=g9\/gX r left key arr base (hint+g9)=false)) ?step ?fin ?init) ?post)
  case init=>exact⟨rfl,0,1,rfl,by lia,by lia,by lia,q0⟩
  case fin =>
   rintro c aw ⟨rfl,lst,g9,rfl,h1,h2,h3,h4⟩;exact⟨rfl,lst,g9,rfl,h1,h2,h4,.inl (by lia)⟩
  case step =>
   rintro x c aw _ hx ⟨rfl,lst,g9,rfl,h1,h2,h3,h4⟩;dsimp only;by_cases vk:g9 >= n-hint
   ·rw[if_pos vk];exact dQ ⟨rfl,lst,g9,rfl,h1,h2,h4,.inl vk⟩
   ·rw[if_neg vk];refine cS (cW C hk hP hy (by lia) ?_)
    cases q:gX r left key arr base (hint+g9) with
    |true =>exact dQ ⟨rfl,_,_,rfl,by lia,by lia,by lia,q⟩
    |false =>exact dQ ⟨rfl,lst,g9,rfl,h1,h2,h4,.inr q⟩
  case post =>
   rintro c aw ⟨rfl,lst,g9,rfl,h1,h2,h4,h5⟩;generalize aw=st at *
   have hl:∀ i,i<hint+lst+1->gX r left key arr base i=true:=λi hi=>mono (by lia) (by lia) h4;have D4:∀ i,hint+min g9 (n-hint)<=i->i<n->gX r left key arr base i=false:=λi hi mz=>by
    rcases h5 with h5|h5
    ·lia
    ·by_cases z:n-hint<=g9
     ·lia
     ·exact Vq (by lia) mz h5
   have ZS:hint+lst+1<=hint+min g9 (n-hint):=by lia
   have ZT:hint+min g9 (n-hint)<=n:=by lia
   generalize hint+lst+1=lo at *
   generalize hint+min g9 (n-hint)=hi at *
   refine cS (wt (sT (I:=λx c aw=>aw=st/\∃ l u,c=(none,l,u)/\l<=u/\u<=n/\u-l<=n-x/\(∀ i,i<l->gX r left key arr base i=true)/\(∀ i,u<=i->i<n->gX r left key arr base i=false)) (Q:=λc aw=>aw=st/\∃ l,c=(none,l,l)/\l<=n/\(∀ i,i<l->gX r left key arr base i=true)/\(∀ i,l<=i->i<n->gX r left key arr base i=false)) ?kj' ?kk' ?kl') ?postA)
   case kl'=>exact⟨rfl,lo,hi,rfl,ZS,ZT,by lia,hl,D4⟩
   case kk' =>
    rintro c aw ⟨rfl,l,u,rfl,h1,h2,h3,h4,h5⟩;have:l=u:=by lia
    subst this;exact⟨rfl,l,rfl,h2,h4,h5⟩
   case kj' =>
    rintro x c aw _ hx ⟨rfl,l,u,rfl,h1,h2,h3,h4,h5⟩;dsimp only;by_cases vk:l >= u
    ·rw[if_pos vk];have:l=u:=by lia
     subst this;exact dQ ⟨rfl,l,rfl,h2,h4,h5⟩
    ·rw[if_neg vk];refine cS (cW C hk hP hy (by lia) ?_)
     cases q:gX r left key arr base (l+(u-l) / 2) with
     |true =>exact dQ ⟨rfl,_,_,rfl,by lia,by lia,by lia,λi hi=>mono (by lia) (by lia) q,h5⟩
     |false =>exact dQ ⟨rfl,_,_,rfl,by lia,by lia,by lia,h4,λi hi mz=>Vq (by lia) mz q⟩
   case postA =>
    rintro c aw ⟨rfl,l,rfl,h2,h4,h5⟩;exact dQ (h l h2 h4 h5)
 |false =>
  refine cS (wt (sT (I:=λx c aw=>aw=st/\∃ lst g9,c=(none,lst,g9)/\lst<g9/\lst<hint+1/\x+1<=g9/\gX r left key arr base (hint-lst)=false) (Q:=λc aw=>aw=st/\∃ lst g9,c=(none,lst,g9)/\lst<g9/\lst<hint+1/\gX r left key arr base (hint-lst)=false/\(hint+1<=g9\/gX r left key arr base (hint-g9)=true)) ?km' ?fin2 ?kn') ?ko')
  case kn'=>exact⟨rfl,0,1,rfl,by lia,by lia,by lia,q0⟩
  case fin2 =>
   rintro c aw ⟨rfl,lst,g9,rfl,h1,h2,h3,h4⟩;exact⟨rfl,lst,g9,rfl,h1,h2,h4,.inl (by lia)⟩
  case km' =>
   rintro x c aw _ hx ⟨rfl,lst,g9,rfl,h1,h2,h3,h4⟩;dsimp only;by_cases vk:g9 >= hint+1
   ·rw[if_pos vk];exact dQ ⟨rfl,lst,g9,rfl,h1,h2,h4,.inl vk⟩
   ·rw[if_neg vk];refine cS (cW C hk hP hy (by lia) ?_)
    cases q:gX r left key arr base (hint-g9) with
    |true =>exact dQ ⟨rfl,lst,g9,rfl,h1,h2,h4,.inr q⟩
    |false =>exact dQ ⟨rfl,_,_,rfl,by lia,by lia,by lia,q⟩
  case ko' =>
   rintro c aw ⟨rfl,lst,g9,rfl,h1,h2,h4,h5⟩;generalize aw=st at *
   have hl:∀ i,i<hint+1-min g9 (hint+1)->gX r left key arr base i=true:=λi hi=>by
    rcases h5 with h5|h5
    ·lia
    ·by_cases z:hint+1<=g9
     ·lia
     ·exact mono (by lia) (by lia) h5
   have D4:∀ i,hint-lst<=i->i<n->gX r left key arr base i=false:=λi hi mz=>Vq (by lia) mz h4;have ZS:hint+1-min g9 (hint+1)<=hint-lst:=by lia
   have ZT:hint-lst<=n:=by lia
   generalize hint+1-min g9 (hint+1)=lo at *
   generalize hint-lst=hi at *
   refine cS (wt (sT (I:=λx c aw=>aw=st/\∃ l u,c=(none,l,u)/\l<=u/\u<=n/\u-l<=n-x/\(∀ i,i<l->gX r left key arr base i=true)/\(∀ i,u<=i->i<n->gX r left key arr base i=false)) (Q:=λc aw=>aw=st/\∃ l,c=(none,l,l)/\l<=n/\(∀ i,i<l->gX r left key arr base i=true)/\(∀ i,l<=i->i<n->gX r left key arr base i=false)) ?kq' ?kr' ?kt') ?ku')
   case kt'=>exact⟨rfl,lo,hi,rfl,ZS,ZT,by lia,hl,D4⟩
   case kr' =>
    rintro c aw ⟨rfl,l,u,rfl,h1,h2,h3,h4,h5⟩;have:l=u:=by lia
    subst this;exact⟨rfl,l,rfl,h2,h4,h5⟩
   case kq' =>
    rintro x c aw _ hx ⟨rfl,l,u,rfl,h1,h2,h3,h4,h5⟩;dsimp only;by_cases vk:l >= u
    ·rw[if_pos vk];have:l=u:=by lia
     subst this;exact dQ ⟨rfl,l,rfl,h2,h4,h5⟩
    ·rw[if_neg vk];refine cS (cW C hk hP hy (by lia) ?_)
     cases q:gX r left key arr base (l+(u-l) / 2) with
     |true =>exact dQ ⟨rfl,_,_,rfl,by lia,by lia,by lia,λi hi=>mono (by lia) (by lia) q,h5⟩
     |false =>exact dQ ⟨rfl,_,_,rfl,by lia,by lia,by lia,h4,λi hi mz=>Vq (by lia) mz q⟩
   case ku' =>
    rintro c aw ⟨rfl,l,rfl,h2,h4,h5⟩;exact dQ (h l h2 h4 h5)
end
abbrev Le(r:ag->Int)(x y:cf):Prop:=r x.1<=r y.1
def rj(e:xs[i]? = some p):R r xs i=r p.1:=by unfold R;rw[e]
def J1(h:i<xs.size):R r xs i=r xs[i].1:=rj (getElem?_pos xs i h)
structure MI(r:ag->Int)(a b out:Array cf)(ia ib:Nat):Prop where
 ha:ia<=a.size
 hb:ib<=b.size
 perm:out.toList.Perm (a.toList.take ia++b.toList.take ib)
 up:out.toList.Pairwise (Le r)
 la:∀ x∈out.toList,∀ i,ia<=i->i<a.size->r x.1<=R r a i
 lb:∀ x∈out.toList,∀ j,ib<=j->j<b.size->r x.1<=R r b j
section
variable {r:ag->Int}{a b out:Array cf}{ia ib:Nat}
def lW{α:Type}{l:List α}{i:Nat}{x:α}(h:l[i]? = some x):l.take (i+1)=l.take i++[x]:=by rw[AQ,h];rfl
def MI.qM(M:MI r a b out ia ib)(hA:Up r a 0 a.size)(hB:Up r b 0 b.size)(e:b[ib]? = some y)(hl:ia<a.size->R r b ib<=R r a ia):MI r a b (out.push y) ia (ib+1):=by
 have hib:ib<b.size:=(OZ.mp e).1;have ey:=rj (r:=r) e;refine⟨M.ha,hib,?_,?_,?_,?_⟩
 ·rw[sj,lW (by simpa using e),<- ui];exact M.perm.append_right _
 ·rw[sj,Ua];refine⟨M.up,by simp,λx hx z hz=>?_⟩;have:z=y:=by simpa using hz
  subst this;show r x.1<=r z.1;rw[<- ey];exact M.lb x hx ib (de _) hib
 ·intro x hx i hi P5;rw[sj] at hx;rcases eL.mp hx with hx|hx
  ·exact M.la x hx i hi P5
  ·have:x=y:=by simpa using hx
   subst this;rw[<- ey];exact AX (hl (by lia)) (hA ia i (fR _) hi P5)
 ·intro x hx j hj SN;rw[sj] at hx;rcases eL.mp hx with hx|hx
  ·exact M.lb x hx j (by lia) SN
  ·have:x=y:=by simpa using hx
   subst this;rw[<- ey];exact hB ib j (fR _) (by lia) SN
def MI.qp(M:MI r a b out ia ib)(hA:Up r a 0 a.size)(hB:Up r b 0 b.size)(e:a[ia]? = some y)(hl:ib<b.size->R r a ia<=R r b ib):MI r a b (out.push y) (ia+1) ib:=by
 have P5:ia<a.size:=(OZ.mp e).1;have ey:=rj (r:=r) e;refine⟨P5,M.hb,?_,?_,?_,?_⟩
 ·rw[sj,lW (by simpa using e),ui];refine(M.perm.append_right [y]).trans ?_;rw[ui];exact List.Perm.append_left _ Wo
 ·rw[sj,Ua];refine⟨M.up,by simp,λx hx z hz=>?_⟩;have:z=y:=by simpa using hz
  subst this;show r x.1<=r z.1;rw[<- ey];exact M.la x hx ia (de _) P5
 ·intro x hx i hi sC;rw[sj] at hx;rcases eL.mp hx with hx|hx
  ·exact M.la x hx i (by lia) sC
  ·have:x=y:=by simpa using hx
   subst this;rw[<- ey];exact hA ia i (fR _) (by lia) sC
 ·intro x hx j hj SN;rw[sj] at hx;rcases eL.mp hx with hx|hx
  ·exact M.lb x hx j hj SN
  ·have:x=y:=by simpa using hx
   subst this;rw[<- ey];exact AX (hl (by lia)) (hB ib j (fR _) hj SN)
def eY{xs:Array cf}{i k:Nat}(h:i+k<xs.size):xs.extract i (i+(k+1))=(xs.extract i (i+k)).push xs[i+k]:=by apply Us.mp;rw[sj];simp only[WM,Wl];rw[show i+(k+1)-i=k+1 by lia,show i+k-i=k by lia,AQ];congr 1;simp[h]
theorem MI.FP(hA:Up r a 0 a.size)(hB:Up r b 0 b.size):∀ (k:Nat) {out:Array cf} {ia:Nat},MI r a b out ia ib->ia+k<=a.size->(ib<b.size->∀ i,i<k->R r a (ia+i)<=R r b ib)->MI r a b (out++a.extract ia (ia+k)) (ia+k) ib
 |0,out,ia,M,h1,h2=>by have:a.extract ia (ia+0) = #[]:=RP (by simp only[KS];lia);rw[this];simpa using M
 |k+1,out,ia,M,h1,h2=>by have q:=MI.FP hA hB k M (by exact AW ‹_›) λhb i hi=>h2 hb i (by exact AV ‹_›);have e:a[ia+k]? = some a[ia+k]:=getElem?_pos a (ia+k) (by assumption);have z:=q.qp hA hB e λhb=>h2 hb k (by exact de _);rw[eY (by assumption),Array.append_push];exact z
theorem MI.FR(hA:Up r a 0 a.size)(hB:Up r b 0 b.size):∀ (k:Nat) {out:Array cf} {ib:Nat},MI r a b out ia ib->ib+k<=b.size->(ia<a.size->∀ i,i<k->R r b (ib+i)<=R r a ia)->MI r a b (out++b.extract ib (ib+k)) ia (ib+k)
 |0,out,ib,M,h1,h2=>by have:b.extract ib (ib+0) = #[]:=RP (by simp only[KS];lia);rw[this];simpa using M
 |k+1,out,ib,M,h1,h2=>by have q:=MI.FR hA hB k M (by exact AW ‹_›) λha i hi=>h2 ha i (by exact AV ‹_›);have e:b[ib+k]? = some b[ib+k]:=getElem?_pos b (ib+k) (by assumption);have z:=q.qM hA hB e λha=>h2 ha k (by exact de _);rw[eY (by assumption),Array.append_push];exact z
def bQ(r:ag->Int)(a b out:Array cf):Prop:=out.toList.Perm (a.toList++b.toList)/\out.toList.Pairwise (Le r)
def MI.whole(M:MI r a b out a.size b.size):bQ r a b out:=by refine⟨?_,M.up⟩;have h:=M.perm;rw[OQ (by simp),OQ (by simp)] at h;exact h
def MI.Mp(M:MI r a b out ia b.size)(hA:Up r a 0 a.size)(hB:Up r b 0 b.size):bQ r a b (out++a.extract ia a.size++b.extract b.size b.size):=by
 have e:b.extract b.size b.size = #[]:=by simp
 rw[e,WN];have ha:=M.ha;have q:=MI.FP hA hB (a.size-ia) M (by lia) λhb=>absurd hb (wq _);rw[show ia+(a.size-ia)=a.size by exact RH ‹_›] at q;exact q.whole
def MI.Ms(M:MI r a b out a.size ib)(hA:Up r a 0 a.size)(hB:Up r b 0 b.size):bQ r a b (out++a.extract a.size a.size++b.extract ib b.size):=by
 have e:a.extract a.size a.size = #[]:=by simp
 rw[e,WN];have hb:=M.hb;have q:=MI.FR hA hB (b.size-ib) M (by lia) λha=>absurd ha (wq _);rw[show ib+(b.size-ib)=b.size by exact RH ‹_›] at q;exact q.whole
def MI.P6(M:MI r a b out ia ib)(hA:Up r a 0 a.size)(hB:Up r b 0 b.size)(e:ib=b.size):bQ r a b (out++a.extract ia a.size++b.extract ib b.size):=by subst e;exact M.Mp hA hB
def MI.P7(M:MI r a b out ia ib)(hA:Up r a 0 a.size)(hB:Up r b 0 b.size)(e:ia=a.size):bQ r a b (out++a.extract ia a.size++b.extract ib b.size):=by subst e;exact M.Ms hA hB
def MI.Mt(M:MI r a b out ia ib)(hA:Up r a 0 a.size)(hB:Up r b 0 b.size)(P5:ia+1=a.size)(hg:∀ j,j<b.size->R r b j<=R r a ia):bQ r a b (out++b.extract ib b.size++a.extract ia a.size):=by have hb:=M.hb;have q:=MI.FR hA hB (b.size-ib) M (by lia) λha i hi=>hg _ (by lia);rw[show ib+(b.size-ib)=b.size by exact RH ‹_›] at q;have z:=MI.FP hA hB (a.size-ia) q (by lia) λhb=>absurd hb (wq _);rw[show ia+(a.size-ia)=a.size by lia] at z;exact z.whole
def MI.start(hA:Up r a 0 a.size)(hB:Up r b 0 b.size):MI r a b #[] 0 0:=⟨fR _,fR _,by simp,by simp,λx hx=>by simp at hx,λx hx=>by simp at hx⟩
end
def bz:Nat->StateT d5 Sem Unit:=sortPriv% PySem.Builtin.setMinGallop
def tO:Array cf->Array cf->StateT d5 Sem (Array cf):=sortPriv% PySem.Builtin.mergeLo
def sZ:Array cf->Array cf->StateT d5 Sem (Array cf):=sortPriv% PySem.Builtin.mergeHi
def jk(g:Nat):bz g=modify λs=>SortSt.mk' (fS s) (b9 s) (ny s) g (ti s):=rfl
def Mg(st aw:d5):Prop:=∃ g,aw=SortSt.mk' (fS st) (b9 st) (ny st) g (ti st)
def Mg.refl(st:d5):Mg st st:=⟨gallopOf st,rfl⟩
def Mg.kind{st aw:d5}(h:Mg st aw):fS aw=fS st:=by obtain⟨g,rfl⟩:=h;rfl
def Mg.set{st aw:d5}(h:Mg st aw)(g:Nat):Mg st (SortSt.mk' (fS aw) (b9 aw) (ny aw) g (ti aw)):=by obtain⟨g',rfl⟩:=h;exact⟨g,rfl⟩
section
variable {prog:cv}{w:cK}{A:eB}{E:ag->ay->Prop}{s:ay}{r:ag->Int}
def gW{st:d5}{g:Nat}{Q:Unit->d5->Prop}(h:Q () (SortSt.mk' (fS st) (b9 st) (ny st) g (ti st))):wpS (aT prog w) A E s (bz g) Q st:=by rw[jk];exact E6 h
def Dc(h:gX r false key arr base i=true):R r arr (base+i)<=r key.1:=by unfold gX at h;simp only[uj,if_false,WH,decide_eq_false_iff_not] at h;lia
def zP(h:gX r false key arr base i=false):r key.1<R r arr (base+i):=by unfold gX at h;simp only[uj,if_false,Bool.not_eq_false',decide_eq_true_eq] at h;exact h
def HF(h:gX r true key arr base i=true):R r arr (base+i)<r key.1:=by unfold gX at h;simp only[if_true,decide_eq_true_eq] at h;exact h
def vg(h:gX r true key arr base i=false):r key.1<=R r arr (base+i):=by unfold gX at h;simp only[if_true,decide_eq_false_iff_not] at h;lia
end
def Mg.trans{a b c:d5}(h:Mg a b)(g:Mg b c):Mg a c:=by obtain⟨x,rfl⟩:=h;obtain⟨y,rfl⟩:=g;exact⟨y,rfl⟩
def Gn{K G:Prop}(pk:K)(h:K->G):G:=h pk
abbrev SM:=StateT d5 Sem
abbrev L1:=Option (Array cf) × Array cf × Nat × Nat × Nat
abbrev MG:=Option (Array cf) × Array cf × Nat × Nat × Nat × Nat
abbrev L3:=Option (Array cf) × Array cf × Nat × Nat × Nat × Nat × Nat
def Iy(a b out:Array cf)(ia ib:Nat):Array cf:=out++a.extract ia a.size++b.extract ib b.size
def SQ(a b out:Array cf)(ia ib:Nat):Array cf:=out++b.extract ib b.size++a.extract ia a.size
def ZU(a b:Array cf)(mg ac bc ia ib:Nat)(out:Array cf):SM (ForInStep L3):=elem' a ia >>= λp =>
 if (ia+1+1 == a.size)=true then pure (.done (some (SQ a b (out.push p) (ia+1) ib),out.push p,ia+1,ib,mg,ac,bc))
 else if (decide (ac<7) && decide (bc<7))=true then pure (.done (none,out.push p,ia+1,ib,mg,ac,bc)) else pure (.yield (none,out.push p,ia+1,ib,mg,ac,bc))
def ML(a b:Array cf)(mg ac bc ia ib:Nat)(out:Array cf):SM (ForInStep L3):=elem' a ia >>= λp=>kJ true p b ib (b.size-ib) 0 >>= λx=>match x with
 |some k=>if k>0 then
   if (ib+k == b.size)=true then pure (.done (some (Iy a b (out++b.extract ib (ib+k)) ia (ib+k)),out++b.extract ib (ib+k),ia,ib+k,mg,ac,k))
   else ZU a b mg ac k ia (ib+k) (out++b.extract ib (ib+k))
  else ZU a b mg ac k ia ib out
 |_=>pure (.done (some (Iy a b out ia ib),out,ia,ib,mg,ac,bc))
def lo1(a b:Array cf)(mg ac bc ia ib:Nat)(out:Array cf):SM (ForInStep L3):=elem' b ib >>= λp =>
 if (ib+1 == b.size)=true then pure (.done (some (Iy a b (out.push p) ia (ib+1)),out.push p,ia,ib+1,mg,ac,bc)) else ML a b mg ac bc ia (ib+1) (out.push p)
def ZV(a b:Array cf)(mg ac bc ia ib:Nat)(out:Array cf):SM (ForInStep L3):=bz mg >>= λ_=>elem' b ib >>= λp=>kJ false p a ia (a.size-ia) 0 >>= λx=>match x with
 |some k=>if k>0 then
   if (ia+k+1 == a.size)=true then pure (.done (some (SQ a b (out++a.extract ia (ia+k)) (ia+k) ib),out++a.extract ia (ia+k),ia+k,ib,mg,k,bc))
   else if (ia+k == a.size)=true then pure (.done (some (Iy a b (out++a.extract ia (ia+k)) (ia+k) ib),out++a.extract ia (ia+k),ia+k,ib,mg,k,bc))
   else lo1 a b mg k bc (ia+k) ib (out++a.extract ia (ia+k))
  else lo1 a b mg k bc ia ib out
 |_=>pure (.done (some (Iy a b out ia ib),out,ia,ib,mg,ac,bc))
def loG(a b:Array cf)(_:Nat)(s:L3):SM (ForInStep L3) :=
 if s.2.2.2.2.1>1 then ZV a b (s.2.2.2.2.1-1) s.2.2.2.2.2.1 s.2.2.2.2.2.2 s.2.2.1 s.2.2.2.1 s.2.1 else ZV a b s.2.2.2.2.1 s.2.2.2.2.2.1 s.2.2.2.2.2.2 s.2.2.1 s.2.2.2.1 s.2.1
def loA(a b:Array cf)(mg bc ia ib:Nat)(out:Array cf):SM (ForInStep MG):=elem' b ib >>= λp =>
 if (ib+1 == b.size)=true then pure (.done (some (Iy a b (out.push p) ia (ib+1)),out.push p,ia,ib+1,0,bc+1))
 else if bc+1 >= mg then pure (.done (none,out.push p,ia,ib+1,0,bc+1)) else pure (.yield (none,out.push p,ia,ib+1,0,bc+1))
def loB(a b:Array cf)(mg ac ia ib:Nat)(out:Array cf):SM (ForInStep MG):=elem' a ia >>= λp =>
 if (ia+1+1 == a.size)=true then pure (.done (some (SQ a b (out.push p) (ia+1) ib),out.push p,ia+1,ib,ac+1,0))
 else if ac+1 >= mg then pure (.done (none,out.push p,ia+1,ib,ac+1,0)) else pure (.yield (none,out.push p,ia+1,ib,ac+1,0))
def loI(a b:Array cf)(mg:Nat)(_:Nat)(s:MG):SM (ForInStep MG):=elem' b s.2.2.2.1 >>= λpb=>elem' a s.2.2.1 >>= λpa=>lt' pb pa >>= λx=>match x with
 |some w=>if w=true then loA a b mg s.2.2.2.2.2 s.2.2.1 s.2.2.2.1 s.2.1 else loB a b mg s.2.2.2.2.1 s.2.2.1 s.2.2.2.1 s.2.1
 |_=>pure (.done (some (Iy a b s.2.1 s.2.2.1 s.2.2.2.1),s.2.1,s.2.2.1,s.2.2.2.1,s.2.2.2.2.1,s.2.2.2.2.2))
def loP (a b:Array cf) (mg:Nat) (t:MG):SM (ForInStep L1):=(liftM (rule "list.sort.gallop"):SM Unit) >>= λ_ =>
 forIn [:a.size+b.size] ((none,t.2.1,t.2.2.1,t.2.2.2.1,mg+1,t.2.2.2.2.1,t.2.2.2.2.2):L3) (loG a b) >>= λu=>match u.1 with
 |some r=>pure (.done (some r,u.2.1,u.2.2.1,u.2.2.2.1,u.2.2.2.2.1))
 |none=>bz (u.2.2.2.2.1+1) >>= λ_=>pure (.yield (none,u.2.1,u.2.2.1,u.2.2.2.1,u.2.2.2.2.1+1))
def loO(a b:Array cf)(_:Nat)(s:L1):SM (ForInStep L1):=forIn [:a.size+b.size] ((none,s.2.1,s.2.2.1,s.2.2.2.1,0,0):MG) (loI a b s.2.2.2.2) >>= λt=>match t.1 with
 |some r=>pure (.done (some r,t.2.1,t.2.2.1,t.2.2.2.1,s.2.2.2.2))
 |none=>loP a b s.2.2.2.2 t
def loM (a b:Array cf):SM (Array cf):=(liftM (rule "list.sort.merge-lo"):SM Unit) >>= λ_=>elem' b 0 >>= λy =>
 if (1 == b.size)=true then pure (Iy a b #[y] 0 1)
 else if (0+1 == a.size)=true then pure (SQ a b #[y] 0 1)
 else get >>= λst=>forIn [:a.size+b.size] ((none,#[y],0,1,gallopOf st):L1) (loO a b) >>= λt=>match t.1 with
 |some r=>pure r
 |none=>(liftM (unsupported (α:=Array cf) "internal:list.sort.merge-bound"):SM (Array cf))
set_option smartUnfolding false in
def vC:tO=loM:=rfl
section
variable {prog:cv}{w:cK}{A:eB}{E:ag->ay->Prop}{s:ay}{κ:tf}{r:ag->Int}{P:ag->Prop}{a b out:Array cf}{mg ac bc ia ib N:Nat}{st:d5}
structure MC(prog:cv)(w:cK)(A:eB)(s:ay)(κ:tf)(r:ag->Int)(P:ag->Prop)(a b:Array cf):Prop where
 C:qa prog w A s κ r P
 pa:AllP P a
 pb:AllP P b
 hA:Up r a 0 a.size
 hB:Up r b 0 b.size
 hl:∀ i,i<a.size->R r b 0<=R r a i
 hg:∀ j,j<b.size->R r b j<=R r a (a.size-1)
def HS{β:Type}(r:ag->Int)(a b:Array cf)(c:Option (Array cf) × β):Prop:=∃ out rest,c=(some out,rest)/\bQ r a b out
def LY(r:ag->Int)(a b:Array cf)(N:Nat)(c:L3):Prop:=∃ out ia ib mg ac bc,c=(none,out,ia,ib,mg,ac,bc)/\MI r a b out ia ib/\ia+1<a.size/\ib<b.size/\N<=ia+ib
def LI(r:ag->Int)(a b:Array cf)(N:Nat)(c:MG):Prop:=∃ out ia ib ac bc,c=(none,out,ia,ib,ac,bc)/\MI r a b out ia ib/\ia+1<a.size/\ib<b.size/\N<=ia+ib
def MC.last(c:MC prog w A s κ r P a b)(M:MI r a b out ia ib)(z:ia+1=a.size):bQ r a b (SQ a b out ia ib):=M.Mt c.hA c.hB z λj hj=>by have:=c.hg j hj;rwa[show a.size-1=ia by lia] at this
def Du(c:MC prog w A s κ r P a b)(M:MI r a b out ia ib)(h1:ia+1<a.size)(lt:R r a ia<=R r b ib)(h2:ib<b.size)(hN:N<=ia+ib)(D:∀ c,HS r a b c->Q (.done c) st)(Y:∀ c,LY r a b N c->Q (.done c) st/\Q (.yield c) st):wpS (aT prog w) A E s (ZU a b mg ac bc ia ib out) Q st:=by
 refine cS (aK (by lia) λp e=>?_);have M2:=M.qp c.hA c.hB e λ_=>lt;by_cases z:ia+1+1=a.size
 ·walk_at"g";exact dQ (D _ ⟨_,_,rfl,c.last M2 z⟩)
 ·walk_at"h";have y:=Y _ ⟨_,_,_,mg,ac,bc,rfl,M2,by lia,h2,by lia⟩;split
  ·exact dQ y.1
  ·exact dQ y.2
def Jw(c:MC prog w A s κ r P a b)(hk:fS st=κ)(M:MI r a b out ia ib)(h1:ia+1<a.size)(h2:ib<b.size)(hN:N<=ia+ib)(D:∀ c,HS r a b c->Q (.done c) st)(Y:∀ c,LY r a b N c->Q (.done c) st/\Q (.yield c) st):wpS (aT prog w) A E s (ML a b mg ac bc ia ib out) Q st:=by
 refine cS (aK (by lia) λp e=>cS (cD c.C hk c.pb (c.pa.at e) (by lia) (by lia) (λi j u v w=>c.hB i j (by lia) v (by lia)) λl P8 My MQ=>?_));have ra:=rj (r:=r) e;dsimp only;have lt:ib+l<b.size->R r a ia<=R r b (ib+l):=λz=>by have:=vg (MQ l (de _) (by lia));lia
 by_cases l0:l>0
 ·have M5:=MI.FR c.hA c.hB l M (by lia) λ_ i hi=>by have:=HF (My i hi);lia
  rw[if_pos l0];by_cases z:ib+l=b.size
  ·walk_at"g";exact dQ (D _ ⟨_,_,rfl,M5.P6 c.hA c.hB z⟩)
  ·walk_at"h";exact Du c M5 h1 (lt (by lia)) (by lia) (by lia) D Y
 ·rw[if_neg l0];obtain rfl:l=0:=by lia
  exact Du c M h1 (lt h2) h2 hN D Y
def DP(c:MC prog w A s κ r P a b)(hk:fS st=κ)(M:MI r a b out ia ib)(h1:ia+1<a.size)(lt:R r b ib<=R r a ia)(h2:ib<b.size)(hN:N<=ia+ib)(D:∀ c,HS r a b c->Q (.done c) st)(Y:∀ c,LY r a b N c->Q (.done c) st/\Q (.yield c) st):wpS (aT prog w) A E s (lo1 a b mg ac bc ia ib out) Q st:=by
 refine cS (aK h2 λp e=>?_);have M4:=M.qM c.hA c.hB e λ_=>lt;by_cases z:ib+1=b.size
 ·walk_at"g";exact dQ (D _ ⟨_,_,rfl,M4.P6 c.hA c.hB z⟩)
 ·walk_at"h";exact Jw c hk M4 h1 (by lia) (by lia) D Y
def Kf(c:MC prog w A s κ r P a b)(hk:fS st=κ)(M:MI r a b out ia ib)(h1:ia+1<a.size)(h2:ib<b.size)(hN:N<=ia+ib)(D:∀ aw,Mg st aw->∀ c,HS r a b c->Q (.done c) aw)(Y:∀ aw,Mg st aw->∀ c,LY r a b N c->Q (.done c) aw/\Q (.yield c) aw):wpS (aT prog w) A E s (ZV a b mg ac bc ia ib out) Q st:=by
 have g:=(Mg.refl st).set mg;refine cS (gW ?_);refine cS (aK h2 λp e=>cS (cD c.C (g.kind.trans hk) c.pa (c.pb.at e) (by lia) (by lia) (λi j u v w=>c.hA i j (by lia) v (by lia)) λk hk1 IA MR=>?_));have rb:=rj (r:=r) e;dsimp only;have lt:ia+k<a.size->R r b ib<=R r a (ia+k):=λz=>by have:=zP (MR k (de _) (by lia));lia
 by_cases k0:k>0
 ·have M3:=MI.FP c.hA c.hB k M (by lia) λ_ i hi=>by have:=Dc (IA i hi);lia
  rw[if_pos k0];by_cases z:ia+k+1=a.size
  ·walk_at"g";exact dQ (D _ g _ ⟨_,_,rfl,c.last M3 z⟩)
  ·walk_at"h";by_cases z2:ia+k=a.size
   ·rw[if_pos (by simpa using z2)];exact dQ (D _ g _ ⟨_,_,rfl,M3.P7 c.hA c.hB z2⟩)
   ·rw[if_neg (by simpa using z2)];exact DP c (g.kind.trans hk) M3 (by lia) (lt (by lia)) h2 (by lia) (D _ g) (Y _ g)
 ·rw[if_neg k0];obtain rfl:k=0:=by lia
  exact DP c (g.kind.trans hk) M h1 (lt (by lia)) h2 hN (D _ g) (Y _ g)
def JK(c:MC prog w A s κ r P a b)(M:MI r a b out ia ib)(h1:ia+1<a.size)(lt:R r b ib<=R r a ia)(h2:ib<b.size)(hN:N<=ia+ib+1)(D:∀ c,HS r a b c->Q (.done c) st)(Y:∀ c,LI r a b N c->Q (.done c) st/\Q (.yield c) st):wpS (aT prog w) A E s (loA a b mg bc ia ib out) Q st:=by
 refine cS (aK h2 λp e=>?_);have M2:=M.qM c.hA c.hB e λ_=>lt;by_cases z:ib+1=b.size
 ·walk_at"g";exact dQ (D _ ⟨_,_,rfl,M2.P6 c.hA c.hB z⟩)
 ·walk_at"h";have y:=Y _ ⟨_,_,_,0,bc+1,rfl,M2,h1,by lia,hN⟩;split
  ·exact dQ y.1
  ·exact dQ y.2
def JZ(c:MC prog w A s κ r P a b)(M:MI r a b out ia ib)(h1:ia+1<a.size)(lt:R r a ia<=R r b ib)(h2:ib<b.size)(hN:N<=ia+ib+1)(D:∀ c,HS r a b c->Q (.done c) st)(Y:∀ c,LI r a b N c->Q (.done c) st/\Q (.yield c) st):wpS (aT prog w) A E s (loB a b mg ac ia ib out) Q st:=by
 refine cS (aK (by lia) λp e=>?_);have M2:=M.qp c.hA c.hB e λ_=>lt;by_cases z:ia+1+1=a.size
 ·walk_at"g";exact dQ (D _ ⟨_,_,rfl,c.last M2 z⟩)
 ·walk_at"h";have y:=Y _ ⟨_,_,_,ac+1,0,rfl,M2,by lia,h2,by lia⟩;split
  ·exact dQ y.1
  ·exact dQ y.2
def Jt(c:MC prog w A s κ r P a b)(hk:fS st=κ)(M:MI r a b out ia ib)(h1:ia+1<a.size)(h2:ib<b.size)(hN:N<=ia+ib+1)(D:∀ c,HS r a b c->Q (.done c) st)(Y:∀ c,LI r a b N c->Q (.done c) st/\Q (.yield c) st):wpS (aT prog w) A E s (loI a b mg x (none,out,ia,ib,ac,bc)) Q st:=by
 refine cS (aK h2 λpb eb=>cS (aK (show ia<a.size by lia) λpa ea=>cS (pJ c.C hk (c.pb.at eb) (c.pa.at ea) ?_)));have rb:R r b ib=r pb.1:=rj eb;have ra:R r a ia=r pa.1:=rj ea;dsimp only;by_cases hw:r pb.1<r pa.1
 ·rw[if_pos (decide_eq_true hw)];exact JK c M h1 (by lia) h2 hN D Y
 ·rw[if_neg (by simpa using hw)];exact JZ c M h1 (by lia) h2 hN D Y
def JX(c:MC prog w A s κ r P a b)(hk:fS st=κ)(M:MI r a b out ia ib)(h1:ia+1<a.size)(h2:ib<b.size)(hN:N<=ia+ib)(D:∀ aw,Mg st aw->∀ c,HS r a b c->Q (.done c) aw)(Y:∀ aw,Mg st aw->∀ out ia ib mg,MI r a b out ia ib->ia+1<a.size->ib<b.size->N<=ia+ib->Q (.yield (none,out,ia,ib,mg)) aw):wpS (aT prog w) A E s (loP a b mg (none,out,ia,ib,ac,bc)) Q st:=by
 walk_at"v";refine cS (wt (sT (I:=λ_ c aw=>Mg st aw/\LY r a b N c) (Q:=λc aw=>Mg st aw/\(HS r a b c\/LY r a b N c)) ?step ?fin ⟨.refl st,_,_,_,_,_,_,rfl,M,h1,h2,hN⟩) ?post);case fin =>
  rintro c aw ⟨hm,q⟩;exact⟨hm,.inr q⟩
 case step =>
  rintro y c1 FT _ _ ⟨hm,out,ia,ib,mg,ac,bc,rfl,M,h1,h2,hN⟩;unfold loG;split<;>exact Kf c (hm.kind.trans hk) M h1 h2 hN (λaw g c q=>⟨hm.trans g,.inl q⟩) λaw g c q=>⟨⟨hm.trans g,.inr q⟩,hm.trans g,q⟩
 case post =>
  rintro c aw ⟨hm,⟨o,rest,rfl,hM⟩|⟨out,ia,ib,mg,ac,bc,rfl,M,h1,h2,hN⟩⟩
  ·exact dQ (D _ hm _ ⟨_,_,rfl,hM⟩)
  ·exact cS (gW (dQ (Y _ (hm.set _) _ _ _ _ M h1 h2 hN)))
def JP(c:MC prog w A s κ r P a b)(hk:fS st=κ)(M:MI r a b out ia ib)(h1:ia+1<a.size)(h2:ib<b.size)(hN:N<=ia+ib)(D:∀ aw,Mg st aw->∀ c,HS r a b c->Q (.done c) aw)(Y:∀ aw,Mg st aw->∀ out ia ib mg,MI r a b out ia ib->ia+1<a.size->ib<b.size->N+1<=ia+ib->Q (.yield (none,out,ia,ib,mg)) aw):wpS (aT prog w) A E s (loO a b x (none,out,ia,ib,mg)) Q st:=by
 refine cS (wt (sT (I:=λy c aw=>aw=st/\LI r a b (N+y) c) (Q:=λc aw=>aw=st/\(HS r a b c\/LI r a b (N+1) c)) ?step ?fin ⟨rfl,_,_,_,_,_,rfl,M,h1,h2,hN⟩) ?post);case fin =>
  rintro c aw ⟨rfl,o,ia',ib',ac,bc,rfl,M',q1,q2,q3⟩;exact⟨rfl,.inr ⟨_,_,_,_,_,rfl,M',q1,q2,by lia⟩⟩
 case step =>
  rintro y c1 FT _ hy ⟨rfl,o,ia',ib',ac,bc,rfl,M',q1,q2,q3⟩;exact Jt (N:=N+y+1) c hk M' q1 q2 (by lia) (λc q=>⟨rfl,.inl q⟩) λc q=>by obtain⟨o,ia,ib,ac,bc,rfl,M,h1,h2,h3⟩:=q;exact⟨⟨rfl,.inr ⟨_,_,_,_,_,rfl,M,h1,h2,by lia⟩⟩,rfl,_,_,_,_,_,rfl,M,h1,h2,by lia⟩
 case post =>
  rintro c1 aw ⟨rfl,⟨o,rest,rfl,hM⟩|⟨o,ia,ib,ac,bc,rfl,M',q1,q2,q3⟩⟩
  ·exact dQ (D _ (.refl _) _ ⟨_,_,rfl,hM⟩)
  ·exact JX c hk M' q1 q2 q3 D Y
def sE{st:d5}{a b:Array cf}{Q:Array cf->d5->Prop}(C:qa prog w A s κ r P)(hk:fS st=κ)(ZW:AllP P a)(ZX:AllP P b)(hA:Up r a 0 a.size)(hB:Up r b 0 b.size)(na:1<=a.size)(nb:1<=b.size)(h0:R r b 0<=R r a 0) (hg:∀ j,j<b.size->R r b j<=R r a (a.size-1)) (h:∀ out aw,bQ r a b out->Mg st aw->Q out aw):wpS (aT prog w) A E s (tO a b) Q st:=by
 have c:MC prog w A s κ r P a b:=⟨C,ZW,ZX,hA,hB,λi hi=>AX h0 (hA 0 i (de _) (fR _) hi),hg⟩
 rw[vC];walk_at"v";refine cS (aK nb λy0 e0=>?_);have M1:MI r a b #[y0] 0 1:=(MI.start hA hB).qM hA hB e0 λ_=>h0;by_cases c1:1=b.size
 ·rw[if_pos (by simpa using c1)];exact dQ (h _ _ (M1.P6 hA hB c1) (.refl st))
 ·rw[if_neg (by simpa using c1)];by_cases c2:0+1=a.size
  ·rw[if_pos (by simpa using c2)];exact dQ (h _ _ (c.last M1 c2) (.refl st))
  ·rw[if_neg (by simpa using c2)];refine cS (wpS_get ?_);refine cS (wt (sT (I:=λx c aw=>Mg st aw/\∃ out ia ib mg,c=(none,out,ia,ib,mg)/\MI r a b out ia ib/\ia+1<a.size/\ib<b.size/\x+1<=ia+ib) (Q:=λc aw=>Mg st aw/\HS r a b c) ?step ?fin ⟨.refl st,_,_,_,_,rfl,M1,by lia,by lia,by lia⟩) ?post)
   case fin =>
    rintro c aw ⟨_,out,ia,ib,mg,rfl,M,h1,h2,h3⟩;lia
   case post =>
    rintro c aw ⟨hm,out,rest,rfl,hM⟩;exact dQ (h out aw hM hm)
   case step =>
    rintro x c1 FT _ hx ⟨zC,out,ia,ib,mg,rfl,M,h1,h2,h3⟩;exact JP c (zC.kind.trans hk) M h1 h2 h3 (λaw g c q=>⟨zC.trans g,q⟩) λaw g out ia ib mg M h1 h2 h3=>⟨zC.trans g,_,_,_,_,rfl,M,h1,h2,h3⟩
end
abbrev Ge(r:ag->Int)(x y:cf):Prop:=r y.1<=r x.1
structure MH(r:ag->Int)(a b out:Array cf)(na nb:Nat):Prop where
 ha:na<=a.size
 hb:nb<=b.size
 perm:out.toList.Perm (a.toList.drop na++b.toList.drop nb)
 down:out.toList.Pairwise (Ge r)
 ga:∀ x∈out.toList,∀ i,i<na->R r a i<=r x.1
 gb:∀ x∈out.toList,∀ j,j<nb->R r b j<=r x.1
section
variable {r:ag->Int}{a b out:Array cf}{na nb:Nat}
def pZ{α:Type}{l:List α}{i:Nat}{x:α}(h0:0<i)(h:l[i-1]? = some x):l.drop (i-1)=x :: l.drop i:=by obtain⟨hi,e⟩:=kM.mp h;rw[Kb hi,e,show i-1+1=i by exact Nat.sub_add_cancel ‹_›]
def MH.qp(M:MH r a b out na nb)(hA:Up r a 0 a.size)(hB:Up r b 0 b.size)(h0:0<na)(e:a[na-1]? = some y)(hl:0<nb->R r b (nb-1)<=R r a (na-1)):MH r a b (out.push y) (na-1) nb:=by
 have ey:=rj (r:=r) e;have ha:=M.ha;have hb:=M.hb;refine⟨by lia,M.hb,?_,?_,?_,?_⟩
 ·rw[sj,pZ h0 (by simpa using e)];exact(M.perm.append_right [y]).trans Wo
 ·rw[sj,Ua];refine⟨M.down,by simp,λx hx z hz=>?_⟩;have:z=y:=by simpa using hz
  subst this;show r z.1<=r x.1;rw[<- ey];exact M.ga x hx (na-1) (by lia)
 ·intro x hx i hi;rw[sj] at hx;rcases eL.mp hx with hx|hx
  ·exact M.ga x hx i (by lia)
  ·have:x=y:=by simpa using hx
   subst this;rw[<- ey];exact hA i (na-1) (fR _) (by lia) (by lia)
 ·intro x hx j hj;rw[sj] at hx;rcases eL.mp hx with hx|hx
  ·exact M.gb x hx j hj
  ·have:x=y:=by simpa using hx
   subst this;rw[<- ey];exact AX (hB j (nb-1) (fR _) (by lia) (by lia)) (hl (by lia))
def MH.qM(M:MH r a b out na nb)(hA:Up r a 0 a.size)(hB:Up r b 0 b.size)(h0:0<nb)(e:b[nb-1]? = some y)(hl:0<na->R r a (na-1)<=R r b (nb-1)):MH r a b (out.push y) na (nb-1):=by
 have ey:=rj (r:=r) e;have ha:=M.ha;have hb:=M.hb;refine⟨M.ha,by lia,?_,?_,?_,?_⟩
 ·rw[sj,pZ h0 (by simpa using e)];refine(M.perm.append_right [y]).trans ?_;rw[ui];exact List.Perm.append_left _ Wo
 ·rw[sj,Ua];refine⟨M.down,by simp,λx hx z hz=>?_⟩;have:z=y:=by simpa using hz
  subst this;show r z.1<=r x.1;rw[<- ey];exact M.gb x hx (nb-1) (by lia)
 ·intro x hx i hi;rw[sj] at hx;rcases eL.mp hx with hx|hx
  ·exact M.ga x hx i hi
  ·have:x=y:=by simpa using hx
   subst this;rw[<- ey];exact AX (hA i (na-1) (fR _) (by lia) (by lia)) (hl (by lia))
 ·intro x hx j hj;rw[sj] at hx;rcases eL.mp hx with hx|hx
  ·exact M.gb x hx j (by lia)
  ·have:x=y:=by simpa using hx
   subst this;rw[<- ey];exact hB j (nb-1) (fR _) (by lia) (by lia)
def jN{xs:Array cf}{i n:Nat}(h:i<n)(hn:n<=xs.size):(xs.extract i n).reverse = #[xs[n-1]'(by lia)]++(xs.extract i (n-1)).reverse:=by
 obtain⟨k,rfl⟩:∃ k,n=i+(k+1):=⟨n-1-i,by lia⟩
 have e3:i+(k+1)-1=i+k:=by rfl
 simp only[e3];rw[eY (by assumption),Array.reverse_push]
theorem MH.FP(hA:Up r a 0 a.size)(hB:Up r b 0 b.size):∀ (k:Nat) {out:Array cf} {na p:Nat},MH r a b out na nb->p+k=na->(0<nb->∀ i,p<=i->i<na->R r b (nb-1)<=R r a i)->MH r a b (out++(a.extract p na).reverse) p nb
 |0,out,na,p,M,h1,h2=>by
  have:a.extract p na = #[]:=RP (by simp only[KS];lia);have e:na=p:=by lia
  subst e;rw[this];simpa using M
 |k+1,out,na,p,M,h1,h2=>by have ha:=M.ha;have e:a[na-1]? = some (a[na-1]'(by lia)):=getElem?_pos a (na-1) (by lia);have q:=M.qp hA hB (by lia) e λhb=>h2 hb _ (by lia) (by lia);have z:=MH.FP hA hB k q (by lia) λhb i vt sC=>h2 hb i vt (by lia);rw[jN (by lia) ha,<- RQ];simpa using z
theorem MH.FR(hA:Up r a 0 a.size)(hB:Up r b 0 b.size):∀ (k:Nat) {out:Array cf} {nb p:Nat},MH r a b out na nb->p+k=nb->(0<na->∀ i,p<=i->i<nb->R r a (na-1)<=R r b i)->MH r a b (out++(b.extract p nb).reverse) na p
 |0,out,nb,p,M,h1,h2=>by
  have:b.extract p nb = #[]:=RP (by simp only[KS];lia);have e:nb=p:=by lia
  subst e;rw[this];simpa using M
 |k+1,out,nb,p,M,h1,h2=>by have hb:=M.hb;have e:b[nb-1]? = some (b[nb-1]'(by lia)):=getElem?_pos b (nb-1) (by lia);have q:=M.qM hA hB (by lia) e λha=>h2 ha _ (by lia) (by lia);have z:=MH.FR hA hB k q (by lia) λha i vt sC=>h2 ha i vt (by lia);rw[jN (by lia) hb,<- RQ];simpa using z
def MH.whole(M:MH r a b out 0 0):bQ r a b out.reverse:=by
 refine⟨?_,?_⟩
 ·have h:=M.perm;rw[Array.toList_reverse];exact(List.reverse_perm _).trans h
 ·rw[Array.toList_reverse,List.pairwise_reverse];exact M.down
def oX(x y:Array cf):(x++y.reverse).reverse=y++x.reverse:=by apply Us.mp;simp
def MH.P7(M:MH r a b out na nb)(hA:Up r a 0 a.size)(hB:Up r b 0 b.size)(e:na=0):bQ r a b (a.extract 0 na++b.extract 0 nb++out.reverse):=by
 subst e;have z:=MH.FR hA hB nb (p:=0) M (by exact RK ..) λha=>absurd ha (wq _);have q:=z.whole;rw[oX] at q;have e2:a.extract 0 0 = #[]:=by simp
 rw[e2,Array.empty_append];exact q
def MH.P6(M:MH r a b out na nb)(hA:Up r a 0 a.size)(hB:Up r b 0 b.size)(e:nb=0):bQ r a b (a.extract 0 na++b.extract 0 nb++out.reverse):=by
 subst e;have z:=MH.FP hA hB na (p:=0) M (by exact RK ..) λhb=>absurd hb (wq _);have q:=z.whole;rw[oX] at q;have e2:b.extract 0 0 = #[]:=by simp
 rw[e2,WN];exact q
def MH.t7(M:MH r a b out na nb)(hA:Up r a 0 a.size)(hB:Up r b 0 b.size)(e:nb=1)(hl:∀ i,i<a.size->R r b 0<=R r a i):bQ r a b (b.extract 0 nb++a.extract 0 na++out.reverse):=by subst e;have ha:=M.ha;have z:=MH.FP hA hB na (p:=0) M (by exact RK ..) λ_ i _ hi=>hl i (by lia);have z2:=MH.FR hA hB 1 (p:=0) z (by exact RK ..) λh=>absurd h (wq _);have q:=z2.whole;rw[oX,oX] at q;rw[RQ];exact q
def MH.start:MH r a b #[] a.size b.size:=⟨de _,de _,by simp,by simp,λx hx=>by simp at hx,λx hx=>by simp at hx⟩
end
abbrev S1:=Option (Array cf) × Nat × Nat × Array cf × Nat
abbrev S2:=Option (Array cf) × Nat × Nat × Array cf × Nat × Nat
abbrev S3:=Option (Array cf) × Nat × Nat × Array cf × Nat × Nat × Nat
def IB(a b out:Array cf)(na nb:Nat):Array cf:=a.extract 0 na++b.extract 0 nb++out.reverse
def Vr(a b out:Array cf)(na nb:Nat):Array cf:=b.extract 0 nb++a.extract 0 na++out.reverse
def ZY(a b:Array cf)(mg ac bc na nb:Nat)(out:Array cf):SM (ForInStep S3):=elem' a (na-1) >>= λp =>
 if (na-1 == 0)=true then pure (.done (some (IB a b (out.push p) (na-1) nb),na-1,nb,out.push p,mg,ac,bc))
 else if (decide (ac<7) && decide (bc<7))=true then pure (.done (none,na-1,nb,out.push p,mg,ac,bc)) else pure (.yield (none,na-1,nb,out.push p,mg,ac,bc))
def sC(a b:Array cf)(mg ac bc na nb:Nat)(out:Array cf):SM (ForInStep S3):=elem' a (na-1) >>= λp=>kJ true p b 0 nb (nb-1) >>= λx=>match x with
 |some k=>if nb-k>0 then
   if (k == 1)=true then pure (.done (some (Vr a b (out++(b.extract k nb).reverse) na k),na,k,out++(b.extract k nb).reverse,mg,ac,nb-k))
   else if (k == 0)=true then pure (.done (some (IB a b (out++(b.extract k nb).reverse) na k),na,k,out++(b.extract k nb).reverse,mg,ac,nb-k))
   else ZY a b mg ac (nb-k) na k (out++(b.extract k nb).reverse)
  else ZY a b mg ac (nb-k) na nb out
 |_=>pure (.done (some (IB a b out na nb),na,nb,out,mg,ac,bc))
def vt(a b:Array cf)(mg ac bc na nb:Nat)(out:Array cf):SM (ForInStep S3):=elem' b (nb-1) >>= λp =>
 if (nb-1 == 1)=true then pure (.done (some (Vr a b (out.push p) na (nb-1)),na,nb-1,out.push p,mg,ac,bc)) else sC a b mg ac bc na (nb-1) (out.push p)
def SK(a b:Array cf)(mg ac bc na nb:Nat)(out:Array cf):SM (ForInStep S3):=bz mg >>= λ_=>elem' b (nb-1) >>= λp=>kJ false p a 0 na (na-1) >>= λx=>match x with
 |some k=>if na-k>0 then
   if (k == 0)=true then pure (.done (some (IB a b (out++(a.extract k na).reverse) k nb),k,nb,out++(a.extract k na).reverse,mg,na-k,bc))
   else vt a b mg (na-k) bc k nb (out++(a.extract k na).reverse)
  else vt a b mg (na-k) bc na nb out
 |_=>pure (.done (some (IB a b out na nb),na,nb,out,mg,ac,bc))
def hiG(a b:Array cf)(_:Nat)(s:S3):SM (ForInStep S3) :=
 if s.2.2.2.2.1>1 then SK a b (s.2.2.2.2.1-1) s.2.2.2.2.2.1 s.2.2.2.2.2.2 s.2.1 s.2.2.1 s.2.2.2.1 else SK a b s.2.2.2.2.1 s.2.2.2.2.2.1 s.2.2.2.2.2.2 s.2.1 s.2.2.1 s.2.2.2.1
def hiA(a b:Array cf)(mg ac na nb:Nat)(out:Array cf):SM (ForInStep S2):=elem' a (na-1) >>= λp =>
 if (na-1 == 0)=true then pure (.done (some (IB a b (out.push p) (na-1) nb),na-1,nb,out.push p,ac+1,0))
 else if ac+1 >= mg then pure (.done (none,na-1,nb,out.push p,ac+1,0)) else pure (.yield (none,na-1,nb,out.push p,ac+1,0))
def hiB(a b:Array cf)(mg bc na nb:Nat)(out:Array cf):SM (ForInStep S2):=elem' b (nb-1) >>= λp =>
 if (nb-1 == 1)=true then pure (.done (some (Vr a b (out.push p) na (nb-1)),na,nb-1,out.push p,0,bc+1))
 else if bc+1 >= mg then pure (.done (none,na,nb-1,out.push p,0,bc+1)) else pure (.yield (none,na,nb-1,out.push p,0,bc+1))
def hiI(a b:Array cf)(mg:Nat)(_:Nat)(s:S2):SM (ForInStep S2):=elem' b (s.2.2.1-1) >>= λpb=>elem' a (s.2.1-1) >>= λpa=>lt' pb pa >>= λx=>match x with
 |some w=>if w=true then hiA a b mg s.2.2.2.2.1 s.2.1 s.2.2.1 s.2.2.2.1 else hiB a b mg s.2.2.2.2.2 s.2.1 s.2.2.1 s.2.2.2.1
 |_=>pure (.done (some (IB a b s.2.2.2.1 s.2.1 s.2.2.1),s.2.1,s.2.2.1,s.2.2.2.1,s.2.2.2.2.1,s.2.2.2.2.2))
def hiP (a b:Array cf) (mg:Nat) (t:S2):SM (ForInStep S1):=(liftM (rule "list.sort.gallop"):SM Unit) >>= λ_ =>
 forIn [:a.size+b.size] ((none,t.2.1,t.2.2.1,t.2.2.2.1,mg+1,t.2.2.2.2.1,t.2.2.2.2.2):S3) (hiG a b) >>= λu=>match u.1 with
 |some r=>pure (.done (some r,u.2.1,u.2.2.1,u.2.2.2.1,u.2.2.2.2.1))
 |none=>bz (u.2.2.2.2.1+1) >>= λ_=>pure (.yield (none,u.2.1,u.2.2.1,u.2.2.2.1,u.2.2.2.2.1+1))
def hiO(a b:Array cf)(_:Nat)(s:S1):SM (ForInStep S1):=forIn [:a.size+b.size] ((none,s.2.1,s.2.2.1,s.2.2.2.1,0,0):S2) (hiI a b s.2.2.2.2) >>= λt=>match t.1 with
 |some r=>pure (.done (some r,t.2.1,t.2.2.1,t.2.2.2.1,s.2.2.2.2))
 |none=>hiP a b s.2.2.2.2 t
def hiM (a b:Array cf):SM (Array cf):=(liftM (rule "list.sort.merge-hi"):SM Unit) >>= λ_=>elem' a (a.size-1) >>= λy =>
 if (a.size-1 == 0)=true then pure (IB a b #[y] (a.size-1) b.size)
 else if (b.size == 1)=true then pure (Vr a b #[y] (a.size-1) b.size)
 else get >>= λst=>forIn [:a.size+b.size] ((none,a.size-1,b.size,#[y],gallopOf st):S1) (hiO a b) >>= λt=>match t.1 with
 |some r=>pure r
 |none=>(liftM (unsupported (α:=Array cf) "internal:list.sort.merge-bound"):SM (Array cf))
set_option smartUnfolding false in
def vA:sZ=hiM:=rfl
section
variable {prog:cv}{w:cK}{A:eB}{E:ag->ay->Prop}{s:ay}{κ:tf}{r:ag->Int}{P:ag->Prop}{a b out:Array cf}{mg ac bc na nb N:Nat}{st:d5}{Q:ForInStep S3->d5->Prop}
def HD(r:ag->Int)(a b:Array cf)(Q:ForInStep S3->d5->Prop)(st:d5):Prop:=∀ o rest,bQ r a b o->Q (.done (some o,rest)) st
def HY(r:ag->Int)(a b:Array cf)(N:Nat)(Q:ForInStep S3->d5->Prop)(st:d5):Prop :=
 ∀ o na nb mg ac bc,MH r a b o na nb->1<=na->2<=nb->na+nb<=N->Q (.done (none,na,nb,o,mg,ac,bc)) st/\Q (.yield (none,na,nb,o,mg,ac,bc)) st
def Dt(c:MC prog w A s κ r P a b)(M:MH r a b out na nb)(h1:0<na)(lt:R r b (nb-1)<=R r a (na-1))(h2:2<=nb)(hN:na+nb<=N)(D:HD r a b Q st)(Y:HY r a b N Q st):wpS (aT prog w) A E s (ZY a b mg ac bc na nb out) Q st:=by
 have ha:=M.ha;refine cS (aK (by lia) λp e=>?_);have M2:=M.qp c.hA c.hB h1 e λ_=>lt;by_cases z:na-1=0
 ·walk_at"g";exact dQ (D _ _ (M2.P7 c.hA c.hB z))
 ·walk_at"h";have y:=Y _ _ _ mg ac bc M2 (by lia) h2 (by lia);split
  ·exact dQ y.1
  ·exact dQ y.2
def Ka(c:MC prog w A s κ r P a b)(hk:fS st=κ)(M:MH r a b out na nb)(h1:0<na)(h2:2<=nb)(hN:na+nb<=N)(D:HD r a b Q st)(Y:HY r a b N Q st):wpS (aT prog w) A E s (sC a b mg ac bc na nb out) Q st:=by
 have ha:=M.ha;have hb:=M.hb;refine cS (aK (by lia) λp e=>cS (cD c.C hk c.pb (c.pa.at e) (by lia) (by lia) (λi j u v w=>c.hB i j u v (by lia)) λl P8 My MQ=>?_));have ra:=rj (r:=r) e;dsimp only;have lt:0<l->R r b (l-1)<=R r a (na-1):=λz=>by have:=HF (My (l-1) (by exact Nat.sub_lt ‹_› Nat.one_pos));rw[Ul] at this;lia
 by_cases l0:nb-l>0
 ·have M5:=MH.FR c.hA c.hB (nb-l) (p:=l) M (by exact RH ‹_›) λ_ i vt sC=>by have:=vg (MQ i vt sC);rw[Ul] at this;lia
  rw[if_pos l0];by_cases z4:l=1
  ·rw[if_pos (by simpa using z4)];exact dQ (D _ _ (M5.t7 c.hA c.hB z4 c.hl))
  ·rw[if_neg (by simpa using z4)];by_cases z6:l=0
   ·rw[if_pos (by simpa using z6)];exact dQ (D _ _ (M5.P6 c.hA c.hB z6))
   ·rw[if_neg (by simpa using z6)];exact Dt c M5 h1 (lt (by lia)) (by lia) (by lia) D Y
 ·rw[if_neg l0];obtain rfl:l=nb:=by lia
  exact Dt c M h1 (lt (by exact WC ‹_›)) h2 hN D Y
def Dy(c:MC prog w A s κ r P a b)(hk:fS st=κ)(M:MH r a b out na nb)(h1:0<na)(h2:2<=nb)(lt:R r a (na-1)<=R r b (nb-1))(hN:na+nb<=N)(D:HD r a b Q st)(Y:HY r a b N Q st):wpS (aT prog w) A E s (vt a b mg ac bc na nb out) Q st:=by
 have hb:=M.hb;refine cS (aK (by lia) λp e=>?_);have M4:=M.qM c.hA c.hB (by exact WC ‹_›) e λ_=>lt;by_cases z:nb-1=1
 ·walk_at"g";exact dQ (D _ _ (M4.t7 c.hA c.hB z c.hl))
 ·walk_at"h";exact Ka c hk M4 h1 (by lia) (by lia) D Y
def J8(c:MC prog w A s κ r P a b)(hk:fS st=κ)(M:MH r a b out na nb)(h1:0<na)(h2:2<=nb)(hN:na+nb<=N)(D:∀ aw,Mg st aw->HD r a b Q aw)(Y:∀ aw,Mg st aw->HY r a b N Q aw):wpS (aT prog w) A E s (SK a b mg ac bc na nb out) Q st:=by
 have ha:=M.ha;have hb:=M.hb;have g:=(Mg.refl st).set mg;refine cS (gW ?_);refine cS (aK (by lia) λp e=>cS (cD c.C (g.kind.trans hk) c.pa (c.pb.at e) (by lia) (by exact Nat.sub_lt ‹_› Nat.one_pos) (λi j u v w=>c.hA i j u v (by lia)) λk hk1 IA MR=>?_));have rb:=rj (r:=r) e;dsimp only;have lt:0<k->R r a (k-1)<=R r b (nb-1):=λz=>by have:=Dc (IA (k-1) (by exact Nat.sub_lt ‹_› Nat.one_pos));rw[Ul] at this;lia
 by_cases k0:na-k>0
 ·have M3:=MH.FP c.hA c.hB (na-k) (p:=k) M (by exact RH ‹_›) λ_ i vt sC=>by have:=zP (MR i vt sC);rw[Ul] at this;lia
  rw[if_pos k0];by_cases z:k=0
  ·walk_at"g";exact dQ (D _ g _ _ (M3.P7 c.hA c.hB z))
  ·walk_at"h";exact Dy c (g.kind.trans hk) M3 (by lia) h2 (lt (by lia)) (by lia) (D _ g) (Y _ g)
 ·rw[if_neg k0];obtain rfl:k=na:=by lia
  exact Dy c (g.kind.trans hk) M h1 h2 (lt h1) hN (D _ g) (Y _ g)
def HI(r:ag->Int)(a b:Array cf)(N:Nat)(c:S2):Prop:=∃ na nb out ac bc,c=(none,na,nb,out,ac,bc)/\MH r a b out na nb/\1<=na/\2<=nb/\na+nb<=N
def Kw{Q:ForInStep S2->d5->Prop}(c:MC prog w A s κ r P a b)(M:MH r a b out na nb)(h1:0<na)(lt:R r b (nb-1)<=R r a (na-1))(h2:2<=nb)(hN:na+nb<=N+1)(D:∀ c,HS r a b c->Q (.done c) st)(Y:∀ c,HI r a b N c->Q (.done c) st/\Q (.yield c) st):wpS (aT prog w) A E s (hiA a b mg ac na nb out) Q st:=by
 have ha:=M.ha;refine cS (aK (by lia) λp e=>?_);have M2:=M.qp c.hA c.hB h1 e λ_=>lt;by_cases z:na-1=0
 ·walk_at"g";exact dQ (D _ ⟨_,_,rfl,M2.P7 c.hA c.hB z⟩)
 ·walk_at"h";have y:=Y _ ⟨_,_,_,ac+1,0,rfl,M2,by lia,h2,by lia⟩;split
  ·exact dQ y.1
  ·exact dQ y.2
def JH{Q:ForInStep S2->d5->Prop}(c:MC prog w A s κ r P a b)(M:MH r a b out na nb)(h1:0<na)(lt:R r a (na-1)<=R r b (nb-1))(h2:2<=nb)(hN:na+nb<=N+1)(D:∀ c,HS r a b c->Q (.done c) st)(Y:∀ c,HI r a b N c->Q (.done c) st/\Q (.yield c) st):wpS (aT prog w) A E s (hiB a b mg bc na nb out) Q st:=by
 have hb:=M.hb;refine cS (aK (by lia) λp e=>?_);have M2:=M.qM c.hA c.hB (by exact WC ‹_›) e λ_=>lt;by_cases z:nb-1=1
 ·walk_at"g";exact dQ (D _ ⟨_,_,rfl,M2.t7 c.hA c.hB z c.hl⟩)
 ·walk_at"h";have y:=Y _ ⟨_,_,_,0,bc+1,rfl,M2,h1,by lia,by lia⟩;split
  ·exact dQ y.1
  ·exact dQ y.2
def JW{Q:ForInStep S2->d5->Prop}{x:Nat}(c:MC prog w A s κ r P a b)(hk:fS st=κ)(M:MH r a b out na nb)(h1:0<na)(h2:2<=nb)(hN:na+nb<=N+1)(D:∀ c,HS r a b c->Q (.done c) st)(Y:∀ c,HI r a b N c->Q (.done c) st/\Q (.yield c) st):wpS (aT prog w) A E s (hiI a b mg x (none,na,nb,out,ac,bc)) Q st:=by
 have ha:=M.ha;have hb:=M.hb;refine cS (aK (show nb-1<b.size by lia) λpb eb=>cS (aK (show na-1<a.size by lia) λpa ea=>cS (pJ c.C hk (c.pb.at eb) (c.pa.at ea) ?_)));have rb:R r b (nb-1)=r pb.1:=rj eb;have ra:R r a (na-1)=r pa.1:=rj ea;dsimp only;by_cases hw:r pb.1<r pa.1
 ·rw[if_pos (decide_eq_true hw)];exact Kw c M h1 (by lia) h2 hN D Y
 ·rw[if_neg (by simpa using hw)];exact JH c M h1 (by lia) h2 hN D Y
def Kl{Q:ForInStep S1->d5->Prop}(c:MC prog w A s κ r P a b)(hk:fS st=κ)(M:MH r a b out na nb)(h1:0<na)(h2:2<=nb)(hN:na+nb<=N)(D:∀ aw,Mg st aw->∀ c,HS r a b c->Q (.done c) aw)(Y:∀ aw,Mg st aw->∀ out na nb mg,MH r a b out na nb->1<=na->2<=nb->na+nb<=N->Q (.yield (none,na,nb,out,mg)) aw):wpS (aT prog w) A E s (hiP a b mg (none,na,nb,out,ac,bc)) Q st:=by
 walk_at"v";refine cS (wt (sT (I:=λ_ c aw=>Mg st aw/\∃ na nb out mg ac bc,c=(none,na,nb,out,mg,ac,bc)/\MH r a b out na nb/\1<=na/\2<=nb/\na+nb<=N) (Q:=λc aw=>Mg st aw/\(HS r a b c\/∃ na nb out mg ac bc,c=(none,na,nb,out,mg,ac,bc)/\MH r a b out na nb/\1<=na/\2<=nb/\na+nb<=N)) ?step ?fin ⟨.refl st,_,_,_,_,_,_,rfl,M,h1,h2,hN⟩) ?post)
 case fin =>
  rintro c aw ⟨hm,q⟩;exact⟨hm,.inr q⟩
 case step =>
  rintro y c1 FT _ _ ⟨hm,na,nb,out,mg,ac,bc,rfl,M,h1,h2,hN⟩;unfold hiG;split<;>exact J8 c (hm.kind.trans hk) M h1 h2 hN (λaw g o rest hM=>⟨hm.trans g,.inl ⟨o,rest,rfl,hM⟩⟩) λaw g o na nb mg ac bc M h1 h2 hN=>⟨⟨hm.trans g,.inr ⟨_,_,_,_,_,_,rfl,M,h1,h2,hN⟩⟩,hm.trans g,_,_,_,_,_,_,rfl,M,h1,h2,hN⟩
 case post =>
  rintro c aw ⟨hm,⟨o,rest,rfl,hM⟩|⟨na,nb,out,mg,ac,bc,rfl,M,h1,h2,hN⟩⟩
  ·exact dQ (D _ hm _ ⟨_,_,rfl,hM⟩)
  ·exact cS (gW (dQ (Y _ (hm.set _) _ _ _ _ M h1 h2 hN)))
def Im{Q:ForInStep S1->d5->Prop}{x:Nat}(c:MC prog w A s κ r P a b)(hk:fS st=κ)(M:MH r a b out na nb)(h1:0<na)(h2:2<=nb)(hN:na+nb<=N+1)(D:∀ aw,Mg st aw->∀ c,HS r a b c->Q (.done c) aw)(Y:∀ aw,Mg st aw->∀ out na nb mg,MH r a b out na nb->1<=na->2<=nb->na+nb<=N->Q (.yield (none,na,nb,out,mg)) aw):wpS (aT prog w) A E s (hiO a b x (none,na,nb,out,mg)) Q st:=by
 have hb:=M.hb;refine cS (wt (sT (I:=λy c aw=>aw=st/\HI r a b (N+1-y) c) (Q:=λc aw=>aw=st/\(HS r a b c\/HI r a b N c)) ?step ?fin ⟨rfl,_,_,_,_,_,rfl,M,h1,h2,hN⟩) ?post);case fin =>
  rintro c aw ⟨rfl,na',rq,o,ac,bc,rfl,M',q1,q2,q3⟩;exact⟨rfl,.inr ⟨_,_,_,_,_,rfl,M',q1,q2,by lia⟩⟩
 case step =>
  rintro y c1 FT _ hy ⟨rfl,na',rq,o,ac,bc,rfl,M',q1,q2,q3⟩;exact JW (N:=N-y) c hk M' q1 q2 (by lia) (λc q=>⟨rfl,.inl q⟩) λc q=>by obtain⟨na,nb,o,ac,bc,rfl,M,h1,h2,h3⟩:=q;exact⟨⟨rfl,.inr ⟨_,_,_,_,_,rfl,M,h1,h2,by lia⟩⟩,rfl,_,_,_,_,_,rfl,M,h1,h2,by lia⟩
 case post =>
  rintro c1 aw ⟨rfl,⟨o,rest,rfl,hM⟩|⟨na,nb,o,ac,bc,rfl,M',q1,q2,q3⟩⟩
  ·exact dQ (D _ (.refl _) _ ⟨_,_,rfl,hM⟩)
  ·exact Kl c hk M' q1 q2 q3 D Y
def rE{st:d5}{a b:Array cf}{Q:Array cf->d5->Prop}(C:qa prog w A s κ r P)(hk:fS st=κ)(ZW:AllP P a)(ZX:AllP P b)(hA:Up r a 0 a.size)(hB:Up r b 0 b.size)(na:1<=a.size)(nb:1<=b.size)(h0:R r b 0<=R r a 0) (hg:∀ j,j<b.size->R r b j<=R r a (a.size-1)) (h:∀ out aw,bQ r a b out->Mg st aw->Q out aw):wpS (aT prog w) A E s (sZ a b) Q st:=by
 have c:MC prog w A s κ r P a b:=⟨C,ZW,ZX,hA,hB,λi hi=>AX h0 (hA 0 i (de _) (fR _) hi),hg⟩
 rw[vA];walk_at"v";refine cS (aK (by lia) λy0 e0=>?_);have M1:MH r a b #[y0] (a.size-1) b.size:=MH.start.qp hA hB na e0 λ_=>hg _ (by lia);by_cases c1:a.size-1=0
 ·rw[if_pos (by simpa using c1)];exact dQ (h _ _ (M1.P7 hA hB c1) (.refl st))
 ·rw[if_neg (by simpa using c1)];by_cases c2:b.size=1
  ·rw[if_pos (by simpa using c2)];exact dQ (h _ _ (M1.t7 hA hB c2 c.hl) (.refl st))
  ·rw[if_neg (by simpa using c2)];refine cS (wpS_get ?_);refine cS (wt (sT (I:=λx c aw=>Mg st aw/\∃ na nb out mg,c=(none,na,nb,out,mg)/\MH r a b out na nb/\1<=na/\2<=nb/\na+nb<=a.size+b.size-x) (Q:=λc aw=>Mg st aw/\HS r a b c) ?step ?fin ⟨.refl st,_,_,_,_,rfl,M1,by lia,by lia,by lia⟩) ?post)
   case fin =>
    rintro c aw ⟨_,na,nb,out,mg,rfl,M,h1,h2,h3⟩;lia
   case post =>
    rintro c aw ⟨hm,out,rest,rfl,hM⟩;exact dQ (h out aw hM hm)
   case step =>
    rintro x c1 FT _ hx ⟨zC,na,nb,out,mg,rfl,M,h1,h2,h3⟩;exact Im c (zC.kind.trans hk) M h1 h2 (by lia) (λaw g c q=>⟨zC.trans g,q⟩) λaw g out na nb mg M h1 h2 h3=>⟨zC.trans g,_,_,_,_,rfl,M,h1,h2,h3⟩
end
def wr(p:Nat)(m:List cf)(n:Nat)(xs:Array cf):Array cf:=(m.zipIdx n).foldl (λa (q:cf × Nat)=>a.setIfInBounds (p+q.2) q.1) xs
theorem yh(p:Nat):∀ (m:List cf) (n:Nat) (xs:Array cf),p+n+m.length<=xs.size->∀ k:Nat,(wr p m n xs)[k]? = if p+n<=k/\k<p+n+m.length then m[k-(p+n)]? else xs[k]?
 |[],n,xs,h,k=>by rw[if_neg (by simp only[RB];lia)];rfl
 |q :: m,n,xs,h,k=>by
  have ih:=yh p m (n+1) (xs.setIfInBounds (p+n) q) (by rw[Array.size_setIfInBounds];simp only[oi] at h;lia) k;have e:wr p (q :: m) n xs=wr p m (n+1) (xs.setIfInBounds (p+n) q):=by unfold wr;rw[List.zipIdx_cons,AU]
  simp only[oi] at h ⊢;rw[e,ih];by_cases h1:p+(n+1)<=k/\k<p+(n+1)+m.length
  ·rw[if_pos h1,if_pos (by lia),show k-(p+n)=(k-(p+(n+1)))+1 by lia,List.getElem?_cons_succ]
  ·rw[if_neg h1];by_cases h2:k=p+n
   ·subst h2;rw[if_pos (by lia),Nat.sub_self,List.getElem?_cons_zero,Array.getElem?_setIfInBounds_self_of_lt (by lia)]
   ·rw[if_neg (by lia),Array.getElem?_setIfInBounds_ne (by lia)]
def GZ(h:p+m.length<=xs.size):(wr p m 0 xs).toList=xs.toList.take p++m++xs.toList.drop (p+m.length):=by
 have hl:xs.toList.length=xs.size:=by simp
 apply OS;intro k;have e:=yh p m 0 xs h k;rw[OX] at e;rw[tj,e];by_cases h1:k<p
 ·rw[if_neg (by lia),ui,EW (by rw[nV];lia),List.getElem?_take_of_lt h1,tj]
 ·by_cases h2:k<p+m.length
  ·rw[if_pos (by lia),ui,EV (by rw[nV];lia),nV,show min p xs.toList.length=p by lia,EW (by lia)]
  ·rw[if_neg (by lia),ui,EV (by rw[nV];lia),nV,show min p xs.toList.length=p by lia,EV (by lia),List.getElem?_drop,
    show p+m.length+(k-p-m.length)=k by lia,tj]
def Jp{p q:Nat}{xs:Array cf}(h:p<=q)(h2:q<=xs.size):xs.toList=xs.toList.take p++(xs.extract p q).toList++xs.toList.drop q:=by
 rw[WM,Wl];have e1:xs.toList.take p++(xs.toList.drop p).take (q-p)=xs.toList.take q:=by rw[<- Rt p (xs.toList.take q),List.take_take,List.drop_take,Nat.min_eq_left h]
 rw[e1,Rt]
def Em{p q:Nat}{m:List cf}{xs:Array cf}(h:p<=q)(h2:q<=xs.size)(hm:m.Perm (xs.extract p q).toList):(wr p m 0 xs).Perm xs:=by
 have hl:m.length=q-p:=by rw[hm.length_eq];simp;lia
 rw[WK,GZ (by lia),show p+m.length=q by lia];have e:=Jp h h2;exact(List.Perm.append_right _ (List.Perm.append_left _ hm)).trans (by rw[<- e])
def Runs(r:ag->Int)(xs:Array cf):List (Nat × Nat × Nat)->Nat->Nat->Prop
 |[],a,b=>a=b
 | (s,n,_) :: rest,a,b=>s=a/\1<=n/\Up r xs s (s+n)/\Runs r xs rest (s+n) b
section
variable {r:ag->Int}{xs ys:Array cf}
theorem Runs.le:∀ {ps:List (Nat × Nat × Nat)} {a b:Nat},Runs r xs ps a b->a+ps.length<=b
 |[],a,b,h=>by simp only[Runs] at h;simp;lia
 | (s,n,p) :: rest,a,b,h=>by obtain⟨rfl,h1,_,h3⟩:=h;have:=Runs.le h3;simp only[oi];lia
theorem Runs.append:∀ {ps qs:List (Nat × Nat × Nat)} {a b:Nat},Runs r xs (ps++qs) a b↔∃ c,Runs r xs ps a c/\Runs r xs qs c b
 |[],qs,a,b=>by simp[Runs]
 | (s,n,p) :: rest,qs,a,b=>by
  constructor
  ·rintro⟨h1,h2,h3,h4⟩;obtain⟨c,h5,h6⟩:=Runs.append.mp h4;exact⟨c,⟨h1,h2,h3,h5⟩,h6⟩
  ·rintro⟨c,⟨h1,h2,h3,h5⟩,h6⟩;exact⟨h1,h2,h3,Runs.append.mpr ⟨c,h5,h6⟩⟩
def Up.congr(h:Up r xs a b)(e:∀ k,a<=k->k<b->ys[k]? = xs[k]?):Up r ys a b:=λi j h1 h2 h3=>by rw[cI (e i h1 (by lia)),cI (e j (by lia) h3)];exact h i j h1 h2 h3
theorem Runs.congr:∀ {ps:List (Nat × Nat × Nat)} {a b:Nat},Runs r xs ps a b->(∀ k,a<=k->k<b->ys[k]? = xs[k]?)->Runs r ys ps a b
 |[],a,b,h,_=>h
 | (s,n,p) :: rest,a,b,h,e=>by obtain⟨rfl,h1,h2,h3⟩:=h;have l:=h3.le;exact⟨rfl,h1,h2.congr λk u v=>e k u (by lia),Runs.congr h3 λk u v=>e k (by lia) v⟩
def Up.glue(h1:Up r xs a b)(h2:Up r xs b c)(h:∀ i j,a<=i->i<b->b<=j->j<c->R r xs i<=R r xs j):Up r xs a c:=λi j u v w=>by
 by_cases hj:j<b
 ·exact h1 i j u v hj
 ·by_cases hi:i<b
  ·exact h i j u hi (by lia) w
  ·exact h2 i j (by lia) v w
end
section
variable {prog:cv}{w:cK}{A:eB}{E:ag->ay->Prop}{s:ay}{κ:tf}{r:ag->Int}{P:ag->Prop}
def AllP.extract(h:AllP P xs)(i j:Nat):AllP P (xs.extract i j):=λp hp=>h p (by
 rw[WM,Wl] at hp;exact Ub (Ru hp))
def cZ(h:i+k<j)(hj:j<=xs.size):R r (xs.extract i j) k=R r xs (i+k):=by apply cI;rw[Uq,if_pos (by lia)]
def Up.extract(h:Up r xs i j)(mw:i<=j)(hj:j<=xs.size):Up r (xs.extract i j) 0 (xs.extract i j).size:=λa b _ h2 h3=>by
 have e:(xs.extract i j).size=j-i:=by simp only[KS];lia
 rw[cZ (by lia) hj,cZ (by lia) hj];exact h _ _ (by lia) (by lia) (by lia)
def yK(hz:sa+na+nb<=xs.size)(hk:k<na)(hnb:rq<=nb)(hA:Up r xs sa (sa+na))(hB:Up r xs (sa+na) (sa+na+nb))(lo1:∀ i,i<k->R r xs (sa+i)<=R r xs (sa+na)) (ML:R r xs (sa+na)<R r xs (sa+k)) (vt:∀ i,i<rq->R r xs (sa+na+i)<R r xs (sa+na-1)) (sC:∀ i,rq<=i->i<nb->R r xs (sa+na-1)<=R r xs (sa+na+i))(hm:bQ r (xs.extract (sa+k) (sa+na)) (xs.extract (sa+na) (sa+na+rq)) m) :
  Up r (wr (sa+k) m.toList 0 xs) sa (sa+na+nb)/\(wr (sa+k) m.toList 0 xs).Perm xs/\∀ j,j<sa\/sa+na+nb<=j->(wr (sa+k) m.toList 0 xs)[j]? = xs[j]? := by
 obtain⟨mp,mu⟩:=hm;have eab:(xs.extract (sa+k) (sa+na)).toList++(xs.extract (sa+na) (sa+na+rq)).toList=(xs.extract (sa+k) (sa+na+rq)).toList:=by rw[<- Array.toList_append,Array.extract_append_extract,show min (sa+k) (sa+na)=sa+k by lia,show max (sa+na) (sa+na+rq)=sa+na+rq by lia]
 rw[eab] at mp;have ml:m.toList.length=na+rq-k:=by rw[mp.length_eq];simp;lia
 have hw:sa+k+m.toList.length<=xs.size:=by lia
 have get:=yh (sa+k) m.toList 0 xs (by lia);rw[OX,ml] at get
 -- every merged item is one of the qU'
 have mem:∀ (j:Nat) p,m.toList[j]? = some p->∃ i,sa+k<=i/\i<sa+na+rq/\r p.1=R r xs i:=λj p e=>by
  have hp:p∈(xs.extract (sa+k) (sa+na+rq)).toList:=mp.mem_iff.mp (pf e);obtain⟨i,hi⟩:=List.getElem?_of_mem hp;rw[tj,Uq] at hi;split at hi
  ·exact⟨sa+k+i,by lia,by lia,(rj hi).symm⟩
  ·cases hi
 have low:∀ i,sa+k<=i->i<sa+na+rq->R r xs (sa+na)<=R r xs i:=λi h1 h2=>by
  by_cases h3:i<sa+na
  ·exact AX (KL ML) (hA (sa+k) i (by lia) h1 h3)
  ·exact hB (sa+na) i (de _) (by lia) (by lia)
 have high:∀ i,sa+k<=i->i<sa+na+rq->R r xs i<=R r xs (sa+na-1):=λi h1 h2=>by
  by_cases h3:i<sa+na
  ·exact hA i (sa+na-1) (by lia) (by lia) (by lia)
  ·have:=vt (i-(sa+na)) (by lia);rw[show sa+na+(i-(sa+na))=i by lia] at this;lia
 have Rin:∀ j,j<na+rq-k->∃ i,sa+k<=i/\i<sa+na+rq/\R r (wr (sa+k) m.toList 0 xs) (sa+k+j)=R r xs i:=λj hj=>by
  have e:=get (sa+k+j);rw[if_pos (by lia),show sa+k+j-(sa+k)=j by lia] at e;have A7:j<m.toList.length:=by lia
  obtain⟨i,h1,h2,h3⟩:=mem j m.toList[j] (si A7);rw[si A7] at e;exact⟨i,h1,h2,(rj e).trans h3⟩
 have P9:∀ j,j<sa+k\/sa+na+rq<=j->(wr (sa+k) m.toList 0 xs)[j]? = xs[j]? := λj hj=>by have e:=get j;rw[if_neg (by lia)] at e;exact e
 refine⟨?_,Em (by lia) (by lia) mp,λj hj=>P9 j (by lia)⟩;have U1:Up r (wr (sa+k) m.toList 0 xs) sa (sa+k):=Up.congr (λi j h1 h2 h3=>hA i j h1 h2 (by lia)) λj h1 h2=>P9 j (.inl h2);have U2:Up r (wr (sa+k) m.toList 0 xs) (sa+k) (sa+na+rq):=λi j h1 h2 h3=>by
  have ei:=get i;have ej:=get j;rw[if_pos (by lia)] at ei ej;have li:i-(sa+k)<m.toList.length:=by lia
  have lj:j-(sa+k)<m.toList.length:=by lia
  rw[si li] at ei;rw[si lj] at ej;rw[rj ei,rj ej];by_cases mw:i=j
  ·subst mw;exact AY _
  ·exact(Ki.mp mu) _ _ li lj (by lia)
 have U3:Up r (wr (sa+k) m.toList 0 xs) (sa+na+rq) (sa+na+nb):=Up.congr (λi j h1 h2 h3=>hB i j (by lia) h2 h3) λj h1 h2=>P9 j (.inr h1);refine(U1.glue U2 λi j h1 h2 h3 h4=>?_).glue U3 λi j h1 h2 h3 h4=>?_
 ·obtain⟨q,q1,q2,q3⟩:=Rin (j-(sa+k)) (by lia);rw[show sa+k+(j-(sa+k))=j by lia] at q3;rw[q3,cI (P9 i (.inl h2))];have:=lo1 (i-sa) (by lia);rw[show sa+(i-sa)=i by lia] at this;exact AX this (low q q1 q2)
 ·have e2:=sC (j-(sa+na)) (by lia) (by lia);rw[show sa+na+(j-(sa+na))=j by lia] at e2;rw[cI (P9 j (.inr h3))];by_cases hi:i<sa+k
  ·rw[cI (P9 i (.inl hi))];have:=lo1 (i-sa) (by lia);rw[show sa+(i-sa)=i by lia] at this;have:=low (sa+na-1) (by lia) (by lia);lia
  ·obtain⟨q,q1,q2,q3⟩:=Rin (i-(sa+k)) (by lia);rw[show sa+k+(i-(sa+k))=i by lia] at q3;rw[q3];exact AX (high q q1 q2) e2
structure St(r:ag->Int)(κ:tf)(gy:Array cf)(st:d5)(ps:List (Nat × Nat × Nat))(lo:Nat):Prop where
 kind:fS st=κ
 failed:ti st=none
 perm:(b9 st).Perm gy
 pend:ny st=ps.toArray
 runs:Runs r (b9 st) ps 0 lo
def St.size{gy:Array cf}{st:d5}{ps:List (Nat × Nat × Nat)}{lo:Nat}(h:St r κ gy st ps lo):(b9 st).size=gy.size:=h.perm.size_eq
def Ae{ps:List (Nat × Nat × Nat)}(h:i+1<ps.length):∃ pre x y post,ps=pre++x :: y :: post/\pre.length=i:=by refine⟨ps.take i,ps[i],ps[i+1],ps.drop (i+2),?_,by rw[nV];lia⟩;rw[<- Kb (by lia),<- Kb (by lia),Rt]
def j4{st:d5}{gy:Array cf}{ps:List (Nat × Nat × Nat)}{lo i:Nat}{Q:Bool->d5->Prop}(C:qa prog w A s κ r P)(hP:AllP P gy)(H:St r κ gy st ps lo)(Ic:lo<=gy.size)(hi:i+1<ps.length)(h:∀ aw kX,St r κ gy aw kX lo->kX.length+1=ps.length->kX≠[]->(∀ k,lo<=k->(b9 aw)[k]? = (b9 st)[k]?)->Q true aw):wpS (aT prog w) A E s (mergeAt' i) Q st:=by
 obtain⟨pre,⟨sa,na,pa⟩,⟨sb,nb,pb⟩,post,rfl,HZ⟩:=Ae hi;have hz:=H.size;have ox:AllP P (b9 st):=hP.perm H.perm;obtain⟨c,hr1,ZZ⟩:=Runs.append.mp H.runs;obtain⟨rfl,n1,u1,rfl,n2,u2,hr3⟩:=ZZ;have le3:=hr3.le;have le1:=hr1.le
 -- the new pending list
 have kC':((ny st).setIfInBounds i (sa,na+nb,pa)).eraseIdxIfInBounds (i+1)=(pre++(sa,na+nb,pa) :: post).toArray:=by rw[H.pend];apply Us.mp;simp[<- HZ,List.eraseIdx_append_of_length_le]
 have new:∀ xs g,xs.Perm (b9 st)->(∀ j,j<sa\/sa+na+nb<=j->xs[j]? = (b9 st)[j]?)->Up r xs sa (sa+(na+nb)) ->
   St r κ gy (SortSt.mk' (fS st) xs (pre++(sa,na+nb,pa) :: post).toArray g (ti st)) (pre++(sa,na+nb,pa) :: post) lo:=λxs g hp ho hu =>
  ⟨H.kind,H.failed,hp.trans H.perm,rfl,Runs.append.mpr ⟨sa,hr1.congr λk _ hk=>ho k (.inl hk),rfl,by lia,hu,by
   rw[show sa+(na+nb)=sa+na+nb by lia];exact hr3.congr λk hk _=>ho k (.inr hk)⟩⟩
 have len:(pre++(sa,na+nb,pa) :: post).length+1=(pre++(sa,na,pa) :: (sa+na,nb,pb) :: post).length:=by simp;lia
 have e0:(ny st)[i]? = some (sa,na,pa):=by rw[H.pend,<- HZ];simp
 have e1:(ny st)[i+1]? = some (sa+na,nb,pb):=by rw[H.pend,<- HZ];simp
 refine cS (wpS_get ?_);rw[e0,e1];refine cS (E6 ?_);rw[kC'];refine cS (aK (xs:=b9 st) (by lia) λkb ekb=>cS (cD (arr:=b9 st) C H.kind ox (ox.at ekb) (by lia) (by lia) u1 λk hk1 IA MR=>?_));have rkb:=rj (r:=r) ekb;dsimp only;by_cases z:na-k=0
 ·walk_at"g";refine dQ (h _ _ (new (b9 st) (gallopOf st) (Array.Perm.refl _) (λ_ _=>rfl) ?_) len (by simp) λ_ _=>rfl);rw[show sa+(na+nb)=sa+na+nb by lia];refine u1.glue u2 λi j h1 h2 h3 h4=>?_;have:=Dc (IA (i-sa) (by lia));rw[show sa+(i-sa)=i by lia] at this;have:=u2 (sa+na) j (de _) h3 h4;lia
 ·walk_at"h";refine cS (aK (xs:=b9 st) (by lia) λka eka=>cS (cD (arr:=b9 st) C H.kind ox (ox.at eka) (by lia) (by lia) u2 λl P8 My MQ=>?_));have rka:=rj (r:=r) eka;rw[show sa+k+(na-k)-1=sa+na-1 by lia] at rka;dsimp only;by_cases z2:l=0
  ·rw[if_pos (by simpa using z2)];refine dQ (h _ _ (new (b9 st) (gallopOf st) (Array.Perm.refl _) (λ_ _=>rfl) ?_) len (by simp) λ_ _=>rfl);rw[show sa+(na+nb)=sa+na+nb by lia];refine u1.glue u2 λi j h1 h2 h3 h4=>?_;have:=vg (MQ (j-(sa+na)) (by lia) (by lia));rw[show sa+na+(j-(sa+na))=j by lia] at this;have:=u1 i (sa+na-1) h1 (by lia) (by lia);lia
  ·rw[if_neg (by simpa using z2)];have lo1:∀ i,i<k->R r (b9 st) (sa+i)<=R r (b9 st) (sa+na):=λi hi=>by have:=Dc (IA i hi);lia
   have ML:R r (b9 st) (sa+na)<R r (b9 st) (sa+k):=by have:=zP (MR k (de _) (by lia));lia
   have vt:∀ i,i<l->R r (b9 st) (sa+na+i)<R r (b9 st) (sa+na-1):=λi hi=>by have:=HF (My i hi);lia
   have sC:∀ i,l<=i->i<nb->R r (b9 st) (sa+na-1)<=R r (b9 st) (sa+na+i):=λi h1 h2=>by have:=vg (MQ i h1 h2);lia
   have sx:((b9 st).extract (sa+k) (sa+na)).size=na-k:=by simp only[KS];lia
   have sy:((b9 st).extract (sa+na) (sa+na+l)).size=l:=by simp only[KS];lia
   have ux:Up r ((b9 st).extract (sa+k) (sa+na)) 0 ((b9 st).extract (sa+k) (sa+na)).size:=Up.extract (λi j h1 h2 h3=>u1 i j (by lia) h2 h3) (by lia) (by lia);have uy:Up r ((b9 st).extract (sa+na) (sa+na+l)) 0 ((b9 st).extract (sa+na) (sa+na+l)).size:=Up.extract (λi j h1 h2 h3=>u2 i j h1 h2 (by lia)) (by lia) (by lia);have h00:R r ((b9 st).extract (sa+na) (sa+na+l)) 0<=R r ((b9 st).extract (sa+k) (sa+na)) 0:=by rw[cZ (by lia) (by lia),cZ (by lia) (by lia)];exact KL ML
   have hgg:∀ j,j<((b9 st).extract (sa+na) (sa+na+l)).size->R r ((b9 st).extract (sa+na) (sa+na+l)) j<=R r ((b9 st).extract (sa+k) (sa+na)) (((b9 st).extract (sa+k) (sa+na)).size-1):=λj hj=>by rw[sx,cZ (by lia) (by lia),cZ (by lia) (by lia),show sa+k+(na-k-1)=sa+na-1 by lia];exact KL (vt j (by lia))
   have fin:∀ out aw,bQ r ((b9 st).extract (sa+k) (sa+na)) ((b9 st).extract (sa+na) (sa+na+l)) out->Mg (SortSt.mk' (fS st) (b9 st) (pre++(sa,na+nb,pa) :: post).toArray (gallopOf st) (ti st)) aw ->
     Q true (SortSt.mk' (fS aw) (wr (sa+k) out.toList 0 (b9 aw)) (ny aw) (gallopOf aw) (ti aw)):=λout aw hm hg=>by
    obtain⟨g,rfl⟩:=hg;obtain⟨m1,m2,m3⟩:=yK (by lia) (by lia) P8 u1 u2 lo1 ML vt sC hm;exact h _ _ (new _ g m2 m3 (by rw[show sa+(na+nb)=sa+na+nb by lia];exact m1)) len (by simp) λk hk=>m3 k (.inr (by lia))
   have fin2:∀ out aw,bQ r ((b9 st).extract (sa+k) (sa+na)) ((b9 st).extract (sa+na) (sa+na+l)) out->Mg (SortSt.mk' (fS st) (b9 st) (pre++(sa,na+nb,pa) :: post).toArray (gallopOf st) (ti st)) aw ->
     ti aw=none:=λout aw _ hg=>by
    obtain⟨g,rfl⟩:=hg;exact H.failed
   by_cases z3:na-k<=l
   ·rw[if_pos z3];refine cS (sE (a:=(b9 st).extract (sa+k) (sa+na)) (b:=(b9 st).extract (sa+na) (sa+na+l)) C H.kind (ox.extract _ _) (ox.extract _ _) ux uy (by lia) (by lia) h00 hgg λout aw hm hg=>?_);refine cS (E6 (cS (wpS_get ?_)));have f:=fin out aw hm hg;have f2:=fin2 out aw hm hg;refine dQ ?_;show Q (ti aw).isNone _;rw[f2];exact f
   ·rw[if_neg z3];refine cS (rE (a:=(b9 st).extract (sa+k) (sa+na)) (b:=(b9 st).extract (sa+na) (sa+na+l)) C H.kind (ox.extract _ _) (ox.extract _ _) ux uy (by lia) (by lia) h00 hgg λout aw hm hg=>?_);refine cS (E6 (cS (wpS_get ?_)));have f:=fin out aw hm hg;have f2:=fin2 out aw hm hg;refine dQ ?_;show Q (ti aw).isNone _;rw[f2];exact f
theorem Runs.modify(hf:∀ x,(f x).1=x.1/\(f x).2.1=x.2.1):∀ {ps:List (Nat × Nat × Nat)} {i a b:Nat},Runs r xs ps a b->Runs r xs (ps.modify i f) a b
 |[],_,_,_,h=>by simpa using h
 | (s,n,p) :: rest,0,a,b,h=>by obtain⟨h1,h2⟩:=hf (s,n,p);rw[List.modify_zero_cons];have e:f (s,n,p)=(s,n,(f (s,n,p)).2.2):=Prod.ext h1 (Prod.ext h2 rfl);rw[e];exact h
 | (s,n,p) :: rest,i+1,a,b,h=>by obtain⟨h1,h2,h3,h4⟩:=h;exact⟨h1,h2,h3,Runs.modify hf h4⟩
def St.win{gy:Array cf}{st aw:d5}{ps:List (Nat × Nat × Nat)}{lo hi:Nat}(H:St r κ gy st ps lo)(hw:ot lo hi st aw):St r κ gy aw ps lo :=
 ⟨hw.kind.trans H.kind,hw.failed.trans H.failed,hw.perm.trans H.perm,hw.pend.trans H.pend,H.runs.congr λk _ hk=>hw.out k (.inl hk)⟩
def wpS_sortRuns{st:d5}{Q:Unit->d5->Prop}(C:qa prog w A s κ r P)(hk:fS st=κ)(hP:AllP P (b9 st))(hp:ny st = #[])(hf:ti st=none)(h:∀ aw,(b9 aw).Perm (b9 st)->ti aw=none->Up r (b9 aw) 0 (b9 st).size->Q () aw):wpS (aT prog w) A E s sortRuns' Q st:=by
 rw[sortRuns'_eq];refine cS (wpS_get ?_);generalize ha:b9 st=gy at *
 have H0:St r κ gy st [] 0:=⟨hk,hf,by rw[ha],by rw[hp],rfl⟩
 refine cS (wt (sT (I:=λx c aw=>∃ ps lo,c=(none,lo)/\St r κ gy aw ps lo/\lo<=gy.size/\x<=lo) (Q:=λc aw=>∃ ps,c=(none,gy.size)/\St r κ gy aw ps gy.size) ?step ?fin ⟨[],0,rfl,H0,fR _,de _⟩) ?post)
 case fin =>
  rintro c aw ⟨ps,lo,rfl,H,h1,h2⟩;have:lo=gy.size:=by lia
  subst this;exact⟨ps,rfl,H⟩
 case post =>
  rintro c aw ⟨ps,rfl,H⟩;have l0:=H.runs.le;refine cS (wt (sT (I:=λy c aw=>c=(none,())/\∃ kX,St r κ gy aw kX gy.size/\kX.length+y<=gy.size) (Q:=λc aw=>c=(none,())/\∃ kX,St r κ gy aw kX gy.size/\kX.length<=1) ?kE' ?Vs ⟨rfl,ps,H,by lia⟩) ?kF')
  case Vs =>
   rintro c aw ⟨rfl,kX,H',hl⟩;exact⟨rfl,kX,H',by lia⟩
  case kF' =>
   rintro c aw ⟨rfl,kX,H',hl⟩;refine dQ (h aw H'.perm H'.failed ?_);have q:=H'.runs
   match kX,hl,q with
   |[],_,q =>have q:0=gy.size:=q;intro i j _ _ hj;lia
   |[(s',n',p')],_,q =>obtain⟨rfl,_,hu,e⟩:=q;rw[<- e];exact hu
  case kE' =>
   rintro y c FT _ hy ⟨rfl,kX,H',hl⟩;refine cS (wpS_get ?_);have ep:(ny FT).size=kX.length:=by rw[H'.pend];simp
   by_cases z:(ny FT).size<=1
   ·rw[if_pos z];exact dQ ⟨rfl,kX,H',by lia⟩
   ·rw[if_neg z];exact cS (j4 C hP H' (de _) (by(repeat' split)<;>lia) λA4 ps2 H2 hlen _ _=>dQ ⟨rfl,ps2,H2,by lia⟩)
 case step =>
  rintro x c FT _ hx ⟨ps,lo,rfl,H,h1,h2⟩;by_cases z:lo >= gy.size
  ·rw[if_pos z];have:lo=gy.size:=by lia
   subst this;exact dQ ⟨ps,rfl,H⟩
  ·rw[if_neg z];have hz:=H.size;refine cS (wpS_countRun C H.kind (hP.perm H.perm) (by lia) (by lia) λm A4 hw zC A8 hu=>?_);have H2:=H.win hw;dsimp only;refine Gn (K:=?K) ?pk λkey=>?main;case main =>
    by_cases z2:m<minRun' gy.size gy.size 0
    ·rw[if_pos z2];walk_at"v";refine cS (wpS_binarySort C H2.kind (hP.perm H2.perm) (by clear key;have:=H2.size;lia) (by clear key;lia) hu λA5 hw3 Z0=>?_);have H3:=H2.win hw3;have b1:1<=min (gy.size-lo) (minRun' gy.size gy.size 0):=by clear key;lia
     have b2:lo+min (gy.size-lo) (minRun' gy.size gy.size 0)<=gy.size:=by clear key;lia
     clear hw3;generalize min (gy.size-lo) (minRun' gy.size gy.size 0)=nn at *
     revert nn A5;exact key
    ·rw[if_neg z2];exact key _ H2 _ hu zC (by lia)
   intro A5 H3 nn Z0 b1 b2;refine cS (wpS_get ?_);have push:∀ aw kX,St r κ gy aw kX lo->Up r (b9 aw) lo (lo+nn)->∃ ps MB,((none:Option Unit),lo+nn)=(none,MB)/\St r κ gy (setPending aw ((ny aw).push (lo,nn,0))) ps MB/\MB<=gy.size/\x+1<=MB:=λaw kX G u =>
    ⟨kX++[(lo,nn,0)],lo+nn,rfl,⟨G.kind,G.failed,G.perm,by rw[G.pend];simp,Runs.append.mpr ⟨lo,G.runs,rfl,b1,u,rfl⟩⟩,b2,by lia⟩
   cases hb:(ny A5).back? with
   |none =>exact cS (E6 (dQ (push A5 ps H3 Z0)))
   |some t =>
    obtain⟨s1,n1,p1⟩:=t;dsimp only;generalize power' gy.size (2*s1+n1) (2*s1+n1+n1+nn) gy.size=pw;refine cS (wt (sT (I:=λy c aw=>c=(none,())/\∃ kX,St r κ gy aw kX lo/\Up r (b9 aw) lo (lo+nn))
     ?_ (λ_ _ q=>q) ⟨rfl,ps,H3,Z0⟩) ?_)
    ·rintro y c BU _ hy ⟨rfl,kX,H4,SV⟩;refine cS (wpS_get ?_);have ep:(ny BU).size=kX.length:=by rw[H4.pend];simp
     by_cases z3:(ny BU).size>1
     ·rw[if_pos z3];have e4:(ny BU)[(ny BU).size-2]? = some ((ny BU)[(ny BU).size-2]'(by lia)):=getElem?_pos _ _ (by lia);rw[e4];generalize (ny BU)[(ny BU).size-2]'(by lia)=tt;obtain⟨t1,t2,kG'⟩:=tt;dsimp only;by_cases z4:kG'<=pw
      ·rw[if_pos z4];exact dQ ⟨rfl,kX,H4,SV⟩
      ·rw[if_neg z4];exact cS (j4 C hP H4 h1 (by lia) λLH ps5 H5 hlen _ SW=>dQ ⟨rfl,ps5,H5,SV.congr λk hk _=>SW k hk⟩)
     ·rw[if_neg z3];exact dQ ⟨rfl,kX,H4,SV⟩
    ·rintro c BU ⟨rfl,kX,H4,SV⟩;refine cS (E6 (cS (E6 (dQ ?_))));refine push _ (kX.modify (kX.length-1) λx=>(x.1,x.2.1,pw)) ⟨H4.kind,H4.failed,H4.perm,?_,Runs.modify (f:=λx=>(x.1,x.2.1,pw)) (λ_=>⟨rfl,rfl⟩) H4.runs⟩ SV;rw[H4.pend];simp
def dD (h:dr) (a:ah) (vs:List ag):dr:=((h.update a (Obj.mapSeq λ_=>#[])).push (seqObj "tuple" vs.toArray 0)).push (seqObj "list" #[] 0)
def j7(hb:b≠a)(eR:b<h.objs.size):(dD h a vs).get? b=h.get? b:=by
 unfold dD;rw[Ug _ _ _ (by rw[G0,RG];exact gu (AV eR)),
  Ug _ _ _ (by rw[RG];exact gu eR),Heap.get?_update_ne _ _ _ _ hb]
def rA(hp:xs.Perm (pairsOf vs))(hs:Up r xs 0 vs.length):(xs.map (·.2)).toList.Perm vs/\(xs.map (·.2)).toList.Pairwise λx y=>r x<=r y:=by
 have hl:xs.toList.Perm (vs.zip vs):=by rw[<- pairsOf_toList];exact WK.mp hp
 have SX:∀ p,p∈xs.toList->p.1=p.2:=λp iF=>(mem_zip_self (hl.mem_iff.mp iF)).1;have e:(xs.map (·.2)).toList=xs.toList.map (·.1):=by rw[Array.toList_map];exact GV λp iF=>(SX p iF).symm
 have hJ:xs.size=vs.length:=by rw[hp.size_eq,pairsOf_size]
 rw[e];refine⟨?_,?_⟩
 ·have h1:=hl.map (·.1);rwa[Wy (de _)] at h1
 ·rw[Ki];intro i j hi hj mw;have n4:i<xs.size:=by simpa using hi
  have A7:j<xs.size:=by simpa using hj
  have h1:=hs i j (fR _) (AW mw) (by lia);rw[J1 n4,J1 A7] at h1;simpa using h1
def je {F:PySem.Fin->ay->Prop} (ho:s.heap.get? a=some (seqObj "list" vs.toArray n)) (hJ:vs.length<=bS) (hP:∀ v∈vs,P v)(hk:2<=vs.length->∀ (Q:tf->ay->Prop),Q κ { s with heap:=dD s.heap a vs }->bE (aT prog w) A (keyKind' vs.toArray) Q E { s with heap:=dD s.heap a vs }) (C:2<=vs.length->qa prog w A { s with heap:=dD s.heap a vs } κ r P) (h:∀ out:Array ag,out.toList.Perm vs->(out.toList.Pairwise λx y=>r x<=r y)->F (.done (.ret .none)) { s with heap:=sortedHeap s.heap a vs out }) :
  bE (aT prog w) A (Builtin.«list.sort» ⟨[.ref a],[]⟩) F E s:=by
 rw[list_sort_plain];have ha:a<s.heap.objs.size:=eT ho;refine ax (listItems_at ho rfl ?_);refine ax (listUpdate_at ho rfl ?_ (by simpa using hJ) (fR _));obtain⟨e1,D5⟩:∃ e1,(s.heap.update a (Obj.mapSeq λ_=>#[])).get? a=some (seqObj "list" #[] e1):=⟨_,get?_update_seq ho (λ_=>#[])⟩
 refine ax (seqEpoch_at D5 rfl ?_);refine ax (wpAny_newTuple ?_ (by simpa using hJ));refine ax (wpAny_newList ?_ (fR _));refine xC ?_;have Vt:(dD s.heap a vs).get? a=some (seqObj "list" #[] e1):=by unfold dD;rw[Ug _ _ _ (by rw[G0,RG];exact gu (AV ha)),Ug _ _ _ (by rw[RG];exact gu ha)];exact D5
 have hvz:vs.toArray.size=vs.length:=by simp
 have fin:∀ aw:d5,(b9 aw).Perm (pairsOf vs)->Up r (b9 aw) 0 vs.length->F (.done (.ret .none)) { s with heap:=sortedHeap s.heap a vs ((b9 aw).map (·.2)) }:=by intro aw hp hs;obtain⟨h1,h2⟩:=rA hp hs;exact h _ h1 h2
 by_cases h2:vs.toArray.size<2
 ·rw[if_pos h2,if_pos h2];refine ax (bG ?_);refine ax (bG ?_);refine ax (seqEpoch_at Vt rfl ?_);refine ax (listUpdate_at Vt rfl ?_ (fR _) (by rw[Array.size_map];show(pairsOf vs).size<=_;rw[pairsOf_size];lia));simp only[bne_self_eq_false,uj,if_false];refine bG (fin (SortSt.mk' general' (vs.toArray.zip vs.toArray) #[] 7 none) (Array.Perm.refl _) ?_);intro i j _ mw hj;have:i=j:=by lia
  subst this;exact AY _
 ·rw[if_neg h2,if_neg h2];refine ax (hk (by lia) _ ?_);refine ax (se (wpS_sortRuns (Q:=λ_ aw=>(b9 aw).Perm (pairsOf vs)/\ti aw=none/\Up r (b9 aw) 0 vs.length) (C (by lia)) rfl (λp hp=>?_) rfl rfl λaw a1 a2 a3=>⟨a1,a2,?_⟩) ?_ λ_ _ e=>e)
  ·have iF:p∈(pairsOf vs).toList:=hp;rw[pairsOf_toList] at iF;exact hP _ (mem_zip_self iF).2
  ·have e:(b9 (SortSt.mk' κ (vs.toArray.zip vs.toArray) #[] 7 none)).size=vs.length:=pairsOf_size vs;rw[e] at a3;exact a3
  ·rintro⟨⟨⟩,aw⟩ s' ⟨rfl,hp,hf,hs⟩;refine ax (seqEpoch_at Vt rfl ?_);refine ax (listUpdate_at Vt rfl ?_ (fR _) (by refine kL (RJ ((Array.size_map ..).trans (hp.size_eq.trans (pairsOf_size _)))) ?_;lia));rw[hf];simp only[bne_self_eq_false,uj,if_false];exact bG (fin aw hp hs)
end
end D3
section
open PySem PySem.Spec PyProof.Rows
namespace L2
def tI:Key->Key->Bool
 |.inl i,.inl j=>decide (i<j)
 |.inr x,.inr y=>xk x y
 |_,_=>false
def kz:List Key->List Key->Bool
 |a :: as,b :: bs=>if a=b then kz as bs else tI a b
 |_,_=>false
def vv:Key->Bool
 |.inl _=>true
 |.inr _=>false
def lT(k:List Key):List Bool:=k.map vv
def FQ(x:Str):xk x x=false:=by unfold xk;simp[List.lt_irrefl]
def Ku(h:xk x y=true)(g:xk y z=true):xk x z=true:=by
 unfold xk at *
 simp only[decide_eq_true_eq] at *
 exact List.lt_trans h g
def x_{x y:Str}(h:x.cps.toList=y.cps.toList):x=y:=by cases x;cases y;simp only at h;rw[Us.mp h]
def Ga{x y:Str}(h:xk x y=false)(g:xk y x=false):x=y:=by
 unfold xk at *
 simp only[decide_eq_false_iff_not] at *
 apply x_;exact List.le_antisymm (List.not_lt.mp g) (List.not_lt.mp h)
def xG(a:Key):tI a a=false:=by cases a with|inl i=>simp[tI]|inr x=>exact FQ x
def JL(h:tI a b=true)(g:tI b c=true):tI a c=true:=by cases a<;>cases b<;>cases c<;>simp only[tI,decide_eq_true_eq] at *<;>first|lia|contradiction|exact Ku h g
def Fb(e:vv a=vv b)(h:tI a b=false)(g:tI b a=false):a=b:=by
 cases a<;>cases b<;>simp only[tI,vv,decide_eq_false_iff_not] at *
 ·congr 1;lia
 ·cases e
 ·cases e
 ·congr 1;exact Ga h g
theorem xT:∀ a:List Key,kz a a=false
 |[]=>rfl
 |a :: as=>by unfold kz;rw[if_pos rfl];exact xT as
theorem ye:∀ {a b c:List Key},kz a b=true->kz b c=true->kz a c=true
 |[],_,_,h,_=>by simp[kz] at h
 |_ :: _,[],_,h,_=>by simp[kz] at h
 |_ :: _,_ :: _,[],_,g=>by simp[kz] at g
 |a :: as,b :: bs,c :: cs,h,g=>by
  unfold kz at h g ⊢;by_cases e1:a=b
  ·subst e1;rw[if_pos rfl] at h;by_cases e2:a=c
   ·subst e2;rw[if_pos rfl] at g ⊢;exact ye h g
   ·rw[if_neg e2] at g ⊢;exact g
  ·rw[if_neg e1] at h;by_cases e2:b=c
   ·subst e2;rw[if_neg e1];exact h
   ·rw[if_neg e2] at g;have t:=JL h g;have ne:a≠c:=λe=>by subst e;rw[xG] at t;cases t
    rw[if_neg ne];exact t
theorem yO:∀ {a b:List Key},lT a=lT b->kz a b=false->kz b a=false->a=b
 |[],[],_,_,_=>rfl
 |[],_ :: _,e,_,_=>by simp[lT] at e
 |_ :: _,[],e,_,_=>by simp[lT] at e
 |a :: as,b :: bs,e,h,g=>by
  simp only[lT,jS,List.cons.injEq] at e;unfold kz at h g;by_cases e1:a=b
  ·subst e1;rw[if_pos rfl] at h g;rw[yO (e.2) h g]
  ·rw[if_neg e1] at h;rw[if_neg (Ne.symm e1)] at g;exact absurd (Fb e.1 h g) e1
theorem count_le{α:Type}(p q:α->Bool):∀ (l:List α),(∀ x∈l,p x=true->q x=true)->l.countP p<=l.countP q
 |[],_=>de _
 |x :: l,h=>by have ih:=count_le p q l λy hy=>h y (fo _ hy);cases hp:p x<;>cases hq:q x<;>simp_all<;>lia
theorem uo{α:Type}(p q:α->Bool)(a:α)(ha:p a=false)(hb:q a=true):∀ (l:List α),a∈l->(∀ x∈l,p x=true->q x=true)->l.countP p<l.countP q
 |[],m,_=>by cases m
 |x :: l,m,h=>by
  rw[List.countP_cons,List.countP_cons];rcases fm.mp m with rfl|m
  ·have:=count_le p q l λy hy=>h y (fo _ hy);rw[ha,hb];simp;lia
  ·have ih:=uo p q a ha hb l m λy hy=>h y (fo _ hy);cases hp:p x<;>cases hq:q x<;>simp_all<;>lia
def MS(L:List (List Key))(k:List Key):Int:=(L.countP λj=>kz j k:Nat)
def uJ(e:lT a=lT b)(ma:a∈L):decide (MS L a<MS L b)=kz a b:=by
 unfold MS
 cases h:kz a b with
 |true =>have:=uo (λj=>kz j a) (λj=>kz j b) a (xT a) h L ma λx _ hx=>ye hx h;exact decide_eq_true (by lia)
 |false =>
  apply decide_eq_false
  cases g:kz b a with
  |false=>rw[yO e h g];lia
  |true =>have:=count_le (λj=>kz j b) (λj=>kz j a) L λx _ hx=>ye hx g;lia
def Z1:V->Option Key
 |.int i=>some (.inl i)
 |.str x=>some (.inr x)
 |_=>none
def Lr(k:Key):Z1 (kV k)=some k:=by cases k<;>rfl
theorem Dr:∀ k:List Key,(k.map kV).filterMap Z1=k
 |[]=>rfl
 |a :: as=>by rw[jS,CM,Lr,Dr as]
def vU(H:Hp):ag->List Key
 |.ref b=>match H b with
  |some (.tup xs)=>xs.filterMap Z1
  |_=>[]
 |_=>[]
def dI(h:H b=some (.tup (k.map kV))):vU H (.ref b)=k:=by simp only[vU,h];exact Dr k
section
variable {prog:cv}{w:cK}{A:eB}{E:ag->ay->Prop}{s:ay}{Q:Bool->ay->Prop}
def JF(ru:RelV (kV a) u)(rv:RelV (kV b) v)(e:vv a=vv b)(q:Q (tI a b) s):bE (aT prog w) A (oneLt' false u v) Q E s:=by
 refine PySem.W.kat_one u v ?_
 cases a with
 |inl i =>
  cases b with
  |inr x=>cases e
  |inl j =>obtain⟨t,rfl⟩:=ru;obtain⟨t',rfl⟩:=rv;exact lt_int q
 |inr x =>
  cases b with
  |inl j=>cases e
  |inr y =>obtain⟨t,rfl⟩:=ru;obtain⟨t',rfl⟩:=rv;exact PySem.P.lt_str q
def J4(ru:RelV (kV a) u)(rv:RelV (kV b) v)(e:vv a=vv b)(q:Q (decide (a=b)) s):bE (aT prog w) A (eqBool u v) Q E s:=by
 cases a with
 |inl i =>
  cases b with
  |inr x=>cases e
  |inl j =>obtain⟨t,rfl⟩:=ru;obtain⟨t',rfl⟩:=rv;refine wpAny_eqBool_int ?_;rw[<- bg'];exact q
 |inr x =>
  cases b with
  |inl j=>cases e
  |inr y =>obtain⟨t,rfl⟩:=ru;obtain⟨t',rfl⟩:=rv;refine wpAny_eqBool_str ?_;rw[<- bh'];exact q
def CQ(k m:List Key)(us vs:List ag)(i:Nat)(ha:Vals (k.map kV) us)(hb:Vals (m.map kV) vs)(e:lT k=lT m)(hf:fin=false)(q:Q (kz k m) s) :
  PySem.W.KatLex prog w A true fin Q (us.zip vs) i s:=by
 induction k generalizing m us vs i with
 |nil =>
  cases m with
  |cons b m=>simp[lT] at e
  |nil =>rw[Paired.n0 ha,Paired.n0 hb];subst hf;exact PySem.W.kat_nil q
 |cons a k ih =>
  cases m with
  |nil=>simp[lT] at e
  |cons b m =>
   obtain⟨u,us,rfl,ra,rk⟩:=Paired.c ha;obtain⟨v,vs,rfl,rb,rm⟩:=Paired.c hb;simp only[lT,jS,List.cons.injEq] at e;refine PySem.W.kat_cons (J4 ra rb e.1 (PySem.W.kat_go (λh=>PySem.W.kat_yes ?_) (λh=>PySem.W.kat_no ?_)))
   ·have h:=of_decide_eq_true h;subst h;unfold kz at q;rw[if_pos rfl] at q;exact ih m _ _ (i+1) rk rm e.2 q
   ·have h:=of_decide_eq_false h;unfold kz at q;rw[if_neg h] at q;by_cases h0:i=0
    ·subst h0
     cases a with
     |inr x =>
      cases b with
      |inl j=>cases e.1
      |inr y =>obtain⟨t,rfl⟩:=ra;obtain⟨t',rfl⟩:=rb;exact oneLt_str q
     |inl i =>
      cases b with
      |inr x=>cases e.1
      |inl j =>obtain⟨t,rfl⟩:=ra;obtain⟨t',rfl⟩:=rb;exact oneLt_int q
    ·rw[show(true && i == 0)=false by simp[h0]];exact JF ra rb e.1 q
end
section
variable {X:Cx}{pins:List (ah × Obj)}{σ:St}{H:Hp}{s:ay}
def Inv.tup(I:Inv X pins σ H s)(h:H b=some (.tup xs)):∃ its:List ag,Vals xs its/\IsTup s.heap b its.toArray:=(I.bX b _ h).2
def Aw(I:Inv X pins σ H s)(kp:∀ b o,s.heap.get? b=some o->s'.heap.get? b=some o) :
  D3.qa X.prog X.w A s' (tuples' true) (λv=>MS L (vU H v)) (λv=>∃ b k,v=.ref b/\H b=some (.tup (k.map kV))/\lT k=b0 :: sh/\k∈L):=by
 rintro x y ⟨b,k,rfl,hb,hk,mk⟩ ⟨c,m,rfl,hc,hm,mm⟩ Q E q;obtain⟨us,ru,o,e1,c1,n1,d1⟩:=I.tup hb;obtain⟨vs,rv,o',e2,c2,n2,d2⟩:=I.tup hc;have Z2:lT k=lT m:=hk.trans hm.symm;simp only[dI hb,dI hc] at q;rw[uJ Z2 mk] at q;refine PySem.W.kat_lt (kp _ _ e1) d1 (kp _ _ e2) d2 (CQ k m us vs 0 ru rv Z2 ?_ q)
 ·have h1:=ru.length;have h2:=rv.length;have h3:k.length=m.length:=by have:=congrArg List.length Z2;simpa[lT] using this
  simp only[dc] at h1 h2;exact decide_eq_false (by simp only[jI];lia)
def kat_tups(I:Inv X pins σ H s){s':ay}(kp:∀ b o,s.heap.get? b=some o->s'.heap.get? b=some o){b0:Bool}{sh:List Bool}{ys:List V}{ks:List (List Key)}{vs:List ag}(ht:c7 H ys ks)(hv:Vals ys vs)(hs:∀ k∈ks,lT k=b0 :: sh) :
  ∃ fs:List ag,PySem.W.KatTups s'.heap vs fs/\fs.length=vs.length/\∀ f∈fs,(b0=true->∃ i t,f=Value.int i t)/\(b0=false->∃ x t,f=Value.str x t):=by
 induction ys generalizing ks vs with
 |nil =>rw[Paired.n0 hv];exact⟨[],.nil,rfl,by simp⟩
 |cons y ys ih =>
  obtain⟨k,ks,rfl,⟨b,rfl,hb⟩,t⟩:=Paired.c ht;obtain⟨v,vs,rfl,rfl,rs⟩:=Paired.c hv;obtain⟨fs,f1,f2,f3⟩:=ih t rs λj hj=>hs j (fo _ hj);have hk:=hs k fw;obtain⟨us,ru,o,e1,c1,n1,d1⟩:=I.tup hb
  cases k with
  |nil=>simp[lT] at hk
  |cons a k =>
   obtain⟨u,us,rfl,ra,rr⟩:=Paired.c ru;simp only[lT,jS,List.cons.injEq] at hk;refine⟨u :: fs,.cons (kp _ _ e1) c1 d1 rfl f1,by simp[f2],λf hf=>?_⟩;rcases fm.mp hf with rfl|hf
   ·cases a with
    |inr x =>obtain⟨tk,rfl⟩:=ra;exact⟨(λz=>by rw[<- hk.1] at z;cases z),λ_=>⟨_,_,rfl⟩⟩
    |inl i =>obtain⟨tk,rfl⟩:=ra;exact⟨λ_=>⟨_,_,rfl⟩,λz=>by rw[<- hk.1] at z;cases z⟩
   ·exact f3 f hf
end
def c7.of{H:Hp}{ks:List (List Key)}(vs:List ag)(h:∀ v∈vs,∃ b k,v=Value.ref b/\H b=some (.tup (k.map kV))/\k∈ks):∃ zs,c7 H zs (vs.map (vU H))/\Vals zs vs:=by
 induction vs with
 |nil=>exact⟨[],.nil,.nil⟩
 |cons v vs ih =>obtain⟨zs,a,c⟩:=ih λu hu=>h u (fo _ hu);obtain⟨b,k,rfl,e,_⟩:=h v fw;exact⟨.ref b :: zs,.cons ⟨b,rfl,by rw[dI e];exact e⟩ a,.cons rfl c⟩
end L2
end
namespace D3
open PySem PyProof.Rows
section
variable {prog:cv}{w:cK}{A:eB}{E:ag->ay->Prop}{s:ay}{κ:tf}{r:ag->Int}{P:ag->Prop}
def pP{T:String}{r d:ah}{n:Nat}{P:Nat->ag->Prop}{OK:dr->Prop}{R:Result->ay->Prop}(K:PySem.W.KdlSrc prog w T r d n P OK)(hh:A.handled=none)(bX:OK s.heap)(hn:n<=bS)(hR:∀ h' tk acc c,(∀ b o,s.heap.get? b=some o->h'.get? b=some o)->h'.get? s.heap.objs.size=some { cls:=.type "list",data:=.seq acc c }->ItemsOf P acc n->R (.ok (.ret (.ref s.heap.objs.size))) { s with heap:=h',toks:=tk }) :
  ua (aT prog w) A (.builtin "proto.collect" ⟨[.ref r],[]⟩) R s:=by
 have hth:=K.there _ bX;walk_at"u";refine BG F.entry_proto_collect ?_;refine ax (sR ?_);refine bG ⟨CD F.plain_list_iadd _,BG F.entry_list_iadd ?_⟩;exact PySem.W.kdl_extend K hh (K.keep _ _ bX λb _ o e=>eM _ e) s.heap.objs.size (OW hth.1) (OW hth.2) _ 0 hS (λh' tk B1 c' kp eo ia=>hR h' tk B1 c' (λb o e=>kp b o (gu (eT e)) (eM _ e)) eo ia) hn
def sV{T:String}{r d:ah}{n:Nat}{P:Nat->ag->Prop}{OK:dr->Prop}{Q:List ag->ay->Prop}(K:PySem.W.KdlSrc prog w T r d n P OK)(hh:A.handled=none)(bX:OK s.heap)(hn:n<=bS)(hQ:∀ h' tk acc,(∀ b o,s.heap.get? b=some o->h'.get? b=some o)->s.heap.objs.size<=h'.objs.size->ItemsOf P acc n->Q acc.toList { s with heap:=h',toks:=tk }):bE (aT prog w) A (collect (.ref r)) Q E s:=by
 exact ax (wpAny_runValue (pP K hh bX hn λh' tk acc c kp eo ia=>ax (wpAny_load eo (bG (hQ h' tk acc kp (AW (eT eo)) ia)))))
def vy{R:List ag->Prop}(Z3:∀ (A':eB) (E':ag->ay->Prop) (Q':List ag->ay->Prop),A'.handled=A.handled->(∀ vs h1 tk,R vs->(∀ b o,s.heap.get? b=some o->h1.get? b=some o)->s.heap.objs.size<=h1.objs.size->Q' vs { s with heap:=h1,toks:=tk })->bE (aT prog w) A' (collect v) Q' E' s) (hJ:∀ vs,R vs->vs.length<=bS) (hP:∀ vs,R vs->∀ v∈vs,P v) (hk:∀ vs,R vs->2<=vs.length->∀ (A':eB) (E':ag->ay->Prop) (s':ay),(∀ b o,s.heap.get? b=some o->s'.heap.get? b=some o)->∀ (Q:tf->ay->Prop),Q κ s'->bE (aT prog w) A' (keyKind' vs.toArray) Q E' s') (C:∀ (s':ay),(∀ b o,s.heap.get? b=some o->s'.heap.get? b=some o)->qa prog w A.in1.in1 s' κ r P) (h:∀ (vs:List ag) (h':dr) (a:ah) (out:List ag) (n tk:Nat),R vs->out.Perm vs->(out.Pairwise λx y=>r x<=r y)->(∀ b o,s.heap.get? b=some o->h'.get? b=some o)->s.heap.objs.size<=a->h'.get? a=some (seqObj "list" out.toArray n)->Q (.ref a) { s with heap:=h',toks:=tk }) :
  bE (aT prog w) A (call (.builtin "sorted") [v]) Q E s:=by
 refine Calls.call_function_entry kind_sorted plain_sorted entry_sorted (args_sorted1 _) ?_;refine ax (bG ?_);refine ax (Z3 _ _ _ rfl λvs h1 tk hR kp hz=>?_);have D6:=hJ vs hR;refine ax (wpAny_newList ?_ (by simpa using D6));have Fm:(h1.push (seqObj "list" vs.toArray 0)).get? h1.objs.size=some (seqObj "list" vs.toArray 0):=i9 _ rfl;have old:∀ b o,s.heap.get? b=some o->(dD (h1.push (seqObj "list" vs.toArray 0)) h1.objs.size vs).get? b=some o:=λb o e=>by have eR:b<h1.objs.size:=eT (kp b o e);rw[j7 (gu eR) (by rw[G0];exact AV eR)];exact eM _ (kp b o e)
 walk_at"m"
 obtain⟨n,e⟩:=sortedHeap_at Fm;refine bG ⟨_,rfl,h vs _ h1.objs.size out.toList n tk hR a1 a2 (λb o e=>?_) hz (by rw[WL];exact e)⟩;have eR:b<h1.objs.size:=eT (kp b o e);rw[sortedHeap_old (gu eR) (by rw[G0];exact AV eR)];exact eM _ (kp b o e)
end
end D3
section
open PySem PySem.Spec PyProof.Rows
namespace L2
def tW:ag->List Key
 |.int i _=>[.inl i]
 |.str x _=>[.inr x]
 |_=>[]
def su(h:RelV (kV k) v):tW v=[k]:=by
 cases k with
 |inl i=>obtain⟨t,rfl⟩:=h;rfl
 |inr x=>obtain⟨t,rfl⟩:=h;rfl
def zx:kz [a] [b]=tI a b:=by
 unfold kz;by_cases e:a=b
 ·subst e;rw[if_pos rfl,xG];rfl
 ·rw[if_neg e]
def Bk{prog:cv}{w:cK}{A:eB}{s:ay}{b:Bool}{L:List Key} :
  D3.qa prog w A s oneType' (λv=>MS (L.map λk=>[k]) (tW v)) (λv=>∃ k,RelV (kV k) v/\vv k=b/\k∈L):=by
 rintro x y ⟨k,rk,ik,mk⟩ ⟨m,rm,im,mm⟩ Q E q;simp only[su rk,su rm] at q;rw[uJ (by simp[lT,ik,im]) (fP.mpr ⟨k,mk,rfl⟩),zx] at q
 cases k with
 |inl i =>
  cases m with
  |inr y=>rw[<- im] at ik;cases ik
  |inl j =>obtain⟨t,rfl⟩:=rk;obtain⟨u,rfl⟩:=rm;exact oneLt_int q
 |inr x =>
  cases m with
  |inl y=>rw[<- im] at ik;cases ik
  |inr j =>obtain⟨t,rfl⟩:=rk;obtain⟨u,rfl⟩:=rm;exact oneLt_str q
def ints_of{ks:List Key}{vs:List ag}(r:Vals (ks.map kV) vs)(h:∀ k∈ks,vv k=true):∃ ns,IntsAre vs ns:=by
 induction ks generalizing vs with
 |nil=>rw[Paired.n0 r];exact⟨[],.nil⟩
 |cons k ks ih =>
  obtain⟨v,vs,rfl,r,rs⟩:=Paired.c r;obtain⟨ns,q⟩:=ih rs λj hj=>h j (fo _ hj);have:=h k fw
  cases k with
  |inr x=>cases this
  |inl i=>obtain⟨t,rfl⟩:=r;exact⟨_,.cons i t q⟩
def Hz{ks:List Key}{vs:List ag}(r:Vals (ks.map kV) vs)(h:∀ k∈ks,vv k=false):∃ ns,StrsAre vs ns:=by
 induction ks generalizing vs with
 |nil=>rw[Paired.n0 r];exact⟨[],.nil⟩
 |cons k ks ih =>
  obtain⟨v,vs,rfl,r,rs⟩:=Paired.c r;obtain⟨ns,q⟩:=ih rs λj hj=>h j (fo _ hj);have:=h k fw
  cases k with
  |inl x=>cases this
  |inr i=>obtain⟨t,rfl⟩:=r;exact⟨_,.cons i t q⟩
def xn{prog:cv}{w:cK}{A:eB}{E:ag->ay->Prop}{s:ay}{b:Bool}{ks:List Key}{vs:List ag}(r:Vals (ks.map kV) vs)(h:∀ k∈ks,vv k=b)(h2:2<=vs.length){Q:tf->ay->Prop}(q:Q oneType' s) :
  bE (aT prog w) A (keyKind' vs.toArray) Q E s:=by
 match vs,h2 with
 |v1 :: v2 :: vs,_ =>
  cases b with
  |true=>obtain⟨ns,hI⟩:=ints_of r h;rw[keyKind_ints hI];exact bG q
  |false=>obtain⟨ns,hI⟩:=Hz r h;rw[keyKind_strs hI];exact bG q
def mem_keys{ks:List Key}{vs:List ag}(r:Vals (ks.map kV) vs)(v:ag)(h:v∈vs):∃ k,RelV (kV k) v/\k∈ks:=by
 induction ks generalizing vs with
 |nil=>rw[Paired.n0 r] at h;cases h
 |cons k ks ih =>
  obtain⟨u,vs,rfl,r,rs⟩:=Paired.c r;rcases fm.mp h with rfl|h
  ·exact⟨k,r,fw⟩
  ·obtain⟨j,a,b⟩:=ih rs h;exact⟨j,a,fo _ b⟩
def keys_map{ks:List Key}{vs:List ag}(r:Vals (ks.map kV) vs):vs.map tW=ks.map λk=>[k]:=by
 induction ks generalizing vs with
 |nil=>rw[Paired.n0 r];rfl
 |cons k ks ih =>obtain⟨u,vs,rfl,r,rs⟩:=Paired.c r;rw[jS,jS,su r,ih rs]
def xm{ks:List Key}(vs:List ag)(h:∀ v∈vs,∃ k,RelV (kV k) v/\k∈ks):∃ ms:List Key,Vals (ms.map kV) vs:=by
 induction vs with
 |nil=>exact⟨[],.nil⟩
 |cons v vs ih =>obtain⟨ms,r⟩:=ih λu hu=>h u (fo _ hu);obtain⟨k,rk,_⟩:=h v fw;exact⟨k :: ms,.cons rk r⟩
def xx:∀ {ms ks:List Key},(ms.map λk=>[k]).Perm (ks.map λk=>[k])->ms.Perm ks:=λ{ms ks} h=>by have:=h.map (λl:List Key=>l.head?);simp only[lP] at this;have e:∀ l:List Key,l.map ((λl:List Key=>l.head?) ∘ λk=>[k])=l.map some:=λl=>GV λ_ _=>rfl;rw[e,e] at this;have:=this.filterMap id;simpa using this
section
variable {X:Cx}
def uq(K:aI):List V->Hp->VK->Prop:=λxs H Q=>match xs with
 |[.ref p]=>∃ ks b,(fE K H p (ks.map kV)\/∃ ae,Rd H p (.dK ae)/\ks=ae.map (·.1))/\(∀ k∈ks,vv k=b) /\
   ∀ (ms:List Key) (l:ah),ms.Perm ks->(ms.Pairwise λa b=>tI b a=false)->H l=none->Q (.ref l) (upd H l (.lst (ms.map kV)))
 |_=>False
def wg (hc:X.calm=true):lS X (.builtin "sorted") (uq X.K):=by
 walk_at"f";unfold uq at h;split at h
 ·rename_i p;obtain⟨ks,b,hl,hb,q⟩:=h;obtain⟨u,rfl,ru⟩:=Vals.one r;cases ru;have hJ:ks.length<=bS:=by
   rcases hl with hl|⟨ae,e,rfl⟩
   ·obtain⟨vs,rv,pl,hz⟩:=I.list hl;simpa using hz
   ·obtain⟨z,_⟩:=(I.rd e)
    simpa using z
  refine D3.vy (κ:=oneType') (P:=λv=>∃ k,RelV (kV k) v/\vv k=b/\k∈ks) (λA' E' Q' hA hQ=>?_) (λvs rv=>?_) (λvs rv v hv=>?_) (λvs rv h2 A' E' s' kp Q' q'=>xn rv hb h2 q') (λs' kp=>Bk) λvs h' a out n tk rv pm pw kp ha eo=>?_
  ·rcases hl with hl|⟨ae,e,rfl⟩
   ·obtain⟨vs,rv,pl,hz⟩:=I.list hl;refine collect_list pl.isList (hQ vs _ s.toks rv (λb o e=>?_) ?_) (by have:=rv.length;lia)
    ·rw[Heap.get?_update_ne _ _ _ _ (gu (eT e))];exact eM _ e
    ·rw[RG,G0];exact RN _
   ·obtain⟨z,y,vs,rel,dd⟩:=(I.rd e)
    obtain⟨ep,da⟩:=dd.dictAt;have hlen:vs.length=ae.length:=rel.length.symm;refine D3.sV (PySem.W.kdl_dict y) (hA.trans (I.ok.hd hc)) da (by lia) λh' tk acc kp hz Iq=>hQ _ h' tk ?_ kp hz;have go:∀ {l1:List (Key × V)} {l2:List (Key × ag)} ac,KV l1 l2->ac.length=l2.length->(∀ (i:Nat) v,ac[i]? = some v->∃ k x,l2[i]? = some (k,x)/\KW k v=true)->Vals ((l1.map (·.1)).map kV) ac:=by
     intro l1 l2 ac rl
     induction rl generalizing ac with
     |nil=>intro hl _;cases ac with
      |nil=>exact .nil
      |cons _ _=>cases hl
     |@cons p1 q1 l1 l2 r1 rs ih =>
      intro hl hi
      cases ac with
      |nil=>cases hl
      |cons v ac =>obtain⟨k,x,e1,e2⟩:=hi 0 v rfl;simp only[List.getElem?_cons_zero,Option.some.injEq] at e1;subst e1;refine .cons ?_ (ih ac (by simpa using hl) λi v h=>hi (i+1) v (by simpa using h));have r11:p1.1=k:=r1.1;show RelV (kV p1.1) v;rw[r11];rcases A0 e2 with⟨i,t,rfl,rfl⟩|⟨x,t,rfl,rfl⟩<;>exact⟨t,rfl⟩
    exact go acc.toList rel (by rw[AZ];exact Iq.1) λi v h=>Iq.2 i v (by simpa using h)
  ·have:=rv.length;rw[dc] at this;lia
  ·obtain⟨k,rk,mk⟩:=mem_keys rv v hv;exact⟨k,rk,hb k mk,mk⟩
  ·obtain⟨ms,rm⟩:=xm out λv hv=>mem_keys rv v (pm.mem_iff.mp hv);have pk:ms.Perm ks:=xx (by rw[<- keys_map rm,<- keys_map rv];exact pm.map _);refine⟨.ref a,_,I.laid kp ha (show kP X.prog X.w _ h' _ (.lst (ms.map kV)) from⟨by rw[dc,pk.length_eq];exact hJ,out,n,rm,eo⟩),rfl,q ms _ pk ?_ (I.bX.fresh ha)⟩;have pw2:(out.map tW).Pairwise λx y=>MS (ks.map λk=>[k]) x<=MS (ks.map λk=>[k]) y:=AR.mpr pw;rw[keys_map rm,AR] at pw2;refine pw2.imp_of_mem λ{x y} mx my hle=>?_;have mx:=pk.mem_iff.mp mx;have my:=pk.mem_iff.mp my;rw[<- zx,<- uJ (L:=ks.map λk=>[k]) (by simp[lT,hb x mx,hb y my]) (fP.mpr ⟨y,my,rfl⟩)];exact decide_eq_false (by lia)
 ·exact h.elim
end
end L2
namespace L2.Q
set_option genInjectivity true
inductive D where
 |non|bl (b:Bool)|int (i:Int)|str (x:Str)
 |list (xs:List D)|tup (xs:List D)|dK (ae:List (Key × D))|dT (ae:List (List Key × D))
mutual
def D.flat:D->Bool
 |.list _=>false
 |.dK _=>false
 |.dT _=>false
 |.tup xs=>eh xs
 |_=>true
def eh:List D->Bool
 |[]=>true
 |x :: xs=>x.flat && eh xs
end
theorem qx:∀ {xs:List D},eh xs=true↔∀ x∈xs,x.flat=true
 |[]=>by simp[eh]
 |x :: xs=>by simp[eh,qx]
def jf:eh (xs++ys)=(eh xs && eh ys):=by
 induction xs with
 |nil=>simp[eh]
 |cons x xs ih=>simp[eh,ih,Bool.and_assoc]
def sD:Key->Bool
 |.inl _=>true
 |.inr x=>decide (x.length<=bS)
def Vu(ae:List (Key × D)):Prop:=ae.length<=bS/\∀ p∈ae,sD p.1=true
def Vv(ae:List (List Key × D)):Prop:=ae.length<=bS/\∀ p∈ae,p.1.length<=bS/\∀ k∈p.1,sD k=true
mutual
inductive Rep(K:aI)(H:Hp):D->V->Prop
 |non:Rep K H .non .non
 |bl (b:Bool):Rep K H (.bl b) (.bl b)
 |int (i:Int):Rep K H (.int i) (.int i)
 |str {x:Str}:x.length<=bS->Rep K H (.str x) (.str x)
 |list {a:ah} {vs:List V} {ds:List D}:vs.length<=bS->fE K H a vs->ck K H ds vs->Rep K H (.list ds) (.ref a)
 |tup {a:ah} {vs:List V} {ds:List D}:vs.length<=bS->H a=some (.tup vs)->ck K H ds vs->Rep K H (.tup ds) (.ref a)
 |dK {a:ah} {vs:List V} {ae:List (Key × D)}:Vu ae->Rd H a (.dK ((ae.map (·.1)).zip vs))->ck K H (ae.map (·.2)) vs->Rep K H (.dK ae) (.ref a)
 |dT {a:ah} {vs:List V} {ae:List (List Key × D)}:Vv ae->Rd H a (.dT ((ae.map (·.1)).zip vs))->ck K H (ae.map (·.2)) vs->Rep K H (.dT ae) (.ref a)
inductive ck(K:aI)(H:Hp):List D->List V->Prop
 |nil:ck K H [] []
 |cons {d:D} {v:V} {ds:List D} {vs:List V}:Rep K H d v->ck K H ds vs->ck K H (d :: ds) (v :: vs)
end
def Rep.ind{K:aI}{H:Hp}{m1:D->V->Prop}{m2:List D->List V->Prop}(h0:m1 .non .non)(hb:∀ b,m1 (.bl b) (.bl b))(hi:∀ i,m1 (.int i) (.int i))(hs:∀ x,x.length<=bS->m1 (.str x) (.str x))(hl:∀ a vs ds,vs.length<=bS->fE K H a vs->ck K H ds vs->m2 ds vs->m1 (.list ds) (.ref a)) (ht:∀ a vs ds,vs.length<=bS->H a=some (.tup vs)->ck K H ds vs->m2 ds vs->m1 (.tup ds) (.ref a))(hk:∀ a vs ae,Vu ae->Rd H a (.dK ((ae.map (·.1)).zip vs))->ck K H (ae.map (·.2)) vs->m2 (ae.map (·.2)) vs->m1 (.dK ae) (.ref a)) (hT:∀ a vs ae,Vv ae->Rd H a (.dT ((ae.map (·.1)).zip vs))->ck K H (ae.map (·.2)) vs->m2 (ae.map (·.2)) vs->m1 (.dT ae) (.ref a))(hn:m2 [] []) (hc:∀ d v ds vs,Rep K H d v->ck K H ds vs->m1 d v->m2 ds vs->m2 (d :: ds) (v :: vs)):(∀ {d v},Rep K H d v->m1 d v)/\∀ {ds vs},ck K H ds vs->m2 ds vs :=
 ⟨λr=>Rep.rec h0 hb hi (λh=>hs _ h) (λz s r ih=>hl _ _ _ z s r ih) (λz s r ih=>ht _ _ _ z s r ih) (λz s r ih=>hk _ _ _ z s r ih) (λz s r ih=>hT _ _ _ z s r ih) hn (λr s a b=>hc _ _ _ _ r s a b) r,
  λr=>ck.rec h0 hb hi (λh=>hs _ h) (λz s r ih=>hl _ _ _ z s r ih) (λz s r ih=>ht _ _ _ z s r ih) (λz s r ih=>hk _ _ _ z s r ih) (λz s r ih=>hT _ _ _ z s r ih) hn (λr s a b=>hc _ _ _ _ r s a b) r⟩
def sA.k'(e:Rd H a (.dK ae)):sA H a (kV k) (gL ae k):=.inl ⟨ae,k,e,rfl,rfl⟩
def sA.t'(e:Rd H a (.dT ae))(eb:H b=some (.tup (k.map kV))):sA H a (.ref b) (gL ae k):=.inr ⟨ae,k,b,e,rfl,eb,rfl⟩
def bI.rd(s:bI H H')(h:Rd H a u):Rd H' a u:=h.imp (s _ _) λ⟨o,e⟩=>⟨o,s _ _ e⟩
def Rep.Kp{K:aI}(s:bI H H'):(∀ {d:D} {v:V},Rep K H d v->Rep K H' d v)/\∀ {ds:List D} {vs:List V},ck K H ds vs->ck K H' ds vs :=
 Rep.ind .non .bl .int (λ_ h=>.str h) (λ_ _ _ z h _ ih=>.list z (s.lst h) ih) (λ_ _ _ z h _ ih=>.tup z (s _ _ h) ih) (λ_ _ _ kk h _ ih=>.dK kk (bI.rd s h) ih) (λ_ _ _ kk h _ ih=>.dT kk (bI.rd s h) ih) .nil λ_ _ _ _ _ _ a b=>.cons a b
def Rep.same{K:aI}(s:bI H H')(r:Rep K H d v):Rep K H' d v:=(Rep.Kp s).1 r
def ck.same{K:aI}(s:bI H H')(r:ck K H ds vs):ck K H' ds vs:=(Rep.Kp s).2 r
def ck.ind{K:aI}{H:Hp}{m:List D->List V->Prop}(hn:m [] [])(hc:∀ d v ds vs,Rep K H d v->ck K H ds vs->m ds vs->m (d :: ds) (v :: vs)):∀ {ds vs},ck K H ds vs->m ds vs :=
 λr=>(Rep.ind (m1:=λ_ _=>True) trivial (λ_=>trivial) (λ_=>trivial) (λ_ _=>trivial) (λ_ _ _ _ _ _ _=>trivial) (λ_ _ _ _ _ _ _=>trivial) (λ_ _ _ _ _ _ _=>trivial) (λ_ _ _ _ _ _ _=>trivial) hn λd v ds vs r s _ b=>hc d v ds vs r s b).2 r
def ck.length{K:aI}(r:ck K H ds vs):ds.length=vs.length :=
 ck.ind (m:=λds vs=>ds.length=vs.length) rfl (λ_ _ _ _ _ _ ih=>by rw[oi,oi,ih]) r
def ck.append{K:aI}(r:ck K H ds vs)(t:ck K H es ws):ck K H (ds++es) (vs++ws) :=
 ck.ind (m:=λds vs=>ck K H (ds++es) (vs++ws)) t (λ_ _ _ _ h _ ih=>.cons h ih) r
def ck.get{K:aI}{H:Hp}{ds:List D}{vs:List V}{i:Nat}{d:D}(r:ck K H ds vs)(e:ds[i]? = some d):∃ v,vs[i]? = some v/\Rep K H d v :=
 ck.ind (m:=λds vs=>∀ i d,ds[i]? = some d->∃ v,vs[i]? = some v/\Rep K H d v) (λi d e=>by simp at e) (λ_ _ _ _ h _ ih i d e=>by
  cases i with
  |zero=>simp at e;subst e;exact⟨_,rfl,h⟩
  |succ i =>
   obtain⟨v,e1,r⟩:=ih i d (by simpa using e);exact⟨v,by simpa using e1,r⟩) r i d e
def ck.Z4{K:aI}{H:Hp}{ds:List D}{vs:List V}{i:Nat}{v:V}(r:ck K H ds vs)(e:vs[i]? = some v):∃ d,ds[i]? = some d/\Rep K H d v :=
 ck.ind (m:=λds vs=>∀ i v,vs[i]? = some v->∃ d,ds[i]? = some d/\Rep K H d v) (λi d e=>by simp at e) (λ_ _ _ _ h _ ih i d e=>by
  cases i with
  |zero=>simp at e;subst e;exact⟨_,rfl,h⟩
  |succ i =>
   obtain⟨v,e1,r⟩:=ih i d (by simpa using e);exact⟨v,by simpa using e1,r⟩) r i v e
def ck.drop{K:aI}(n:Nat)(r:ck K H ds vs):ck K H (ds.drop n) (vs.drop n) :=
 ck.ind (m:=λds vs=>∀ n,ck K H (ds.drop n) (vs.drop n)) (λn=>by rw[List.drop_nil,List.drop_nil];exact .nil) (λ_ _ _ _ h hs ih n=>by
  cases n with
  |zero=>exact .cons h hs
  |succ n=>exact ih n) r n
def ck.n0{K:aI}(h:ck K H [] vs):vs=[]:=by cases h;rfl
def ck.c{K:aI}(h:ck K H (d :: ds) vs):∃ u us,vs=u :: us/\Rep K H d u/\ck K H ds us:=by
 cases h with
 |cons r rs=>exact⟨_,_,rfl,r,rs⟩
def ck.take{K:aI}(n:Nat)(r:ck K H ds vs):ck K H (ds.take n) (vs.take n) :=
 ck.ind (m:=λds vs=>∀ n,ck K H (ds.take n) (vs.take n)) (λn=>by rw[List.take_nil,List.take_nil];exact .nil) (λ_ _ _ _ h hs ih n=>by
  cases n with
  |zero=>exact .nil
  |succ n=>exact .cons h (ih n)) r n
mutual
inductive cE(K:aI)(Hs H:Hp)(fl:Bool):D->V->List ah->Prop
 |sh {d:D} {v:V}:(fl=true->d.flat=true)->Rep K Hs d v->cE K Hs H fl d v []
 |list {a:ah} {vs:List V} {ds:List D} {As:List ah}:vs.length<=bS->H a=some (.lst vs)->aA K Hs H fl ds vs As->cE K Hs H fl (.list ds) (.ref a) (a :: As)
 |tup {a:ah} {vs:List V} {ds:List D} {As:List ah}:vs.length<=bS->Hs a=some (.tup vs)->eh ds=false->aA K Hs H fl ds vs As->cE K Hs H fl (.tup ds) (.ref a) As
 |dK {a:ah} {vs:List V} {ae:List (Key × D)} {As:List ah}:Vu ae->H a=some (.dK ((ae.map (·.1)).zip vs))->aA K Hs H fl (ae.map (·.2)) vs As->cE K Hs H fl (.dK ae) (.ref a) (a :: As)
 |dT {a:ah} {vs:List V} {ae:List (List Key × D)} {As:List ah}:Vv ae->H a=some (.dT ((ae.map (·.1)).zip vs))->aA K Hs H fl (ae.map (·.2)) vs As->cE K Hs H fl (.dT ae) (.ref a) (a :: As)
inductive aA(K:aI)(Hs H:Hp)(fl:Bool):List D->List V->List ah->Prop
 |nil:aA K Hs H fl [] [] []
 |cons {d:D} {v:V} {ds:List D} {vs:List V} {As Bs:List ah}:cE K Hs H fl d v As->aA K Hs H fl ds vs Bs->aA K Hs H fl (d :: ds) (v :: vs) (As++Bs)
end
def Own(H:Hp)(a:ah):Prop:=∃ o,H a=some o/\∀ vs,o≠.tup vs
section
variable {K:aI}{Hs aE H H':Hp}{fl:Bool}
def Own.ne(h:Own H a):H a≠none:=by obtain⟨_,e,_⟩:=h;rw[e];exact λz=>nomatch z
def Own.Dg(h:Own H a):H a≠some (.tup vs):=by obtain⟨_,e,n⟩:=h;rw[e];exact λz=>n vs (Option.some.inj z)
def cE.ind{m1:D->V->List ah->Prop}{m2:List D->List V->List ah->Prop}(hs:∀ d v,(fl=true->d.flat=true)->Rep K Hs d v->m1 d v [])(hl:∀ a vs ds As,vs.length<=bS->H a=some (.lst vs)->aA K Hs H fl ds vs As->m2 ds vs As->m1 (.list ds) (.ref a) (a :: As)) (ht:∀ a vs ds As,vs.length<=bS->Hs a=some (.tup vs)->eh ds=false->aA K Hs H fl ds vs As->m2 ds vs As->m1 (.tup ds) (.ref a) As)(hk:∀ a vs ae As,Vu ae->H a=some (.dK ((ae.map (·.1)).zip vs))->aA K Hs H fl (ae.map (·.2)) vs As->m2 (ae.map (·.2)) vs As->m1 (.dK ae) (.ref a) (a :: As)) (hT:∀ a vs ae As,Vv ae->H a=some (.dT ((ae.map (·.1)).zip vs))->aA K Hs H fl (ae.map (·.2)) vs As->m2 (ae.map (·.2)) vs As->m1 (.dT ae) (.ref a) (a :: As))(hn:m2 [] [] []) (hc:∀ d v ds vs As Bs,cE K Hs H fl d v As->aA K Hs H fl ds vs Bs->m1 d v As->m2 ds vs Bs->m2 (d :: ds) (v :: vs) (As++Bs)):(∀ {d v As},cE K Hs H fl d v As->m1 d v As)/\∀ {ds vs As},aA K Hs H fl ds vs As->m2 ds vs As :=
 ⟨λr=>cE.rec (λf r=>hs _ _ f r) (λz s r ih=>hl _ _ _ _ z s r ih) (λz s n r ih=>ht _ _ _ _ z s n r ih) (λz s r ih=>hk _ _ _ _ z s r ih) (λz s r ih=>hT _ _ _ _ z s r ih) hn (λr s a b=>hc _ _ _ _ _ _ r s a b) r,
  λr=>aA.rec (λf r=>hs _ _ f r) (λz s r ih=>hl _ _ _ _ z s r ih) (λz s n r ih=>ht _ _ _ _ z s n r ih) (λz s r ih=>hk _ _ _ _ z s r ih) (λz s r ih=>hT _ _ _ _ z s r ih) hn (λr s a b=>hc _ _ _ _ _ _ r s a b) r⟩
def zD{a:ah}{p:Prop}(h:a∈([]:List ah)):p:=absurd h EX
def cE.dx':(∀ {d:D} {v:V} {As:List ah},cE K Hs H fl d v As->∀ a∈As,Own H a)/\∀ {ds:List D} {vs:List V} {As:List ah},aA K Hs H fl ds vs As->∀ a∈As,Own H a :=
 cE.ind (λ_ _ _ _ a h=>zD h) (λ_ _ _ _ _ e _ ih a h=>(fm.mp h).elim (λz=>z ▸ ⟨_,e,λ_ z=>nomatch z⟩) (ih a)) (λ_ _ _ _ _ _ _ _ ih=>ih) (λ_ _ _ _ _ e _ ih a h=>(fm.mp h).elim (λz=>z ▸ ⟨_,e,λ_ z=>nomatch z⟩) (ih a)) (λ_ _ _ _ _ e _ ih a h=>(fm.mp h).elim (λz=>z ▸ ⟨_,e,λ_ z=>nomatch z⟩) (ih a)) (λa h=>zD h) λ_ _ _ _ _ _ _ _ i1 i2 a h=>(eL.mp h).elim (i1 a) (i2 a)
def cE.own(r:cE K Hs H fl d v As):∀ a∈As,Own H a:=cE.dx'.1 r
def aA.own(r:aA K Hs H fl ds vs As):∀ a∈As,Own H a:=cE.dx'.2 r
def cE.Js(s:bI Hs aE):(∀ {d:D} {v:V} {As:List ah},cE K Hs H fl d v As->(∀ a∈As,H' a=H a)->cE K aE H' fl d v As)/\∀ {ds:List D} {vs:List V} {As:List ah},aA K Hs H fl ds vs As->(∀ a∈As,H' a=H a)->aA K aE H' fl ds vs As :=
 cE.ind (λ_ _ f r _=>.sh f (r.same s)) (λ_ _ _ _ z e _ ih k=>.list z ((k _ fw).trans e) (ih λa h=>k a (fo _ h))) (λ_ _ _ _ z e n _ ih k=>.tup z (s _ _ e) n (ih k)) (λ_ _ _ _ z e _ ih k=>.dK z ((k _ fw).trans e) (ih λa h=>k a (fo _ h))) (λ_ _ _ _ z e _ ih k=>.dT z ((k _ fw).trans e) (ih λa h=>k a (fo _ h))) (λ_=>.nil) λ_ _ _ _ _ _ _ _ i1 i2 k=>.cons (i1 λa h=>k a (kr _ h)) (i2 λa h=>k a (fh _ h))
def cE.fA(s:bI Hs aE)(r:cE K Hs H fl d v As)(k:∀ a∈As,H' a=H a):cE K aE H' fl d v As:=(cE.Js s).1 r k
def aA.fA(s:bI Hs aE)(r:aA K Hs H fl ds vs As)(k:∀ a∈As,H' a=H a):aA K aE H' fl ds vs As:=(cE.Js s).2 r k
def cE.grow(s:bI Hs aE)(t:bI H H')(r:cE K Hs H fl d v As):cE K aE H' fl d v As :=
 r.fA s λa h=>by
  cases e:H a with
  |none=>exact absurd e (r.own a h).ne
  |some o=>exact t a o e
def aA.grow(s:bI Hs aE)(t:bI H H')(r:aA K Hs H fl ds vs As):aA K aE H' fl ds vs As :=
 r.fA s λa h=>by
  cases e:H a with
  |none=>exact absurd e (r.own a h).ne
  |some o=>exact t a o e
def cE.rep2{G:Hp}(s:bI Hs G):(∀ {d:D} {v:V} {As:List ah},cE K Hs H fl d v As->(∀ a∈As,G a=H a)->Rep K G d v)/\∀ {ds:List D} {vs:List V} {As:List ah},aA K Hs H fl ds vs As->(∀ a∈As,G a=H a)->ck K G ds vs :=
 cE.ind (λ_ _ _ r _=>r.same s) (λ_ _ _ _ z e _ ih k=>.list z (.inl (.inl ((k _ fw).trans e))) (ih λa h=>k a (fo _ h))) (λ_ _ _ _ z e n _ ih k=>.tup z (s _ _ e) (ih k)) (λ_ _ _ _ z e _ ih k=>.dK z (.inl ((k _ fw).trans e)) (ih λa h=>k a (fo _ h))) (λ_ _ _ _ z e _ ih k=>.dT z (.inl ((k _ fw).trans e)) (ih λa h=>k a (fo _ h))) (λ_=>.nil) λ_ _ _ _ _ _ _ _ i1 i2 k=>.cons (i1 λa h=>k a (kr _ h)) (i2 λa h=>k a (fh _ h))
def cE.rep(s:bI Hs G)(r:cE K Hs H fl d v As)(k:∀ a∈As,G a=H a):Rep K G d v:=(cE.rep2 s).1 r k
def aA.reps(s:bI Hs G)(r:aA K Hs H fl ds vs As)(k:∀ a∈As,G a=H a):ck K G ds vs:=(cE.rep2 s).2 r k
def Rep.yX(t:∀ a vs,H a=some (.tup vs)->G a=some (.tup vs)):(∀ {d:D} {v:V},Rep K H d v->d.flat=true->Rep K G d v)/\∀ {ds:List D} {vs:List V},ck K H ds vs->eh ds=true->ck K G ds vs :=
 Rep.ind (λ_=>.non) (λb _=>.bl b) (λi _=>.int i) (λ_ h _=>.str h) (λ_ _ _ _ _ _ _ f=>by simp[D.flat] at f) (λ_ _ _ z e _ ih f=>.tup z (t _ _ e) (ih (by simpa[D.flat] using f))) (λ_ _ _ _ _ _ _ f=>by simp[D.flat] at f) (λ_ _ _ _ _ _ _ f=>by simp[D.flat] at f) (λ_=>.nil) λ_ _ _ _ _ _ i1 i2 f=>by simp only[eh,mS] at f;exact .cons (i1 f.1) (i2 f.2)
def Rep.il(t:∀ a vs,H a=some (.tup vs)->G a=some (.tup vs))(r:Rep K H d v)(f:d.flat=true):Rep K G d v:=(Rep.yX t).1 r f
def ck.il(t:∀ a vs,H a=some (.tup vs)->G a=some (.tup vs))(r:ck K H ds vs)(f:eh ds=true):ck K G ds vs:=(Rep.yX t).2 r f
def ck.owned(r:ck K Hs ds vs)(f:eh ds=true):aA K Hs H fl ds vs [] :=
 ck.ind (m:=λds vs=>eh ds=true->aA K Hs H fl ds vs []) (λ_=>.nil) (λ_ _ _ _ h _ ih f=>by
  simp only[eh,mS] at f;exact .cons (.sh (λ_=>f.1) h) (ih f.2)) r f
def ck.JD(r:ck K Hs ds vs):aA K Hs H false ds vs [] :=
 ck.ind (m:=λds vs=>aA K Hs H false ds vs []) .nil (λ_ _ _ _ h _ ih=>.cons (.sh (λz=>Bool.noConfusion z) h) ih) r
def cE.dy':(∀ {d:D} {v:V} {As:List ah},cE K Hs H fl d v As->cE K Hs H false d v As)/\∀ {ds:List D} {vs:List V} {As:List ah},aA K Hs H fl ds vs As->aA K Hs H false ds vs As :=
 cE.ind (λ_ _ _ r=>.sh (λz=>Bool.noConfusion z) r) (λ_ _ _ _ z e _ ih=>.list z e ih) (λ_ _ _ _ z e n _ ih=>.tup z e n ih) (λ_ _ _ _ z e _ ih=>.dK z e ih) (λ_ _ _ _ z e _ ih=>.dT z e ih) .nil λ_ _ _ _ _ _ _ _ a b=>.cons a b
def cE.Vw(r:cE K Hs H fl d v As):cE K Hs H false d v As:=cE.dy'.1 r
def aA.Vw(r:aA K Hs H fl ds vs As):aA K Hs H false ds vs As:=cE.dy'.2 r
def cE.Gd(t:∀ a vs,Hs a=some (.tup vs)->G a=some (.tup vs)):(∀ {d:D} {v:V} {As:List ah},cE K Hs H true d v As->cE K G H true d v As)/\∀ {ds:List D} {vs:List V} {As:List ah},aA K Hs H true ds vs As->aA K G H true ds vs As :=
 cE.ind (λ_ _ f r=>.sh f (r.il t (f rfl))) (λ_ _ _ _ z e _ ih=>.list z e ih) (λ_ _ _ _ z e n _ ih=>.tup z (t _ _ e) n ih) (λ_ _ _ _ z e _ ih=>.dK z e ih) (λ_ _ _ _ z e _ ih=>.dT z e ih) .nil λ_ _ _ _ _ _ _ _ a b=>.cons a b
def cE.leaves(t:∀ a vs,Hs a=some (.tup vs)->G a=some (.tup vs))(r:cE K Hs H true d v As):cE K G H true d v As:=(cE.Gd t).1 r
def aA.ind{m:List D->List V->List ah->Prop}(hn:m [] [] [])(hc:∀ d v ds vs As Bs,cE K Hs H fl d v As->aA K Hs H fl ds vs Bs->m ds vs Bs->m (d :: ds) (v :: vs) (As++Bs)):∀ {ds vs As},aA K Hs H fl ds vs As->m ds vs As :=
 λr=>(cE.ind (m1:=λ_ _ _=>True) (λ_ _ _ _=>trivial) (λ_ _ _ _ _ _ _ _=>trivial) (λ_ _ _ _ _ _ _ _ _=>trivial) (λ_ _ _ _ _ _ _ _=>trivial) (λ_ _ _ _ _ _ _ _=>trivial) hn λd v ds vs As Bs r s _ b=>hc d v ds vs As Bs r s b).2 r
def aA.append(r:aA K Hs H fl ds vs As)(t:aA K Hs H fl es ws Bs):aA K Hs H fl (ds++es) (vs++ws) (As++Bs) :=
 aA.ind (m:=λds vs As=>aA K Hs H fl (ds++es) (vs++ws) (As++Bs)) t (λ_ _ _ _ _ _ h _ ih=>by
  rw[ui];exact .cons h ih) r
def aA.n0(h:aA K Hs H fl [] vs As):vs=[]/\As=[]:=by cases h;exact⟨rfl,rfl⟩
def aA.c(h:aA K Hs H fl (d :: ds) vs As):∃ u us A B,vs=u :: us/\As=A++B/\cE K Hs H fl d u A/\aA K Hs H fl ds us B:=by
 cases h with
 |cons r rs=>exact⟨_,_,_,_,rfl,rfl,r,rs⟩
def aA.length(r:aA K Hs H fl ds vs As):ds.length=vs.length :=
 aA.ind (m:=λds vs _=>ds.length=vs.length) rfl (λ_ _ _ _ _ _ _ _ ih=>by rw[oi,oi,ih]) r
end
def dz':HO->Prop
 |.dK _=>False
 |.dT _=>False
 |.qE _ _=>False
 |_=>True
def Qb(H H':Hp):Prop:=∀ a o,dz' o->H a=some o->H' a=some o
structure SY where
 is:Hp->Hp->ah->List ah->Prop
 fA:∀ {Hs aE H H':Hp} {a:ah} {As:List ah},Qb Hs aE->(∀ b∈As,H' b=H b)->is Hs H a As->is aE H' a As
 own:∀ {Hs H:Hp} {a:ah} {As:List ah},is Hs H a As->∀ b∈As,Own H b
def iJ(s:bI H H'):Qb H H':=λa o _ e=>s a o e
inductive Sl where
 |sh (d:D)|ow (fl:Bool) (d:D)|lk (a:ah) (fl:Bool) (d:D)
 |xc (a:ah)
 |ob (a:ah) (p:SY)
abbrev Env:=List (Option Sl)
inductive SR(K:aI)(Hs H:Hp):Env->St->List ah->Prop
 |nil:SR K Hs H [] [] []
 |non {ρ:Env} {σ:St} {ai:List ah} {o:Option V}:SR K Hs H ρ σ ai->SR K Hs H (none :: ρ) (o :: σ) ai
 |sh {ρ:Env} {σ:St} {ai:List ah} {d:D} {v:V}:Rep K Hs d v->SR K Hs H ρ σ ai->SR K Hs H (some (.sh d) :: ρ) (some v :: σ) ai
 |xc {ρ:Env} {σ:St} {ai:List ah} {a:ah}:SR K Hs H ρ σ ai->SR K Hs H (some (.xc a) :: ρ) (some (.ref a) :: σ) ai
 |ow {ρ:Env} {σ:St} {ai As:List ah} {fl:Bool} {d:D} {v:V}:As≠[]->cE K Hs H fl d v As->SR K Hs H ρ σ ai->SR K Hs H (some (.ow fl d) :: ρ) (some v :: σ) (As++ai)
 |lk {ρ:Env} {σ:St} {ai As:List ah} {a:ah} {fl:Bool} {d:D}:As≠[]->cE K Hs H fl d (.ref a) As->SR K Hs H ρ σ ai->SR K Hs H (some (.lk a fl d) :: ρ) (some (.ref a) :: σ) (As++ai)
 |ob {ρ:Env} {σ:St} {ai As:List ah} {a:ah} {p:SY}:p.is Hs H a As->SR K Hs H ρ σ ai->SR K Hs H (some (.ob a p) :: ρ) (some (.ref a) :: σ) (As++ai)
structure Wf(Hs H:Hp):Prop where
 sub:bI Hs H
 j3:∀ a vs,H a=some (.tup vs)->Hs a=some (.tup vs)
structure eI(K:aI)(Hs:Hp)(ρ:Env)(σ:St)(H:Hp)(ai:List ah):Prop where
 sr:SR K Hs H ρ σ ai
 wf:Wf Hs H
 nI:ai.Nodup
 own:∀ a∈ai,Hs a=none
structure fN(Hs H aE H':Hp):Prop where
 all:bI H H'
 sh:bI Hs aE
 wf:Wf aE H'
 new:∀ a,aE a≠none->Hs a≠none\/H a=none
section
variable {K:aI}{Hs H aE H' dA' H'':Hp}
def fN.refl(w:Wf Hs H):fN Hs H Hs H:=⟨bI.refl _,bI.refl _,w,λ_ h=>.inl h⟩
def fN.trans(a:fN Hs H aE H')(b:fN aE H' dA' H''):fN Hs H dA' H'' :=
 ⟨a.all.trans b.all,a.sh.trans b.sh,b.wf,λc h=>by
  rcases b.new c h with h|h
  ·exact a.new c h
  ·exact .inr (a.all.free h)⟩
def fN.qc(g:fN Hs H aE H')(h:Hs a=none)(h':H a≠none):aE a=none:=by
 cases e:aE a with
 |none=>rfl
 |some o =>
  rcases g.new a (by rw[e];exact λz=>nomatch z) with z|z
  ·exact absurd h z
  ·exact absurd z h'
def SR.own{ρ:Env}{σ:St}{ai:List ah}(s:SR K Hs H ρ σ ai):∀ a∈ai,Own H a:=by
 induction s with
 |nil=>exact λa h=>zD h
 |non _ ih=>exact ih
 |sh _ _ ih=>exact ih
 |xc _ ih=>exact ih
 |ow _ r _ ih=>exact λa h=>(eL.mp h).elim (r.own a) (ih a)
 |lk _ r _ ih=>exact λa h=>(eL.mp h).elim (r.own a) (ih a)
 |@ob _ _ _ _ _ p r _ ih=>exact λa h=>(eL.mp h).elim (p.own r a) (ih a)
def SR.fA(s:bI Hs aE)(r:SR K Hs H ρ σ ai):(∀ a∈ai,H' a=H a)->SR K aE H' ρ σ ai:=by
 induction r with
 |nil=>exact λ_=>.nil
 |non _ ih=>exact λk=>.non (ih k)
 |sh h _ ih=>exact λk=>.sh (h.same s) (ih k)
 |xc _ ih=>exact λk=>.xc (ih k)
 |ow ne h _ ih=>exact λk=>.ow ne (h.fA s λa m=>k a (kr _ m)) (ih λa m=>k a (fh _ m))
 |lk ne h _ ih=>exact λk=>.lk ne (h.fA s λa m=>k a (kr _ m)) (ih λa m=>k a (fh _ m))
 |@ob _ _ _ _ _ p h _ ih=>exact λk=>.ob (p.fA (iJ s) (λa m=>k a (kr _ m)) h) (ih λa m=>k a (fh _ m))
def eI.grow(r:eI K Hs ρ σ H ai)(g:fN Hs H aE H'):eI K aE ρ σ H' ai :=
 ⟨r.sr.fA g.sh λa h=>by
  cases e:H a with
  |none=>exact absurd e (r.sr.own a h).ne
  |some o=>exact g.all a o e,g.wf,r.nI,λa h=>g.qc (r.own a h) (r.sr.own a h).ne⟩
def C_(K:aI)(Hs H:Hp)(ai:List ah)(sl:Sl)(v:V):Prop:=match sl with
 |.sh d=>Rep K Hs d v
 |.ow fl d=>∃ As,As≠[]/\cE K Hs H fl d v As/\∀ a∈As,a∈ai
 |.lk a fl d=>∃ As,As≠[]/\cE K Hs H fl d v As/\v=.ref a/\∀ a∈As,a∈ai
 |.xc a=>v=.ref a
 |.ob a p=>v=.ref a/\∃ As,p.is Hs H a As/\∀ a∈As,a∈ai
def C_.mono(h:C_ K Hs H ai sl v)(m:∀ a∈ai,a∈dv):C_ K Hs H dv sl v:=by
 cases sl with
 |sh d=>exact h
 |xc a=>exact h
 |ow fl d =>obtain⟨As,ne,r,q⟩:=h;exact⟨As,ne,r,λa ha=>m a (q a ha)⟩
 |lk a fl d =>obtain⟨As,ne,r,e,q⟩:=h;exact⟨As,ne,r,e,λa ha=>m a (q a ha)⟩
 |ob a p =>obtain⟨e,As,r,q⟩:=h;exact⟨e,As,r,λa ha=>m a (q a ha)⟩
def SR.get{ρ:Env}{σ:St}{ai:List ah}{i:Nat}{sl:Sl}(s:SR K Hs H ρ σ ai)(e:ρ[i]? = some (some sl)):∃ v,σ[i]? = some (some v)/\C_ K Hs H ai sl v:=by
 induction s generalizing i with
 |nil=>simp at e
 |non s ih =>
  cases i with
  |zero=>simp at e
  |succ i=>exact ih e
 |sh r s ih =>
  cases i with
  |zero=>simp at e;subst e;exact⟨_,rfl,r⟩
  |succ i=>exact ih e
 |xc s ih =>
  cases i with
  |zero=>simp at e;subst e;exact⟨_,rfl,rfl⟩
  |succ i=>exact ih e
 |ow ne r s ih =>
  cases i with
  |zero=>simp at e;subst e;exact⟨_,rfl,_,ne,r,λa m=>kr _ m⟩
  |succ i =>obtain⟨v,e1,h⟩:=ih e;exact⟨v,e1,h.mono λa m=>fh _ m⟩
 |lk ne r s ih =>
  cases i with
  |zero=>simp at e;subst e;exact⟨_,rfl,_,ne,r,rfl,λa m=>kr _ m⟩
  |succ i =>obtain⟨v,e1,h⟩:=ih e;exact⟨v,e1,h.mono λa m=>fh _ m⟩
 |ob r s ih =>
  cases i with
  |zero=>simp at e;subst e;exact⟨_,rfl,rfl,_,r,λa m=>kr _ m⟩
  |succ i =>obtain⟨v,e1,h⟩:=ih e;exact⟨v,e1,h.mono λa m=>fh _ m⟩
end
inductive Md where
 |sh|ow (fl:Bool)|bo
def RM(K:aI)(Hs H:Hp):Md->D->V->List ah->Prop
 |.sh,d,v,As=>As=[]/\Rep K Hs d v
 |.ow fl,d,v,As=>cE K Hs H fl d v As/\As≠[]
 |.bo,d,v,As=>As=[]/\Rep K H d v
inductive B3(K:aI)(Hs H:Hp):List (Md × D)->List V->List ah->Prop
 |nil:B3 K Hs H [] [] []
 |cons {m:Md} {d:D} {v:V} {ps:List (Md × D)} {vs:List V} {As Bs:List ah}:RM K Hs H m d v As->B3 K Hs H ps vs Bs->B3 K Hs H ((m,d) :: ps) (v :: vs) (As++Bs)
section
variable {K:aI}{Hs H aE H':Hp}
def RM.own{m:Md}{d:D}{v:V}{As:List ah}(r:RM K Hs H m d v As):∀ a∈As,Own H a:=by
 cases m with
 |sh=>obtain⟨rfl,_⟩:=r;exact λa h=>zD h
 |ow fl=>exact cE.own r.1
 |bo=>obtain⟨rfl,_⟩:=r;exact λa h=>zD h
def RM.grow(r:RM K Hs H m d v As)(g:fN Hs H aE H'):RM K aE H' m d v As:=by
 cases m with
 |sh=>exact⟨r.1,r.2.same g.sh⟩
 |ow fl=>exact⟨cE.grow g.sh g.all r.1,r.2⟩
 |bo=>exact⟨r.1,r.2.same g.all⟩
def RM.rep(w:Wf Hs H)(r:RM K Hs H m d v As):Rep K H d v:=by
 cases m with
 |sh=>exact r.2.same w.sub
 |ow fl=>exact cE.rep w.sub r.1 λ_ _=>rfl
 |bo=>exact r.2
def RM.flat(w:Wf Hs H)(r:RM K Hs H m d v As)(f:d.flat=true):Rep K Hs d v:=(r.rep w).il w.j3 f
def B3.reps(w:Wf Hs H){ps:List (Md × D)}(r:B3 K Hs H ps vs As):ck K H (ps.map (·.2)) vs:=by
 induction r with
 |nil=>exact .nil
 |cons r _ ih=>exact .cons (r.rep w) ih
end
abbrev WE:=Env->(Md->D->Prop)->Prop
abbrev WT:=Env->(Bool->Prop)->Prop
abbrev WA:=Env->(List (Md × D)->Prop)->Prop
structure jt where
 nx:Env->Prop
 rt:Md->D->Prop
 bk:Env->Prop:=fun _=>False
 ct:Env->Prop:=fun _=>False
abbrev WS:=jt->Env->Prop
def bR(aE H:Hp)(As:List ah):Prop:=As.Nodup/\∀ a∈As,aE a=none/\H a=none
def oI(K:aI)(t:WE):TE:=λσ H Qv=>∃ Hs ρ ai Q,eI K Hs ρ σ H ai/\t ρ Q /\
 ∀ v H' aE m d As,fN Hs H aE H'->RM K aE H' m d v As->bR aE H As->Q m d->Qv v H'
def IC(K:aI)(t:WT):TT:=λσ H Qv=>∃ Hs ρ ai Q,eI K Hs ρ σ H ai/\t ρ Q/\∀ b H' aE,fN Hs H aE H'->Q b->Qv b H'
def Vx(K:aI)(t:WA):TA:=λσ H Qv=>∃ Hs ρ ai Q,eI K Hs ρ σ H ai/\t ρ Q /\
 ∀ vs H' aE ps As,fN Hs H aE H'->B3 K aE H' ps vs As->bR aE H As->Q ps->Qv vs H'
def A9(K:aI)(L:Str->Hp->Prop)(t:WS):TS:=λD σ H=>∃ Hs ρ ai E,eI K Hs ρ σ H ai/\t E ρ /\ (∀ cx H' aE df dv,bI Hs aE->eI K aE df cx H' dv->E.nx df->D.nx cx H') /\ (∀ cx H' aE df dv,bI Hs aE->eI K aE df cx H' dv->E.bk df->D.bk cx H') /\ (∀ cx H' aE df dv,bI Hs aE->eI K aE df cx H' dv->E.ct df->D.ct cx H') /\ (∀ v H' aE m d As,bI Hs aE->Wf aE H'->RM K aE H' m d v As->As.Nodup->(∀ a∈As,aE a=none)->E.rt m d->D.rt v H') /\
 ∀ n H',bI Hs H'->E.rt (.ow false) (.str n)->L n H'
def mY{K:aI}{L:Str->Hp->Prop}{t:WS}{D:Ends}{σ:St}{H:Hp}{G:Prop}(x:A9 K L t D σ H)(k:∀ Hs ρ ai E,eI K Hs ρ σ H ai->t E ρ -> (∀ cx H' aE df dv,bI Hs aE->eI K aE df cx H' dv->E.nx df->D.nx cx H') -> (∀ cx H' aE df dv,bI Hs aE->eI K aE df cx H' dv->E.bk df->D.bk cx H') -> (∀ cx H' aE df dv,bI Hs aE->eI K aE df cx H' dv->E.ct df->D.ct cx H') -> (∀ v H' aE m d As,bI Hs aE->Wf aE H'->RM K aE H' m d v As->As.Nodup->(∀ a∈As,aE a=none)->E.rt m d->D.rt v H') -> (∀ n H',bI Hs H'->E.rt (.ow false) (.str n)->L n H')->G):G :=
 by
 obtain⟨Hs,ρ,ai,E,sr,h,k1,k2,k3,k4,kx⟩:=x;exact k Hs ρ ai E sr h k1 k2 k3 k4 kx
def cz{K:aI}{L:Str->Hp->Prop}{t:WS}{D:Ends}{σ:St}{H:Hp}{G:Prop}(x:A9 K L t D σ H)(k:∀ Hs ρ ai E,eI K Hs ρ σ H ai->t E ρ -> (∀ cx H' aE df dv,bI Hs aE->eI K aE df cx H' dv->E.nx df->D.nx cx H') -> (∀ cx H' aE df dv,bI Hs aE->eI K aE df cx H' dv->E.bk df->D.bk cx H') -> (∀ cx H' aE df dv,bI Hs aE->eI K aE df cx H' dv->E.ct df->D.ct cx H') -> (∀ v H' aE m d As,bI Hs aE->Wf aE H'->RM K aE H' m d v As->As.Nodup->(∀ a∈As,aE a=none)->E.rt m d->D.rt v H')->G):G :=
 mY x λHs ρ ai E sr h k1 k2 k3 k4 _=>k Hs ρ ai E sr h k1 k2 k3 k4
def iP{α β γ δ:Type _}{A B C:α->β->γ->δ->Prop}{G:Prop}(x:∃ a b c d,A a b c d/\B a b c d/\C a b c d)(k:∀ a b c d,A a b c d->B a b c d->C a b c d->G):G :=
 by
 obtain⟨a,b,c,d,p,q,r⟩:=x;exact k a b c d p q r
abbrev QE(X:Cx)(K:aI)(e:Expr)(t:WE):Prop:=PE X e (oI K t)
abbrev QT(X:Cx)(K:aI)(e:Expr)(t:WT):Prop:=PT X e (IC K t)
abbrev QW(X:Cx)(K:aI)(e:Expr)(t:WT):Prop:=PW X e (IC K t)
abbrev QA(X:Cx)(K:aI)(es:List Expr)(t:WA):Prop:=PA X es (Vx K t)
abbrev QS(X:Cx)(K:aI)(L:Str->Hp->Prop)(st:i5)(t:WS):Prop:=PS X st (A9 K L t)
abbrev xo(X:Cx)(K:aI)(L:Str->Hp->Prop)(st:List i5)(t:WS):Prop:=mn X st (A9 K L t)
abbrev L0:Str->Hp->Prop:=λ_ _=>True
end L2.Q
namespace L2.Q
structure Kt{α:Type}(f:α->Prop):Type where
def dk{α:Type}(a:α){f:α->Prop}(_:Kt f):Prop:=f a
mutual
def D.py:D->PyData
 |.non=>.none
 |.bl b=>.bool b
 |.int i=>.int i
 |.str x=>.str x
 |.list xs=>.list (tJ xs)
 |.tup xs=>.tuple (tJ xs)
 |.dK _=>.none
 |.dT _=>.none
def tJ:List D->List PyData
 |[]=>[]
 |x :: xs=>x.py :: tJ xs
end
def fI:Nat->D->Bool
 |_,.non=>true
 |_,.bl _=>true
 |_,.int _=>true
 |_,.str x=>PyData.strOk x
 |n+1,.list xs=>xs.all (fI n)
 |n+1,.tup xs=>xs.all (fI n)
 |_,_=>false
def nK(x y:D):Bool:=PyData.eqv x.py y.py
def D.ty:D->String
 |.non => "NoneType"
 |.bl _ => "bool"
 |.int _ => "int"
 |.str _ => "str"
 |.list _ => "list"
 |.tup _ => "tuple"
 |.dK _ => "dict"
 |.dT _ => "dict"
def D.key1:D->Option Key
 |.int i=>some (.inl i)
 |.str x=>some (.inr x)
 |_=>none
def dW:List D->Option (List Key)
 |[]=>some []
 |x :: xs=>match x.key1,dW xs with
  |some k,some ks=>some (k :: ks)
  |_,_=>none
section
variable {κ:Type}[DecidableEq κ]{β:Type}
def gE(ae:List (κ × β))(k:κ):Option β:=(ae.find? λkv=>decide (kv.1=k)).map (·.2)
def tN(ae:List (κ × β))(k:κ)(v:β):List (κ × β) :=
 if (ae.any λkv=>decide (kv.1=k))=true then ae.map (λkv=>if kv.1=k then (kv.1,v) else kv) else ae++[(k,v)]
end
def Rep.l22{K:aI}:(∀ {d:D} {v:V},Rep K H d v->∀ n,fI n d=true->L2.Rep K H d.py v)/\∀ {ds:List D} {vs:List V},ck K H ds vs->∀ n,(∀ d∈ds,fI n d=true)->L2.ck K H (tJ ds) vs :=
 Rep.ind (λ_ _=>.none) (λb _ _=>.bool b) (λi _ _=>.int i) (λ_ _ _ _=>.str _) (λ_ _ _ _ h _ ih n o=>by
   cases n with
   |zero=>simp[fI] at o
   |succ n=>exact .list h (ih n (by simpa[fI] using o)))
  (λ_ _ _ _ h _ ih n o=>by
   cases n with
   |zero=>simp[fI] at o
   |succ n=>exact .tuple (.inl (.inl h)) (ih n (by simpa[fI] using o)))
  (λ_ _ _ _ _ _ _ n o=>by cases n<;>simp[fI] at o) (λ_ _ _ _ _ _ _ n o=>by cases n<;>simp[fI] at o) (λ_ _=>.nil)
  λ_ _ _ _ _ _ i1 i2 n o=>.cons (i1 n (o _ fw)) (i2 n λd m=>o d (fo _ m))
def Rep.l2{K:aI}(r:Rep K H d v)(o:fI n d=true):L2.Rep K H d.py v:=Rep.l22.1 r n o
def wG(ih:∀ d,fI n d=true->d.py.canLay0=true/\d.py.depth<=n)(xs:List D)(h:∀ x∈xs,fI n x=true):PyData.canLayAll0 (tJ xs)=true/\PyData.depthAll (tJ xs)<=n:=by
 induction xs with
 |nil=>exact⟨rfl,fR _⟩
 |cons x xs Z5 =>have h1:=ih x (h x fw);have h2:=Z5 λy hy=>h y (fo _ hy);simp only[tJ,PyData.canLayAll0,PyData.depthAll,h1.1,h2.1,Bool.and_self,true_and];lia
def mq(n:Nat):∀ (d:D),fI n d=true->d.py.canLay0=true/\d.py.depth<=n:=by
 have st:∀ n x,fI n (.str x)=true->(D.str x).py.canLay0=true/\(D.str x).py.depth<=n:=λn x h=>by
  have h:PyData.strOk x=true:=by cases n<;>simpa[fI] using h
  exact⟨by simpa[D.py,PyData.canLay0] using h,fR _⟩
 induction n with
 |zero =>
  intro d h
  cases d with
  |str x=>exact st _ x h
  |non=>exact⟨rfl,fR _⟩
  |bl _=>exact⟨rfl,fR _⟩
  |int _=>exact⟨rfl,fR _⟩
  |_=>simp[fI] at h
 |succ n ih =>
  intro d h
  cases d with
  |str x=>exact st _ x h
  |non=>exact⟨rfl,fR _⟩
  |bl _=>exact⟨rfl,fR _⟩
  |int _=>exact⟨rfl,fR _⟩
  |list xs =>
   have h:∀ x∈xs,fI n x=true:=by simpa[fI] using h
   have:=wG ih xs h;simp only[D.py,PyData.canLay0,PyData.depth];exact⟨this.1,by lia⟩
  |tup xs =>
   have h:∀ x∈xs,fI n x=true:=by simpa[fI] using h
   have:=wG ih xs h;simp only[D.py,PyData.canLay0,PyData.depth];exact⟨this.1,by lia⟩
  |dK _=>simp[fI] at h
  |dT _=>simp[fI] at h
mutual
def D.nb:D->Bool
 |.bl _=>false
 |.list xs=>rL xs
 |.tup xs=>rL xs
 |.dK _=>false
 |.dT _=>false
 |_=>true
def rL:List D->Bool
 |[]=>true
 |x :: xs=>x.nb && rL xs
end
mutual
theorem nO:∀ (x y:D),x.nb=true->y.nb=true->(nK x y=true↔x=y)
 |.non,y,_,hy=>by cases y<;>simp_all [nK,D.py,PyData.eqv,D.nb]
 |.bl _,y,hx,_=>by simp[D.nb] at hx
 |.int i,y,_,hy=>by cases y<;>simp_all [nK,D.py,PyData.eqv,D.nb]
 |.str i,y,_,hy=>by cases y<;>simp_all [nK,D.py,PyData.eqv,D.nb]
 |.dK _,y,hx,_=>by simp[D.nb] at hx
 |.dT _,y,hx,_=>by simp[D.nb] at hx
 |.list xs,y,hx,hy=>by
  cases y with
  |list ys =>have:=oE xs ys (by simpa[D.nb] using hx) (by simpa[D.nb] using hy);simp only[nK,D.py,PyData.eqv,D.list.injEq];exact this
  |_=>simp_all [nK,D.py,PyData.eqv,D.nb]
 |.tup xs,y,hx,hy=>by
  cases y with
  |tup ys =>have:=oE xs ys (by simpa[D.nb] using hx) (by simpa[D.nb] using hy);simp only[nK,D.py,PyData.eqv,D.tup.injEq];exact this
  |_=>simp_all [nK,D.py,PyData.eqv,D.nb]
theorem oE:∀ (xs ys:List D),rL xs=true->rL ys=true->(PyData.eqvAll (tJ xs) (tJ ys)=true↔xs=ys)
 |[],[],_,_=>by simp[tJ,PyData.eqvAll]
 |[],_ :: _,_,_=>by simp[tJ,PyData.eqvAll]
 |_ :: _,[],_,_=>by simp[tJ,PyData.eqvAll]
 |x :: xs,y :: ys,hx,hy=>by simp only[rL,mS] at hx hy;have h1:=nO x y hx.1 hy.1;have h2:=oE xs ys hx.2 hy.2;simp only[tJ,PyData.eqvAll,mS,List.cons.injEq];exact and_congr h1 h2
end
section
variable {K:aI}{H:Hp}
def Rep.key(r:Rep K H d v)(h:d.key1=some k):v=kV k:=by cases r<;>simp[D.key1] at h<;>subst h<;>rfl
def ck.keys(r:ck K H ds vs)(h:dW ds=some ks):vs=ks.map kV:=by
 induction ds generalizing vs ks with
 |nil=>simp[dW] at h;subst h;exact r.n0
 |cons d ds ih =>
  obtain⟨u,us,rfl,r,rs⟩:=r.c;unfold dW at h
  cases e1:d.key1 with
  |none=>rw[e1] at h;simp at h
  |some k =>
   cases e2:dW ds with
   |none=>rw[e1,e2] at h;simp at h
   |some k6 =>rw[e1,e2] at h;simp at h;subst h;rw[jS,r.key e1,ih rs e2]
def Rep.vw(r:Rep K H (.tup ds) v)(h:dW ds=some ks):∃ b,v=.ref b/\H b=some (.tup (ks.map kV)):=by
 cases r with
 |tup _ e rs=>exact⟨_,rfl,by rw[e,rs.keys h]⟩
end
section
variable {κ:Type}[DecidableEq κ]{K:aI}{H:Hp}
def zip_get{k:κ}{ae:List (κ × D)}{vs:List V}(h:ck K H (ae.map (·.2)) vs):match gE ae k with
  |some d=>∃ v,gL ((ae.map (·.1)).zip vs) k=some v/\Rep K H d v
  |none=>gL ((ae.map (·.1)).zip vs) k=none:=by
 induction ae generalizing vs with
 |nil=>rfl
 |cons p ae ih =>
  obtain⟨u,us,rfl,r,rs⟩:=ck.c h;by_cases e:p.1=k
  ·have e1:gE (p :: ae) k=some p.2:=by simp[gE,e]
   rw[e1];exact⟨_,by simp only[jS,Rx];exact zo e,r⟩
  ·have e1:gE (p :: ae) k=gE ae k:=by simp[gE,e]
   rw[e1];have:=ih rs;simp only[jS,Rx,zt (p:=(p.1,_)) e];exact this
def Gq{k:κ}{ae:List (κ × D)}{vs:List V}(h:ae.length=vs.length):((ae.map (·.1)).zip vs).any (λkv=>decide (kv.1=k))=ae.any λkv=>decide (kv.1=k):=by
 induction ae generalizing vs with
 |nil=>rfl
 |cons p ae ih =>
  cases vs with
  |nil=>simp at h
  |cons v vs =>simp only[jS,Rx,Dx];rw[ih (by simpa using h)]
end
section
variable {K:aI}{Hs H:Hp}
def Qq(w:Wf Hs H)(hp:H p=none)(ho:∀ vs,o≠.tup vs):fN Hs H Hs (upd H p o) :=
 ⟨(bI.refl H).upd hp,bI.refl _,⟨w.sub.upd hp,λa vs e=>by
  by_cases h:a=p
  ·subst h;rw[fq] at e;exact absurd (Option.some.inj e) (ho vs)
  ·rw[dP h] at e;exact w.j3 a vs e⟩,λ_ h=>.inl h⟩
def S0(w:Wf Hs H)(hp:H p=none):fN Hs H (upd Hs p (.tup vs)) (upd H p (.tup vs)) :=
 ⟨(bI.refl H).upd hp,(bI.refl Hs).upd (w.sub.free hp),⟨λa o e=>by
  by_cases h:a=p
  ·subst h;rw[fq] at e ⊢;exact e
  ·rw[dP h] at e ⊢;exact w.sub a o e,λa vs e=>by
  by_cases h:a=p
  ·subst h;rw[fq] at e ⊢;exact e
  ·rw[dP h] at e ⊢;exact w.j3 a vs e⟩,λa h=>by
  by_cases e:a=p
  ·subst e;exact .inr hp
  ·rw[dP e] at h;exact .inl h⟩
def bR.nil:bR Hs H []:=⟨nv,λa h=>nomatch h⟩
def bR.of(s:bI H H')(f:bR Hs H' As):bR Hs H As:=⟨f.1,λa h=>⟨(f.2 a h).1,s.free (f.2 a h).2⟩⟩
abbrev Fin(K:aI)(Hs H:Hp)(Qd:Md->D->Prop)(Qv:VK):Prop:=∀ v H' aE m d As,fN Hs H aE H'->RM K aE H' m d v As->bR aE H As->Qd m d->Qv v H'
def Fin.after(f:Fin K Hs H Qd Qv)(g:fN Hs H aE H'):Fin K aE H' Qd Qv:=λv H2 bq m d As g2 r fr q=>f v H2 bq m d As (g.trans g2) r (fr.of g.all) q
def Fin.sh(f:Fin K Hs H Qd Qv)(w:Wf Hs H)(r:Rep K Hs d v)(q:Qd .sh d):Qv v H:=f v H Hs .sh d [] (fN.refl w) ⟨rfl,r⟩ bR.nil q
def Fin.flat(f:Fin K Hs H Qd Qv)(w:Wf Hs H)(r:Rep K H d v)(hf:d.flat=true)(q:Qd .sh d):Qv v H:=f.sh w (r.il w.j3 hf) q
def Fin.bo(f:Fin K Hs H Qd Qv)(w:Wf Hs H)(r:Rep K H d v)(q:Qd .bo d):Qv v H:=f v H Hs .bo d [] (fN.refl w) ⟨rfl,r⟩ bR.nil q
def xt(m:Md)(d:D):Md:=match m with
 |.sh=>.sh
 |_=>bif d.flat then .sh else .bo
def Fin.xt(f:Fin K Hs H Qd Qv)(w:Wf Hs H)(r:Rep K H d v)(rs:m=.sh->Rep K Hs d v)(q:Qd (xt m d) d):Qv v H:=by
 have o:Qd (bif d.flat then .sh else .bo) d->Qv v H:=λq=>by
  cases hf:d.flat with
  |true=>exact f.flat w r hf (by simpa[hf] using q)
  |false=>exact f.bo w r (by simpa[hf] using q)
 cases m with
 |sh=>exact f.sh w (rs rfl) q
 |_=>exact o q
def Fin.lst(f:Fin K Hs H Qd Qv)(w:Wf Hs H)(hz:ds.length<=bS)(r:ck K H ds vs)(hf:eh ds=true)(q:Qd (.ow true) (.list ds)):∀ p,H p=none->Qv (.ref p) (upd H p (.lst vs)):=λp hp =>
 f _ _ Hs (.ow true) (.list ds) [p] (Qq w hp λ_ z=>nomatch z) ⟨.list (by rw[<- r.length];exact hz) fq ((r.il w.j3 hf).owned hf),by simp⟩ ⟨by simp,λa h=>by
  obtain rfl:a=p:=by simpa using h
  exact⟨w.sub.free hp,hp⟩⟩ q
def Fin.Vy(f:Fin K Hs H Qd Qv)(w:Wf Hs H)(hz:ds.length<=bS)(r:ck K Hs ds vs)(q:Qd (.ow false) (.list ds)):∀ p,H p=none->Qv (.ref p) (upd H p (.lst vs)):=λp hp =>
 f _ _ Hs (.ow false) (.list ds) [p] (Qq w hp λ_ z=>nomatch z) ⟨.list (by rw[<- r.length];exact hz) fq r.JD,by simp⟩ ⟨by simp,λa h=>by
  obtain rfl:a=p:=by simpa using h
  exact⟨w.sub.free hp,hp⟩⟩ q
def Fin.tup(f:Fin K Hs H Qd Qv)(w:Wf Hs H)(hz:ds.length<=bS)(r:ck K H ds vs)(hf:eh ds=true)(q:Qd .sh (.tup ds)):∀ p,H p=none->Qv (.ref p) (upd H p (.tup vs)):=λp hp =>
 f _ _ (upd Hs p (.tup vs)) .sh (.tup ds) [] (S0 w hp) ⟨rfl,.tup (by rw[<- r.length];exact hz) fq ((r.il w.j3 hf).same ((bI.refl Hs).upd (w.sub.free hp)))⟩ bR.nil q
end
section
variable {X:Cx}{K:aI}
def PE.imp(h:PE X e te)(i:∀ σ H Q,zI σ H Q->te σ H Q):PE X e zI:=λpins s σ H Q I q=>h pins s σ H Q I (i σ H Q q)
def PT.imp(h:PT X e te)(i:∀ σ H Q,zI σ H Q->te σ H Q):PT X e zI:=λpins s σ H Q I q=>h pins s σ H Q I (i σ H Q q)
def PW.imp(h:PW X e te)(i:∀ σ H Q,zI σ H Q->te σ H Q):PW X e zI:=λwh pins s σ H Q I q=>h wh pins s σ H Q I (i σ H Q q)
def PA.imp(h:PA X e te)(i:∀ σ H Q,zI σ H Q->te σ H Q):PA X e zI:=λp pins s σ H Q I q=>h p pins s σ H Q I (i σ H Q q)
def Vz:Option (Option Sl)->(Md->D->Prop)->Prop
 |some (some (.sh d)),Q=>Q .sh d
 |some (some (.ow _ d)),Q=>Q .bo d
 |some (some (.lk _ _ d)),Q=>Q .bo d
 |_,_=>False
def av(i:Nat):WE:=λρ Q=>Vz ρ[i]? Q
def Li(h:PE X e (kc i)):QE X K e (av i):=by
 refine PE.imp h λσ H Qv hx=>iP hx λHs ρ ai Q sr h f=>?_;unfold av at h
 cases e:ρ[i]? with
 |none=>rw[e] at h;exact h.elim
 |some o =>
  cases o with
  |none=>rw[e] at h;exact h.elim
  |some sl =>
   obtain⟨v,e1,r⟩:=sr.sr.get e;rw[e] at h
   cases sl with
   |sh d=>exact⟨v,e1,Fin.sh f sr.wf r h⟩
   |xc a=>exact h.elim
   |ob a p=>exact h.elim
   |ow fl d =>obtain⟨As,_,r,_⟩:=r;exact⟨v,e1,Fin.bo f sr.wf (r.rep sr.wf.sub λ_ _=>rfl) h⟩
   |lk a fl d =>obtain⟨As,_,r,_⟩:=r;exact⟨v,e1,Fin.bo f sr.wf (r.rep sr.wf.sub λ_ _=>rfl) h⟩
def qv (i:Nat) (hN:autoParam (X.N[i]? = some x) bv) (hv:RZ X.env.scope x:=by first|exact Or.inl rfl|exact Or.inr (Or.inl rfl)|exact Or.inr (Or.inr rfl)) (hd:(x == ("__debug__" : Str))=false:=by decide) (tF:(x == ("__classdict__" : Str))=false:=by decide):QE X K (.Name x pos) (av i):=Li (R3 hN hv hd tF)
def wC(d:D):WE:=λ_ Q=>Q .sh d
def zT(h:PE X e (tC v))(r:∀ H,Rep K H d v):QE X K e (wC d) :=
 PE.imp h λσ H Qv hx=>iP hx λHs ρ ai Q sr h f=>Fin.sh f sr.wf (r _) h
def ao{i j pos}:QE X K (.Constant (.int i) j pos) (wC (.int i)):=zT fL' λ_=>.int i
def aX{i j pos}(h:i.length<=bS:=by decide):QE X K (.Constant (.str i) j pos) (wC (.str i)):=zT fN' λ_=>.str h
def sF{i j pos}:QE X K (.Constant (.bool i) j pos) (wC (.bl i)):=zT fM' λ_=>.bl i
def dC' (h:Vl X.mg x z) (hg:autoParam (Gl X x) bv) (hd:(x == ("__debug__" : Str))=false:=by decide) (hz:z.length<=bS:=by decide):QE X K (.Name x pos) (wC (.str z)):=zT (Mh h hg hd) λ_=>.str hz
def VA (h:P4 X.mg x i) (hg:autoParam (Gl X x) bv) (hd:(x == ("__debug__" : Str))=false:=by decide):QE X K (.Name x pos) (wC (.int i)):=zT (Ld h hg hd) λ_=>.int i
abbrev W2:=Md->D->Md->D->(Md->D->Prop)->Prop
abbrev W1:=Md->D->(Md->D->Prop)->Prop
def mE(K:aI)(r:R2)(f:W2):Prop:=∀ Hs H m x v As n y u Bs Qd Qv,Wf Hs H->RM K Hs H m x v As->RM K Hs H n y u Bs->f m x n y Qd->Fin K Hs H Qd Qv->r v u H Qv
def Z6(K:aI)(r:V->Hp->VK->Prop)(f:W1):Prop:=∀ Hs H m x v As Qd Qv,Wf Hs H->RM K Hs H m x v As->f m x Qd->Fin K Hs H Qd Qv->r v H Qv
def aS(f:W2)(ta tb:WE):WE:=λρ Q=>ta ρ λm x=>tb ρ λn y=>f m x n y Q
def eA(f:W1)(ta:WE):WE:=λρ Q=>ta ρ λm x=>f m x Q
variable {a b:Expr}{ta tb tc:WE}{pos:Pos}
def iM(br:mE K r f)(σ:St)(H:Hp)(Qv:VK)(h:oI K (aS f ta tb) σ H Qv):PD r (oI K ta) (oI K tb) σ H Qv:=by obtain⟨Hs,ρ,ai,Q,sr,h,fin⟩:=h;exact⟨Hs,ρ,ai,_,sr,h,λv H1 bP m x As g1 r1 f1 q1=>⟨bP,ρ,ai,_,sr.grow g1,q1,λu H2 bq n y Bs g2 r2 f2 q2=>br bq H2 m x v As n y u Bs Q Qv g2.wf (r1.grow g2) r2 q2 (Fin.after fin (g1.trans g2))⟩⟩
def Qr(ho:eP X (qA op) r)(br:mE K r f)(ha:QE X K a ta)(hb:QE X K b tb):QE X K (.BinOp a op b pos) (aS f ta tb):=PE.imp (gE' ho ha hb) (iM br)
def kK'(ho:UK X (unaryOp op) r)(br:Z6 K r f)(ha:QE X K a ta):QE X K (.UnaryOp op a pos) (eA f ta):=by exact PE.imp (gF' ho ha) λσ H Qv hx=>iP hx λHs ρ ai Q sr h fin=>⟨Hs,ρ,ai,_,sr,h,λv H1 bP m x As g1 r1 f1 q1=>br bP H1 m x v As Q Qv g1.wf r1 q1 (Fin.after fin g1)⟩
def eV(ho:eP X (i7 op) r)(br:mE K r f)(ha:QE X K a ta)(hb:QE X K b tb)(hm:GN op b=false:=by first|exact bM' _|rfl):QE X K (.Compare a [op] [b] pos) (aS f ta tb):=PE.imp (gX' ho ha hb hm) (iM br)
def wB(t:WE):WT:=λρ Q=>t ρ λ_ x=>match x with
 |.bl b=>Q b
 |_=>False
def BW(σ:St)(H:Hp)(Qv:Bool->Hp->Prop)(h:IC K (wB t) σ H Qv):W9 (oI K t) σ H Qv:=by
 obtain⟨Hs,ρ,ai,Q,sr,h,fin⟩:=h;walk_at"d";have r:=r1.rep g1.wf
 cases r with
 |bl b=>exact⟨b,rfl,fin b H1 bP g1 q1⟩
 |_=>exact q1.elim
def aL(ho:eP X (i7 op) r)(br:mE K r f)(ha:QE X K a ta)(hb:QE X K b tb)(hm:GN op b=false:=by first|exact bM' _|rfl):QT X K (.Compare a [op] [b] pos) (wB (aS f ta tb)):=by
 refine PT.imp (gY' ho ha hb hm) λσ H Qv h=>?_;obtain⟨Hs,ρ,ai,Q,sr,h,fin⟩:=h;refine iM br σ H _ ⟨Hs,ρ,ai,_,sr,h,λv H1 bP m x As g1 r1 f1 q1=>?_⟩;have r:=r1.rep g1.wf
 cases r with
 |bl b=>exact⟨b,rfl,fin b H1 bP g1 q1⟩
 |_=>exact q1.elim
def dR(h:QE X K a t)(he:∀ whole,isTrue a X.env whole=(do let v <- whole;standAt a.pos;holding [v] (truthy v)):=by intro _;rfl):QT X K a (wB t):=PT.imp (fQ' h he) BW
def gR(f g:W2)(ta tb tc:WE):WE:=λρ Q=>ta ρ λm x=>tb ρ λn y=>f m x n y λ_ z=>match z with
 |.bl k=>if k=true then tc ρ λl w=>g n y l w Q else Q .sh (.bl false)
 |_=>False
end
section
variable {X:Cx}{K:aI}{a b c:Expr}{ta tb tc:WE}{pos:Pos}
def mC(br:mE K r f)(S4:mE K r' g)(σ:St)(H:Hp)(Qv:VK)(h:oI K (gR f g ta tb tc) σ H Qv):W_ r r' (oI K ta) (oI K tb) (oI K tc) σ H Qv:=by
 obtain⟨Hs,ρ,ai,Q,sr,h,fin⟩:=h;refine⟨Hs,ρ,ai,_,sr,h,λv H1 bP m x As g1 r1 f1 q1=>⟨bP,ρ,ai,_,sr.grow g1,q1,λu H2 bq n y Bs g2 r2 f2 q2=>?_⟩⟩;refine br bq H2 m x v As n y u Bs _ _ g2.wf (r1.grow g2) r2 q2 λz H3 gi m3 d3 VB g3 r3 f3 q3=>?_;have rr:=r3.rep g3.wf
 cases rr with
 |bl k =>
  refine⟨k,rfl,?_⟩;have Vs:Fin K gi H3 Q Qv:=Fin.after fin ((g1.trans g2).trans g3)
  cases k with
  |false=>exact Vs.sh g3.wf (.bl false) q3
  |true =>exact⟨gi,ρ,ai,_,((sr.grow g1).grow g2).grow g3,q3,λw H4 Qs l z As4 g4 r4 f4 q4=>S4 Qs H4 n y u Bs l z w As4 Q Qv g4.wf ((r2.grow g3).grow g4) r4 q4 (Fin.after Vs g4)⟩
 |_=>exact q3.elim
def Ft(ho:eP X (i7 op) r)(nE:eP X (i7 op') r')(br:mE K r f)(S4:mE K r' g)(ha:QE X K a ta)(hb:QE X K b tb)(hc:QE X K c tc)(hm:lastMarks [op,op'] [b,c]=false:=by with_unfolding_all rfl):QE X K (.Compare a [op,op'] [b,c] pos) (gR f g ta tb tc):=PE.imp (gZ' ho nE ha hb hc hm) (mC br S4)
def jz(ho:eP X (i7 op) r)(nE:eP X (i7 op') r')(br:mE K r f)(S4:mE K r' g)(ha:QE X K a ta)(hb:QE X K b tb)(hc:QE X K c tc)(hm:lastMarks [op,op'] [b,c]=false:=by with_unfolding_all rfl):QT X K (.Compare a [op,op'] [b,c] pos) (wB (gR f g ta tb tc)):=by
 refine PT.imp (ha' ho nE ha hb hc hm) λσ H Qv h=>?_;obtain⟨Hs,ρ,ai,Q,sr,h,fin⟩:=h;refine mC br S4 σ H _ ⟨Hs,ρ,ai,_,sr,h,λv H1 bP m x As g1 r1 f1 q1=>?_⟩;have r:=r1.rep g1.wf
 cases r with
 |bl b=>exact⟨b,rfl,fin b H1 bP g1 q1⟩
 |_=>exact q1.elim
def tP(t u:WT):WT:=λρ Q=>t ρ λc=>if c=true then Q true else u ρ Q
def rS(t:WT):WT:=λρ Q=>t ρ λc=>Q (!c)
variable {tA tB:WT}{rest:List Expr}
def sY{t u:WT}{f:Bool->TT}{σ:St}{H:Hp}{Qv:Bool->Hp->Prop}{G:Bool->(Bool->Prop)->Env->Prop}(h:IC K (λρ Q=>t ρ λc=>G c Q ρ) σ H Qv)(i:∀ c H1 bP ρ ai Q,eI K bP ρ σ H1 ai->G c Q ρ->(∀ b H' aE,fN bP H1 aE H'->Q b->Qv b H')->f c σ H1 Qv):IC K t σ H λc H1=>f c σ H1 Qv:=by
 obtain⟨Hs,ρ,ai,Q,sr,h,fin⟩:=h;exact⟨Hs,ρ,ai,_,sr,h,λc H1 bP g1 q1=>i c H1 bP ρ ai Q (sr.grow g1) q1 λb H' aE g2=>fin b H' aE (g1.trans g2)⟩
def eO(ha:QT X K a tA):QW X K (.BoolOp .Or [a] pos) tA:=pw_or1 ha
def f9(ha:QT X K a tA)(hb:QW X K (.BoolOp .Or (b :: rest) pos) tB):QW X K (.BoolOp .Or (a :: b :: rest) pos) (tP tA tB):=by
 refine PW.imp (pw_or ha hb) λσ H Qv h=>?_;refine sY (u:=tB) (f:=λc σ H1 Q=>if c=true then Q true H1 else IC K tB σ H1 Q) h λc H1 bP ρ ai Q sr q fin=>?_
 cases c with
 |true=>exact fin true H1 bP (fN.refl sr.wf) q
 |false=>exact⟨bP,ρ,ai,Q,sr,q,fin⟩
def B4(h:QW X K a tA):QT X K a tA:=h _
def b7(ha:QT X K a tA):QT X K (.UnaryOp .Not a pos) (rS tA):=by exact PT.imp (fT' ha) λσ H Qv h=>sY (u:=tA) (f:=λc σ H1 Q=>Q (!c) H1) h λc H1 bP ρ ai Q sr q fin=>fin _ H1 bP (fN.refl sr.wf) q
def dZ(ta tb:WE):WE:=λρ Q=>ta ρ λ_ x=>match x with
 |.bl c=>if c=true then tb ρ Q else Q .sh (.bl false)
 |_=>False
def VC(ta tb:WE):WE:=λρ Q=>ta ρ λ_ x=>match x with
 |.bl c=>if c=true then Q .sh (.bl true) else tb ρ Q
 |_=>False
def zX(ta:WE):WE:=λρ Q=>ta ρ λ_ x=>match x with
 |.bl c=>Q .sh (.bl (!c))
 |_=>False
def lO{op}(h:QE X K a ta):QE X K (.BoolOp op [a] pos) ta:=fX' h
def gY(ha:QE X K a ta)(hb:QE X K (.BoolOp .And (b :: rest) pos) tb):QE X K (.BoolOp .And (a :: b :: rest) pos) (dZ ta tb):=by
 refine PE.imp (fY' ha hb) λσ H Qv hx=>iP hx λHs ρ ai Q sr h fin=>?_;walk_at"d";have r:=r1.rep g1.wf
 cases r with
 |bl c =>
  refine⟨c,rfl,?_⟩
  cases c with
  |true=>exact⟨bP,ρ,ai,Q,sr.grow g1,q1,Fin.after fin g1⟩
  |false=>exact Fin.sh (Fin.after fin g1) g1.wf (.bl false) q1
 |_=>exact q1.elim
def kM'(ha:QE X K a ta)(hb:QE X K (.BoolOp .Or (b :: rest) pos) tb):QE X K (.BoolOp .Or (a :: b :: rest) pos) (VC ta tb):=by
 refine PE.imp (fZ' ha hb) λσ H Qv hx=>iP hx λHs ρ ai Q sr h fin=>?_;walk_at"d";have r:=r1.rep g1.wf
 cases r with
 |bl c =>
  refine⟨c,rfl,?_⟩
  cases c with
  |true=>exact Fin.sh (Fin.after fin g1) g1.wf (.bl true) q1
  |false=>exact⟨bP,ρ,ai,Q,sr.grow g1,q1,Fin.after fin g1⟩
 |_=>exact q1.elim
def Km(ha:QE X K a ta):QE X K (.UnaryOp .Not a pos) (zX ta):=by
 refine PE.imp (ga' ha) λσ H Qv hx=>iP hx λHs ρ ai Q sr h fin=>?_;walk_at"d";have r:=r1.rep g1.wf
 cases r with
 |bl c=>exact⟨c,rfl,Fin.sh (Fin.after fin g1) g1.wf (.bl _) q1⟩
 |_=>exact q1.elim
def VD:D->Option Bool
 |.non=>some false
 |.bl b=>some b
 |.int i=>some (i != 0)
 |.str x=>some ((x.length:Int) != 0)
 |.list xs=>some !xs.isEmpty
 |.tup xs=>some !xs.isEmpty
 |.dK ae=>none
 |.dT ae=>none
def Qt(t:WE):WT:=λρ Q=>t ρ λ_ x=>∃ b,VD x=some b/\Q b
end
def mG:W2:=λm x n y Q=>match x,y with
 |.int i,.int j=>Q .sh (.int (i+j))
 |.str i,.str j=>i.length+j.length<=bS/\Q .sh (.str (i++j))
 |.list xs,.list ys=>xs.length+ys.length<=bS/\((eh xs=true/\eh ys=true/\Q (.ow true) (.list (xs++ys)))\/(m=.sh/\n=.sh/\Q (.ow false) (.list (xs++ys))))
 |.tup xs,.tup ys=>xs≠[]/\xs.length+ys.length<=bS/\eh xs=true/\eh ys=true/\Q .sh (.tup (xs++ys))
 |_,_=>False
def Qu(P:Int->Int->(Md->D->Prop)->Prop):W2:=λ_ x _ y Q=>match x,y with
 |.int i,.int j=>P i j Q
 |_,_=>False
def Z7(P:Int->Int->(Md->D->Prop)->Prop)(S:Str->Str->(Md->D->Prop)->Prop):W2:=λ_ x _ y Q=>match x,y with
 |.int i,.int j=>P i j Q
 |.str i,.str j=>S i j Q
 |_,_=>False
def IE:W2:=Qu λi j Q=>Q .sh (.int (i-j))
def zS:W2:=Qu λi j Q=>HL i j/\Q .sh (.int (i*j))
def sL:W2:=Qu λi j Q=>(0<j/\j<1073741824)/\Q .sh (.int (i / j))
def kH:W2:=Qu λi j Q=>0<j/\Q .sh (.int (i % j))
def MV:W2:=Z7 (λi j Q=>Q .sh (.bl (decide (i<j)))) λi j Q=>Q .sh (.bl (xk i j))
def B5:W2:=Z7 (λi j Q=>Q .sh (.bl (decide (i<=j)))) λi j Q=>Q .sh (.bl (!xk j i))
def MX:W2:=Qu λi j Q=>Q .sh (.bl (decide (j<i)))
def ic:W2:=λ_ x _ y Q=>match x,y with
 |.int i,.int j=>Q .sh (.bl (decide (i=j)))
 |.str i,.str j=>Q .sh (.bl (decide (i=j)))
 |.bl i,.bl j=>Q .sh (.bl (decide (i=j)))
 |_,_=>fI 12 x=true/\fI 12 y=true/\Q .sh (.bl (nK x y))
def MY:W2:=λ_ x _ y Q=>match x,y with
 |.int i,.int j=>Q .sh (.bl (!decide (i=j)))
 |.str i,.str j=>Q .sh (.bl (!decide (i=j)))
 |.bl i,.bl j=>Q .sh (.bl (!decide (i=j)))
 |_,_=>fI 12 x=true/\fI 12 y=true/\Q .sh (.bl (!nK x y))
def gq:D->Bool
 |.non=>true
 |.bl _=>true
 |.int _=>true
 |.str _=>true
 |_=>false
def inD(x:D)(ys:List D):Bool:=ys.any λy=>nK y x
def D7(neg:Bool):W2:=λ_ x _ y Q=>match y with
 |.str j=>match x with
  |.str i=>Q .sh (.bl (if neg then !D2 i j else D2 i j))
  |_=>False
 |.list ys=>gq x=true/\ys.all gq=true/\Q .sh (.bl (if neg then !inD x ys else inD x ys))
 |.tup ys=>gq x=true/\ys.all gq=true/\Q .sh (.bl (if neg then !inD x ys else inD x ys))
 |.dK ae=>∃ k,x.key1=some k/\Q .sh (.bl (if neg then !(gE ae k).isSome else (gE ae k).isSome))
 |.dT ae=>match x with
  |.tup xs=>∃ ks,dW xs=some ks/\Q .sh (.bl (if neg then !(gE ae ks).isSome else (gE ae ks).isSome))
  |_=>False
 |_=>False
section
variable {K:aI}
def wU(f:Fin K Hs H Qd Qv)(w:Wf Hs H)(h:x.length<=bS)(q:Qd .sh (.str x)):Qv (.str x) H:=f.sh w (.str h) q
def bJ(i j:Str):(i++j).length=i.length+j.length:=by show(i.cps++j.cps).size=_;simp[Str.length]
def Jq:mE K (λx y H Q=>Al K x y H Q\/Zh K x y H Q) mG:=by
 walk_at"a";have r1:=rx.rep w;have r2:=ry.rep w
 cases r1 with
 |int i=>cases r2 with
  |int j=>exact .inl (f.sh w (.int _) h)
  |_=>exact h.elim
 |str hi=>cases r2 with
  |str hj=>exact .inl ⟨h.1,wU f w (by rw[bJ];exact h.1) h.2⟩
  |_=>exact h.elim
 |list z1 s1 q1=>cases r2 with
  |list z2 s2 q2 =>
   have l1:=q1.length;have l2:=q2.length;have hz:=h.1;rcases h.2 with⟨f1,f2,q⟩|⟨rfl,rfl,q⟩
   ·exact .inl ⟨_,_,s1,s2,by lia,f.lst w (by rw[mI];exact hz) (q1.append q2) (by rw[jf,f1,f2];rfl) q⟩
   ·obtain⟨_,rx⟩:=rx;obtain⟨_,ry⟩:=ry
    cases rx with
    |list z1' s1' Qw=>cases ry with
     |list z2' s2' q2' =>have l1:=Qw.length;have l2:=q2'.length;exact .inl ⟨_,_,bI.seq w.sub s1',bI.seq w.sub s2',by lia,f.Vy w (by rw[mI];exact hz) (Qw.append q2') q⟩
  |_=>exact h.elim
 |tup t1 s1 q1=>cases r2 with
  |tup t2 s2 q2 =>
   have l1:=q1.length;have l2:=q2.length;obtain⟨i6,hz,f1,f2,q⟩:=h;refine .inr ⟨_,_,_,_,rfl,rfl,.inl (.inl s1),.inl (.inl s2),?_,by lia,?_⟩
   ·intro e;subst e;exact i6 (Rq.mp l1)
   ·refine⟨λe=>?_,λ_=>f.tup w (by rw[mI];exact hz) (q1.append q2) (by rw[jf,f1,f2];rfl) q⟩;subst e;cases q2;rw[mM] at q;exact f.flat w (.tup t1 s1 q1) (by simpa[D.flat] using f1) q
  |_=>exact h.elim
 |_=>exact h.elim
def DG{H:Hp}{x y:D}{v u:V}{m n:Md}{P:Int->Int->(Md->D->Prop)->Prop}{S:Str->Str->(Md->D->Prop)->Prop}{Q:Md->D->Prop}{G:Prop}(r1:Rep K H x v)(r2:Rep K H y u)(h:Z7 P S m x n y Q)(k:∀ i j,v=.int i->u=.int j->P i j Q->G)(ks:∀ i j,v=.str i->u=.str j->S i j Q->G):G:=by
 cases r1 with
 |int i=>cases r2 with
  |int j=>exact k i j rfl rfl h
  |_=>exact h.elim
 |str hi=>cases r2 with
  |str hj=>exact ks _ _ rfl rfl h
  |_=>exact h.elim
 |_=>exact h.elim
def jL{H:Hp}{x y:D}{v u:V}{m n:Md}{P:Int->Int->(Md->D->Prop)->Prop}{Q:Md->D->Prop}{G:Prop}(r1:Rep K H x v)(r2:Rep K H y u)(h:Qu P m x n y Q)(k:∀ i j,v=.int i->u=.int j->P i j Q->G):G:=by
 cases r1 with
 |int i=>cases r2 with
  |int j=>exact k i j rfl rfl h
  |_=>exact h.elim
 |_=>exact h.elim
def Ig:mE K Eg IE:=by
 walk_at"a";exact jL (rx.rep w) (ry.rep w) h λi j e1 e2 q=>by subst e1 e2;exact f.sh w (.int _) q
def Ks:mE K Gf zS:=by
 walk_at"a";exact jL (rx.rep w) (ry.rep w) h λi j e1 e2 q=>by subst e1 e2;exact⟨q.1,f.sh w (.int _) q.2⟩
def JC:mE K Fo sL:=by
 walk_at"a";exact jL (rx.rep w) (ry.rep w) h λi j e1 e2 q=>by subst e1 e2;exact⟨q.1,f.sh w (.int _) q.2⟩
def Jx:mE K F_ kH:=by
 walk_at"a";exact jL (rx.rep w) (ry.rep w) h λi j e1 e2 q=>by subst e1 e2;exact⟨q.1,f.sh w (.int _) q.2⟩
def xg:mE K ZF MX:=by
 walk_at"a";exact jL (rx.rep w) (ry.rep w) h λi j e1 e2 q=>by subst e1 e2;exact f.sh w (.bl _) q
def zy:mE K ZD MV:=by
 intro Hs H m x v As n y u Bs Qd Qv w rx ry h f;exact DG (rx.rep w) (ry.rep w) h (λi j e1 e2 q=>by
  subst e1 e2;exact f.sh w (.bl _) q) λi j e1 e2 q=>by
  subst e1 e2;exact f.sh w (.bl _) q
def nU:mE K ZE B5:=by
 intro Hs H m x v As n y u Bs Qd Qv w rx ry h f;exact DG (rx.rep w) (ry.rep w) h (λi j e1 e2 q=>by
  subst e1 e2;exact f.sh w (.bl _) q) λi j e1 e2 q=>by
  subst e1 e2;exact f.sh w (.bl _) q
def eq_data(w:Wf Hs H)(rx:Rep K H x v)(ry:Rep K H y u)(f:Fin K Hs H Qd Qv)(h:fI 12 x=true/\fI 12 y=true/\Qd .sh (.bl (nK x y))):ZH K v u H Qv:=by obtain⟨h1,h2,q⟩:=h;have l1:=mq 12 x h1;have l2:=mq 12 y h2;exact⟨x.py,y.py,rx.l2 h1,ry.l2 h2,l1.1,l2.1,by lia,f.sh w (.bl _) q⟩
def ne_data(w:Wf Hs H)(rx:Rep K H x v)(ry:Rep K H y u)(f:Fin K Hs H Qd Qv)(h:fI 12 x=true/\fI 12 y=true/\Qd .sh (.bl (!nK x y))):ZI K v u H Qv:=by obtain⟨h1,h2,q⟩:=h;have l1:=mq 12 x h1;have l2:=mq 12 y h2;exact⟨x.py,y.py,rx.l2 h1,ry.l2 h2,l1.1,l2.1,by lia,f.sh w (.bl _) q⟩
def bw:mE K (Vg K) ic:=by
 walk_at"a";have r1:=rx.rep w;have r2:=ry.rep w;have d:=λh=>eq_data w r1 r2 f h
 cases r1 with
 |int i=>cases r2 with
  |int j=>exact f.sh w (.bl _) h
  |_=>exact d h
 |str i=>cases r2 with
  |str j=>exact f.sh w (.bl _) h
  |_=>exact d h
 |bl i=>cases r2 with
  |bl j=>exact f.sh w (.bl _) h
  |_=>exact d h
 |_=>exact d h
def Br:mE K (Vh K) MY:=by
 walk_at"a";have r1:=rx.rep w;have r2:=ry.rep w;have d:=λh=>ne_data w r1 r2 f h
 cases r1 with
 |int i=>cases r2 with
  |int j=>exact f.sh w (.bl _) h
  |_=>exact d h
 |str i=>cases r2 with
  |str j=>exact f.sh w (.bl _) h
  |_=>exact d h
 |bl i=>cases r2 with
  |bl j=>exact f.sh w (.bl _) h
  |_=>exact d h
 |_=>exact d h
def kO(r:Rep K H x v)(h:gq x=true):DZ v=true:=by cases r<;>first|rfl|(simp[gq] at h)
def Gs(r:Rep K H x v)(s:Rep K H y u)(h:gq x=true)(g:gq y=true):FD v u=nK x y:=by cases r<;>simp[gq] at h<;>cases s<;>simp[gq] at g<;>rfl
def Ke(r:Rep K H x v)(h:gq x=true)(rs:ck K H ys us)(g:ys.all gq=true):us.all DZ=true/\UX v us=inD x ys:=by
 induction ys generalizing us with
 |nil=>rw[rs.n0];exact⟨rfl,rfl⟩
 |cons y ys ih =>
  obtain⟨u,us,rfl,s,ss⟩:=rs.c;simp only[E4,mS] at g;obtain⟨e1,e2⟩:=ih ss g.2;refine⟨by simp only[E4,kO s g.1,e1,Bool.and_self],?_⟩;unfold UX inD at *
  rw[Dx,Dx,e2,Gs s r g.1 h]
def qG{κ:Type}[DecidableEq κ]{H:Hp}{k:κ}{ae:List (κ × D)}{vs:List V}(r:ck K H (ae.map (·.2)) vs):(gL ((ae.map (·.1)).zip vs) k).isSome=(gE ae k).isSome:=by
 have:=zip_get (k:=k) r;split at this
 ·rename_i e;obtain⟨v,e1,_⟩:=this;rw[e1,e];rfl
 ·rename_i e;rw[this,e];rfl
def wu:mE K (Vm K neg) (D7 neg):=by
 walk_at"a";have r1:=rx.rep w;have r2:=ry.rep w
 cases r2 with
 |str j=>cases r1 with
  |str i=>exact f.sh w (.bl _) h
  |_=>exact h.elim
 |list z s q =>
  obtain⟨h1,h2,h3⟩:=h;obtain⟨e1,e2⟩:=Ke r1 h1 q h2;have h4:=kO r1 h1;have g:UY K neg v (.ref _) H Qv:=⟨_,_,rfl,.inl s,h4,e1,by rw[e2];exact f.sh w (.bl _) h3⟩
  cases r1<;>exact .inr g
 |tup _ s q =>
  obtain⟨h1,h2,h3⟩:=h;obtain⟨e1,e2⟩:=Ke r1 h1 q h2;have h4:=kO r1 h1;have g:UY K neg v (.ref _) H Qv:=⟨_,_,rfl,.inr (.inl (.inl s)),h4,e1,by rw[e2];exact f.sh w (.bl _) h3⟩
  cases r1<;>exact .inr g
 |dK kk e q =>obtain⟨k,hk,h3⟩:=h;have ev:=r1.key hk;subst ev;have eg:=qG (k:=k) q;cases k<;>exact .inl ⟨_,sA.k' e,by rw[eg];exact f.sh w (.bl _) h3⟩
 |dT kk e q =>
  cases r1 with
  |tup t1 e1 q1 =>obtain⟨ks,hk,h3⟩:=h;obtain⟨b,eb,e2⟩:=Rep.vw (.tup t1 e1 q1) hk;cases eb;have eg:=qG (k:=ks) q;exact .inl ⟨_,sA.t' e e2,by rw[eg];exact f.sh w (.bl _) h3⟩
  |_=>exact h.elim
 |_=>exact h.elim
end
section
variable {X:Cx}{K:aI}{a b:Expr}{ta tb:WE}{pos:Pos}
def MF(hK:autoParam (X.K=K) bv):eP X (qA .Add) (λx y H Q=>Al K x y H Q\/Zh K x y H Q):=by subst hK;exact Hx.or iz'
def cY(ha:QE X K a ta)(hb:QE X K b tb)(hK:autoParam (X.K=K) bv):QE X K (.BinOp a .Add b pos) (aS mG ta tb):=Qr (MF hK) Jq ha hb
def xU(ha:QE X K a ta)(hb:QE X K b tb):QE X K (.BinOp a .Sub b pos) (aS IE ta tb):=Qr G7 Ig ha hb
def lC(ha:QE X K a ta)(hb:QE X K b tb):QE X K (.BinOp a .Mult b pos) (aS zS ta tb):=Qr GC Ks ha hb
def fY(ha:QE X K a ta)(hb:QE X K b tb):QE X K (.BinOp a .FloorDiv b pos) (aS sL ta tb):=Qr G5 JC ha hb
def bO(ha:QE X K a ta)(hb:QE X K b tb):QE X K (.BinOp a .Mod b pos) (aS kH ta tb):=Qr Eu Jx ha hb
def FU:W1:=λ_ x Q=>match x with
 |.int i=>Q .sh (.int (-i))
 |_=>False
def Jk:Z6 K (rU λi=>.int (-i)) FU:=by
 walk_at"o";have r1:=rx.rep w
 cases r1 with
 |int i=>exact⟨i,rfl,f.sh w (.int _) h⟩
 |_=>exact h.elim
def vX(ha:QE X K a ta):QE X K (.UnaryOp .USub a pos) (eA FU ta):=kK' gN' Jk ha
end
def dy:WA:=λ_ Q=>Q []
def aq(te:WE)(t:WA):WA:=λρ Q=>te ρ λm x=>t ρ λps=>Q ((m,x) :: ps)
def B6:Md × D->Bool
 | (.sh,_)=>true
 | (_,d)=>d.flat
def MZ:Md × D->Bool
 | (.bo,d)=>d.flat
 |_=>true
def S5:Md × D->Bool
 | (.ow true,_)=>true
 | (_,d)=>d.flat
def vz(ps:List (Md × D)):Md:=bif ps.all B6 then .sh else bif ps.all MZ then .ow (ps.all S5) else .bo
def Gk(ps:List (Md × D)):Md:=bif ps.all MZ then .ow (ps.all S5) else .bo
def k7(t:WA):WE:=λρ Q=>t ρ λps=>ps.length<=bS/\Q (vz ps) (.tup (ps.map (·.2)))
def n9(t:WA):WE:=λρ Q=>t ρ λps=>ps.length<=bS/\Q (Gk ps) (.list (ps.map (·.2)))
section
variable {X:Cx}{K:aI}{e:Expr}{es:List Expr}{te:WE}{t:WA}{pos:Pos}{Hs H:Hp}
def au:QA X K [] dy:=PA.imp oo λσ H Qv hx=>iP hx λHs ρ ai Q sr h f=>f [] H Hs [] [] (fN.refl sr.wf) .nil bR.nil h
def bR.app(f1:bR bP H As)(o:∀ a∈As,H1 a≠none)(f2:bR bq H1 Bs)(s:bI H H1)(k:∀ a,bP a=none->H1 a≠none->bq a=none):bR bq H (As++Bs) :=
 ⟨gV.mpr ⟨f1.1,f2.1,λa ha b hb e=>by subst e;exact o a ha (f2.2 a hb).2⟩,λa h=>by
  rcases eL.mp h with h|h
  ·exact⟨k a (f1.2 a h).1 (o a h),(f1.2 a h).2⟩
  ·exact⟨(f2.2 a h).1,s.free (f2.2 a h).2⟩⟩
def aa(ha:QE X K e te)(hr:QA X K es t)(hs:autoParam (bT (e :: es) X.env=(false,cp e X.env) :: bT es X.env) bv):QA X K (e :: es) (aq te t):=by exact PA.imp (kR ha hr hs) λσ H Qv hx=>iP hx λHs ρ ai Q sr h f=>⟨Hs,ρ,ai,_,sr,h,λv H1 bP m x As g1 r1 f1 q1=>⟨bP,ρ,ai,_,sr.grow g1,q1,λvs H2 bq ps Bs g2 r2 f2 q2=>f (v :: vs) H2 bq _ _ (g1.trans g2) (.cons (r1.grow g2) r2) (f1.app (λa h=>(r1.own a h).ne) f2 g1.all λa h1 h2=>g2.qc h1 h2) q2⟩⟩
def B3.sh(w:Wf Hs H){ps:List (Md × D)}(r:B3 K Hs H ps vs As):ps.all B6=true->ck K Hs (ps.map (·.2)) vs:=by
 induction r with
 |nil=>exact λ_=>.nil
 |@cons m d v ps vs As Bs r rs ih =>
  intro h;simp only[E4,mS] at h;refine .cons ?_ (ih h.2)
  cases m with
  |sh=>exact r.2
  |_=>exact r.flat w h.1
def B3.ow(w:Wf Hs H){ps:List (Md × D)}(r:B3 K Hs H ps vs As):ps.all MZ=true->(fl=true->ps.all S5=true)->∃ Bs,Bs.Sublist As/\(ps.all B6=false->Bs≠[])/\aA K Hs H fl (ps.map (·.2)) vs Bs:=by
 induction r with
 |nil=>exact λ_ _=>⟨[],Dp _,(λz=>Bool.noConfusion z),.nil⟩
 |@cons m d v ps vs A1 Cs r rs ih =>
  intro h hf;simp only[E4,mS] at h hf;obtain⟨Bs,sb,ne,q⟩:=ih h.2 λz=>(hf z).2;have sk:([]++Bs).Sublist (A1++Cs):=by simpa using sb.trans (lI _ _)
  have DF:d.flat=true->B6 (m,d)=true->∃ Bs,Bs.Sublist (A1++Cs)/\(((m,d) :: ps).all B6=false->Bs≠[])/\aA K Hs H fl (((m,d) :: ps).map (·.2)) (v :: vs) Bs:=λhd ho =>
   ⟨[]++Bs,sk,λz=>ne (by rw[E4,ho] at z;simpa using z),.cons (.sh (λ_=>hd) (r.flat w hd)) q⟩
  cases m with
  |sh=>exact⟨[]++Bs,sk,λz=>ne (by simpa[B6] using z),.cons (.sh (λz=>(hf z).1) r.2) q⟩
  |bo=>exact DF h.1 h.1
  |ow b =>
   cases hd:d.flat with
   |true=>exact DF hd hd
   |false =>
    refine⟨A1++Bs,sb.append_left _,λ_ z=>r.2 (Rr.mp z).1,.cons ?_ q⟩
    cases fl with
    |false=>exact cE.Vw r.1
    |true =>
     have:=(hf rfl).1
     cases b with
     |true=>exact r.1
     |false=>simp[S5,hd] at this
theorem pq:∀ {ps:List (Md × D)},eh (ps.map (·.2))=true->ps.all B6=true
 |[],_=>rfl
 | (m,d) :: ps,h=>by simp only[jS,eh,mS] at h;simp only[E4,mS];exact⟨by cases m<;>simp[B6,h.1],pq h.2⟩
def bU{x1}(h:QA X K es t):QE X K (.Tuple es x1 pos) (k7 t):=by
 refine PE.imp (Ze h) λσ H Qv hx=>iP hx λHs ρ ai Q sr h f=>?_;refine⟨Hs,ρ,ai,_,sr,h,λvs H1 bP ps As g1 r1 f1 q1=>?_⟩;obtain⟨hz,q⟩:=q1;have rl:=(r1.reps g1.wf)
 have hl:=rl.length;rw[dc] at hl;refine⟨by lia,λp hp=>?_⟩;have g2:=S0 (vs:=vs) g1.wf hp;have fin:=Fin.after f g1;unfold vz at q
 cases h1:ps.all B6 with
 |true =>rw[h1] at q;exact fin _ _ _ .sh _ [] g2 ⟨rfl,.tup (by lia) fq ((r1.sh g1.wf h1).same g2.sh)⟩ bR.nil q
 |false =>
  rw[h1] at q
  cases h2:ps.all MZ with
  |false =>rw[h2] at q;exact fin _ _ _ .bo _ [] g2 ⟨rfl,.tup (by lia) fq (rl.same g2.all)⟩ bR.nil q
  |true =>
   rw[h2] at q;obtain⟨Bs,sb,nz,ro⟩:=r1.ow g1.wf h2 λz=>z;have i6:eh (ps.map (·.2))=false:=by
    cases hf:eh (ps.map (·.2)) with
    |false=>rfl
    |true=>rw[pq hf] at h1;cases h1
   have own:=ro.own;exact f _ _ _ (.ow _) _ Bs (g1.trans g2) ⟨.tup (by lia) fq i6 (ro.grow g2.sh g2.all),nz h1⟩ ⟨sb.nodup f1.1,λa ha=>⟨g2.qc (f1.2 a (sb.subset ha)).1 (own a ha).ne,(f1.2 a (sb.subset ha)).2⟩⟩ q
def cM(h:QA X K es t):QE X K (.List es pos) (n9 t):=by
 refine PE.imp (bU' h) λσ H Qv hx=>iP hx λHs ρ ai Q sr h f=>?_;refine⟨Hs,ρ,ai,_,sr,h,λvs H1 bP ps As g1 r1 f1 q1=>?_⟩;obtain⟨hz,q⟩:=q1;have rl:=(r1.reps g1.wf)
 have hl:=rl.length;rw[dc] at hl;refine⟨by lia,λp hp=>?_⟩;have g2:=Qq (o:=.lst vs) g1.wf hp λ_ z=>nomatch z;have fin:=Fin.after f g1;unfold Gk at q
 cases h2:ps.all MZ with
 |false =>rw[h2] at q;exact fin _ _ _ .bo _ [] g2 ⟨rfl,.list (by lia) (.inl (.inl fq)) (rl.same g2.all)⟩ bR.nil q
 |true =>
  rw[h2] at q;obtain⟨Bs,sb,nz,ro⟩:=r1.ow g1.wf h2 λz=>z;have own:=ro.own;refine f _ _ _ (.ow _) _ (p :: Bs) (g1.trans g2) ⟨.list (by lia) fq (ro.grow g2.sh g2.all),by simp⟩ ⟨oj.mpr ⟨λm=>(own p m).ne hp,sb.nodup f1.1⟩,λa ha=>?_⟩ q;rcases fm.mp ha with rfl|ha
  ·exact⟨g1.wf.sub.free hp,g1.all.free hp⟩
  ·exact⟨g2.qc (f1.2 a (sb.subset ha)).1 (own a ha).ne,(f1.2 a (sb.subset ha)).2⟩
end
def ck.fF{K:aI}(r:ck K H ds vs)(h:fF ds i=some d):∃ v,L2.fF vs i=some v/\Rep K H d v:=by
 unfold L2.fF at *
 rw[<- r.length]
 cases e:qV ds.length i with
 |none=>rw[e] at h;cases h
 |some j =>rw[e] at h;exact r.get h
def dn:W2:=λm x _ y Q=>match x with
 |.list xs=>match y with
  |.int i=>∃ d,fF xs i=some d/\dk d (f:=λd=>Q (xt m d) d) ⟨⟩
  |_=>False
 |.tup xs=>match y with
  |.int i=>∃ d,fF xs i=some d/\dk d (f:=λd=>Q (xt m d) d) ⟨⟩
  |_=>False
 |.str z=>match y with
  |.int i=>∃ c,fF z.cps.toList i=some c/\Q .sh (.str ⟨#[c]⟩)
  |_=>False
 |.dK ae=>∃ k d,y.key1=some k/\gE ae k=some d/\dk d (f:=λd=>Q (xt m d) d) ⟨⟩
 |.dT ae=>match y with
  |.tup ys=>∃ ks d,dW ys=some ks/\gE ae ks=some d/\dk d (f:=λd=>Q (xt m d) d) ⟨⟩
  |_=>False
 |_=>False
def Z8(K:aI):R2:=λx y H Q=>Ve K x y H Q\/∃ a v,x=.ref a/\sA H a y (some v)/\Q v H
def yq(c:Nat):(⟨#[c]⟩:Str).length<=bS:=by show 1<=bS;decide
def RM.here{K:aI}(w:Wf Hs H)(r:RM K Hs H m d v As):(m=.sh/\Rep K Hs d v)\/(m≠.sh/\Rep K H d v):=by
 cases m with
 |sh=>exact .inl ⟨rfl,r.2⟩
 |_=>exact .inr ⟨(λz=>nomatch z),r.rep w⟩
section
variable {X:Cx}{K:aI}
def K4:mE K (Z8 K) dn:=by
 walk_at"a";have r2:=ry.rep w;have core:∀ G:Hp,bI G H->(∀ d v,Rep K G d v->Rep K H d v/\(m=.sh->Rep K Hs d v))->Rep K G x v->Z8 K v u H Qv:=by
  intro G sg up r1
  cases r1 with
  |list z s q =>
   cases r2 with
   |int i =>obtain⟨d,e,h⟩:=h;obtain⟨v',e',r'⟩:=q.fF e;obtain⟨u1,u2⟩:=up _ _ r';exact .inl (.inl ⟨_,v',bI.seq sg s,e',f.xt w u1 u2 h⟩)
   |_=>exact h.elim
  |tup _ s q =>
   cases r2 with
   |int i =>obtain⟨d,e,h⟩:=h;obtain⟨v',e',r'⟩:=q.fF e;obtain⟨u1,u2⟩:=up _ _ r';exact .inl (.inr ⟨_,v',.inl (.inl (sg _ _ s)),e',f.xt w u1 u2 h⟩)
   |_=>exact h.elim
  |str hz =>
   cases r2 with
   |int i =>obtain⟨c,e,h⟩:=h;exact .inl ⟨hz,c,e,f.sh w (.str (yq c)) h⟩
   |_=>exact h.elim
  |dK kk s q =>obtain⟨k,d,hk,hg,h⟩:=h;have ev:=r2.key hk;subst ev;have z:=zip_get (k:=k) q;rw[hg] at z;obtain⟨v',e',r'⟩:=z;obtain⟨u1,u2⟩:=up _ _ r';exact .inr ⟨_,v',rfl,by rw[<- e'];exact sA.k' (bI.rd sg s),f.xt w u1 u2 h⟩
  |dT kk s q =>
   cases r2 with
   |tup t2 e2 q2 =>obtain⟨ks,d,hk,hg,h⟩:=h;obtain⟨b,eb,e3⟩:=Rep.vw (.tup t2 e2 q2) hk;cases eb;have z:=zip_get (k:=ks) q;rw[hg] at z;obtain⟨v',e',r'⟩:=z;obtain⟨u1,u2⟩:=up _ _ r';exact .inr ⟨_,v',rfl,by rw[<- e'];exact sA.t' (bI.rd sg s) e3,f.xt w u1 u2 h⟩
   |_=>exact h.elim
  |_=>exact h.elim
 rcases rx.here w with⟨hm,r⟩|⟨hm,r⟩
 ·exact core Hs w.sub (λd v q=>And.intro (q.same w.sub) λ_=>q) r
 ·exact core H (bI.refl H) (λd v q=>And.intro q λz=>absurd z hm) r
def dE'(hu:X.A.units+64<gv)(hK:autoParam (X.K=K) bv):zi X (Z8 K):=by subst hK;refine zi.or Ds ?_;intro value slice pins s σ H x y v u Q I rx ry h hs;obtain⟨a,w,rfl,g,q⟩:=h;cases rx;exact tail_any (iY' I g) F.slot_dict_getitem.lookup (iT' (by lia) I g ry λw' s3 I3 oB=>⟨w,H,I3,oB,q⟩) hs
variable {a b:Expr}{ta tb:WE}{pos:Pos}
def dA(ha:QE X K a ta)(hb:QE X K b tb)(hs:UW b:=by exact λ_ _=>rfl)(hK:autoParam (X.K=K) bv)(hu:X.A.units+64<gv:=by assumption):QE X K (.Subscript a b pos) (aS dn ta tb):=PE.imp (Zm (dE' hu hK) ha hb hs) (iM K4)
end
def rV{α:Type}(xs:List α)(lo hi:Option Int):List α:=(xs.drop (HT.dz xs.length 0 lo)).take (HT.dz xs.length xs.length hi-HT.dz xs.length 0 lo)
abbrev WO:=Env->(Option Int->Prop)->Prop
def d8:WO:=λ_ Q=>Q none
def dB(t:WE):WO:=λρ Q=>t ρ λ_ x=>match x with
 |.int i=>Q (some i)
 |_=>False
def S6(m:Md)(x:D)(lo hi:Option Int)(Q:Md->D->Prop):Prop:=match x with
 |.str z=>Q .sh (.str (oq z lo hi))
 |.list xs=>(eh xs=true/\Q (.ow true) (.list (rV xs lo hi)))\/(m=.sh/\Q (.ow false) (.list (rV xs lo hi)))
 |.tup xs=>eh xs=true/\¬ (HT.dz xs.length 0 lo=0/\HT.dz xs.length xs.length hi=xs.length)/\Q .sh (.tup (rV xs lo hi))
 |_=>False
def z5(te:WE)(tl th:WO):WE:=λρ Q=>te ρ λm x=>tl ρ λlo=>th ρ λhi=>S6 m x lo hi Q
def tpO(K:aI)(t:WO):TO:=λσ H Qv=>∃ Hs ρ ai Q,eI K Hs ρ σ H ai/\t ρ Q/\∀ o H' aE,fN Hs H aE H'->Q o->Qv o H'
abbrev QO(X:Cx)(K:aI)(e:Option Expr)(t:WO):Prop:=PO X e (tpO K t)
def Cr(z:Str)(lo hi:Option Int):(oq z lo hi).length<=z.length:=by unfold oq Str.length;simp only[jI,nV,GW,AZ];lia
def dH{α:Type}(xs:List α)(lo hi:Option Int):(rV xs lo hi).length<=xs.length:=by unfold rV;rw[nV,GW];lia
def qH{lo hi:Option Int}(h:eh xs=true):eh (rV xs lo hi)=true:=by
 rw[qx] at *
 intro x hx;exact h x (Ub (Ru hx))
section
variable {X:Cx}{K:aI}{e:Expr}{lo hi:Option Expr}{te:WE}{tl th:WO}{pos p2:Pos}
def iC:QO X K none d8:=λpins s σ H Q I h=>it' pins s σ H Q I (by
 obtain⟨Hs,ρ,ai,Qd,sr,h,f⟩:=h;exact f none H Hs (fN.refl sr.wf) h)
def cj(h:QE X K e te):QO X K (some e) (dB te):=λpins s σ H Q I hh=>iu' h pins s σ H Q I (by
 obtain⟨Hs,ρ,ai,Qd,sr,h,f⟩:=hh;walk_at"d";have r:=r1.rep g1.wf
 cases r with
 |int i=>exact⟨i,rfl,f _ H1 bP g1 q1⟩
 |_=>exact q1.elim)
def jP{lo hi:Option Int}(r:ck K H ds vs):ck K H (rV ds lo hi) (LZ vs lo hi):=by unfold rV LZ;rw[r.length];exact(r.drop _).take _
def kQ'(hK:autoParam (X.K=K) bv):PK X (λx lo hi H Q=>ZG K x lo hi H Q\/ci' K x lo hi H Q):=by
 subst hK;intro pins s σ H x v vl vu lo hi sl Q I rx hs pl pu h;rcases h with h|h
 ·exact Jc pins s σ H x v vl vu lo hi sl Q I rx hs pl pu h
 ·exact iy' pins s σ H x v vl vu lo hi sl Q I rx hs pl pu h
def dq(he:QE X K e te)(hl:QO X K lo tl)(hh:QO X K hi th)(hK:autoParam (X.K=K) bv):QE X K (.Subscript e (.Slice lo hi none p2) pos) (z5 te tl th):=by
 refine PE.imp (ix' (kQ' hK) he hl hh) λσ H Qv hx=>iP hx λHs ρ ai Q sr h f=>?_;refine⟨Hs,ρ,ai,_,sr,h,λv H1 bP m x As g1 r1 f1 q1=>⟨bP,ρ,ai,_,sr.grow g1,q1,λl H2 bq g2 q2=>⟨bq,ρ,ai,_,(sr.grow g1).grow g2,q2,λu H3 gi g3 q3=>?_⟩⟩⟩;have r3:=(r1.grow g2).grow g3;have fin:Fin K gi H3 Q Qv:=Fin.after f ((g1.trans g2).trans g3);have rr:=r3.rep g3.wf
 cases rr with
 |str hz=>exact .inl ⟨hz,fin.sh g3.wf (.str (kL (Cr _ _ _) hz)) q3⟩
 |list z s q =>
  have hz:=q.length;rcases q3 with⟨hf,q3⟩|⟨rfl,q3⟩
  ·exact .inl ⟨_,s,fin.lst g3.wf (kL (dH _ _ _) (by lia)) (jP q) (qH hf) q3⟩
  ·obtain⟨_,r3⟩:=r3
   cases r3 with
   |list z' s' q' =>exact .inl ⟨_,bI.seq g3.wf.sub s',fin.Vy g3.wf (kL (dH _ _ _) (by lia)) (jP q') q3⟩
 |tup z s q =>have hz:=q.length;obtain⟨hf,hn,q3⟩:=q3;exact .inr ⟨_,_,rfl,.inl (.inl s),by rw[<- hz];exact hn,fin.tup g3.wf (kL (dH _ _ _) (by lia)) (jP q) (qH hf) q3⟩
 |_=>exact q3.elim
end
def ki:W1:=λ_ x Q=>match x with
 |.str z=>Q .sh (.int z.length)
 |.list xs=>Q .sh (.int xs.length)
 |.tup xs=>Q .sh (.int xs.length)
 |.dK ae=>Q .sh (.int ae.length)
 |.dT ae=>Q .sh (.int ae.length)
 |_=>False
def tS(T:String):W1:=λ_ x Q=>Q .sh (.bl (P1 x.ty T))
def FV(K:aI)(r:List V->Hp->VK->Prop)(f:W1):Prop:=∀ Hs H m x v As Qd Qv,Wf Hs H->RM K Hs H m x v As->f m x Qd->Fin K Hs H Qd Qv->r [v] H Qv
section
variable {X:Cx}{K:aI}{e:Expr}{te:WE}{pos p:Pos}{x:Str}{id T:String}
def mL(br:FV K r f)(σ:St)(H:Hp)(Qv:VK)(h:oI K (eA f te) σ H Qv):UM r (R_ (oI K te) LP) σ H Qv:=by obtain⟨Hs,ρ,ai,Q,sr,h,fin⟩:=h;exact⟨Hs,ρ,ai,_,sr,h,λv H1 bP m x As g1 r1 f1 q1=>br bP H1 m x v As Q Qv g1.wf r1 q1 (Fin.after fin g1)⟩
def aH(hc:lS X (.builtin id) r)(br:FV K r f)(hm:X.mg x=none)(hv:ly x=some (.builtin id))(he:QE X K e te)(hs:autoParam (bT [e] X.env=(false,cp e X.env) :: bT [] X.env) bv) (hn:x ≠ "__name__" := by decide) (kf:(x == ("__debug__" : Str))=false:=by decide) (hg:autoParam (Gl X x) bv):QE X K (.Call (.Name x p) [e] [] pos) (eA f te) :=
 PE.imp (PH hc hg hm hv (kR he oo hs) hn kf hs) (mL br)
def fu(hc:lS X (.type T) r)(br:FV K r f)(hm:X.mg x=none)(hv:ly x=some (.type T))(he:QE X K e te)(hs:autoParam (bT [e] X.env=(false,cp e X.env) :: bT [] X.env) bv) (hn:x ≠ "__name__" := by decide) (kf:(x == ("__debug__" : Str))=false:=by decide) (hg:autoParam (Gl X x) bv):QE X K (.Call (.Name x p) [e] [] pos) (eA f te) :=
 PE.imp (ih' hc hg hm hv (kR he oo hs) hn kf hs) (mL br)
def G9(hd:(d == qq)=false)(x:yi s.heap d es ep)(dF':(es.size:Int)<2 ^ 63)(h:∀ t t',Q (.int es.size t) { s with toks:=t' }):bE (aT prog w) A (call (.builtin "len") [.ref d]) Q E s:=by
 refine Calls.call_function_entry kind_len plain_len entry_len (args_len1 _) ?_;have mt:MeetsIn prog w (Builtin.«dict.__len__» ⟨[.ref d],[]⟩) (λ_ R s=>yi s.heap d es ep/\R (.ok (.ret (.int es.size s.toks))) { s with toks:=s.toks+1 }):=.of_wp λA R s dS=>by obtain⟨hm,h⟩:=dS;obtain⟨o,ho,hc,Vo⟩:=hm;show bE _ _ (dictSize d >>= _) _ _ s;refine ax (ax (Rk ho Vo (bG ?_)));refine ax (wpAny_pendingCount_other hd ?_);refine wpAny_ret_mkInt ?_;rw[OX];exact h
 refine ax (bG ?_);refine ax (Rh x.typ F.slot_dict_len (call_meetsIn F.slot_dict_len x.typ F.entry_dict_len (F.args_dict_len_1 _) mt ⟨x,?_⟩))
 refine ax (xC (bG ?_));refine ax (wpAny_letGo ?_);rw[if_neg (by lia)];rw[if_neg (by lia)];exact ax (wpAny_mkInt (bG ⟨_,rfl,h _ _⟩))
def az (hK:autoParam (X.K=K) bv):lS X (.builtin "len") (λxs H Q=>Vd K xs H Q\/∃ a ae,xs=[.ref a]/\Rd H a (.dT ae)/\Q (.int ae.length) H):=by
 subst hK;walk_at"f";rcases h with h|⟨a,ae,rfl,ha,q⟩
 ·exact zR pins s σ H xs us Q I r h
 ·obtain⟨u,rfl,ru⟩:=Vals.one r;cases ru;obtain⟨z,hd,ys,rel,o,es,ep,h1,h2,h3,h4,h5⟩:=(I.rd ha)
  have hl:es.size=ae.length:=by have:=congrArg List.length h4;rw[AZ,dc] at this;rw[this];exact rel.length.symm
  exact G9 hd ⟨o,h1,h2,h3⟩ (by rw[kB] at z;lia) λt t'=>⟨.int ae.length,H,I.tok _,⟨t,by rw[hl]⟩,q⟩
def aR:FV K (λxs H Q=>Vd K xs H Q\/∃ a ae,xs=[.ref a]/\Rd H a (.dT ae)/\Q (.int ae.length) H) ki:=by
 walk_at"o";have r1:=rx.rep w
 cases r1 with
 |str hz=>exact .inl ⟨hz,f.sh w (.int _) h⟩
 |list z s q=>exact .inl (.inl ⟨_,s,by rw[<- q.length];exact f.sh w (.int _) h⟩)
 |tup _ s q=>exact .inl (.inr (.inl ⟨_,.inl (.inl s),by rw[<- q.length];exact f.sh w (.int _) h⟩))
 |dK kk s q=>exact .inl (.inr (.inr ⟨_,s,by
   have:=q.length;rw[dc] at this;rw[RC,dc,<- this,RL];exact f.sh w (.int _) h⟩))
 |dT kk s q=>exact .inr ⟨_,_,rfl,s,by
   have:=q.length;rw[dc] at this;rw[RC,dc,<- this,RL];exact f.sh w (.int _) h⟩
 |_=>exact h.elim
end
section
variable {X:Cx}{K:aI}{e e2:Expr}{te:WE}{pos p:Pos}{T:String}
def zG (hK:autoParam (X.K=K) bv):lS X (.builtin "isinstance") (λxs H Q=>∃ x d T,xs=[x,.ty T]/\Rep K H d x/\ZC T=true/\Q (.bl (P1 d.ty T)) H):=by
 subst hK;walk_at"f";obtain⟨x,d,T,rfl,rd,hT,q⟩:=h;obtain⟨u,v,rfl,ru,rv⟩:=Vals.two r;obtain rfl:v=Value.type T:=rv;have hb:T∈["str", "int", "bool", "list", "tuple", "dict"]:=by simpa[ZC] using hT
 have fin:∀ tk,EP X pins σ Q (.bool (P1 d.ty T)) { s with toks:=tk }:=λtk=>⟨.bl (P1 d.ty T),H,I.tok tk,rfl,q⟩
 cases rd with
 |non=>exact R9 I ru .non (jg X.K _ T (by simp) hb) fin
 |bl b=>exact R9 I ru (.bl b) (jg X.K _ T (by simp) hb) fin
 |int i=>exact R9 I ru (.int i) (jg X.K _ T (by simp) hb) fin
 |str y=>exact R9 I ru (.str _) (jg X.K _ T (by simp) hb) fin
 |list z s' q' =>cases ru;obtain⟨its,_,pl,_⟩:=I.list s';obtain⟨o,h1,h2,_⟩:=pl.isList;exact xE Wh I.hX ⟨o,h1,h2⟩ (jg X.K "list" T (by simp) hb) (λz=>nomatch z) fin
 |tup _ s' q'=>exact R9 I ru (.tup s') (jg X.K _ T (by simp) hb) fin
 |dK _ s' q' =>cases ru;obtain⟨_,_,vs,_,p⟩:=I.rd s';obtain⟨o,es,ep,h1,h2,_⟩:=p;exact xE T6 I.hX ⟨o,h1,h2.1⟩ (jg X.K "dict" T (by simp) hb) (λz=>nomatch z) fin
 |dT _ s' q' =>cases ru;obtain⟨_,_,xs,_,o,es,ep,h1,h2,_⟩:=I.rd s';exact xE T6 I.hX ⟨o,h1,h2.1⟩ (jg X.K "dict" T (by simp) hb) (λz=>nomatch z) fin
def gk (hm:X.mg "isinstance" = none) (he:QE X K e te) (ht:PE X e2 (tC (.ty T))) (hT:autoParam (ZC T=true) bv) (hg:Gl X "isinstance" := by rfl) (hK:autoParam (X.K=K) bv) (hs:autoParam (bT (e :: [e2]) X.env=(false,cp e X.env) :: bT [e2] X.env) bv) (kF:autoParam (bT (e2 :: []) X.env=(false,cp e2 X.env) :: bT [] X.env) bv) (iO:autoParam ((i3 pos (bT [e2] X.env)).any (·.1)=false) bv) :
  QE X K (.Call (.Name "isinstance" p) [e,e2] [] pos) (eA (tS T) te):=by
 refine PE.imp (PH (zG hK) hg hm du (kR he (kR ht oo kF) hs) (by decide) (by decide) hs iO) λσ H Qv hx=>iP hx λHs ρ ai Q sr h f=>?_;refine⟨Hs,ρ,ai,_,sr,h,λv H1 bP m x As g1 r1 f1 q1=>⟨v,x,T,rfl,r1.rep g1.wf,hT,Fin.sh (Fin.after f g1) g1.wf (.bl _) q1⟩⟩
def Ek(r:Rep K H d v)(h:VD d=some b):Za K v H b:=by
 cases r with
 |non=>cases h;rfl
 |bl b=>cases h;rfl
 |int i=>cases h;rfl
 |str hz =>cases h;exact⟨hz,rfl⟩
 |list z s q =>cases h;refine .inl ⟨_,s,?_⟩;cases q<;>rfl
 |tup _ s q =>cases h;refine .inr (.inl ⟨_,.inl (.inl s),?_⟩);cases q<;>rfl
 |dK _ s q=>cases h
 |dT _ s q=>cases h
def ou(ha:QE X K e te)(he:∀ whole,isTrue e X.env whole=(do let v <- whole;standAt e.pos;holding [v] (truthy v)):=by intro _;rfl)(hK:autoParam (X.K=K) bv):QT X K e (Qt te):=by subst hK;refine PT.imp (hw' ha he) λσ H Qv hx=>iP hx λHs ρ ai Q sr h f=>?_;refine⟨Hs,ρ,ai,_,sr,h,λv H1 bP m x As g1 r1 f1 q1=>?_⟩;obtain⟨b,hb,q⟩:=q1;exact⟨b,Ek (r1.rep g1.wf) hb,f b H1 bP g1 q⟩
end
def md:Key->D
 |.inl i=>.int i
 |.inr x=>.str x
def vJ:W1:=λm x Q=>match x with
 |.list xs=>(eh xs=true/\Q (.ow true) (.list xs))\/(m=.sh/\Q (.ow false) (.list xs))
 |.tup xs=>(eh xs=true/\Q (.ow true) (.list xs))\/(m=.sh/\Q (.ow false) (.list xs))
 |.dT ae=>Q (.ow true) (.list (ae.map λkv=>.tup (kv.1.map md)))
 |_=>False
section
variable {X:Cx}{K:aI}
theorem gJ:∀ {ks:List Key},(∀ k∈ks,sD k=true)->ck K H (ks.map md) (ks.map kV)
 |[],_=>.nil
 |k :: ks,h=>by
  refine .cons ?_ (gJ λj m=>h j (fo _ m));have:=h k fw
  cases k with
  |inl i=>exact .int i
  |inr x=>exact .str (by simpa[sD] using this)
theorem gw:∀ (ks:List Key),eh (ks.map md)=true
 |[]=>rfl
 |k :: ks=>by simp only[jS,eh,gw ks,Bool.and_true];cases k<;>rfl
def ud(t:c7 H ys ks)(h:∀ l∈ks,l.length<=bS/\∀ k∈l,sD k=true):ck K H (ks.map λl=>.tup (l.map md)) ys:=by
 induction ys generalizing ks with
 |nil=>rw[show ks=[] from Paired.n0 t];exact .nil
 |cons y ys ih =>obtain⟨k,ks,rfl,⟨b,rfl,e⟩,t2⟩:=Paired.c t;exact .cons (.tup (by rw[dc];exact(h _ fw).1) e (gJ (h _ fw).2)) (ih t2 λl m=>h l (fo _ m))
theorem j9:∀ (ks:List (List Key)),eh (ks.map λl=>.tup (l.map md))=true
 |[]=>rfl
 |l :: ks=>by simp only[jS,eh,j9 ks,Bool.and_true,D.flat,gw]
def iG (hc:autoParam (X.calm=true) bv) (hK:autoParam (X.K=K) bv):lS X (.type "list") (λxs H Q=>(∃ p ys,xs=[.ref p]/\(fE K H p ys\/kQ K H p ys)/\∀ l,H l=none->Q (.ref l) (upd H l (.lst ys)))\/uw xs H Q):=by subst hK;exact iL'.or (vh hc)
def rF:FV K (λxs H Q=>(∃ p ys,xs=[.ref p]/\(fE K H p ys\/kQ K H p ys)/\∀ l,H l=none->Q (.ref l) (upd H l (.lst ys)))\/uw xs H Q) vJ:=by
 walk_at"o";have r1:=rx.rep w
 cases r1 with
 |list z s q =>
  have hl:=q.length;rcases h with⟨hf,h⟩|⟨rfl,h⟩
  ·exact .inl ⟨_,_,rfl,.inl s,f.lst w (by lia) q hf h⟩
  ·obtain⟨_,rx⟩:=rx
   cases rx with
   |list z' s' q' =>exact .inl ⟨_,_,rfl,.inl (bI.seq w.sub s'),f.Vy w (by lia) q' h⟩
 |tup z s q =>
  have hl:=q.length;rcases h with⟨hf,h⟩|⟨rfl,h⟩
  ·exact .inl ⟨_,_,rfl,.inr (.inl (.inl s)),f.lst w (by lia) q hf h⟩
  ·obtain⟨_,rx⟩:=rx
   cases rx with
   |tup z' s' q' =>exact .inl ⟨_,_,rfl,.inr (.inl (.inl (w.sub _ _ s'))),f.Vy w (by lia) q' h⟩
 |@dT _ vs ae kk s q =>
  refine .inr ⟨_,s,λys l ht hl=>?_⟩;have hlen:=q.length;rw[dc] at hlen;have e:((ae.map (·.1)).zip vs).map (·.1)=ae.map (·.1):=Wy (by rw[dc];exact RJ hlen);rw[e] at ht;have rr:=ud (K:=K) ht (λl m=>by
   obtain⟨p,hp,rfl⟩:=fP.mp m;exact kk.2 p hp)
  have ff:=j9 (ae.map (·.1));rw[lP] at rr ff;exact f.lst w (by rw[dc];exact kk.1) rr ff h l hl
 |_=>exact h.elim
end
section
variable {K:aI}{Hs H:Hp}
def SR.Dz(r:Rep K Hs d v)(i:Nat)(s:SR K Hs H ρ σ ai):∃ dv,dv.Sublist ai/\SR K Hs H (ρ.set i (some (.sh d))) (σ.set i (some v)) dv:=by
 induction s generalizing i with
 |nil=>exact⟨[],Dp _,.nil⟩
 |non s ih =>
  cases i with
  |zero=>exact⟨_,List.Sublist.refl _,.sh r s⟩
  |succ i=>obtain⟨t,a,b⟩:=ih i;exact⟨t,a,.non b⟩
 |sh q s ih =>
  cases i with
  |zero=>exact⟨_,List.Sublist.refl _,.sh r s⟩
  |succ i=>obtain⟨t,a,b⟩:=ih i;exact⟨t,a,.sh q b⟩
 |xc s ih =>
  cases i with
  |zero=>exact⟨_,List.Sublist.refl _,.sh r s⟩
  |succ i=>obtain⟨t,a,b⟩:=ih i;exact⟨t,a,.xc b⟩
 |ow ne q s ih =>
  cases i with
  |zero=>exact⟨_,lI _ _,.sh r s⟩
  |succ i=>obtain⟨t,a,b⟩:=ih i;exact⟨_,a.append_left _,.ow ne q b⟩
 |lk ne q s ih =>
  cases i with
  |zero=>exact⟨_,lI _ _,.sh r s⟩
  |succ i=>obtain⟨t,a,b⟩:=ih i;exact⟨_,a.append_left _,.lk ne q b⟩
 |ob q s ih =>
  cases i with
  |zero=>exact⟨_,lI _ _,.sh r s⟩
  |succ i=>obtain⟨t,a,b⟩:=ih i;exact⟨_,a.append_left _,.ob q b⟩
def dU{As ai:List ah}(nd:As.Nodup)(n:ai.Nodup)(dj:∀ a∈As,a∉ai):(As++ai).Nodup:=gV.mpr ⟨nd,n,λa ha b hb e=>dj a ha (e ▸ hb)⟩
def aQ{As ai B t:List ah}(n:(B++ai).Nodup)(dj:∀ a∈As,a∉B++ai)(a:t.Nodup)(b:∀ x∈t,x∈ai\/x∈As):(B++t).Nodup/\∀ x∈B++t,x∈B++ai\/x∈As:=by
 walk_at"c";refine⟨gV.mpr ⟨n1,a,λx hx y hy e=>?_⟩,λx hx=>?_⟩
 ·subst e;rcases b x hy with z|z
  ·exact n3 x hx x z rfl
  ·exact dj x z (kr _ hx)
 ·rcases eL.mp hx with z|z
  ·exact .inl (kr _ z)
  ·exact(b x z).imp (λz=>fh _ z) λz=>z
def SR.JB{d:D}{v:V}{fl:Bool}{As:List ah}(ne:As≠[])(r:cE K Hs H fl d v As)(nd:As.Nodup){ρ:Env}{σ:St}{ai:List ah}(i:Nat)(s:SR K Hs H ρ σ ai):ai.Nodup->(∀ a∈As,a∉ai) ->
  ∃ dv,dv.Nodup/\(∀ a∈dv,a∈ai\/a∈As)/\SR K Hs H (ρ.set i (some (.ow fl d))) (σ.set i (some v)) dv:=by
 induction s generalizing i with
 |nil=>exact λn _=>⟨[],nv,(λa h=>zD h),.nil⟩
 |non s ih =>
  intro n dj
  cases i with
  |zero=>exact⟨_,dU nd n dj,λa h=>(eL.mp h).symm,.ow ne r s⟩
  |succ i=>obtain⟨t,a,b,c⟩:=ih i n dj;exact⟨t,a,b,.non c⟩
 |sh q s ih =>
  intro n dj
  cases i with
  |zero=>exact⟨_,dU nd n dj,λa h=>(eL.mp h).symm,.ow ne r s⟩
  |succ i=>obtain⟨t,a,b,c⟩:=ih i n dj;exact⟨t,a,b,.sh q c⟩
 |xc s ih =>
  intro n dj
  cases i with
  |zero=>exact⟨_,dU nd n dj,λa h=>(eL.mp h).symm,.ow ne r s⟩
  |succ i=>obtain⟨t,a,b,c⟩:=ih i n dj;exact⟨t,a,b,.xc c⟩
 |ow ne' q s ih =>
  intro n dj;walk_at"c";have tT:=λa ha m=>dj a ha (fh _ m)
  cases i with
  |zero=>exact⟨_,dU nd n2 tT,λa h=>(eL.mp h).symm.imp (λz=>fh _ z) λz=>z,.ow ne r s⟩
  |succ i=>obtain⟨t,a,b,c⟩:=ih i n2 tT;exact⟨_,(aQ n dj a b).1,(aQ n dj a b).2,.ow ne' q c⟩
 |lk ne' q s ih =>
  intro n dj;walk_at"c";have tT:=λa ha m=>dj a ha (fh _ m)
  cases i with
  |zero=>exact⟨_,dU nd n2 tT,λa h=>(eL.mp h).symm.imp (λz=>fh _ z) λz=>z,.ow ne r s⟩
  |succ i=>obtain⟨t,a,b,c⟩:=ih i n2 tT;exact⟨_,(aQ n dj a b).1,(aQ n dj a b).2,.lk ne' q c⟩
 |ob q s ih =>
  intro n dj;walk_at"c";have tT:=λa ha m=>dj a ha (fh _ m)
  cases i with
  |zero=>exact⟨_,dU nd n2 tT,λa h=>(eL.mp h).symm.imp (λz=>fh _ z) λz=>z,.ow ne r s⟩
  |succ i=>obtain⟨t,a,b,c⟩:=ih i n2 tT;exact⟨_,(aQ n dj a b).1,(aQ n dj a b).2,.ob q c⟩
def SR.Ht:∀ (i:Nat),SR K Hs H ρ σ ai->∃ dv,dv.Sublist ai/\SR K Hs H (ρ.set i none) σ dv:=by
 intro i s
 induction s generalizing i with
 |nil=>exact⟨[],Dp _,.nil⟩
 |non s ih =>
  cases i with
  |zero=>exact⟨_,List.Sublist.refl _,.non s⟩
  |succ i=>obtain⟨t,a,b⟩:=ih i;exact⟨t,a,.non b⟩
 |sh q s ih =>
  cases i with
  |zero=>exact⟨_,List.Sublist.refl _,.non s⟩
  |succ i=>obtain⟨t,a,b⟩:=ih i;exact⟨t,a,.sh q b⟩
 |xc s ih =>
  cases i with
  |zero=>exact⟨_,List.Sublist.refl _,.non s⟩
  |succ i=>obtain⟨t,a,b⟩:=ih i;exact⟨t,a,.xc b⟩
 |ow ne q s ih =>
  cases i with
  |zero=>exact⟨_,lI _ _,.non s⟩
  |succ i=>obtain⟨t,a,b⟩:=ih i;exact⟨_,a.append_left _,.ow ne q b⟩
 |lk ne q s ih =>
  cases i with
  |zero=>exact⟨_,lI _ _,.non s⟩
  |succ i=>obtain⟨t,a,b⟩:=ih i;exact⟨_,a.append_left _,.lk ne q b⟩
 |ob q s ih =>
  cases i with
  |zero=>exact⟨_,lI _ _,.non s⟩
  |succ i=>obtain⟨t,a,b⟩:=ih i;exact⟨_,a.append_left _,.ob q b⟩
def asg:Md->D->Option Sl
 |.sh,d=>some (.sh d)
 |.ow fl,d=>some (.ow fl d)
 |_,d=>bif d.flat then some (.sh d) else none
def eI.set(i:Nat)(s:eI K Hs ρ σ H ai)(r:RM K Hs H m d v As)(nd:As.Nodup)(dj:∀ a∈As,Hs a=none/\a∉ai)(e:asg m d=some sl) :
  ∃ dv,eI K Hs (ρ.set i (some sl)) (σ.set i (some v)) H dv:=by
 have shc:Rep K Hs d v->∃ dv,eI K Hs (ρ.set i (some (.sh d))) (σ.set i (some v)) H dv:=λr=>by obtain⟨t,a,b⟩:=s.sr.Dz r i;exact⟨t,b,s.wf,a.nodup s.nI,λx hx=>s.own x (a.subset hx)⟩
 cases m with
 |sh=>cases e;exact shc r.2
 |ow fl =>cases e;obtain⟨t,a,b,c⟩:=SR.JB r.2 r.1 nd i s.sr s.nI λa ha=>(dj a ha).2;exact⟨t,c,s.wf,a,λx hx=>(b x hx).elim (s.own x) λz=>(dj x z).1⟩
 |_ =>
  cases hf:d.flat with
  |true =>simp only[asg,hf,cond_true,Option.some.injEq] at e;subst e;exact shc (r.flat s.wf hf)
  |false=>simp[asg,hf] at e
end
section
variable {X:Cx}{K:aI}{e c:Expr}{te:WE}{tc:WT}{pos:Pos}{st:i5}{a b rest:List i5}{t u:WS}
def PS.imp{te zI:TS}(h:PS X st te)(i:∀ D σ H,zI D σ H->te D σ H):PS X st zI:=λpins s σ H D I q=>h pins s σ H D I (i D σ H q)
def mn.imp{te zI:TS}(h:mn X a te)(i:∀ D σ H,zI D σ H->te D σ H):mn X a zI:=λpins s σ H D I q=>h pins s σ H D I (i D σ H q)
def a_:WS:=λE ρ=>E.nx ρ
def c9(t u:WS):WS:=λE ρ=>t { E with nx:=u E } ρ
def gd(te:WE):WS:=λE ρ=>te ρ E.rt
def BV(te:WE):WS:=λE ρ=>te ρ λ_ _=>E.nx ρ
def gI(i:Nat)(te:WE):WS:=λE ρ=>te ρ λm d=>match asg m d with
 |some sl=>E.nx (ρ.set i (some sl))
 |none=>False
def ip(c:WT)(t u:WS):WS:=λE ρ=>c ρ λb=>if b=true then t E ρ else u E ρ
def zb:WS:=λ_ _=>False
def aF:xo X K L [] a_:=mn.imp W3 λD σ H hx=>cz hx λHs ρ ai E sr h k1 _ _ _=>k1 σ H Hs ρ ai (bI.refl _) sr h
def CJ{D:Ends}(h:A9 K L (c9 t u) D σ H):R4 (A9 K L t) (A9 K L u) D σ H:=by
 obtain⟨Hs,ρ,ai,E,sr,h,k1,k2,k3,k4,kx⟩:=h;refine⟨Hs,ρ,ai,{ E with nx:=u E },sr,h,λcx H' aE df dv s Z9 q=>?_,k2,k3,k4,kx⟩;exact⟨aE,df,dv,E,Z9,q,λom H2 bq kK fT s2=>k1 om H2 bq kK fT (s.trans s2),λom H2 bq kK fT s2=>k2 om H2 bq kK fT (s.trans s2),λom H2 bq kK fT s2=>k3 om H2 bq kK fT (s.trans s2),
  λv H2 bq m d As s2=>k4 v H2 bq m d As (s.trans s2),λn H2 s2=>kx n H2 (s.trans s2)⟩
def aj(h1:QS X K L st t)(h2:xo X K L rest u):xo X K L (st :: rest) (c9 t u):=mn.imp (UD h1 h2) λD σ H h=>CJ h
def ak(h1:QS X K L st t):xo X K L [st] t:=R5 h1
def xM:xo X K L a zb:=mn.imp ge' λD σ H hx=>cz hx λHs ρ ai E sr h _ _ _ _=>h
def aD(he:QE X K e te):QS X K L (.Return (some e) pos) (gd te):=PS.imp (R6 he) λD σ H hx=>cz hx λHs ρ ai E sr h k1 k2 k3 k4 =>
 ⟨Hs,ρ,ai,_,sr,h,λv H1 bP m d As g1 r1 f1 q1=>k4 v H1 bP m d As g1.sh g1.wf r1 f1.1 (λa ha=>(f1.2 a ha).1) q1⟩
def pF(i:Nat):WS:=λE ρ=>match ρ[i]? with
 |some (some (.sh d))=>E.rt .sh d
 |some (some (.ow fl d))=>E.rt (.ow fl) d
 |_=>False
def SR.at{ρ:Env}{σ:St}{ai:List ah}{i:Nat}{fl:Bool}{d:D}{Hs H:Hp}(s:SR K Hs H ρ σ ai)(e:ρ[i]? = some (some (.ow fl d))):∃ v As,σ[i]? = some (some v)/\As≠[]/\cE K Hs H fl d v As/\As.Sublist ai:=by
 induction s generalizing i with
 |nil=>simp at e
 |non s ih =>
  cases i with
  |zero=>simp at e
  |succ i=>exact ih e
 |sh r s ih =>
  cases i with
  |zero=>simp at e
  |succ i=>exact ih e
 |xc s ih =>
  cases i with
  |zero=>simp at e
  |succ i=>exact ih e
 |ow ne r s ih =>
  cases i with
  |zero=>simp at e;obtain⟨rfl,rfl⟩:=e;exact⟨_,_,rfl,ne,r,OO _ _⟩
  |succ i =>obtain⟨v,As,a,b,c,d⟩:=ih e;exact⟨v,As,a,b,c,d.trans (lI _ _)⟩
 |lk ne r s ih =>
  cases i with
  |zero=>simp at e
  |succ i =>obtain⟨v,As,a,b,c,d⟩:=ih e;exact⟨v,As,a,b,c,d.trans (lI _ _)⟩
 |ob r s ih =>
  cases i with
  |zero=>simp at e
  |succ i =>obtain⟨v,As,a,b,c,d⟩:=ih e;exact⟨v,As,a,b,c,d.trans (lI _ _)⟩
def jH{i:Nat}(he:PE X e (kc i)):QS X K L (.Return (some e) pos) (pF i):=PS.imp (R6 he) λD σ H hx=>cz hx λHs ρ ai E sr h k1 k2 k3 k4=>by
 unfold pF at h;split at h
 ·rename_i d e1;obtain⟨v,e2,r⟩:=sr.sr.get e1;exact⟨v,e2,k4 v H Hs .sh d [] (bI.refl _) sr.wf ⟨rfl,r⟩ nv (λa ha=>nomatch ha) h⟩
 ·rename_i fl d e1;obtain⟨v,As,e2,ne,r,sb⟩:=sr.sr.at e1;exact⟨v,e2,k4 v H Hs (.ow fl) d As (bI.refl _) sr.wf ⟨r,ne⟩ (sb.nodup sr.nI) (λa ha=>sr.own a (sb.subset ha)) h⟩
 ·exact h.elim
def yw(he:QE X K e te)(hs:autoParam (og e none pos.line X.env=pure false) bv):QS X K L (.Expr e pos) (BV te):=PS.imp (LB he hs) λD σ H hx=>cz hx λHs ρ ai E sr h k1 k2 k3 k4 =>
 ⟨Hs,ρ,ai,_,sr,h,λv H1 bP m d As g1 r1 f1 q1=>k1 σ H1 bP ρ ai g1.sh (sr.grow g1) q1⟩
def aJ(i:Nat){x:Str}{pos':Pos}(he:QE X K e te)(hs:autoParam (og e (some (.Name x pos')) pos.line X.env=pure false) bv) (hf:X.fn x=true\/X.env.scope.names.lookup x=some .local:=by first|exact .inl rfl|exact .inr rfl|assumption) (hN:X.N.Nodup:=by assumption) (hi:autoParam (X.N[i]? = some x) bv) (hx:Loc X.env.scope x:=by first|exact .inl rfl|exact .inr rfl):QS X K L (.Assign [.Name x pos'] e pos) (gI i te):=PS.imp (bz' hN hi hx he hs hf) λD σ H hx=>cz hx λHs ρ ai E sr h k1 k2 k3 k4=>by
 refine⟨Hs,ρ,ai,_,sr,h,λv H1 bP m d As g1 r1 f1 q1=>?_⟩
 cases e:asg m d with
 |none=>rw[e] at q1;exact q1.elim
 |some sl =>rw[e] at q1;obtain⟨dv,s'⟩:=(sr.grow g1).set i r1 f1.1 (λa ha=>⟨(f1.2 a ha).1,λm=>(sr.sr.own a m).ne (f1.2 a ha).2⟩) e;exact k1 _ H1 bP _ dv g1.sh s' q1
def aV(hc:QT X K c tc)(ha:xo X K L a t)(hb:xo X K L b u):QS X K L (.If c a b pos) (ip tc t u):=PS.imp (bx' hc ha hb) λD σ H hx=>mY hx λHs ρ ai E sr h k1 k2 k3 k4 kx=>by
 refine⟨Hs,ρ,ai,_,sr,h,λk H1 bP g1 q1=>?_⟩;have k1':∀ cx H' aE df dv,bI bP aE->eI K aE df cx H' dv->E.nx df->D.nx cx H':=λom H2 bq kK fT s2=>k1 om H2 bq kK fT (g1.sh.trans s2);have k2':∀ cx H' aE df dv,bI bP aE->eI K aE df cx H' dv->E.bk df->D.bk cx H':=λom H2 bq kK fT s2=>k2 om H2 bq kK fT (g1.sh.trans s2);have k3':∀ cx H' aE df dv,bI bP aE->eI K aE df cx H' dv->E.ct df->D.ct cx H':=λom H2 bq kK fT s2=>k3 om H2 bq kK fT (g1.sh.trans s2)
 cases k with
 |true=>exact⟨bP,ρ,ai,E,sr.grow g1,q1,k1',k2',k3',(λv H2 bq m d As s2=>k4 v H2 bq m d As (g1.sh.trans s2)),λn H2 s2=>kx n H2 (g1.sh.trans s2)⟩
 |false=>exact⟨bP,ρ,ai,E,sr.grow g1,q1,k1',k2',k3',(λv H2 bq m d As s2=>k4 v H2 bq m d As (g1.sh.trans s2)),λn H2 s2=>kx n H2 (g1.sh.trans s2)⟩
def Bi(Hs H:Hp)(As:List ah):Hp:=λa=>if a∈As then H a else Hs a
def jx(n:∀ a∈As,Hs a=none):bI Hs (Bi Hs H As):=λa o e=>by unfold Bi;rw[if_neg λm=>by rw[n a m] at e;cases e];exact e
def DQ(w:Wf Hs H)(o:∀ a∈As,Own H a):Wf (Bi Hs H As) H:=⟨λa u e=>by
  unfold Bi at e;by_cases m:a∈As
  ·rw[if_pos m] at e;exact e
  ·rw[if_neg m] at e;exact w.sub a u e,λa vs e=>by
  unfold Bi;rw[if_neg λm=>(o a m).Dg e];exact w.j3 a vs e⟩
def S7:Sl->Sl
 |.sh d=>.sh d
 |.ow _ d=>.sh d
 |.lk a fl d=>.lk a fl d
 |.xc a=>.xc a
 |.ob a p=>.ob a p
def Z_:Sl->Sl
 |.sh d=>.sh d
 |.ow _ d=>.sh d
 |.lk _ _ d=>.sh d
 |.xc a=>.xc a
 |.ob a _=>.xc a
def S8(i:Nat)(ρ:Env):Env:=match ρ[i]? with
 |some (some sl)=>ρ.set i (some (S7 sl))
 |_=>ρ
def sG{As ai B t:List ah}(n:(B++ai).Nodup)(a:As.Sublist ai)(c:∀ x∈As,x∉t):∀ x∈As,x∉B++t:=λx hx m=>by
 walk_at"c";rcases eL.mp m with z|z
 ·exact n3 x z x (a.subset hx) rfl
 ·exact c x hx z
def SR.qE(i:Nat)(s:SR K Hs H ρ σ ai):ρ[i]? = some (some (.ow fl d))->ai.Nodup ->
  ∃ (As dv:List ah),As.Sublist ai/\dv.Sublist ai/\(∀ a∈As,a∉dv)/\∀ aE,bI Hs aE->(∀ a∈As,aE a=H a)->SR K aE H (ρ.set i (some (.sh d))) σ dv:=by
 induction s generalizing i with
 |nil=>intro e;simp at e
 |non q ih =>
  intro e n
  cases i with
  |zero=>simp at e
  |succ i =>obtain⟨As,t,a,b,c,d⟩:=ih i e n;exact⟨As,t,a,b,c,λaE s k=>.non (d aE s k)⟩
 |sh r q ih =>
  intro e n
  cases i with
  |zero=>simp at e
  |succ i =>obtain⟨As,t,a,b,c,d⟩:=ih i e n;exact⟨As,t,a,b,c,λaE s k=>.sh (r.same s) (d aE s k)⟩
 |xc q ih =>
  intro e n
  cases i with
  |zero=>simp at e
  |succ i =>obtain⟨As,t,a,b,c,d⟩:=ih i e n;exact⟨As,t,a,b,c,λaE s k=>.xc (d aE s k)⟩
 |ow ne r q ih =>
  intro e n;walk_at"c"
  cases i with
  |zero =>obtain⟨rfl,rfl⟩:=e;exact⟨_,_,OO _ _,lI _ _,λa h m=>n3 a h a m rfl,λaE s k=>.sh (r.rep s k) (q.fA s λ_ _=>rfl)⟩
  |succ i =>obtain⟨As,t,a,b,c,d⟩:=ih i e n2;exact⟨As,_,a.trans (lI _ _),b.append_left _,sG n a c,λaE s k=>.ow ne (r.fA s λ_ _=>rfl) (d aE s k)⟩
 |lk ne r q ih =>
  intro e n;walk_at"c"
  cases i with
  |zero=>simp at e
  |succ i =>obtain⟨As,t,a,b,c,d⟩:=ih i e n2;exact⟨As,_,a.trans (lI _ _),b.append_left _,sG n a c,λaE s k=>.lk ne (r.fA s λ_ _=>rfl) (d aE s k)⟩
 |@ob _ _ _ _ _ p r q ih =>
  intro e n;walk_at"c"
  cases i with
  |zero=>simp at e
  |succ i =>obtain⟨As,t,a,b,c,d⟩:=ih i e n2;exact⟨As,_,a.trans (lI _ _),b.append_left _,sG n a c,λaE s k=>.ob (p.fA (iJ s) (λ_ _=>rfl) r) (d aE s k)⟩
def eI.qE(i:Nat)(s:eI K Hs ρ σ H ai):∃ aE dv,bI Hs aE/\eI K aE (S8 i ρ) σ H dv:=by
 unfold S8;split
 ·rename_i sl e;have keep:S7 sl=sl->∃ aE dv,bI Hs aE/\eI K aE (ρ.set i (some (S7 sl))) σ H dv:=λhs=>by
   have e2:ρ.set i (some (S7 sl))=ρ:=by
    apply OS;intro j;rw[Rz];by_cases h:i=j
    ·subst h;rw[if_pos rfl,e];have:i<ρ.length:=(kM.mp e).1;simp[this,hs]
    ·rw[if_neg h]
   rw[e2];exact⟨Hs,ai,bI.refl _,s⟩
  cases sl with
  |sh d=>exact keep rfl
  |xc a=>exact keep rfl
  |lk a fl d=>exact keep rfl
  |ob a p=>exact keep rfl
  |ow fl d =>obtain⟨As,t,a,b,c,g⟩:=SR.qE i s.sr e s.nI;have hn:∀ a∈As,Hs a=none:=λx hx=>s.own x (a.subset hx);have ho:∀ a∈As,Own H a:=λx hx=>s.sr.own x (a.subset hx);refine⟨Bi Hs H As,t,jx hn,g _ (jx hn) λx hx=>by unfold Bi;rw[if_pos hx],DQ s.wf ho,b.nodup s.nI,λx hx=>?_⟩;unfold Bi;rw[if_neg λm=>c x m hx];exact s.own x (b.subset hx)
 ·exact⟨Hs,ai,bI.refl _,s⟩
def sM(i:Nat)(t:WS):WS:=λE ρ=>t E (S8 i ρ)
def Cd{D:Ends}(h:A9 K L (sM i t) D σ H):A9 K L t D σ H:=by
 obtain⟨Hs,ρ,ai,E,sr,h,k1,k2,k3,k4,kx⟩:=h;obtain⟨aE,dv,s,Z9⟩:=sr.qE i;exact⟨aE,_,dv,E,Z9,h,λom H2 bq kK fT s2=>k1 om H2 bq kK fT (s.trans s2),λom H2 bq kK fT s2=>k2 om H2 bq kK fT (s.trans s2),λom H2 bq kK fT s2=>k3 om H2 bq kK fT (s.trans s2),
  λv H2 bq m d As s2=>k4 v H2 bq m d As (s.trans s2),λn H2 s2=>kx n H2 (s.trans s2)⟩
def cO(i:Nat)(h:QS X K L st t):QS X K L st (sM i t):=PS.imp h λD σ H h=>Cd h
def j8(bP H1 aE H':Hp):Hp:=λa=>match H' a with
 |some (.tup vs)=>some (.tup vs)
 |_=>match H1 a with
  |none=>aE a
  |some _=>bP a
def cG(w:Wf bP H1)(s:bI H1 aE)(w':Wf aE H'):fN bP H1 (j8 bP H1 aE H') H':=by
 have sa:bI H1 H':=s.trans w'.sub;have tp:∀ a vs,H' a=some (.tup vs)->j8 bP H1 aE H' a=some (.tup vs):=λa vs e=>by unfold j8;rw[e]
 have nt:∀ a,(∀ vs,H' a≠some (.tup vs))->j8 bP H1 aE H' a=match H1 a with
  |none=>aE a
  |some _=>bP a:=λa h=>by
  unfold j8;split
  ·rename_i vs e;exact absurd e (h vs)
  ·rfl
 refine⟨sa,λa o e=>?_,⟨λa o e=>?_,tp⟩,λa h=>?_⟩
 ·have e1:=w.sub a o e;have e2:=sa a o e1;by_cases ht:∃ vs,o=.tup vs
  ·obtain⟨vs,rfl⟩:=ht;exact tp a vs e2
  ·rw[nt a λvs z=>ht ⟨vs,by rw[e2] at z;exact Option.some.inj z⟩,e1];exact e
 ·by_cases ht:∃ vs,H' a=some (.tup vs)
  ·obtain⟨vs,z⟩:=ht;rw[tp a vs z] at e;rw[z];exact e
  ·rw[nt a λvs z=>ht ⟨vs,z⟩] at e
   cases q:H1 a with
   |none=>rw[q] at e;exact w'.sub a o e
   |some u =>rw[q] at e;have:=w.sub a o e;exact sa a o this
 ·cases q:H1 a with
  |none=>exact .inr rfl
  |some u =>
   refine .inl ?_;by_cases ht:∃ vs,H' a=some (.tup vs)
   ·obtain⟨vs,z⟩:=ht;have:=sa a u q;rw[z] at this;cases this;rw[w.j3 a vs q];exact λz=>nomatch z
   ·rw[nt a λvs z=>ht ⟨vs,z⟩,q] at h;exact h
def yJ{bP H1 aE H':Hp}{a:ah}(s:bI H1 aE)(h:aE a=none)(o:Own H' a):j8 bP H1 aE H' a=none/\H1 a=none:=by
 have h1:=s.free h;refine⟨?_,h1⟩;unfold j8;split
 ·rename_i vs e;exact absurd e o.Dg
 ·rw[h1];exact h
def An:Md->D->Md
 |.ow true,_=>.ow true
 |_,d=>bif d.flat then .sh else .bo
def kh(w:Wf bP H1)(s:bI H1 aE)(w':Wf aE H')(r:RM K aE H' m d v As)(nd:As.Nodup)(own:∀ a∈As,aE a=none) :
  ∃ iL,RM K (j8 bP H1 aE H') H' (An m d) d v iL/\bR (j8 bP H1 aE H') H1 iL:=by
 have g:=cG w s w';have other:∃ iL,RM K (j8 bP H1 aE H') H' (bif d.flat then .sh else .bo) d v iL/\bR (j8 bP H1 aE H') H1 iL:=by
  cases hf:d.flat with
  |true=>exact⟨[],⟨rfl,(r.rep w').il g.wf.j3 hf⟩,bR.nil⟩
  |false=>exact⟨[],⟨rfl,r.rep w'⟩,bR.nil⟩
 cases m with
 |sh=>exact other
 |bo=>exact other
 |ow fl =>
  cases fl with
  |false=>exact other
  |true=>exact⟨As,⟨cE.leaves (λa vs e=>g.wf.j3 a vs (w'.sub _ _ e)) r.1,r.2⟩,nd,λa h=>yJ s (own a h) (r.own a h)⟩
abbrev gp:=List D->(Md->D->Prop)->Prop
def fO(K:aI)(sp:gp):Sp:=λvs H Qv _=>∃ ds Qd,ck K H ds vs/\sp ds Qd /\
 ∀ v H' aE m d As,bI H aE->Wf aE H'->RM K aE H' m d v As->As.Nodup->(∀ a∈As,aE a=none)->Qd m d->Qv v H'
def aM(n:Nat)(ds:List D):Env:=ds.map (λd=>some (.sh d))++List.replicate (n-ds.length) none
def SR.start(r:ck K H ds vs):SR K H H (ds.map (λd=>some (.sh d))++List.replicate n none) (vs.map some++List.replicate n none) []:=by
 induction ds generalizing vs with
 |nil =>
  rw[r.n0]
  induction n with
  |zero=>exact .nil
  |succ n ih=>exact .non ih
 |cons d ds ih =>obtain⟨u,us,rfl,r,rs⟩:=r.c;exact .sh r (ih rs)
def zF(h:fO K sp vs H Qv E)(hp:∀ ds Q,sp ds Q->t { nx:=λ_=>Q .sh .non,rt:=Q } (aM N.length ds)) :
  A9 K L0 t { nx:=λ_ H'=>Qv .non H',rt:=Qv } (start N vs) H:=by
 obtain⟨ds,Qd,rs,hs,fin⟩:=h;have hl:=rs.length;refine⟨H,aM N.length ds,[],{ nx:=λ_=>Qd .sh .non,rt:=Qd },⟨?_,⟨bI.refl _,λ_ _ e=>e⟩,nv,λa h=>nomatch h⟩,hp ds Qd hs,?_,?_,?_,?_,λ_ _ _ _=>trivial⟩
 ·unfold aM start;rw[hl];exact SR.start rs
 ·exact λcx H' aE df dv s sr q=>fin .non H' aE .sh .non [] s sr.wf ⟨rfl,.non⟩ nv (λa h=>nomatch h) q
 ·exact λcx H' aE df dv s sr q=>q.elim
 ·exact λcx H' aE df dv s sr q=>q.elim
 ·exact λv H' aE m d As s w r nd own q=>fin v H' aE m d As s w r nd own q
def aa'.ok{P:cv}{st:i5}{N ps:List Str}(F:oC K x qual st f fd)(S:zh N ps (fe st))(len:∀ ds Q,sp ds Q->ds.length=ps.length)(xa:∀ (dE:ag) (A:eB) (outer:List PySem.Env) (s:ay) (H:Hp) (E:XK),hU k (A.deeper (kN qual (fe st) s.heap.objs.size f dE))->xo (oz kG P w K mg base N qual (fe st) f dE A outer s H E).yb K L0 (nh st) t)(hp:∀ ds Q,sp ds Q->t { nx:=λ_=>Q .sh .non,rt:=Q } (aM N.length ds)):kS P w K mg base kG (k+1) f fd ps (fO K sp) :=
 F.ok S (λvs H Q E ⟨ds,Qd,rs,hs,_⟩=>by rw[<- rs.length];exact len ds Qd hs) λdE A outer s H vs Q E hr hs=>⟨_,xa dE A outer s H E hr,zF hs hp⟩
def aU(sp:gp)(t:WA):WE:=λρ Q=>t ρ λps=>sp (ps.map (·.2)) λm d=>dk (m,d) (f:=λp=>Q (An p.1 p.2) p.2) ⟨⟩
def yZ{sp:gp}{t:WA}{σ:St}{H:Hp}{Qv:VK}{E:XK}(h:oI K (aU sp t) σ H Qv):LV (fO K sp) [] E (Vx K t) σ H Qv:=by obtain⟨Hs,ρ,ai,Q,sr,h,f⟩:=h;refine⟨Hs,ρ,ai,_,sr,h,λvs H1 bP ps As g1 r1 f1 q1=>?_⟩;refine⟨_,_,by rw[mM];exact r1.reps g1.wf,q1,λv H' aE m d As s w r nd own q=>?_⟩;obtain⟨iL,r',fr⟩:=kh g1.wf s w r nd own;exact Fin.after f g1 v H' _ (An m d) d iL (cG g1.wf s w) r' fr q
def bu {k:Nat} {x:Str} {ps:List Str} {sp:gp} {p:Pos} {es:List Expr} {t:WA} (C:Vk X.prog X.w X.K X.mg X.base k x ps (fO K sp)) (ha:QA X K (e :: es) t) (hg:autoParam (Gl X x) bv) (kf:(x == ("__debug__" : Str))=false:=by decide) (he:autoParam (bT (e :: es) X.env=(false,cp e X.env) :: bT es X.env) bv) (iO:autoParam ((i3 pos (bT es X.env)).any (·.1)=false) bv) (hr:hU k X.A:=by exact hU.mono (by assumption) (by decide)):QE X K (.Call (.Name x p) (e :: es) [] pos) (aU sp t):=PE.imp (IW C hr ha hg kf he iO) λσ H Qv h=>yZ h
end
abbrev WG:=D->Env->(Env->Prop)->Prop
def tpG(K:aI)(g:WG):TG:=λv σ H Qv=>∃ Hs ρ ai d Q,eI K Hs ρ σ H ai/\Rep K Hs d v/\g d ρ Q/\∀ cx df dv,eI K Hs df cx H dv->(∀ a∈dv,a∈ai)->Q df->Qv cx H
abbrev QG(X:Cx)(K:aI)(e:Expr)(g:WG):Prop:=PG X e (tpG K g)
def gN(i:Nat):WG:=λd ρ Q=>Q (ρ.set i (some (.sh d)))
abbrev M0:=List D->Env->(Env->Prop)->Prop
def kR'(K:aI)(g:M0):Pw:=λvs σ H Qv=>∃ Hs ρ ai ds Q,eI K Hs ρ σ H ai/\ck K Hs ds vs/\g ds ρ Q/\∀ cx df dv,eI K Hs df cx H dv->(∀ a∈dv,a∈ai)->Q df->Qv cx H
abbrev VF(X:Cx)(K:aI)(es:List Expr)(g:M0):Prop:=DS X es (kR' K g)
def wA:M0:=λds ρ Q=>ds=[]/\Q ρ
def gC(g:WG)(gs:M0):M0:=λds ρ Q=>match ds with
 |d :: ds=>g d ρ λdf=>gs ds df Q
 |[]=>False
def gT(n:Nat)(gs:M0):WG:=λd ρ Q=>match d with
 |.tup ds=>ds.length=n/\gs ds ρ Q
 |_=>False
section
variable {X:Cx}{K:aI}{e:Expr}{es:List Expr}{g:WG}{gs:M0}{pos:Pos}
def PG.imp(h:PG X e t)(i:∀ v σ H Q,t' v σ H Q->t v σ H Q):PG X e t':=λpins s σ H v u Q I r q=>h pins s σ H v u Q I r (i v σ H Q q)
def DS.imp(h:DS X es t)(i:∀ v σ H Q,t' v σ H Q->t v σ H Q):DS X es t':=λpins s σ H v u Q I r q=>h pins s σ H v u Q I r (i v σ H Q q)
def eI.Mq(i:Nat)(s:eI K Hs ρ σ H ai)(r:Rep K Hs d v):∃ dv,(∀ a∈dv,a∈ai)/\eI K Hs (ρ.set i (some (.sh d))) (σ.set i (some v)) H dv:=by obtain⟨t,a,b⟩:=s.sr.Dz r i;exact⟨t,λx hx=>a.subset hx,b,s.wf,a.nodup s.nI,λx hx=>s.own x (a.subset hx)⟩
def aG(i:Nat)(hf:X.fn x=true\/X.env.scope.names.lookup x=some .local:=by first|exact .inl rfl|exact .inr rfl|assumption)(hN:X.N.Nodup:=by assumption)(hi:autoParam (X.N[i]? = some x) bv)(hx:Loc X.env.scope x:=by first|exact .inl rfl|exact .inr rfl):QG X K (.Name x pos) (gN i) :=
 PG.imp (gf' hN hi hx hf) λv σ H Qv dS=>by obtain⟨Hs,ρ,ai,d,Q,sr,r,h,k⟩:=dS;obtain⟨t,m,s⟩:=sr.Mq i r;exact k _ _ t s m h
def sU:VF X K [] wA:=DS.imp gi' λv σ H Qv dS=>by obtain⟨Hs,ρ,ai,ds,Q,sr,r,h,k⟩:=dS;obtain⟨rfl,h⟩:=h;cases r;exact⟨rfl,k σ ρ ai sr (λ_ z=>z) h⟩
def dO(h1:QG X K e g)(h2:VF X K es gs)(hs:autoParam ((EL (e :: es) X.env).map (·.2)=assign e X.env :: (EL es X.env).map (·.2)) bv):VF X K (e :: es) (gC g gs) :=
 DS.imp (gj' h1 h2 hs) λv σ H Qv dS=>by
  obtain⟨Hs,ρ,ai,ds,Q,sr,r,h,k⟩:=dS
  cases r with
  |nil=>exact h.elim
  |cons r rs=>exact⟨_,_,rfl,Hs,ρ,ai,_,_,sr,r,h,λom kK fT k8 m2 q2=>⟨Hs,kK,fT,_,Q,k8,rs,q2,λDT Qx kS' xv m3=>k DT Qx kS' xv λa h=>m2 a (m3 a h)⟩⟩
def yN(h:VF X K es gs)(hn:autoParam ((EL es X.env).length=n) bv)(kE:autoParam ((EL es X.env).findIdx? (·.1)=none) bv)(hc:autoParam (X.calm=true) bv):QG X K (.Tuple es k pos) (gT n gs) :=
 PG.imp (gm' hc h hn kE) λv σ H Qv dS=>by
  obtain⟨Hs,ρ,ai,d,Q,sr,r,h,k⟩:=dS
  cases r with
  |tup z e rs=>exact⟨_,_,rfl,.inl (.inl (sr.wf.sub _ _ e)),by rw[<- rs.length];exact h.1,Hs,ρ,ai,_,Q,sr,rs,h.2,k⟩
  |_=>exact h.elim
end
abbrev WI:=Env->(List D->Prop)->Prop
structure nj(K:aI)(J:It)(ds:List D)(C:Hp->Hp->Prop):Prop where
 go:∀ i Hs H,C Hs H->Wf Hs H->i<ds.length->J.go i H
 pT:∀ i Hs H x H' d,C Hs H->Wf Hs H->ds[i]? = some d->J.pT i H x H'->∃ aE,fN Hs H aE H'/\Rep K aE d x
 stop:∀ Hs H,C Hs H->Wf Hs H->J.stop ds.length H
abbrev yS(K:aI)(Hs:Hp)(J:It)(ds:List D):Prop:=nj K J ds λG _=>bI Hs G
def kZ(xs:List D):List D:=xs.mapIdx λi x=>.tup [.int i,x]
section
variable {K:aI}{Hs:Hp}{J:It}{ds:List D}{C C':Hp->Hp->Prop}{a:ah}
def nj.imp(S:nj K J ds C)(h:∀ Hs H,C' Hs H->C Hs H):nj K J ds C':=⟨λi Hs H c=>S.go i Hs H (h _ _ c),λi Hs H x H' d c=>S.pT i Hs H x H' d (h _ _ c),λHs H c=>S.stop Hs H (h _ _ c)⟩
def nj.seq(rs:ck K Hs ds vs)(S:fD J vs λH=>bI Hs H):yS K Hs J ds where
 go:=λi G H s w h=>S.go i H (s.trans w.sub) (by rw[<- rs.length];exact h)
 pT:=λi G H x H' d s w h y=>by
  have hi:i<ds.length:=by
   rcases Nat.lt_or_ge i ds.length with q|q
   ·exact q
   ·rw[GU q] at h;cases h
  obtain⟨e,z⟩:=S.pT i H x H' (s.trans w.sub) (by rw[<- rs.length];exact hi) y;subst e;obtain⟨d',ed,rd⟩:=rs.Z4 z;rw[h] at ed;cases ed;exact⟨G,fN.refl w,rd.same s⟩
 stop:=λG H s w=>by rw[rs.length];exact S.stop H (s.trans w.sub)
abbrev xq(K:aI)(a:ah)(ds:List D)(C:Hp->Hp->Prop):Prop:=∀ Hs H,C Hs H->Wf Hs H->∃ vs,fE K H a vs/\ck K Hs ds vs
def nj.list(h:xq K a ds C):nj K (UG K a) ds C where
 go:=λi G H c w hi=>by obtain⟨vs,q,rs⟩:=h G H c w;exact⟨vs,vs[i]'(by rw[<- rs.length];exact hi),q,by simp⟩
 pT:=λi G H x H' d c w hd y=>by obtain⟨vs,q,rs⟩:=h G H c w;obtain⟨rfl,y⟩:=y;obtain⟨d',ed,rd⟩:=rs.Z4 (y vs q);rw[hd] at ed;cases ed;exact⟨G,fN.refl w,rd⟩
 stop:=λG H c w=>by obtain⟨vs,q,rs⟩:=h G H c w;exact⟨vs,q,by rw[rs.length];exact de _⟩
def nj.enum(h:xq K a ds C):nj K (ZJ K a) (kZ ds) C where
 go:=λi G H c w hi=>by
  obtain⟨vs,q,rs⟩:=h G H c w;have hi:i<ds.length:=by simpa[kZ] using hi
  exact⟨vs,vs[i]'(by rw[<- rs.length];exact hi),q,by simp⟩
 pT:=λi G H x H' d c w hd y=>by
  obtain⟨vs,q,rs⟩:=h G H c w;obtain⟨p,v,rfl,hp,rfl,y⟩:=y;obtain⟨d',ed,rd⟩:=rs.Z4 (y vs q);have:d=.tup [.int i,d']:=by simp only[kZ,List.getElem?_mapIdx,ed,RT] at hd;cases hd;rfl
  subst this;have g:=S0 (vs:=[.int i,v]) w hp;exact⟨_,g,.tup (vs:=[.int i,v]) Di fq (.cons (.int _) (.cons (rd.same g.sh) .nil))⟩
 stop:=λG H c w=>by obtain⟨vs,q,rs⟩:=h G H c w;exact⟨vs,q,by rw[kZ,List.length_mapIdx,rs.length];exact de _⟩
def pO(s:fE K Hs a vs)(rs:ck K Hs ds vs):xq K a ds λG _=>bI Hs G:=λG H c w=>⟨vs,bI.seq (c.trans w.sub) s,rs.same c⟩
end
def tpI(K:aI)(wi:WI):TI:=λσ H R=>∃ Hs ρ ai Q,eI K Hs ρ σ H ai/\wi ρ Q/\∀ J H' aE ds,fN Hs H aE H'->yS K aE J ds->ds.length<=bS->Q ds->R J H'
abbrev QI(X:Cx)(K:aI)(tg iter:Expr)(wi:WI):Prop:=PI X tg iter (tpI K wi)
def qY:Md->Prop
 |.bo=>False
 |_=>True
def fJ(te:WE):WI:=λρ Q=>te ρ λm d=>qY m/\match d with
 |.list xs=>Q xs
 |_=>False
def Am(te:WE):WI:=λρ Q=>te ρ λm d=>qY m/\match d with
 |.tup xs=>Q xs
 |_=>False
def ab'(z:Str):List D:=z.cps.toList.map λc=>.str ⟨#[c]⟩
def Bm(te:WE):WI:=λρ Q=>te ρ λ_ d=>match d with
 |.str z=>Q (ab' z)
 |_=>False
def gF(lo:Int)(n:Nat):List D:=(List.range n).map λi=>.int (lo+(i:Nat))
def d9(te:WE):WI:=λρ Q=>te ρ λ_ d=>match d with
 |.int j=>j<=16777216/\-(2 ^ 62)<=j/\Q (gF 0 j.toNat)
 |_=>False
def tZ(ta tb:WE):WI:=λρ Q=>ta ρ λ_ x=>tb ρ λ_ y=>match x with
 |.int i=>match y with
  |.int j=>j-i<=16777216/\(-(2 ^ 62)<=i/\i<2 ^ 62/\-(2 ^ 62)<=j/\j<2 ^ 62)/\Q (gF i (j-i).toNat)
  |_=>False
 |_=>False
section
variable {X:Cx}{K:aI}{e e2 tg:Expr}{te IG:WE}{pos p:Pos}
def PI.imp(h:PI X tg iter t)(i:∀ σ H R,t' σ H R->t σ H R):PI X tg iter t':=λpins s σ H R I q=>h pins s σ H R I (i σ H R q)
def fD.imp{J:It}(s:fD J vs c)(h:∀ H,c' H->c H):fD J vs c':=⟨λi H q=>s.go i H (h H q),λi H x H' q=>s.pT i H x H' (h H q),λH q=>s.stop H (h H q)⟩
def RM.yP(g:fN Hs H bP H1)(r:RM K bP H1 m d v As)(f:bR bP H As)(h:qY m):∃ bq,fN Hs H bq H1/\Rep K bq d v:=by
 have n:∀ a∈As,bP a=none:=λa ha=>(f.2 a ha).1;have pub:Rep K (Bi bP H1 As) d v->∃ bq,fN Hs H bq H1/\Rep K bq d v:=λz=>by
  refine⟨Bi bP H1 As,⟨g.all,g.sh.trans (jx n),DQ g.wf r.own,λa h=>?_⟩,z⟩;unfold Bi at h;by_cases m:a∈As
  ·exact .inr (f.2 a m).2
  ·rw[if_neg m] at h;exact g.new a h
 cases m with
 |sh=>exact⟨bP,g,r.2⟩
 |bo=>exact h.elim
 |ow fl=>exact pub (cE.rep (jx n) r.1 λa ha=>by unfold Bi;rw[if_pos ha])
def fV(he:QE X K e te)(hK:autoParam (X.K=K) bv):QI X K tg e (fJ te):=by
 subst hK;refine PI.imp (bB' he) λσ H R hx=>iP hx λHs ρ ai Q sr h k=>⟨Hs,ρ,ai,_,sr,h,λv H1 bP m d As g1 r1 f1 q1=>?_⟩
 obtain⟨nb,q1⟩:=q1;obtain⟨bq,g2,r2⟩:=r1.yP g1 f1 nb
 cases r2 with
 |list z s rs=>exact⟨_,rfl,⟨_,bI.seq g2.wf.sub s⟩,k _ H1 bq _ g2 (.seq rs (fD.imp (Bd X.K _ _) λH' s'=>bI.seq s' s)) (by rw[rs.length];exact z) q1⟩
 |_=>exact q1.elim
def J0(he:QE X K e te)(hK:autoParam (X.K=K) bv):QI X K tg e (Am te):=by
 refine PI.imp (bC' he) λσ H R hx=>iP hx λHs ρ ai Q sr h k=>⟨Hs,ρ,ai,_,sr,h,λv H1 bP m d As g1 r1 f1 q1=>?_⟩
 obtain⟨nb,q1⟩:=q1;obtain⟨bq,g2,r2⟩:=r1.yP g1 f1 nb
 cases r2 with
 |tup z s rs=>exact⟨_,rfl,⟨_,.inl (.inl (g2.wf.sub _ _ s))⟩,k _ H1 bq _ g2 (.seq rs (fD.imp (xj X.K _ _) λH' s'=>.inl (.inl (s' _ _ s)))) (by rw[rs.length];exact z) q1⟩
 |_=>exact q1.elim
theorem uL:∀ (l:List Nat),ck K H (l.map λc=>.str ⟨#[c]⟩) (l.map λc=>V.str ⟨#[c]⟩)
 |[]=>.nil
 |c :: l=>.cons (.str (yq c)) (uL l)
def Ia(he:QE X K e te):QI X K tg e (Bm te):=by
 refine PI.imp (Jf he) λσ H R hx=>iP hx λHs ρ ai Q sr h k=>⟨Hs,ρ,ai,_,sr,h,λv H1 bP m d As g1 r1 f1 q1=>?_⟩
 have r:=r1.rep g1.wf
 cases r with
 |str hz=>exact⟨_,rfl,k _ H1 bP _ g1 (.seq (uL _) (fD.imp (Fy _) λ_ _=>trivial)) (by rw[dc,AZ];exact hz) q1⟩
 |_=>exact q1.elim
theorem jF(lo:Int):∀ (l:List Nat),ck K H (l.map λi=>.int (lo+(i:Nat))) (l.map λi=>V.int (lo+(i:Nat)))
 |[]=>.nil
 |c :: l=>.cons (.int _) (jF lo l)
def dX (hm:X.mg "range" = none) (he:QE X K e te) (hg:Gl X "range" := by rfl) (hs:autoParam (bT [e] X.env=(false,cp e X.env) :: bT [] X.env) bv) (iE:autoParam (bT [e] X.env=[(false,cp e X.env)]) bv):QI X K tg (.Call (.Name "range" p) [e] [] pos) (d9 te):=by
 refine PI.imp (gw' hg hm (kR he oo hs) iE) λσ H R hx=>iP hx λHs ρ ai Q sr h k=>⟨Hs,ρ,ai,_,sr,h,λv H1 bP m d As g1 r1 f1 q1=>?_⟩
 have r:=r1.rep g1.wf
 cases r with
 |int j =>obtain⟨h1,h2,q1⟩:=q1;exact⟨j,rfl,h2,by lia,k _ H1 bP _ g1 (.seq (jF 0 _) (fD.imp (zN _ _) λ_ _=>trivial)) (by rw[dc,Ry,kB];lia) q1⟩
 |_=>exact q1.elim
def Hl (hm:X.mg "range" = none) (he:QE X K e te) (MA:QE X K e2 IG) (hg:Gl X "range" := by rfl) (hs:autoParam (bT (e :: [e2]) X.env=(false,cp e X.env) :: bT [e2] X.env) bv) (kF:autoParam (bT (e2 :: []) X.env=(false,cp e2 X.env) :: bT [] X.env) bv) (iE:autoParam (bT [e,e2] X.env=[(false,cp e X.env),(false,cp e2 X.env)]) bv) (ac':autoParam (bT [e2] X.env=[(false,cp e2 X.env)]) bv):QI X K tg (.Call (.Name "range" p) [e,e2] [] pos) (tZ te IG):=by
 refine PI.imp (gx' hg hm (kR he (kR MA oo kF) hs) iE ac') λσ H R hx=>iP hx λHs ρ ai Q sr h k=>⟨Hs,ρ,ai,_,sr,h,λv H1 bP m d As g1 r1 f1 q1=>⟨bP,ρ,ai,_,sr.grow g1,q1,λu H2 bq n y Bs g2 r2 f2 q2=>?_⟩⟩
 have r:=(r1.grow g2).rep g2.wf;have r':=r2.rep g2.wf
 cases r with
 |int i=>cases r' with
  |int j =>obtain⟨h1,h2,q2⟩:=q2;exact⟨i,j,rfl,h2,k _ H2 bq _ (g1.trans g2) (.seq (jF i _) (fD.imp (zN _ _) λ_ _=>trivial)) (by rw[dc,Ry,kB];lia) q2⟩
  |_=>exact q2.elim
 |_=>exact q2.elim
section
variable {X:Cx}{K:aI}{e tg:Expr}{te:WE}{pos p:Pos}
def dL'(K:aI)(wi:WI):TI:=λσ H R=>∃ Hs ρ ai Q,eI K Hs ρ σ H ai/\wi ρ Q/\∀ J H' aE ds,fN Hs H aE H'->yS K H' J ds->ds.length<=bS->Q ds->R J H'
abbrev S9(X:Cx)(K:aI)(tg iter:Expr)(wi:WI):Prop:=PI X tg iter (dL' K wi)
def qd(h:QI X K tg iter wi):S9 X K tg iter wi:=PI.imp h λσ H R hx=>iP hx λHs ρ ai Q sr h k=>⟨Hs,ρ,ai,Q,sr,h,λJ H' aE ds g w z q=>k J H' aE ds g (w.imp λG H s=>g.wf.sub.trans s) z q⟩
def lY(te:WE):WI:=λρ Q=>te ρ λ_ d=>match d with
 |.list xs=>Q xs
 |_=>False
def pU(te:WE):WI:=λρ Q=>te ρ λ_ d=>match d with
 |.tup xs=>Q xs
 |_=>False
def vf(te:WE):WI:=λρ Q=>te ρ λ_ d=>match d with
 |.list xs=>Q (kZ xs)
 |_=>False
def rD(he:QE X K e te)(hK:autoParam (X.K=K) bv):S9 X K tg e (lY te):=by
 subst hK;refine PI.imp (bB' he) λσ H R hx=>iP hx λHs ρ ai Q sr h k=>⟨Hs,ρ,ai,_,sr,h,λv H1 bP m d As g1 r1 f1 q1=>?_⟩
 have r:=r1.rep g1.wf
 cases r with
 |list z s rs=>exact⟨_,rfl,⟨_,s⟩,k _ H1 bP _ g1 (.list (pO s rs)) (by rw[rs.length];exact z) q1⟩
 |_=>exact q1.elim
def pK(he:QE X K e te)(hK:autoParam (X.K=K) bv):S9 X K tg e (pU te):=by
 refine PI.imp (bC' he) λσ H R hx=>iP hx λHs ρ ai Q sr h k=>⟨Hs,ρ,ai,_,sr,h,λv H1 bP m d As g1 r1 f1 q1=>?_⟩
 have r:=r1.rep g1.wf
 cases r with
 |tup z s rs=>exact⟨_,rfl,⟨_,.inl (.inl s)⟩,k _ H1 bP _ g1 (.seq rs (fD.imp (xj X.K _ _) λH' s'=>.inl (.inl (s' _ _ s)))) (by rw[rs.length];exact z) q1⟩
 |_=>exact q1.elim
def Hu (hm:X.mg "enumerate" = none) (he:QE X K e te) (hK:autoParam (X.K=K) bv) (hg:Gl X "enumerate" := by rfl) (hs:autoParam (bT [e] X.env=(false,cp e X.env) :: bT [] X.env) bv) (iE:autoParam (bT [e] X.env=[(false,cp e X.env)]) bv) :
  S9 X K (.Tuple elts kk tp) (.Call (.Name "enumerate" p) [e] [] pos) (vf te):=by
 subst hK;refine PI.imp (Hj hg hm (kR he oo hs) iE) λσ H R hx=>iP hx λHs ρ ai Q sr h k=>⟨Hs,ρ,ai,_,sr,h,λv H1 bP m d As g1 r1 f1 q1=>?_⟩
 have r:=r1.rep g1.wf
 cases r with
 |list z s rs=>exact⟨_,rfl,⟨_,s⟩,k _ H1 bP _ g1 (.enum (pO s rs)) (by rw[kZ,List.length_mapIdx,rs.length];exact z) q1⟩
 |_=>exact q1.elim
end
def lq(g:WG)(b:WS)(E:jt):List D->Env->Prop
 |[],ρ=>E.nx ρ
 |x :: xs,ρ=>g x ρ λsN=>b { E with nx:=lq g b E xs,ct:=lq g b E xs,bk:=E.nx } sN
def sP(wi:WI)(g:WG)(b:WS):WS:=λE ρ=>wi ρ λds=>lq g b E ds ρ
variable {wi:WI}{g:WG}{b:WS}{body:List i5}
def cF(hi:QI X K tg iter wi)(hg:QG X K tg g)(hb:xo X K L body b)(hs:∀ x,Rj iter X.env x=pure x:=by intro _;rfl)(hp:PassesOwn (aT X.prog X.w) X.A X.env X.xe:=by first|exact PassesOwn.never|exact PassesOwn.leaving)(hc:autoParam (X.calm=true) bv) :
  QS X K L (.For tg iter body [] pos) (sP wi g b):=by
 refine PS.imp (gA' hp hc hi hg hb hs) λD σ H hx=>mY hx λHs ρ ai E sr h k1 k2 k3 k4 kx=>?_;refine⟨Hs,ρ,ai,_,sr,h,λJ H1 bP ds g1 S hz q1=>?_⟩;refine⟨λi m σ H=>m=ds.length-i/\i<=ds.length/\∃ aE df dv,bI bP aE/\eI K aE df σ H dv/\lq g b E (ds.drop i) df,⟨ds.length,by simp,fR _,bP,ρ,ai,bI.refl _,sr.grow g1,by simpa using q1⟩,?_⟩;rintro i m om H2 ⟨rfl,hi,bq,kK,fT,s2,k8,q2⟩;by_cases eR:i<ds.length
 ·refine .inr ⟨S.go i bq H2 s2 k8.wf eR,λDT H3=>∃ aE df dv,bI bP aE/\eI K aE df DT H3 dv/\lq g b E (ds.drop (i+1)) df,λDT H3 h3=>⟨ds.length-(i+1),by lia,rfl,eR,h3⟩,λx H3 y=>?_⟩;obtain⟨gi,g3,rd⟩:=S.pT i bq H2 x H3 ds[i] s2 k8.wf (by simp[eR]) y;rw[Kb eR] at q2;have s3:=s2.trans g3.sh;refine⟨gi,kK,fT,ds[i],_,k8.grow g3,rd,q2,λσ4 Ap ad' VG _ q4=>?_⟩;refine⟨gi,Ap,ad',_,VG,q4,?_,?_,?_,?_,λn H5 s5=>kx n H5 ((g1.sh.trans s3).trans s5)⟩
  ·exact λσ5 H5 D8 S_ Ta s5 Tb q5=>⟨D8,S_,Ta,s3.trans s5,Tb,q5⟩
  ·exact λσ5 H5 D8 S_ Ta s5 Tb q5=>k1 σ5 H5 D8 S_ Ta ((g1.sh.trans s3).trans s5) Tb q5
  ·exact λσ5 H5 D8 S_ Ta s5 Tb q5=>⟨D8,S_,Ta,s3.trans s5,Tb,q5⟩
  ·exact λv H5 D8 m d As s5=>k4 v H5 D8 m d As ((g1.sh.trans s3).trans s5)
 ·have e:i=ds.length:=by lia
  subst e;refine .inl ⟨S.stop bq H2 s2 k8.wf,?_⟩;rw[Wz] at q2;exact k1 om H2 bq kK fT (g1.sh.trans s2) k8 q2
def bK(xs:List D)(Pv:Nat->Env->Prop)(h0:Pv 0 ρ)(hs:∀ i x ρ,xs[i]? = some x->Pv i ρ->∀ N:Env->Prop,(∀ df,Pv (i+1) df->N df)->g x ρ λsN=>b { E with nx:=N,ct:=N,bk:=E.nx } sN) (hd:∀ ρ,Pv xs.length ρ->E.nx ρ):lq g b E xs ρ:=by
 have go:∀ (k i:Nat) ρ,i+k=xs.length->Pv i ρ->lq g b E (xs.drop i) ρ:=by
  intro k
  induction k with
  |zero =>
   intro i ρ e p;have:i=xs.length:=by lia
   subst this;rw[Wz];exact hd ρ p
  |succ k ih =>
   intro i ρ e p;have hi:i<xs.length:=by lia
   rw[Kb hi];exact hs i xs[i] ρ (by simp[hi]) p _ λkK h2=>ih (i+1) kK (by lia) h2
 have:=go xs.length 0 ρ (by lia) h0;simpa using this
end
def Bn:WT:=λ_ Q=>Q true
def Qy(m:Md)(d:D):Prop:=d.flat=true\/m=.ow true
def h_(g:WG)(tc:WT)(te:WE):List D->Env->(List D->Prop)->Prop
 |[],_,k=>k []
 |x :: xs,ρ,k=>g x ρ λsN=>tc sN λb=>if b=true then te sN λm d=>Qy m d/\h_ g tc te xs sN (λout=>k (d :: out)) else h_ g tc te xs sN k
def D_(tn:Nat)(ix:List Nat)(ρ:Env):Env:=List.replicate tn none++ix.map λj=>(ρ[j]?).join.map Z_
def eE(wi:WI)(g:WG)(tc:WT)(te:WE)(tn:Nat)(ix:List Nat):WE:=λρ Q=>wi ρ λds=>h_ g tc te ds (D_ tn ix ρ) λout=>Q (.ow true) (.list out)
section
variable {X:Cx}{K:aI}
theorem mQ{Hs H G:Hp}(sr:eI K Hs ρ σ H ai)(G':Hp):∀ (ix:List Nat),SR K H G' (ix.map λj=>(ρ[j]?).join.map Z_) (ix.map λj=>(σ[j]?).join) []
 |[]=>.nil
 |j :: ix=>by
  have ih:=mQ sr G' ix (G:=G);simp only[jS]
  cases e:ρ[j]? with
  |none=>exact .non ih
  |some o =>
   cases o with
   |none=>exact .non ih
   |some sl =>
    obtain⟨v,e1,r⟩:=sr.sr.get e;rw[e1]
    cases sl with
    |sh d=>exact .sh (Rep.same sr.wf.sub r) ih
    |xc a=>subst r;exact .xc ih
    |ob a p=>obtain⟨r,_⟩:=r;subst r;exact .xc ih
    |ow fl d =>obtain⟨As,_,r,_⟩:=r;exact .sh (r.rep sr.wf.sub λ_ _=>rfl) ih
    |lk a fl d =>obtain⟨As,_,r,_⟩:=r;exact .sh (r.rep sr.wf.sub λ_ _=>rfl) ih
theorem qu(s:SR K H G ρ σ []):∀ (n:Nat),SR K H G (List.replicate n none++ρ) (List.replicate n none++σ) []
 |0=>s
 |n+1=>.non (qu s n)
def SR.heap(s:SR K Hs H ρ σ []):SR K Hs H' ρ σ []:=s.fA (bI.refl _) λa h=>nomatch h
def pB(w:Wf Hs H)(n:Hs p=none)(ho:∀ vs,o≠.tup vs):Wf Hs (upd H p o):=⟨λb u q=>by
  rw[dP (λz=>by subst z;rw[n] at q;cases q)];exact w.sub b u q,λb us q=>by
  by_cases hb:b=p
  ·subst hb;rw[fq] at q;exact absurd (Option.some.inj q) (ho us)
  ·rw[dP hb] at q;exact w.j3 b us q⟩
structure CompI(K:aI)(H1:Hp)(b:ah)(acc:List D)(ys:List V)(As:List ah)(Hs:Hp)(ρ:Env)(τ:St)(H:Hp):Prop where
 sm:bI H1 Hs
 sr:eI K Hs ρ τ H []
 eD:H b=some (.lst ys)
 nD:Hs b=none
 ra:aA K Hs H true acc ys As
 nd:(b :: As).Nodup
 own:∀ a∈As,Hs a=none
def CompI.grow(c:CompI K H1 b acc ys As Hs ρ τ H)(g:fN Hs H aE H'):CompI K H1 b acc ys As aE ρ τ H' :=
 ⟨c.sm.trans g.sh,c.sr.grow g,g.all _ _ c.eD,g.qc c.nD (by rw[c.eD];exact λz=>nomatch z),c.ra.grow g.sh g.all,c.nd,λa ha=>g.qc (c.own a ha) (c.ra.own a ha).ne⟩
def CompI.push(c:CompI K H1 b acc ys As Hs ρ τ H)(r:RM K Hs H m d v Bs)(ok:Qy m d)(nb:Bs.Nodup)(fb:∀ a∈Bs,Hs a=none/\a∉b :: As):∃ iL,CompI K H1 b (acc++[d]) (ys++[v]) iL Hs ρ τ (upd H b (.lst (ys++[v]))):=by
 obtain⟨B,sb,rb⟩:∃ B,B.Sublist Bs/\cE K Hs H true d v B:=by
  rcases ok with hf|rfl
  ·exact⟨[],Dp _,.sh (λ_=>hf) (r.flat c.sr.wf hf)⟩
  ·exact⟨Bs,List.Sublist.refl _,r.1⟩
 obtain⟨na,nA⟩:=oj.mp c.nd;have VH:=λa ha=>fb a (sb.subset ha);refine⟨As++(B++[]),c.sm,⟨c.sr.sr.heap,pB c.sr.wf c.nD (λ_ z=>nomatch z),nv,λa h=>nomatch h⟩,fq,c.nD,(c.ra.fA (bI.refl _) λa ha=>dP λz=>na (by subst z;exact ha)).append (.cons (rb.fA (bI.refl _) λa ha=>dP λz=>(VH a ha).2 (by subst z;exact fw)) .nil),?_,?_⟩
 ·rw[mM];refine oj.mpr ⟨λm=>(eL.mp m).elim na λm=>(VH b m).2 fw,gV.mpr ⟨nA,sb.nodup nb,λx hx y hy e=>(VH y hy).2 (e ▸ fo _ hx)⟩⟩
 ·rw[mM];exact λa ha=>(eL.mp ha).elim (c.own a) λm=>(VH a m).1
def zU(h:oI K (eE wi g tc te tn ix) σ H Qv):Hn (dL' K wi) (tpG K g) (IC K tc) (oI K te) tn ix σ H Qv:=by
 obtain⟨Hs,ρ,ai,Q,sr,h,f⟩:=h;refine⟨Hs,ρ,ai,_,sr,h,λJ H1 bP ds g1 S hz q1 b hb=>?_⟩;have st:CompI K H1 b [] [] [] H1 (D_ tn ix ρ) (qR tn ix σ) (upd H1 b (.lst [])):=by
  refine⟨bI.refl _,⟨qu (mQ (G:=H1) (sr.grow g1) _ ix) tn,⟨(bI.refl H1).upd hb,λa xs e=>?_⟩,nv,λa h=>nomatch h⟩,fq,hb,.nil,by simp,λa h=>nomatch h⟩;by_cases ha:a=b
  ·subst ha;rw[fq] at e;cases e
  ·rw[dP ha] at e;exact e
 refine⟨λi m τ H2=>m=ds.length-i/\i<=ds.length/\∃ bq kK acc ys As,CompI K H1 b acc ys As bq kK τ H2/\acc.length<=i/\h_ g tc te (ds.drop i) kK (λout=>Q (.ow true) (.list (acc++out))), ⟨ds.length,by simp,fR _,H1,_,[],[],[],st,de _,by simpa using q1⟩,?_⟩
 rintro i m τ H2 ⟨rfl,hi,bq,kK,acc,ys,As,c,la,q2⟩;by_cases eR:i<ds.length
 ·refine .inr ⟨S.go i bq H2 c.sm c.sr.wf eR,
   λQz v H4=>∃ Qs Ap d,CompI K H1 b acc ys As Qs Ap Qz H4/\(∃ iL,CompI K H1 b (acc++[d]) (ys++[v]) iL Qs Ap Qz (upd H4 b (.lst (ys++[v]))))/\h_ g tc te (ds.drop (i+1)) Ap (λout=>Q (.ow true) (.list (acc++d :: out))),
   λQz H3=>∃ gi Qx,CompI K H1 b acc ys As gi Qx Qz H3/\h_ g tc te (ds.drop (i+1)) Qx (λout=>Q (.ow true) (.list (acc++out))),?_,?_,?_⟩
  ·rintro Qz v H4 ⟨Qs,Ap,d,c4,⟨iL,c5⟩,q4⟩;have lya:=c4.ra.length;exact⟨ys,ds.length-(i+1),c4.eD,by lia,by lia,rfl,eR,Qs,Ap,acc++[d],ys++[v],iL,c5,by rw[mI];simpa using la,by simpa using q4⟩
  ·rintro Qz H3 ⟨gi,Qx,c3,q3⟩;exact⟨ds.length-(i+1),by lia,rfl,eR,gi,Qx,acc,ys,As,c3,by lia,q3⟩
  ·intro x H3 y;obtain⟨gi,g3,rd⟩:=S.pT i bq H2 x H3 ds[i] c.sm c.sr.wf (by simp[eR]) y;rw[Kb eR] at q2;have c3:=c.grow g3;refine⟨gi,kK,[],ds[i],_,c3.sr,rd,q2,λτ4 Ap ad' VG m4 q4=>?_⟩;have t4:ad'=[]:=List.eq_nil_iff_forall_not_mem.mpr λa ha=>nomatch m4 a ha;subst t4;have c4:CompI K H1 b acc ys As gi Ap τ4 H3:=⟨c3.sm,VG,c3.eD,c3.nD,c3.ra,c3.nd,c3.own⟩
   refine⟨gi,Ap,[],_,VG,q4,λk H5 D8 g5 q5=>?_⟩;have c5:=c4.grow g5
   cases k with
   |false=>exact⟨D8,Ap,c5,q5⟩
   |true =>
    refine⟨D8,Ap,[],_,c5.sr,q5,λv H6 Hs6 m6 d6 As6 g6 r6 f6 q6=>?_⟩;have c6:=c5.grow g6;refine⟨Hs6,Ap,d6,c6,c6.push r6 q6.1 f6.1 λa ha=>⟨(f6.2 a ha).1,λm=>?_⟩,q6.2⟩;rcases fm.mp m with rfl|m
    ·have:=(f6.2 _ ha).2;rw[c5.eD] at this;cases this
    ·exact(c5.ra.own a m).ne (f6.2 a ha).2
 ·have e:i=ds.length:=by lia
  subst e;refine .inl ⟨S.stop bq H2 c.sm c.sr.wf,?_⟩;rw[Wz] at q2;have q2:Q (.ow true) (.list (acc++[])):=q2;rw[mM] at q2;have lya:=c.ra.length;have rm:RM K bq H2 (.ow true) (.list acc) (.ref b) (b :: As):=⟨.list (by lia) c.eD c.ra,by simp⟩
  obtain⟨iL,r',fr⟩:=kh g1.wf c.sm c.sr.wf rm c.nd λa ha=>(fm.mp ha).elim (λz=>z ▸ c.nD) (c.own a);exact Fin.after f g1 (.ref b) H2 _ (.ow true) (.list acc) iL (cG g1.wf c.sm c.sr.wf) r' fr q2
def FG.imp(h:FG X ifs t)(i:∀ σ H Q,t' σ H Q->t σ H Q):FG X ifs t':=λpins s σ H Q I q=>h pins s σ H Q I (i σ H Q q)
abbrev QTs(X:Cx)(K:aI)(ifs:List Expr)(t:WT):Prop:=FG X ifs (IC K t)
def cT:QTs X K [] Bn:=FG.imp Gw λσ H Qv hx=>iP hx λHs ρ ai Q sr h k=>k true H Hs (fN.refl sr.wf) h
def nq(h:QT X K c t):QTs X K [c] t:=FN h
def cQ(hi:S9 X K tg iter wi)(hg:∀ {C fp mr rh} {q:(tn++cn).Nodup},QG (bD X scope C (tn++cn) fp mr rh) K tg g) (FC:∀ {C fp mr rh},QTs (bD X scope C (tn++cn) fp mr rh) K ifs tc) (he:∀ {C fp mr rh},QE (bD X scope C (tn++cn) fp mr rh) K elt te)(hs:∀ x,Rj iter X.env x=pure x:=by intro _;rfl) (nd:(tn++cn).Nodup:=by decide +kernel) (O:iw X scope tn cn ix:=by exact iw.by (by assumption) (by decide +kernel)) (hc:autoParam (X.calm=true) bv):QE X K (.ListComp elt [⟨tg,iter,ifs,0⟩] scope pos) (eE wi g tc te tn.length ix) :=
 PE.imp (Hk hc hi O (λ_ _ _ _=>hg (q:=nd)) (λ_ _ _ _=>FC) (λ_ _ _ _=>he) hs) λσ H Qv h=>zU h
end
def bf(p:D->Bool)(f:D->D)(Iv:Env->Prop):∀ (xs:List D) (ρ:Env) (k:List D->Prop),Iv ρ -> (∀ x∈xs,∀ ρ,Iv ρ->∀ N1:Env->Prop,∀ N2:Env->D->Prop,(∀ df,Iv df->p x=false->N1 df)->(∀ df,Iv df->p x=true->N2 df (f x))->g x ρ λsN=>tc sN λb=>if b=true then te sN λm d=>Qy m d/\N2 sN d else N1 sN) ->
  k ((xs.filter p).map f)->h_ g tc te xs ρ k
 |[],_,k,_,_,h=>h
 |x :: xs,ρ,k,iv,hs,h=>by
  refine hs x fw ρ iv _ _ (λdf Tc hp=>?_) (λdf Tc hp=>?_)
  ·exact bf p f Iv xs df k Tc (λy hy=>hs y (fo _ hy)) (by simpa[hp] using h)
  ·exact bf p f Iv xs df _ Tc (λy hy=>hs y (fo _ hy)) (by simpa[hp] using h)
def Upd(K:aI)(Hs H:Hp)(σ:St)(fl:Bool)(v:V)(up:Bool->D->Env)(iL:List ah):Prop:=∀ bq H2 eK d2 hV,bI Hs bq->Wf bq H2->(∀ a,Hs a=none->H a≠none->bq a=none)->(eK=true->fl=true) ->
  cE K bq H2 eK d2 v hV->hV≠[]->hV.Nodup->(∀ a∈hV,bq a=none/\(a∈iL\/H a=none))->(∀ a,H a≠none->a∉iL->H2 a=H a)->∃ fT,eI K bq (up eK d2) σ H2 fT
structure Place(K:aI)(Hs H:Hp)(σ:St)(fl:Bool)(d:D)(v:V)(up:Bool->D->Env):Prop where
 ex:∃ iL,cE K Hs H fl d v iL/\iL≠[]/\iL.Nodup/\(∀ a∈iL,Hs a=none)/\Upd K Hs H σ fl v up iL
def Upd.node{K:aI}(k:Upd K Hs H σ fl (.ref a) up (a :: A))(g:fN Hs H bq H2)(own:∀ x∈a :: A,Hs x=none/\H x≠none)(ho:∀ vs,o≠.tup vs)(hf:eK=true->fl=true)(r:cE K bq (upd H2 a o) eK d2 (.ref a) (a :: C)) (nC:C.Nodup) (VJ:a∉C) (hC:∀ x∈C,x∈A\/(bq x=none/\H x=none)):∃ fT,eI K bq (up eK d2) σ (upd H2 a o) fT:=by
 have hn:∀ x∈a :: A,bq x=none:=λx hx=>g.qc (own x hx).1 (own x hx).2;refine k bq _ eK d2 (a :: C) g.sh (pB g.wf (hn a fw) ho) (λb h1 h2=>g.qc h1 h2) hf r (RA _ _) (oj.mpr ⟨VJ,nC⟩) (λb hb=>?_) λb h1 h2=>?_
 ·rcases fm.mp hb with rfl|hb
  ·exact⟨hn _ fw,.inl fw⟩
  ·exact(hC b hb).elim (λq=>⟨hn b (fo _ q),.inl (fo _ q)⟩) λq=>⟨q.1,.inr q.2⟩
 ·rw[dP λz=>h2 (by subst z;exact fw)]
  cases q:H b with
  |none=>exact absurd q h1
  |some o=>exact g.all b o q
abbrev WP:=Env->(Bool->D->(Bool->D->Env)->Prop)->Prop
def tpP(K:aI)(t:WP):TE:=λσ H Qv=>∃ Hs ρ ai Q,eI K Hs ρ σ H ai/\t ρ Q/\∀ v H' aE fl d up,fN Hs H aE H'->Place K aE H' σ fl d v up->Q fl d up->Qv v H'
abbrev QP(X:Cx)(K:aI)(e:Expr)(t:WP):Prop:=PE X e (tpP K t)
section
variable {K:aI}{Hs H:Hp}{σ:St}{fl:Bool}{d:D}{v:V}
def cE.ne2:(∀ {d:D} {v:V} {As:List ah},cE K Hs H true d v As->d.flat=false->As≠[])/\∀ {ds:List D} {vs:List V} {As:List ah},aA K Hs H true ds vs As->eh ds=false->As≠[] :=
 cE.ind (λ_ _ f _ h=>by rw[f rfl] at h;cases h) (λ_ _ _ _ _ _ _ _ _=>RA _ _) (λ_ _ _ _ _ _ n _ ih _=>ih n) (λ_ _ _ _ _ _ _ _ _=>RA _ _) (λ_ _ _ _ _ _ _ _ _=>RA _ _) (λh=>by simp[eh] at h) λd _ _ _ _ _ _ _ i1 i2 h=>by
   cases e:d.flat with
   |false=>exact λz=>i1 e (Rr.mp z).1
   |true =>simp only[eh,e,Bool.true_and] at h;exact λz=>i2 h (Rr.mp z).2
def cE.ne(r:cE K Hs H true d v As)(h:d.flat=false):As≠[]:=cE.ne2.1 r h
def sQ(i:Nat):WP:=λρ Q=>match ρ[i]? with
 |some (some (.ow fl d))=>Q fl d λeK d2=>ρ.set i (some (.ow eK d2))
 |_=>False
def SR.put(i:Nat)(s:SR K Hs H ρ σ ai):ρ[i]? = some (some (.ow fl d))->ai.Nodup ->
  ∃ (v:V) (As dv:List ah),σ[i]? = some (some v)/\As≠[]/\cE K Hs H fl d v As/\As.Sublist ai/\∀ bq H2 eK d2 hV,bI Hs bq->cE K bq H2 eK d2 v hV->hV≠[]->hV.Nodup->(∀ a∈hV,a∈ai->a∈As)->(∀ a∈ai,a∉As->H2 a=H a) ->
   ∃ fT,fT.Nodup/\(∀ a∈fT,a∈ai\/a∈hV)/\SR K bq H2 (ρ.set i (some (.ow eK d2))) σ fT:=by
 induction s generalizing i with
 |nil=>intro e;simp at e
 |@non ρ σ ai o q ih =>
  intro e n
  cases i with
  |zero=>simp at e
  |succ i =>obtain⟨v,As,t,a,b,c,d,g⟩:=ih i (by simpa using e) n;refine⟨v,As,t,by simpa using a,b,c,d,λbq H2 eK d2 hV s2 r2 ne2 nr dj st=>?_⟩;obtain⟨t2,x,y,z⟩:=g bq H2 eK d2 hV s2 r2 ne2 nr dj st;exact⟨t2,x,y,.non z⟩
 |sh r q ih =>
  intro e n
  cases i with
  |zero=>simp at e
  |succ i =>obtain⟨v,As,t,a,b,c,d,g⟩:=ih i (by simpa using e) n;refine⟨v,As,t,by simpa using a,b,c,d,λbq H2 eK d2 hV s2 r2 ne2 nr dj st=>?_⟩;obtain⟨t2,x,y,z⟩:=g bq H2 eK d2 hV s2 r2 ne2 nr dj st;exact⟨t2,x,y,.sh (r.same s2) z⟩
 |xc q ih =>
  intro e n
  cases i with
  |zero=>simp at e
  |succ i =>obtain⟨v,As,t,a,b,c,d,g⟩:=ih i (by simpa using e) n;refine⟨v,As,t,by simpa using a,b,c,d,λbq H2 eK d2 hV s2 r2 ne2 nr dj st=>?_⟩;obtain⟨t2,x,y,z⟩:=g bq H2 eK d2 hV s2 r2 ne2 nr dj st;exact⟨t2,x,y,.xc z⟩
 |@ow ρ σ t2 B fl0 d0 v ne r q ih =>
  intro e n;walk_at"c"
  cases i with
  |zero =>
   obtain⟨rfl,rfl⟩:=e;refine⟨v,B,t2,rfl,ne,r,OO _ _,λbq H2 eK d2 hV s2 r2 ne2 nr dj st=>⟨hV++t2,gV.mpr ⟨nr,n2,λa ha b hb e=>?_⟩,λa h=>?_,.ow ne2 r2 (q.fA s2 λa h=>st a (fh _ h) λz=>n3 a z a h rfl)⟩⟩
   ·subst e;exact n3 a (dj a ha (fh _ hb)) a hb rfl
   ·exact(eL.mp h).symm.imp (λz=>fh _ z) id
  |succ i =>
   obtain⟨v,As,t,a,b,c,d,g⟩:=ih i (by simpa using e) n2;have hB:∀ x∈B,x∉As:=λx hx m=>n3 x hx x (d.subset m) rfl;walk_at"k";obtain⟨t2,x,y,z⟩:=g bq H2 eK d2 hV s2 r2 ne2 nr (λa ha m=>dj a ha (fh _ m)) λa ha m=>st a (fh _ ha) m;refine⟨B++t2,gV.mpr ⟨n1,x,λa ha b hb e=>?_⟩,λa h=>?_,.ow ne (r.fA s2 λa h=>st a (kr _ h) (hB a h)) z⟩
   ·subst e;rcases y a hb with w|w
    ·exact n3 a ha a w rfl
    ·exact hB a ha (dj a w (kr _ ha))
   ·rcases eL.mp h with w|w
    ·exact .inl (kr _ w)
    ·exact(y a w).imp (λw=>fh _ w) id
 |@lk ρ σ t2 B a0 fl0 d0 ne r q ih =>
  intro e n;walk_at"c"
  cases i with
  |zero=>simp at e
  |succ i =>
   obtain⟨v,As,t,a,b,c,d,g⟩:=ih i (by simpa using e) n2;have hB:∀ x∈B,x∉As:=λx hx m=>n3 x hx x (d.subset m) rfl;walk_at"k";obtain⟨t2,x,y,z⟩:=g bq H2 eK d2 hV s2 r2 ne2 nr (λa ha m=>dj a ha (fh _ m)) λa ha m=>st a (fh _ ha) m;refine⟨B++t2,gV.mpr ⟨n1,x,λa ha b hb e=>?_⟩,λa h=>?_,.lk ne (r.fA s2 λa h=>st a (kr _ h) (hB a h)) z⟩
   ·subst e;rcases y a hb with w|w
    ·exact n3 a ha a w rfl
    ·exact hB a ha (dj a w (kr _ ha))
   ·rcases eL.mp h with w|w
    ·exact .inl (kr _ w)
    ·exact(y a w).imp (λw=>fh _ w) id
 |@ob ρ σ t2 B a0 p0 r q ih =>
  intro e n;walk_at"c"
  cases i with
  |zero=>simp at e
  |succ i =>
   obtain⟨v,As,t,a,b,c,d,g⟩:=ih i (by simpa using e) n2;have hB:∀ x∈B,x∉As:=λx hx m=>n3 x hx x (d.subset m) rfl;walk_at"k";obtain⟨t2,x,y,z⟩:=g bq H2 eK d2 hV s2 r2 ne2 nr (λa ha m=>dj a ha (fh _ m)) λa ha m=>st a (fh _ ha) m;refine⟨B++t2,gV.mpr ⟨n1,x,λa ha b hb e=>?_⟩,λa h=>?_,.ob (p0.fA (iJ s2) (λa h=>st a (kr _ h) (hB a h)) r) z⟩
   ·subst e;rcases y a hb with w|w
    ·exact n3 a ha a w rfl
    ·exact hB a ha (dj a w (kr _ ha))
   ·rcases eL.mp h with w|w
    ·exact .inl (kr _ w)
    ·exact(y a w).imp (λw=>fh _ w) id
def bH{X:Cx}(h:PE X e (kc i)):QP X K e (sQ i):=PE.imp h λσ H Qv hx=>iP hx λHs ρ ai Q sr h f=>by
 unfold sQ at h;split at h
 ·rename_i fl d e1;obtain⟨v,As,t,e2,ne,r,sb,g⟩:=SR.put i sr.sr e1 sr.nI;refine⟨v,e2,f v H Hs fl d _ (fN.refl sr.wf) ⟨As,r,ne,sb.nodup sr.nI,λa h=>sr.own a (sb.subset h),λbq H2 eK d2 hV s2 w2 n2 _ r2 ne2 nr o2 st=>?_⟩ h⟩;obtain⟨t2,x,y,z⟩:=g bq H2 eK d2 hV s2 r2 ne2 nr (λa ha m=>(o2 a ha).2.elim id λq=>absurd q (sr.sr.own a m).ne) λa ha m=>st a (sr.sr.own a ha).ne m;exact⟨t2,z,w2,x,λa h=>(y a h).elim (λq=>n2 a (sr.own a q) (sr.sr.own a q).ne) λq=>(o2 a q).1⟩
 ·exact h.elim
def cE.wk(h:eK=true->fl=true)(r:cE K Hs H fl d v As):cE K Hs H eK d v As:=by
 cases eK with
 |false=>exact r.Vw
 |true=>rw[h rfl] at r;exact r
def aA.wk{fl eK:Bool}{d:List D}{v:List V}{As:List ah}(h:eK=true->fl=true)(r:aA K Hs H fl d v As):aA K Hs H eK d v As:=by
 cases eK with
 |false=>exact r.Vw
 |true=>rw[h rfl] at r;exact r
def aA.at(r:aA K Hs H fl ds vs As)(e:ds[j]? = some d)(n:As.Nodup) :
  ∃ (v:V) (B:List ah),vs[j]? = some v/\cE K Hs H fl d v B/\B.Sublist As/\∀ bq H2 eK d2 B2,bI Hs bq->(eK=true->fl=true)->cE K bq H2 eK d2 v B2->B2.Nodup->(∀ a∈B2,a∈As->a∈B)->(∀ a∈As,a∉B->H2 a=H a) ->
   ∃ hV,hV.Nodup/\(∀ a∈hV,(a∈As/\a∉B)\/a∈B2)/\(B2≠[]->hV≠[])/\aA K bq H2 eK (ds.set j d2) vs hV:=by
 induction ds generalizing vs As j with
 |nil=>simp at e
 |cons x ds ih =>
  obtain⟨v,us,A,B,rfl,rfl,r,rs⟩:=r.c;walk_at"c"
  cases j with
  |zero =>
   simp at e;subst e;refine⟨v,A,rfl,r,OO _ _,λbq H2 eK d2 B2 s2 hf r2 nr dj st=>⟨B2++B,gV.mpr ⟨nr,n2,λa ha b hb e=>?_⟩,λa h=>?_,λne z=>ne (Rr.mp z).1,.cons r2 ((rs.wk hf).fA s2 λa h=>st a (fh _ h) λz=>n3 a z a h rfl)⟩⟩
   ·subst e;exact n3 a (dj a ha (fh _ hb)) a hb rfl
   ·rcases eL.mp h with w|w
    ·exact .inr w
    ·exact .inl ⟨fh _ w,λz=>n3 a z a w rfl⟩
  |succ j =>
   obtain⟨v,C,a,b,c,g⟩:=ih rs (by simpa using e) n2;have hA:∀ x∈A,x∉C:=λx hx m=>n3 x hx x (c.subset m) rfl;refine⟨v,C,by simpa using a,b,c.trans (lI _ _),λbq H2 eK d2 B2 s2 hf r2 nr dj st=>?_⟩;obtain⟨hV,x,y,w,z⟩:=g bq H2 eK d2 B2 s2 hf r2 nr (λa ha m=>dj a ha (fh _ m)) λa ha m=>st a (fh _ ha) m;refine⟨A++hV,gV.mpr ⟨n1,x,λa ha b hb e=>?_⟩,λa h=>?_,λne q=>w ne (Rr.mp q).2,.cons ((r.wk hf).fA s2 λa h=>st a (kr _ h) (hA a h)) z⟩
   ·subst e;rcases y a hb with q|q
    ·exact n3 a ha a q.1 rfl
    ·exact hA a ha (dj a q (kr _ ha))
   ·rcases eL.mp h with q|q
    ·exact .inl ⟨kr _ q,hA a q⟩
    ·exact(y a q).imp (λq=>⟨fh _ q.1,q.2⟩) id
def I_{α:Type}{xs:List α}{i:Int}{x:α}(h:fF xs i=some x):∃ j,qV xs.length i=some j/\xs[j]? = some x:=by
 unfold L2.fF at h
 cases e:qV xs.length i with
 |none=>rw[e] at h;cases h
 |some j=>rw[e] at h;exact⟨j,rfl,h⟩
def Iz{α:Type}{xs:List α}{i:Int}{j:Nat}{x:α}(h:qV xs.length i=some j)(e:xs[j]? = some x):fF xs i=some x:=by unfold L2.fF;rw[h];exact e
end
section
variable {X:Cx}{K:aI}{e:Expr}{p:WP}{te:WE}{apos hZ pos:Pos}
def mH(fl:Bool)(m:Md)(d:D):Option Bool:=match m with
 |.sh=>some (fl && d.flat)
 |.ow b=>some (fl && b)
 |_=>bif d.flat then some fl else none
def yk(p:WP)(te:WE):WS:=λE ρ=>p ρ λfl d up=>match d with
 |.list xs=>te ρ λm x=>xs.length<bS/\match mH fl m x with
  |some eK=>E.nx (up eK (.list (xs++[x])))
  |none=>False
 |_=>False
def Ce(w:Wf Hs H)(r:RM K Hs H m d v As)(h:mH fl m d=some eK):(eK=true->fl=true)/\∃ B,B.Sublist As/\cE K Hs H eK d v B:=by
 cases m with
 |sh =>cases h;exact⟨λz=>by cases fl<;>simp_all,[],Dp _,.sh (λz=>by cases fl<;>simp_all) r.2⟩
 |ow b =>cases h;refine⟨λz=>by cases fl<;>simp_all,As,List.Sublist.refl _,r.1.wk λz=>by cases fl<;>simp_all⟩
 |_ =>
  cases hf:d.flat with
  |true =>simp only[mH,hf,cond_true,Option.some.injEq] at h;subst h;exact⟨id,[],Dp _,.sh (λ_=>hf) (r.flat w hf)⟩
  |false=>simp[mH,hf] at h
def Place.put(pl:Place K bP H1 σ fl (.list xs) v up)(g:fN bP H1 bq H2) :
  ∃ a vs A,v=.ref a/\H2 a=some (.lst vs)/\H1 a=some (.lst vs)/\aA K bq H2 fl xs vs A/\(a :: A).Nodup/\(∀ x∈a :: A,bq x=none/\H1 x≠none) /\
   ∀ eK ys ws C,(eK=true->fl=true)->aA K bq H2 eK ys ws C->ws.length<=bS->C.Nodup->a∉C->(∀ x∈C,x∈A\/(bq x=none/\H1 x=none))->∃ fT,eI K bq (up eK (.list ys)) σ (upd H2 a (.lst ws)) fT:=by
 obtain⟨iL,r,ne,nd,own,k⟩:=pl.ex
 cases r with
 |sh hf _=>exact absurd rfl ne
 |@list a vs _ A hz e rs =>
  have e2:=g.all _ _ e;have rs2:=rs.grow g.sh g.all;have hw:∀ x∈a :: A,bP x=none/\H1 x≠none:=λx hx=>⟨own x hx,by
   rcases fm.mp hx with rfl|hx
   ·rw[e];exact λz=>nomatch z
   ·exact(rs.own x hx).ne⟩
  exact⟨a,vs,A,rfl,e2,e,rs2,nd,λx hx=>⟨g.qc (hw x hx).1 (hw x hx).2,(hw x hx).2⟩,λeK ys ws C hf oB hz ndC VJ hC=>k.node g hw (λ_ z=>by cases z) hf (.list hz fq (oB.fA (bI.refl _) λb hb=>dP λz=>VJ (by subst z;exact hb))) ndC VJ hC⟩
def Place.isL(w:Wf bP H1)(pl:Place K bP H1 σ fl (.list xs) v up):∃ a vs,v=.ref a/\fE K H1 a vs:=by
 obtain⟨iL,r,ne,nd,own,k⟩:=pl.ex
 cases r with
 |sh hf _=>exact absurd rfl ne
 |list hz e rs=>exact⟨_,_,rfl,.inl (.inl e)⟩
def d_ (ho:QP X K e p) (he:QE X K e2 te) (hK:autoParam (X.K=K) bv) (hs:autoParam (og (.Call (.Attribute e "append" apos) [e2] [] hZ) none pos.line X.env=pure false) bv) (xh:autoParam (yB e "append" X.env (cp e X.env)=cp e X.env) bv) (zk:autoParam (((i3 hZ (bT [e2] X.env)).all (λx=>!x.1) && (backToKw hZ (CF [] X.env)).all (λx=>x.1.isSome)
   && decide ([e2].length+([]:List xD).length+(if ([]:List xD).isEmpty then 0 else 1)<30))=true) bv)
  (hline:autoParam ((apos.endLine == hZ.line)=true) bv) (yn:autoParam (bT (e2 :: []) X.env=(false,cp e2 X.env) :: bT [] X.env) bv) (BO:autoParam ((i3 hZ (bT [] X.env)).any (·.1)=false) bv) :
  QS X K L (.Expr (.Call (.Attribute e "append" apos) [e2] [] hZ) pos) (yk p te):=by
 subst hK;refine PS.imp (LB (Sf PySem.F.plainAttrs_list PySem.F.slot_list_append PySem.F.type_list_append Sg ho (kR he oo yn) xh zk hline yn BO) hs) λD σ H hx=>cz hx λHs ρ ai E sr h k1 k2 k3 k4=>?_;refine⟨Hs,ρ,ai,_,sr,h,λv H1 bP fl d up g1 p1 q1=>?_⟩
 cases d with
 |list xs =>
  obtain⟨a1,vs1,e1,s1⟩:=p1.isL g1.wf;subst e1;refine⟨.inl ⟨rfl,_,s1⟩,bP,ρ,ai,_,sr.grow g1,q1,λy H2 bq m x As g2 r2 f2 q2=>?_⟩;obtain⟨hz,q2⟩:=q2;obtain⟨a,vs,A,ea,e2,_,rs,nd,hn,k⟩:=p1.put g2;cases ea;have hl:=rs.length;refine⟨a1,vs,y,rfl,rfl,e2,by lia,?_⟩
  cases hp:mH fl m x with
  |none=>rw[hp] at q2;exact q2.elim
  |some eK =>
   rw[hp] at q2;obtain⟨hf,B,sb,rb⟩:=Ce g2.wf r2 hp;obtain⟨na,nA⟩:=oj.mp nd;have fB:∀ x∈B,bq x=none/\H1 x=none:=λx hx=>f2.2 x (sb.subset hx);have c1:(A++(B++[])).Nodup:=by rw[mM];exact gV.mpr ⟨nA,sb.nodup f2.1,λx hx z hz e=>by subst e;exact(hn x (fo _ hx)).2 (fB x hz).2⟩
   have c2:a1∉A++(B++[]):=by
    rw[mM];intro m;rcases eL.mp m with m|m
    ·exact na m
    ·exact(hn _ fw).2 (fB _ m).2
   have c3:∀ x∈A++(B++[]),x∈A\/(bq x=none/\H1 x=none):=by rw[mM];intro x hx;exact(eL.mp hx).imp id λz=>fB x z
   obtain⟨fT,k8⟩:=k eK (xs++[x]) (vs++[y]) (A++(B++[])) hf ((rs.wk hf).append (.cons rb .nil)) (by rw[mI];simp;lia) c1 c2 c3;exact k1 σ _ bq _ fT (g1.sh.trans g2.sh) k8 q2
 |_=>exact q1.elim
def u9(p:WP):WS:=λE ρ=>p ρ λfl d up=>match d with
 |.list xs=>E.nx (up fl (.list []))
 |_=>False
def CV (ho:QP X K e p) (hK:autoParam (X.K=K) bv) (hs:autoParam (og (.Call (.Attribute e "clear" apos) [] [] hZ) none pos.line X.env=pure false) bv) (xh:autoParam (yB e "clear" X.env (cp e X.env)=cp e X.env) bv) (hline:autoParam ((apos.endLine == hZ.line)=true) bv):QS X K L (.Expr (.Call (.Attribute e "clear" apos) [] [] hZ) pos) (u9 p):=by
 refine PS.imp (LB (iO' PySem.F.plainAttrs_list PySem.F.slot_list_clear PySem.F.type_list_clear iQ' ho xh hline) hs) λD σ H hx=>cz hx λHs ρ ai E sr h k1 k2 k3 k4=>?_;refine⟨Hs,ρ,ai,_,sr,h,λv H1 bP fl d up g1 p1 q1=>?_⟩
 cases d with
 |list xs =>obtain⟨a,vs,A,ea,e2,_,rs,nd,hn,k⟩:=p1.put (fN.refl g1.wf);subst ea;refine⟨.inl ⟨rfl,_,.inl (.inl e2)⟩,a,vs,rfl,rfl,e2,?_⟩;obtain⟨fT,k8⟩:=k fl [] [] [] id .nil (fR _) nv (by simp) (λx hx=>nomatch hx);exact k1 σ _ bP _ fT g1.sh k8 q1
 |_=>exact q1.elim
def yG:WE:=λ_ Q=>Q (.ow true) (.dK [])
def wX:WE:=λ_ Q=>Q (.ow true) (.dT [])
def Hw:QE X K (.Dict [] [] pos) yG:=PE.imp je' λσ H Qv hx=>iP hx λHs ρ ai Q sr h f=>λa ha =>
 f _ _ Hs (.ow true) (.dK []) [a] (Qq sr.wf ha λ_ z=>nomatch z) ⟨.dK ⟨fR _,λp hp=>nomatch hp⟩ fq .nil,by simp⟩ ⟨by simp,λb hb=>by
  obtain rfl:b=a:=by simpa using hb
  exact⟨sr.wf.sub.free ha,ha⟩⟩ h
def Ej:QE X K (.Dict [] [] pos) wX:=PE.imp jf' λσ H Qv hx=>iP hx λHs ρ ai Q sr h f=>λa ha =>
 f _ _ Hs (.ow true) (.dT []) [a] (Qq sr.wf ha λ_ z=>nomatch z) ⟨.dT ⟨fR _,λp hp=>nomatch hp⟩ fq .nil,by simp⟩ ⟨by simp,λb hb=>by
  obtain rfl:b=a:=by simpa using hb
  exact⟨sr.wf.sub.free ha,ha⟩⟩ h
section
variable {κ:Type}[DecidableEq κ]
def yI{Hs H:Hp}{fl:Bool}{k:κ}{d:D}{v:V}(r:cE K Hs H fl d v []){ae:List (κ × D)}{vs:List V}{As:List ah}(qs:aA K Hs H fl (ae.map (·.2)) vs As):∃ ws Bs,Bs.Sublist As /\
  aA K Hs H fl ((ae.map λkv=>if kv.1=k then (kv.1,d) else kv).map (·.2)) ws Bs/\((ae.map (·.1)).zip vs).map (λkv=>if kv.1=k then (kv.1,v) else kv)=(((ae.map λkv=>if kv.1=k then (kv.1,d) else kv)).map (·.1)).zip ws:=by
 induction ae generalizing vs As with
 |nil=>exact⟨[],[],Dp _,.nil,rfl⟩
 |cons p ae ih =>
  obtain⟨u,vs,A,B,rfl,rfl,q,qs⟩:=aA.c qs;obtain⟨ws,Bs,sb,rs,e⟩:=ih qs;by_cases h:p.1=k
  ·refine⟨v :: ws,[]++Bs,by simpa using sb.trans (lI _ _),?_,?_⟩
   ·simp only[jS,h,if_true];exact .cons r rs
   ·simp only[jS,Rx,h,if_true,e]
  ·refine⟨u :: ws,A++Bs,sb.append_left _,?_,?_⟩
   ·simp only[jS,h,if_false];exact .cons q rs
   ·simp only[jS,Rx,h,if_false,e]
def BX{Hs H:Hp}{fl:Bool}{k:κ}{d:D}{v:V}(r:cE K Hs H fl d v []){ae:List (κ × D)}{vs:List V}{As:List ah}(q:aA K Hs H fl (ae.map (·.2)) vs As) :
  ∃ ws Bs,Bs.Sublist As/\aA K Hs H fl ((tN ae k d).map (·.2)) ws Bs/\putK ((ae.map (·.1)).zip vs) k v=((tN ae k d).map (·.1)).zip ws:=by
 have hl:=q.length;rw[dc] at hl;unfold putK tN;rw[Gq hl]
 cases h:ae.any λkv=>decide (kv.1=k) with
 |true =>exact yI r q
 |false =>
  simp only[uj,if_false];refine⟨vs++[v],As++([]++[]),by simp,?_,?_⟩
  ·rw[pz];exact q.append (.cons r .nil)
  ·rw[pz,List.zip_append (by rw[dc];exact hl)];rfl
def zZ{Hs H:Hp}{fl:Bool}{k:κ}{d:D}{v:V}(r:Rep K Hs d v)(hd:d.flat=true){ae:List (κ × D)}{vs:List V}{As:List ah}(q:aA K Hs H fl (ae.map (·.2)) vs As) :
  ∃ ws Bs,Bs.Sublist As/\aA K Hs H fl ((tN ae k d).map (·.2)) ws Bs/\putK ((ae.map (·.1)).zip vs) k v=((tN ae k d).map (·.1)).zip ws:=BX (.sh (λ_=>hd) r) q
def t8{β:Type}(ae:List (κ × β))(k:κ)(v:β):(tN ae k v).length<=ae.length+1:=by
 unfold tN;split
 ·rw[dc];exact Nat.le_add_right _ _
 ·simp
def uB{β:Type}{ae:List (κ × β)}{k:κ}{v:β}{p:κ × β}(h:p∈tN ae k v):p.1=k\/p.1∈ae.map (·.1):=by
 unfold tN at h;split at h
 ·obtain⟨q,hq,e⟩:=fP.mp h;by_cases hk:q.1=k
  ·rw[if_pos hk] at e;subst e;exact .inl hk
  ·rw[if_neg hk] at e;subst e;exact .inr (fP.mpr ⟨q,hq,rfl⟩)
 ·rcases eL.mp h with h|h
  ·exact .inr (fP.mpr ⟨p,h,rfl⟩)
  ·have:p=(k,v):=by simpa using h
   subst this;exact .inl rfl
end
def CN(p:WP)(tk tv:WE):WS:=λE ρ=>tv ρ λ_ x=>p ρ λfl d up=>tk ρ λ_ y=>x.flat=true/\match d with
 |.dK ae=>∃ k,y.key1=some k/\ae.length<bS/\E.nx (up fl (.dK (tN ae k x)))
 |.dT ae=>match y with
  |.tup ys=>∃ ks,dW ys=some ks/\ae.length<bS/\E.nx (up fl (.dT (tN ae ks x)))
  |_=>False
 |_=>False
def rM(r:Rep K H d v)(h:d.key1=some k):sD k=true:=by
 cases r<;>simp[D.key1] at h<;>subst h
 ·rfl
 ·rename_i hz;simp[sD,hz]
def uY(r:ck K H ds vs)(h:dW ds=some ks):ks.length=ds.length/\∀ k∈ks,sD k=true:=by
 induction ds generalizing vs ks with
 |nil=>simp[dW] at h;subst h;exact⟨rfl,λk hk=>nomatch hk⟩
 |cons d ds ih =>
  obtain⟨u,us,rfl,r,rs⟩:=r.c;unfold dW at h
  cases e1:d.key1 with
  |none=>rw[e1] at h;simp at h
  |some k =>
   cases e2:dW ds with
   |none=>rw[e1,e2] at h;simp at h
   |some k6 =>
    rw[e1,e2] at h;simp at h;subst h;obtain⟨a,b⟩:=ih rs e2;refine⟨by simp[a],λj hj=>?_⟩;rcases fm.mp hj with rfl|hj
    ·exact rM r e1
    ·exact b j hj
def yU{a b c:Expr}{tk tv:WE}{pos':Pos}(ho:QP X K a p)(hi:QE X K b tk)(hv:QE X K c tv)(hs:autoParam (og c (some (.Subscript a b pos')) pos.line X.env=pure false) bv)(hu:X.A.units+64<gv:=by assumption) :
  QS X K L (.Assign [.Subscript a b pos'] c pos) (CN p tk tv):=by
 refine PS.imp (ja' (by lia) ho hi hv hs) λD σ H hx=>cz hx λHs ρ ai E sr h k1 k2 k3 k4=>?_;walk_at"j";obtain⟨hx,q3⟩:=q3;have rx:Rep K gi x v:=((r1.grow g2).grow g3).flat g3.wf hx;have ry:=r3.rep g3.wf;obtain⟨iL,r,ne,nd,own,k⟩:=p2.ex;have sm:bI Hs gi:=(g1.sh.trans g2.sh).trans g3.sh;have lv:∀ x∈iL,bq x=none/\H2 x≠none:=λx hx=>⟨own x hx,(r.own x hx).ne⟩
 cases r with
 |sh hf _=>exact absurd rfl ne
 |@dK a0 vs ae A kk e rs =>
  obtain⟨key,hk,hz,q⟩:=q3;have ey:=ry.key hk;subst ey;obtain⟨na,nA⟩:=oj.mp nd;obtain⟨ws,Bs,sb,oB,ew⟩:=zZ rx hx (rs.grow g3.sh g3.all);have hl:ae.length=vs.length:=by have:=rs.length;rwa[dc] at this
  refine⟨a0,_,rfl,HV.k (g3.all _ _ e) (by rw[RC,dc,<- hl,RL];exact hz),?_⟩;rw[ew];have nB:a0∉Bs:=λz=>na (sb.subset z);obtain⟨fT,k8⟩:=k.node g3 lv (λ_ z=>by cases z) id (.dK ⟨kL (t8 _ _ _) hz,λp hp=>(uB hp).elim (λz=>by rw[z];exact rM ry hk) λz=>by obtain⟨p',iF,e'⟩:=fP.mp z;rw[<- e'];exact kk.2 p' iF⟩ fq (oB.fA (bI.refl _) λb hb=>dP λz=>nB (by subst z;exact hb))) (sb.nodup nA) nB λb hb=>.inl (sb.subset hb)
  exact k1 σ _ gi _ fT sm k8 q
 |@dT a0 vs ae A kk e rs =>
  cases ry with
  |tup t1 e1 Qw =>
   obtain⟨key,hk,hz,q⟩:=q3;obtain⟨b,eb,e5⟩:=Rep.vw (.tup t1 e1 Qw) hk;cases eb;obtain⟨kl,ko⟩:=uY Qw hk;obtain⟨na,nA⟩:=oj.mp nd;obtain⟨ws,Bs,sb,oB,ew⟩:=zZ rx hx (rs.grow g3.sh g3.all);have hl:ae.length=vs.length:=by have:=rs.length;rwa[dc] at this
   refine⟨a0,_,rfl,HV.t (g3.all _ _ e) e5 (by rw[RC,dc,<- hl,RL];exact hz),?_⟩;rw[ew];have nB:a0∉Bs:=λz=>na (sb.subset z);have l1:=Qw.length;obtain⟨fT,k8⟩:=k.node g3 lv (λ_ z=>by cases z) id (.dT ⟨kL (t8 _ _ _) hz,λp hp=>(uB hp).elim (λz=>by rw[z];exact⟨by lia,ko⟩) λz=>by obtain⟨p',iF,e'⟩:=fP.mp z;rw[<- e'];exact kk.2 p' iF⟩ fq (oB.fA (bI.refl _) λb hb=>dP λz=>nB (by subst z;exact hb))) (sb.nodup nA) nB λb hb=>.inl (sb.subset hb)
   exact k1 σ _ gi _ fT sm k8 q
  |_=>exact q3.elim
 |_=>exact q3.elim
end
abbrev WJ:=Env->Str->(Str->Prop)->Prop
section
variable {X:Cx}{K:aI}{e:Expr}{te:WE}{j:WJ}
def kI:List D->Option (List Str)
 |[]=>some []
 |.str x :: xs=>(kI xs).map (x :: ·)
 |_ :: _=>none
def tY(to te:WE):WE:=λρ Q=>to ρ λ_ x=>match x with
 |.str z=>te ρ λ_ y=>match y with
  |.list ys=>∃ zs,kI ys=some zs/\(zs.map (·.length)).sum+zs.length*z.length<=16777216/\Q .sh (.str (Str.join z zs))
  |_=>False
 |_=>False
def Cu(r:ck K H ds vs)(q:Vals vs us)(h:kI ds=some zs):StrsAre us zs:=by
 induction ds generalizing vs us zs with
 |nil =>simp[kI] at h;subst h;have:=r.n0;subst this;rw[Paired.n0 q];exact .nil
 |cons d ds ih =>
  obtain⟨v,vs,rfl,r1,rs⟩:=r.c;obtain⟨u,us,rfl,q1,qs⟩:=Paired.c q
  cases r1 with
  |str hz =>
   simp only[kI] at h
   cases e:kI ds with
   |none=>rw[e] at h;cases h
   |some ys =>rw[e] at h;cases h;obtain⟨t,rfl⟩:=q1;exact .cons _ t (ih rs qs e)
  |_=>simp[kI] at h
def FZ (hK:autoParam (X.K=K) bv):Zk X "str.join" (λx xs H Q=>∃ z a ds vs zs,x=.str z/\xs=[.ref a]/\fE K H a vs/\ck K H ds vs/\kI ds=some zs/\(zs.map (·.length)).sum+zs.length*z.length<=16777216/\Q (.str (Str.join z zs)) H):=by subst hK;intro pins s σ H x xs v us Q I rx rs h;obtain⟨z,a,ds,vs,zs,rfl,rfl,hs,rr,e,hz,q⟩:=h;obtain⟨t,rfl⟩:=rx;obtain⟨u,rfl,ru⟩:=Vals.one rs;cases ru;obtain⟨its,rv,pl,_⟩:=I.list hs;exact join_list pl.isList (by simpa using Cu rr rv e) hz λt' k=>⟨.str _,H,I.tok _,⟨t',rfl⟩,by rw[show Txt.join z zs=Str.join z zs from StrLaws.glued_eq_join z zs];exact q⟩
theorem uv:∀ {zs:List Str},(Str.join z zs).length<=(zs.map (·.length)).sum+zs.length*z.length
 |[]=>by exact kL (show Str.empty.length<=0 by decide) (fR _)
 |[x]=>by simp[Str.join]
 |x :: y :: r=>by have ih:=uv (z:=z) (zs:=y :: r);show(x++z++Str.join z (y :: r)).length<=_;rw[bJ,bJ];simp only[jS,List.sum_cons,oi,Nat.add_mul,Nat.one_mul] at ih ⊢;lia
def Ir(ho:QE X K o to)(he:QE X K e te)(hK:autoParam (X.K=K) bv) (xh:autoParam (yB o "join" X.env (cp o X.env)=cp o X.env) bv) (zk:autoParam (((i3 hZ (bT [e] X.env)).all (λx=>!x.1) && (backToKw hZ (CF [] X.env)).all (λx=>x.1.isSome)
   && decide ([e].length+([]:List xD).length+(if ([]:List xD).isEmpty then 0 else 1)<30))=true) bv)
  (hline:autoParam ((apos.endLine == hZ.line)=true) bv) (yn:autoParam (bT (e :: []) X.env=(false,cp e X.env) :: bT [] X.env) bv) (BO:autoParam ((i3 hZ (bT [] X.env)).any (·.1)=false) bv) :
  QE X K (.Call (.Attribute o "join" apos) [e] [] hZ) (tY to te):=by
 subst hK;refine PE.imp (Sf PySem.F.plainAttrs_str PySem.F.slot_str_join PySem.F.type_str_join FZ ho (kR he oo yn) xh zk hline yn BO) λσ H Qv hx=>iP hx λHs ρ ai Q sr h f=>?_;walk_at"d";have r:=r1.rep g1.wf
 cases r with
 |str hz =>
  refine⟨rfl,bP,ρ,ai,_,sr.grow g1,q1,λy H2 bq m2 x2 hV g2 r2 f2 q2=>?_⟩;have rr:=r2.rep g2.wf
  cases rr with
  |list z s rs =>obtain⟨zs,e,hz,q⟩:=q2;exact⟨_,_,_,_,zs,rfl,rfl,s,rs,e,hz,Fin.sh (Fin.after f (g1.trans g2)) g2.wf (.str (kL uv (by rw[kB];exact hz))) q⟩
  |_=>exact q2.elim
 |_=>exact q1.elim
def vw(k:List Key):D:=.tup (k.map md)
def Oo:W1:=λ_ x Q=>match x with
 |.list xs=>∃ ks sh,xs=ks.map vw/\(∀ k∈ks,lT k=true :: sh)/\∀ ms:List (List Key),ms.Perm ks->(ms.Pairwise λa b=>kz b a=false)->Q (.ow true) (.list (ms.map vw))
 |_=>False
def zE{H:Hp}{ks:List Key}{vs:List V}(r:ck K H (ks.map md) vs):vs=ks.map kV/\∀ k∈ks,sD k=true:=by
 induction ks generalizing vs with
 |nil=>exact⟨r.n0,λk h=>nomatch h⟩
 |cons k ks ih =>
  obtain⟨u,us,rfl,r1,rs⟩:=ck.c r;obtain⟨e,o⟩:=ih rs;subst e
  cases k with
  |inl i=>cases r1;exact⟨rfl,λj hj=>by rcases fm.mp hj with rfl|hj;rfl;exact o j hj⟩
  |inr x =>
   cases r1 with
   |str hz=>exact⟨rfl,λj hj=>by rcases fm.mp hj with rfl|hj;simp[sD,hz];exact o j hj⟩
def GF{H:Hp}{ks:List (List Key)}{vs:List V}(r:ck K H (ks.map vw) vs):c7 H vs ks/\∀ k∈ks,k.length<=bS/\∀ j∈k,sD j=true:=by
 induction ks generalizing vs with
 |nil=>rw[r.n0];exact⟨.nil,λk h=>nomatch h⟩
 |cons k ks ih =>
  obtain⟨u,us,rfl,r1,rs⟩:=ck.c r;obtain⟨t,o⟩:=ih rs
  cases r1 with
  |tup hz e q =>
   obtain⟨e2,o2⟩:=zE q;subst e2;exact⟨.cons ⟨_,rfl,e⟩ t,λj hj=>by
    rcases fm.mp hj with rfl|hj
    ·exact⟨by simpa using hz,o2⟩
    ·exact o j hj⟩
def pG:ly "sorted" = some (.builtin "sorted"):=by decide +kernel
end
def shF(A:List ah)(F:Nat->List ah):Nat->List ah
 |0=>A
 |i+1=>F i
def Nc(K:aI)(Hs H:Hp)(ρ:Env)(σ:St)(ai:List ah)(F:Nat->List ah):Prop:=(∀ i fl d,ρ[i]? = some (some (.ow fl d))->∃ v,σ[i]? = some (some v)/\F i≠[]/\cE K Hs H fl d v (F i)) /\ (∀ i,(F i).Sublist ai)/\∀ i j,i≠j->∀ a∈F i,a∉F j
def Nc.skip{K:aI}{F:Nat->List ah}(h:Nc K Hs H ρ σ ai F)(no:∀ fl d,o≠some (.ow fl d)):Nc K Hs H (o :: ρ) (u :: σ) ai (shF [] F):=by
 obtain⟨a,b,c⟩:=h;refine⟨λi fl d e=>?_,λi=>?_,λi j ne x hx=>?_⟩
 ·cases i with
  |zero=>simp at e;exact absurd e (no fl d)
  |succ i=>exact a i fl d (by simpa using e)
 ·cases i with
  |zero=>exact Dp _
  |succ i=>exact b i
 ·cases i with
  |zero=>exact zD hx
  |succ i =>
   cases j with
   |zero=>exact λz=>zD z
   |succ j=>exact c i j (λz=>ne (by rw[z])) x hx
def Nc.own{K:aI}{ai B:List ah}{F:Nat->List ah}(h:Nc K Hs H ρ σ ai F)(n:(B++ai).Nodup)(hs:∀ fl d,sl=.ow fl d->B≠[]/\cE K Hs H fl d v B):Nc K Hs H (some sl :: ρ) (some v :: σ) (B++ai) (shF B F):=by
 obtain⟨a,b,c⟩:=h;walk_at"c";refine⟨λi fl d e=>?_,λi=>?_,λi j ne x hx=>?_⟩
 ·cases i with
  |zero=>simp at e;exact⟨v,rfl,hs fl d e⟩
  |succ i=>exact a i fl d (by simpa using e)
 ·cases i with
  |zero=>exact OO _ _
  |succ i=>exact(b i).trans (lI _ _)
 ·cases i with
  |zero =>
   cases j with
   |zero=>exact absurd rfl ne
   |succ j=>exact λz=>n3 x hx x ((b j).subset z) rfl
  |succ i =>
   cases j with
   |zero=>exact λz=>n3 x z x ((b i).subset hx) rfl
   |succ j=>exact c i j (λz=>ne (by rw[z])) x hx
def SR.addrs{K:aI}(s:SR K Hs H ρ σ ai):ai.Nodup->∃ F:Nat->List ah,Nc K Hs H ρ σ ai F:=by
 induction s with
 |nil=>exact λ_=>⟨λ_=>[],λi fl d e=>by simp at e,λi=>Dp _,λi j _ a h=>zD h⟩
 |non s ih =>intro n;obtain⟨F,h⟩:=ih n;exact⟨_,h.skip λfl d z=>by cases z⟩
 |sh r s ih =>intro n;obtain⟨F,h⟩:=ih n;exact⟨_,h.skip λfl d z=>by cases z⟩
 |xc s ih =>intro n;obtain⟨F,h⟩:=ih n;exact⟨_,h.skip λfl d z=>by cases z⟩
 |ow ne r s ih =>intro n;obtain⟨F,h⟩:=ih (gV.mp n).2.1;exact⟨_,h.own n λfl d e=>by cases e;exact⟨ne,r⟩⟩
 |lk ne r s ih =>intro n;obtain⟨F,h⟩:=ih (gV.mp n).2.1;exact⟨_,h.own n λfl d e=>by cases e⟩
 |ob r s ih =>intro n;obtain⟨F,h⟩:=ih (gV.mp n).2.1;exact⟨_,h.own n λfl d e=>by cases e⟩
abbrev Plan:=List (WE ⊕ Nat)
def VM:Plan->List Nat
 |[]=>[]
 |.inl _ :: r=>VM r
 |.inr i :: r=>i :: VM r
def VN:Option (Option Sl)->Option (Md × D)
 |some (some (.sh d))=>some (.sh,d)
 |some (some (.ow fl d))=>some (.ow fl,d)
 |_=>none
def jT:Plan->Env->(List (Md × D)->Prop)->Prop
 |[],_,Q=>Q []
 |.inl t :: r,ρ,Q=>t ρ λm x=>jT r ρ λps=>Q ((m,x) :: ps)
 |.inr i :: r,ρ,Q=>match VN ρ[i]? with
  |some p=>jT r ρ λps=>Q (p :: ps)
  |none=>False
def tpM(K:aI)(pl:Plan):TA:=λσ H Qv=>∃ (Hs:Hp) (ρ:Env) (ai:List ah) (F:Nat->List ah) (Q:List (Md × D)->Prop),eI K Hs ρ σ H ai/\(∀ i fl d,ρ[i]? = some (some (.ow fl d))->∃ v,σ[i]? = some (some v)/\F i≠[]/\cE K Hs H fl d v (F i))/\(∀ i,(F i).Sublist ai)/\(∀ i j,i≠j->∀ a∈F i,a∉F j) /\
 jT pl ρ Q/\∀ vs H' aE ps As,fN Hs H aE H'->B3 K aE H' ps vs As->As.Nodup->(∀ a∈As,aE a=none/\(H a=none\/∃ i∈VM pl,a∈F i))->Q ps->Qv vs H'
abbrev QM(X:Cx)(K:aI)(es:List Expr)(pl:Plan):Prop:=PA X es (tpM K pl)
section
variable {X:Cx}{K:aI}{e:Expr}{es:List Expr}{te:WE}{pl:Plan}{pos:Pos}
def Dw:QM X K [] []:=PA.imp oo λσ H Qv hx=>by obtain⟨Hs,ρ,ai,F,Q,sr,h1,h2,h3,h,f⟩:=hx;exact f [] H Hs [] [] (fN.refl sr.wf) .nil nv (λa h=>zD h) h
def ag'(ha:QE X K e te)(hr:QM X K es pl)(hs:autoParam (bT (e :: es) X.env=(false,cp e X.env) :: bT es X.env) bv):QM X K (e :: es) (.inl te :: pl):=by
 refine PA.imp (kR ha hr hs) λσ H Qv dS=>?_;obtain⟨Hs,ρ,ai,F,Q,sr,h1,h2,h3,h,f⟩:=dS;refine⟨Hs,ρ,ai,_,sr,h,λv H1 bP m x As g1 r1 f1 q1=>⟨bP,ρ,ai,F,_,sr.grow g1,(λi fl d e=>?_),h2,h3,q1,λvs H2 bq ps Bs g2 r2 nr o2 q2=>?_⟩⟩
 ·obtain⟨v,a,b,c⟩:=h1 i fl d e;exact⟨v,a,b,c.grow g1.sh g1.all⟩
 ·refine f (v :: vs) H2 bq _ _ (g1.trans g2) (.cons (r1.grow g2) r2) (gV.mpr ⟨f1.1,nr,λa ha b hb e=>?_⟩) (λa ha=>?_) q2
  ·subst e;rcases (o2 a hb).2 with z|⟨i,_,z⟩
   ·exact(r1.own a ha).ne z
   ·exact(sr.sr.own a ((h2 i).subset z)).ne (f1.2 a ha).2
  ·rcases eL.mp ha with z|z
   ·exact⟨g2.qc (f1.2 a z).1 (r1.own a z).ne,.inl (f1.2 a z).2⟩
   ·exact⟨(o2 a z).1,(o2 a z).2.imp g1.all.free id⟩
def dO'(ha:PE X e (kc i))(hr:QM X K es pl)(hi:i∉VM pl:=by decide)(hs:autoParam (bT (e :: es) X.env=(false,cp e X.env) :: bT es X.env) bv):QM X K (e :: es) (.inr i :: pl):=by
 refine PA.imp (kR ha hr hs) λσ H Qv dS=>?_;obtain⟨Hs,ρ,ai,F,Q,sr,h1,h2,h3,h,f⟩:=dS;unfold jT at h
 cases hm:VN ρ[i]? with
 |none=>rw[hm] at h;exact h.elim
 |some p =>
  rw[hm] at h;have key:∃ v A,σ[i]? = some (some v)/\RM K Hs H p.1 p.2 v A/\A.Nodup/\∀ a∈A,a∈F i:=by
   cases e1:ρ[i]? with
   |none=>rw[e1] at hm;cases hm
   |some o =>
    cases o with
    |none=>rw[e1] at hm;cases hm
    |some sl =>
     cases sl with
     |sh d =>rw[e1] at hm;cases hm;obtain⟨v,a,b⟩:=sr.sr.get e1;exact⟨v,[],a,⟨rfl,b⟩,nv,λa h=>nomatch h⟩
     |lk a fl d=>rw[e1] at hm;cases hm
     |xc a=>rw[e1] at hm;cases hm
     |ob a p=>rw[e1] at hm;cases hm
     |ow fl d =>rw[e1] at hm;cases hm;obtain⟨v,a,b,c⟩:=h1 i fl d e1;exact⟨v,F i,a,⟨c,b⟩,(h2 i).nodup sr.nI,λa h=>h⟩
  obtain⟨v,A,ev,rm,QB,hA⟩:=key;refine⟨v,ev,Hs,ρ,ai,F,_,sr,h1,h2,h3,h,λvs H2 bq ps Bs g2 r2 nr o2 q2=>?_⟩;refine f (v :: vs) H2 bq _ _ g2 (.cons (rm.grow g2) r2) (gV.mpr ⟨QB,nr,λa ha b hb e=>?_⟩) (λa ha=>?_) q2
  ·subst e;rcases (o2 a hb).2 with z|⟨j,hj,z⟩
   ·exact(rm.own a ha).ne z
   ·exact h3 i j (λz=>hi (by rw[z];exact hj)) a (hA a ha) z
  ·rcases eL.mp ha with z|z
   ·have:a∈ai:=(h2 i).subset (hA a z);exact⟨g2.qc (sr.own a this) (sr.sr.own a this).ne,.inr ⟨i,fw,hA a z⟩⟩
   ·exact⟨(o2 a z).1,(o2 a z).2.imp id λ⟨j,hj,q⟩=>⟨j,fo _ hj,q⟩⟩
def Cq(pl:Plan):WS:=λE ρ=>jT pl ρ λps=>ps.length<=bS/\E.rt (vz ps) (.tup (ps.map (·.2)))
def yt{x1}(h:QM X K es pl):QS X K L (.Return (some (.Tuple es x1 rh')) pos) (Cq pl):=by
 refine PS.imp (R6 (Ze h)) λD σ H hx=>cz hx λHs ρ ai E sr h k1 k2 k3 k4=>?_;obtain⟨F,h1,h2,h3⟩:=sr.sr.addrs sr.nI;refine⟨Hs,ρ,ai,F,_,sr,h1,h2,h3,h,λvs H1 bP ps As g1 r1 nd1 o1 q1=>?_⟩;obtain⟨hz,q⟩:=q1;have rl:=r1.reps g1.wf;have hl:=rl.length;rw[dc] at hl;refine⟨by lia,λp hp=>?_⟩;have g2:=S0 (vs:=vs) g1.wf hp;have sm:bI Hs (upd bP p (.tup vs)):=g1.sh.trans g2.sh;unfold vz at q
 cases e1:ps.all B6 with
 |true =>rw[e1] at q;exact k4 _ _ _ .sh _ [] sm g2.wf ⟨rfl,.tup (by lia) fq ((r1.sh g1.wf e1).same g2.sh)⟩ nv (λa h=>nomatch h) q
 |false =>
  rw[e1] at q
  cases e2:ps.all MZ with
  |false =>rw[e2] at q;exact k4 _ _ _ .bo _ [] sm g2.wf ⟨rfl,.tup (by lia) fq (rl.same g2.all)⟩ nv (λa h=>nomatch h) q
  |true =>
   rw[e2] at q;obtain⟨Bs,sb,nz,ro⟩:=r1.ow g1.wf e2 λz=>z;have i6:eh (ps.map (·.2))=false:=by
    cases hf:eh (ps.map (·.2)) with
    |false=>rfl
    |true=>rw[pq hf] at e1;cases e1
   exact k4 _ _ _ (.ow _) _ Bs sm g2.wf ⟨.tup (by lia) fq i6 (ro.grow g2.sh g2.all),nz e1⟩ (sb.nodup nd1) (λa ha=>g2.qc (o1 a (sb.subset ha)).1 (ro.own a ha).ne) q
end
def dP':gp:=λds Q=>∃ ns:List Int,ds=[.list (ns.map .int)]/\ns.length<=63/\∀ m,Q m (.bl true)
theorem ints_rep{K:aI}:∀ (ns:List Int),ck K H (ns.map .int) (ns.map V.int)
 |[]=>.nil
 |n :: ns=>.cons (.int n) (ints_rep ns)
def Ad{K:aI}{H:Hp}{a:ah}{ns:List Int}{E:XK}(hl:ns.length<=63)(hS:fE K H a (ns.map V.int)):fO K dP' [.ref a] H (λv _=>v=.bl true) E:=by refine⟨[.list (ns.map .int)],λ_ d=>d=.bl true,.cons (.list (by rw[dc];exact kL hl (by decide)) hS (ints_rep ns)) .nil,⟨ns,rfl,hl,λ_=>rfl⟩,?_⟩;intro v H' aE m d As s w r nd own q;subst q;have:=r.rep w;cases this;rfl
abbrev sg(x:Str):List Nat:=x.cps.toList
def uR(x y:Str):sg (x++y)=sg x++sg y:=by show(x.cps++y.cps).toList=_;simp[sg]
def empty_app(x:Str):Str.empty++x=x:=x_ (by rw[<- sg,uR];rfl)
def okS(x:Str):Prop:=∀ c∈sg x,c<0x110000
def DX(x:Str):PyData.strOk x=true↔okS x:=by unfold PyData.strOk okS sg;rw[Array.all_eq_true'];simp
def le'{α:Type}(x:α)(l:List α):fF (x :: l) 0=some x:=by simp[L2.fF,qV]
def lf'{α:Type}(x y:α)(l:List α):fF (x :: y :: l) 1=some y:=by have:=vi (xs:=x :: y :: l) (j:=1) rfl;exact this
def lg'{α:Type}(x y z:α)(l:List α):fF (x :: y :: z :: l) 2=some z:=by have:=vi (xs:=x :: y :: z :: l) (j:=2) rfl;exact this
def JQ:Str.empty.length=0:=by decide
end L2.Q
namespace L2.Q.R
section
variable {f:D->Prop}{k:Kt f}
def PX:dk (.bl b) k=f (.bl b):=rfl
def Ol:dk (.int i) k=f (.int i):=rfl
def Oz:dk (.str x) k=f (.str x):=rfl
def M9:dk (.list xs) k=f (.list xs):=rfl
def Nk:dk (.tup xs) k=f (.tup xs):=rfl
def Ql:dk (.dK xs) k=f (.dK xs):=rfl
def Qj:dk (.dT xs) k=f (.dT xs):=rfl
end
def K1{f:Bool->Prop}{k:Kt f}:dk true k=f true:=rfl
def Ky{f:Bool->Prop}{k:Kt f}:dk false k=f false:=rfl
def Ov{d:D}{f:Md × D->Prop}{k:Kt f}:dk (Md.sh,d) k=f (.sh,d):=rfl
def OD{b:Bool}{d:D}{f:Md × D->Prop}{k:Kt f}:dk (Md.ow b,d) k=f (.ow b,d):=rfl
def Nz{d:D}{f:Option Sl->Prop}{k:Kt f}:dk (some (.sh d)) k=f (some (.sh d)):=rfl
def NT{b:Bool}{d:D}{f:Option Sl->Prop}{k:Kt f}:dk (some (.ow b d)) k=f (some (.ow b d)):=rfl
def Nh{p:Md × D}{f:Option (Md × D)->Prop}{k:Kt f}:dk (some p) k=f (some p):=rfl
def O4{p:Bool}{f:Option Bool->Prop}{k:Kt f}:dk (some p) k=f (some p):=rfl
def NQ{d:D}{f:Option (Option Sl)->Prop}{k:Kt f}:dk (some (some (.sh d))) k=f (some (some (.sh d))):=rfl
def Oh{b:Bool}{d:D}{f:Option (Option Sl)->Prop}{k:Kt f}:dk (some (some (.ow b d))) k=f (some (some (.ow b d))):=rfl
section
variable {E:jt}{ρ:Env}{Q:Md->D->Prop}{B:Bool->Prop}{t u:WS}{te ta tb tc to':WE}{tt tu:WT}{tar:WA}{i j n:Nat}{m m':Md}{d:D}{sp:gp}{p:WP}{R:List (Md × D)->Prop}
def N6:a_ E ρ=E.nx ρ:=rfl
def OJ:c9 t u E ρ=t { E with nx:=u E } ρ:=rfl
def Qi:gd te E ρ=te ρ E.rt:=rfl
def Nu:BV te E ρ=te ρ λ_ _=>E.nx ρ:=rfl
def put(sl:Option Sl)(k:Sl->Prop):Prop:=match sl with
 |some s=>k s
 |none=>False
def NB:put (some (.sh d)) k=k (.sh d):=rfl
def Ow:put (some (.ow b d)) k=k (.ow b d):=rfl
def O1:gI i te E ρ=te ρ λm d=>dk (asg m d) (f:=λo=>put o λsl=>E.nx (ρ.set i (some sl))) ⟨⟩:=rfl
def Ph:ip tt t u E ρ=tt ρ λb=>dk b (f:=λb=>if b=true then t E ρ else u E ρ) ⟨⟩:=rfl
def Lf:zb E ρ=False:=rfl
def NP:pF i E ρ=dk ρ[i]? (f:=λo=>match o with
 |some (some (.sh d))=>E.rt .sh d
 |some (some (.ow fl d))=>E.rt (.ow fl) d
 |_=>False) ⟨⟩:=rfl
def Nt:Cq pl E ρ=jT pl ρ λps=>ps.length<=bS/\E.rt (vz ps) (.tup (ps.map (·.2))):=rfl
def Kh:jT [] ρ R=R []:=rfl
def M8:jT (.inl te :: r) ρ R=te ρ λm x=>jT r ρ λps=>R ((m,x) :: ps):=rfl
def mov(o:Option (Md × D))(k:Md × D->Prop):Prop:=match o with
 |some p=>k p
 |none=>False
def KC{p:Md × D}{k:Md × D->Prop}:mov (some p) k=k p:=rfl
def KZ:jT (.inr i :: r) ρ R=dk (VN ρ[i]?) (f:=λo=>mov o λp=>jT r ρ λps=>R (p :: ps)) ⟨⟩:=rfl
def P0:sM i t E ρ=t E (S8 i ρ):=rfl
-- tests
def bol(d:D)(B:Bool->Prop):Prop:=match d with
 |.bl b=>B b
 |_=>False
def N5:bol (.bl b) B=B b:=rfl
def wB_:wB te ρ B=te ρ λ_ x=>dk x (f:=λx=>bol x B) ⟨⟩:=rfl
def Qm:Qt te ρ B=te ρ λ_ x=>dk x (f:=λx=>∃ b,VD x=some b/\B b) ⟨⟩:=rfl
def O_:rS tt ρ B=tt ρ λc=>B (!c):=rfl
def li':tP tt tu ρ B=tt ρ λc=>dk c (f:=λc=>if c=true then B true else tu ρ B) ⟨⟩:=rfl
def Qc:Bn ρ B=B true:=rfl
-- expressions
def Pb:av i ρ Q=dk ρ[i]? (f:=λo=>Vz o Q) ⟨⟩:=rfl
def Mr:Vz (some (some (.sh d))) Q=Q .sh d:=rfl
def LC:Vz (some (some (.ow b d))) Q=Q .bo d:=rfl
def wC_:wC d ρ Q=Q .sh d:=rfl
def lk':aS f ta tb ρ Q=ta ρ λm x=>tb ρ λn y=>f m x n y Q:=rfl
def ll':eA f ta ρ Q=ta ρ λm x=>f m x Q:=rfl
def MK:gR f g ta tb tc ρ Q=ta ρ λm x=>tb ρ λn y=>f m x n y λ_ z=>dk z (f:=λz=>bol z λk=>dk k (f:=λk=>if k=true then tc ρ λl w=>g n y l w Q else Q .sh (.bl false)) ⟨⟩) ⟨⟩:=by rfl
def Oe:dZ ta tb ρ Q=ta ρ λ_ x=>dk x (f:=λx=>bol x λc=>dk c (f:=λc=>if c=true then tb ρ Q else Q .sh (.bl false)) ⟨⟩) ⟨⟩:=by unfold dZ dk bol;rfl
def O5:VC ta tb ρ Q=ta ρ λ_ x=>dk x (f:=λx=>bol x λc=>dk c (f:=λc=>if c=true then Q .sh (.bl true) else tb ρ Q) ⟨⟩) ⟨⟩:=by unfold VC dk bol;rfl
def Ou:zX ta ρ Q=ta ρ λ_ x=>dk x (f:=λx=>bol x λc=>Q .sh (.bl (!c))) ⟨⟩:=by unfold zX dk bol;rfl
def Oq:aq te tar ρ R=te ρ λm x=>tar ρ λps=>R ((m,x) :: ps):=rfl
def PB:dy ρ R=R []:=rfl
def PL:k7 tar ρ Q=tar ρ λps=>ps.length<=bS/\Q (vz ps) (.tup (ps.map (·.2))):=rfl
def P_:n9 tar ρ Q=tar ρ λps=>ps.length<=bS/\Q (Gk ps) (.list (ps.map (·.2))):=rfl
def Og:aU sp tar ρ Q=tar ρ λps=>sp (ps.map (·.2)) λm d=>dk (m,d) (f:=λp=>Q (An p.1 p.2) p.2) ⟨⟩:=rfl
-- operators
section
variable {x y:Str}{a b:Int}{xs ys:List D}{ae:List (Key × D)}
def Mw:mG m (.int a) m' (.int b) Q=Q .sh (.int (a+b)):=rfl
def MJ:mG m (.str x) m' (.str y) Q=(x.length+y.length<=bS/\Q .sh (.str (x++y))):=rfl
def MT:mG m (.list xs) m' (.list ys) Q=(xs.length+ys.length<=bS/\((eh xs=true/\eh ys=true/\Q (.ow true) (.list (xs++ys)))\/(m=.sh/\m'=.sh/\Q (.ow false) (.list (xs++ys))))):=rfl
def La:mG m (.tup xs) m' (.tup ys) Q=(xs≠[]/\xs.length+ys.length<=bS/\eh xs=true/\eh ys=true/\Q .sh (.tup (xs++ys))):=rfl
def K7:IE m (.int a) m' (.int b) Q=Q .sh (.int (a-b)):=rfl
def Mu:zS m (.int a) m' (.int b) Q=(HL a b/\Q .sh (.int (a*b))):=rfl
def Mz:sL m (.int a) m' (.int b) Q=((0<b/\b<1073741824)/\Q .sh (.int (a / b))):=rfl
def Ly:kH m (.int a) m' (.int b) Q=(0<b/\Q .sh (.int (a % b))):=rfl
def Ox:MV m (.int a) m' (.int b) Q=Q .sh (.bl (decide (a<b))):=rfl
def M_:B5 m (.int a) m' (.int b) Q=Q .sh (.bl (decide (a<=b))):=rfl
def Ot:MX m (.int a) m' (.int b) Q=Q .sh (.bl (decide (b<a))):=rfl
def Nr:ic m (.int a) m' (.int b) Q=Q .sh (.bl (decide (a=b))):=rfl
def Oi:ic m (.str x) m' (.str y) Q=Q .sh (.bl (decide (x=y))):=rfl
def Pj:ic m (.list xs) m' d Q=(fI 12 (.list xs)=true/\fI 12 d=true/\Q .sh (.bl (nK (.list xs) d))):=by cases d<;>rfl
def O7:ic m (.tup xs) m' d Q=(fI 12 (.tup xs)=true/\fI 12 d=true/\Q .sh (.bl (nK (.tup xs) d))):=by cases d<;>rfl
def Oa:MY m (.int a) m' (.int b) Q=Q .sh (.bl (!decide (a=b))):=rfl
def O8:MY m (.list xs) m' d Q=(fI 12 (.list xs)=true/\fI 12 d=true/\Q .sh (.bl (!nK (.list xs) d))):=by cases d<;>rfl
def Qg:D7 neg m (.str x) m' (.str y) Q=Q .sh (.bl (if neg then !D2 x y else D2 x y)):=rfl
def Qo:D7 neg m d m' (.tup ys) Q=(gq d=true/\ys.all gq=true/\Q .sh (.bl (if neg then !inD d ys else inD d ys))):=rfl
def Py:D7 neg m d m' (.dK ae) Q = ∃ k,d.key1=some k/\Q .sh (.bl (if neg then !(gE ae k).isSome else (gE ae k).isSome)):=rfl
def Pq:FU m (.int a) Q=Q .sh (.int (-a)):=rfl
def Pu:dn m (.list xs) m' (.int a) Q = ∃ d,fF xs a=some d/\dk d (f:=λd=>Q (xt m d) d) ⟨⟩:=rfl
def Qa:dn m (.tup xs) m' (.int a) Q = ∃ d,fF xs a=some d/\dk d (f:=λd=>Q (xt m d) d) ⟨⟩:=rfl
def Pz:dn m (.str x) m' (.int a) Q = ∃ c,fF x.cps.toList a=some c/\Q .sh (.str ⟨#[c]⟩):=rfl
def Oc:ki m (.str x) Q=Q .sh (.int x.length):=rfl
def Nq:ki m (.list xs) Q=Q .sh (.int xs.length):=rfl
def Oj:ki m (.tup xs) Q=Q .sh (.int xs.length):=rfl
def Pn{T:String}:tS T m d Q=Q .sh (.bl (P1 d.ty T)):=rfl
def Ln:vJ m (.list xs) Q=((eh xs=true/\Q (.ow true) (.list xs))\/(m=.sh/\Q (.ow false) (.list xs))):=rfl
def L_:vJ m (.tup xs) Q=((eh xs=true/\Q (.ow true) (.list xs))\/(m=.sh/\Q (.ow false) (.list xs))):=rfl
def lm':z5 te tl th ρ Q=te ρ λm x=>tl ρ λlo=>th ρ λhi=>S6 m x lo hi Q:=rfl
def KJ:d8 ρ O=O none:=rfl
def int'(d:D)(k:Int->Prop):Prop:=match d with
 |.int i=>k i
 |_=>False
def Nx:int' (.int a) k=k a:=rfl
def Om:dB te ρ O=te ρ λ_ x=>dk x (f:=λx=>int' x λi=>O (some i)) ⟨⟩:=by unfold dB dk int';rfl
def Pg{lo hi:Option Int}:S6 m (.str x) lo hi Q=Q .sh (.str (oq x lo hi)):=rfl
def Px{lo hi:Option Int}:S6 m (.list xs) lo hi Q=((eh xs=true/\Q (.ow true) (.list (rV xs lo hi)))\/(m=.sh/\Q (.ow false) (.list (rV xs lo hi)))):=rfl
def Qp{lo hi:Option Int}:S6 m (.tup xs) lo hi Q=(eh xs=true/\¬ (HT.dz xs.length 0 lo=0/\HT.dz xs.length xs.length hi=xs.length)/\Q .sh (.tup (rV xs lo hi))):=rfl
end
-- texts
def Td(d:D)(k:Str->Prop):Prop:=match d with
 |.str x=>k x
 |_=>False
def N_:Td (.str x) k=k x:=rfl
def Au(d:D)(k:List D->Prop):Prop:=match d with
 |.list x=>k x
 |_=>False
def K6:Au (.list x) k=k x:=rfl
def M7:tY to' te ρ Q=to' ρ λ_ x=>dk x (f:=λx=>Td x λz=>te ρ λ_ y=>dk y (f:=λy=>Au y λys=>∃ zs,kI ys=some zs/\(zs.map (·.length)).sum+zs.length*z.length<=16777216/\Q .sh (.str (Str.join z zs))) ⟨⟩) ⟨⟩:=by unfold tY dk Td Au;rfl
-- places
def ln'{P:Bool->D->(Bool->D->Env)->Prop}:sQ i ρ P=dk ρ[i]? (f:=λo=>match o with
 |some (some (.ow fl d))=>P fl d λeK d2=>ρ.set i (some (.ow eK d2))
 |_=>False) ⟨⟩:=rfl
def fl'(o:Option Bool)(k:Bool->Prop):Prop:=match o with
 |some b=>k b
 |none=>False
def KN:fl' (some b) k=k b:=rfl
def O3:yk p te E ρ=p ρ λfl d up=>dk d (f:=λd=>Au d λxs=>te ρ λm x=>xs.length<bS/\dk (mH fl m x) (f:=λo=>fl' o λeK=>E.nx (up eK (.list (xs++[x])))) ⟨⟩) ⟨⟩:=by unfold yk dk Au fl';rfl
def Lp:u9 p E ρ=p ρ λfl d up=>dk d (f:=λd=>Au d λxs=>E.nx (up fl (.list []))) ⟨⟩:=by unfold u9 dk Au;rfl
def KY:yG ρ Q=Q (.ow true) (.dK []):=rfl
def LR:wX ρ Q=Q (.ow true) (.dT []):=rfl
def dct(d y:D)(k1:List (Key × D)->Prop)(k2:List (List Key × D)->List D->Prop):Prop:=match d with
 |.dK ae=>k1 ae
 |.dT ae=>match y with
  |.tup ys=>k2 ae ys
  |_=>False
 |_=>False
def Qk:dct (.dK ae) y k1 k2=k1 ae:=rfl
def Nm:CN p tk tv E ρ=tv ρ λ_ x=>p ρ λfl d up=>tk ρ λ_ y=>x.flat=true/\dk d (f:=λd=>dct d y (λae=>∃ k,y.key1=some k/\ae.length<bS/\E.nx (up fl (.dK (tN ae k x)))) (λae ys=>∃ ks,dW ys=some ks/\ae.length<bS/\E.nx (up fl (.dT (tN ae ks x))))) ⟨⟩:=by rfl
-- loops
variable {LQ:List D->Prop}
def Pr:sP wi g b E ρ=wi ρ λds=>lq g b E ds ρ:=rfl
def Lz:fJ te ρ LQ=te ρ λm d=>qY m/\dk d (f:=λd=>Au d LQ) ⟨⟩:=by unfold fJ dk Au;rfl
def Nn(d:D)(k:List D->Prop):Prop:=match d with
 |.tup x=>k x
 |_=>False
def Nb:Nn (.tup x) k=k x:=rfl
def N8:Am te ρ LQ=te ρ λm d=>qY m/\dk d (f:=λd=>Nn d LQ) ⟨⟩:=by unfold Am dk Nn;rfl
def Ng:Bm te ρ LQ=te ρ λ_ d=>dk d (f:=λd=>Td d λz=>LQ (ab' z)) ⟨⟩:=by unfold Bm dk Td;rfl
def K8:d9 te ρ LQ=te ρ λ_ d=>dk d (f:=λd=>int' d λj=>j<=16777216/\-(2 ^ 62)<=j/\LQ (gF 0 j.toNat)) ⟨⟩:=by unfold d9 dk int';rfl
def Mm:tZ ta tb ρ LQ=ta ρ λ_ x=>tb ρ λ_ y=>dk x (f:=λx=>int' x λi=>dk y (f:=λy=>int' y λj=>j-i<=16777216/\(-(2 ^ 62)<=i/\i<2 ^ 62/\-(2 ^ 62)<=j/\j<2 ^ 62)/\LQ (gF i (j-i).toNat)) ⟨⟩) ⟨⟩:=by unfold tZ dk int';rfl
def KD:qY .sh=True:=rfl
def Kz:qY (.ow b)=True:=rfl
def gN_:gN i d ρ N=N (ρ.set i (some (.sh d))):=rfl
def gT_:gT n gs d ρ N=dk d (f:=λd=>Nn d λds=>ds.length=n/\gs ds ρ N) ⟨⟩:=by unfold gT dk Nn;rfl
def Nj:gC g gs (d :: ds) ρ N=g d ρ λdf=>gs ds df N:=rfl
def Qn:wA [] ρ N=N ρ:=by simp[wA]
def Np:eE wi g tt te tn ix ρ Q=wi ρ λds=>h_ g tt te ds (D_ tn ix ρ) λout=>Q (.ow true) (.list out):=rfl
end
def B{c:Bool}{f:Bool->Prop}{k:Kt f}(h1:c=true->f true)(h2:c=false->f false):dk c k:=by
 cases c with
 |true=>exact h1 rfl
 |false=>exact h2 rfl
def D{p:Prop}[Decidable p]{f:Bool->Prop}{k:Kt f}(h1:p->f true)(h2:¬ p->f false):dk (decide p) k :=
 B (λh=>h1 (of_decide_eq_true h)) λh=>h2 (of_decide_eq_false h)
def T{c:Bool}{f:Bool->Prop}{k:Kt f}(h:c=true)(h1:f true):dk c k:=by subst h;exact h1
def F{c:Bool}{f:Bool->Prop}{k:Kt f}(h:c=false)(h1:f false):dk c k:=by subst h;exact h1
end L2.Q.R
namespace L2
end L2
namespace L2.Q
section
variable {X:Cx}{K:aI}{e e2:Expr}{te IG:WE}{pos p:Pos}
def wD1(tk tv:WE):WE:=λρ Q=>tk ρ λ_ x=>tv ρ λ_ y=>∃ k,x.key1=some k/\y.flat=true/\Q (.ow true) (.dK [(k,y)])
def Hv(he:QE X K e te)(MA:QE X K e2 IG):QE X K (.Dict [some e] [e2] pos) (wD1 te IG):=by
 refine PE.imp (jj' (jh' he MA jg') rfl rfl (by simp) (by simp)) λσ H Qv hx=>iP hx λHs ρ ai Q sr h fin=>λa ha=>?_;have g0:fN Hs H Hs (upd H a (.dK [])):=Qq sr.wf ha λ_ z=>nomatch z;refine⟨Hs,ρ,ai,_,sr.grow g0,h,λv H1 bP m x As g1 r1 f1 q1=>⟨bP,ρ,ai,_,(sr.grow g0).grow g1,q1,λu H2 bq n y Bs g2 r2 f2 q2=>?_⟩⟩;obtain⟨k,ek,fy,q2⟩:=q2;have rx:=(r1.grow g2).rep g2.wf;have ex:=rx.key ek;subst ex;have ry:=r2.flat g2.wf fy;have gg:=(g0.trans g1).trans g2;have e2:H2 a=some (.dK []):=g2.all _ _ (g1.all _ _ fq);have nH:Hs a=none:=sr.wf.sub.free ha;have n2:bq a=none:=g2.qc (g1.qc nH (by rw[fq];exact λz=>nomatch z)) (by rw[g1.all _ _ fq];exact λz=>nomatch z);refine⟨e2,[(k,u)],rfl,by simp,?_⟩;have g3:fN Hs H bq (upd H2 a (.dK [(k,u)])):=⟨λb o hb=>by rw[dP (y4 hb ha)];exact gg.all b o hb,gg.sh,⟨λb o hb=>by rw[dP (y4 hb n2)];exact gg.wf.sub b o hb,λb vs hb=>by
  by_cases z:b=a
  ·subst z;rw[fq] at hb;cases hb
  ·rw[dP z] at hb;exact gg.wf.j3 b vs hb⟩,gg.new⟩
 exact fin (.ref a) _ bq (.ow true) (.dK [(k,y)]) [a] g3 ⟨.dK ⟨by rw[kB];simp,λp hp=>by
  have:p=(k,y):=by simpa using hp
  subst this;exact rM rx ek⟩ fq (.cons (.sh (λ_=>fy) ry) .nil),by simp⟩ ⟨by simp,λb hb=>by
  obtain rfl:b=a:=by simpa using hb
  exact⟨n2,ha⟩⟩ q2
def xQ:W1:=λ_ x Q=>match x with
 |.list xs=>∃ ks b,xs=ks.map md/\(∀ k∈ks,vv k=b)/\∀ ms:List Key,ms.Perm ks->(ms.Pairwise λa b=>tI b a=false)->Q (.ow true) (.list (ms.map md))
 |.dK ae=>∃ b,(∀ p∈ae,vv p.1=b)/\∀ ms:List Key,ms.Perm (ae.map (·.1))->(ms.Pairwise λa b=>tI b a=false)->Q (.ow true) (.list (ms.map md))
 |_=>False
def Cv:FV K (uq K) xQ:=by
 walk_at"o";have r1:=rx.rep w
 cases r1 with
 |list z s q =>obtain⟨ks,b,rfl,hb,h⟩:=h;obtain⟨e,ok⟩:=zE q;subst e;exact⟨ks,b,.inl s,hb,λms l pm pw hl=>f.lst w (by rw[dc,pm.length_eq];simpa using z) (gJ λk hk=>ok k (pm.mem_iff.mp hk)) (gw ms) (h ms pm pw) l hl⟩
 |@dK a vs ae kk e q =>
  obtain⟨b,hb,h⟩:=h;have hlen:=q.length;rw[dc] at hlen;have ez:(((ae.map (·.1)).zip vs).map (·.1))=ae.map (·.1):=by rw[Wy (by rw[dc];lia)]
  refine⟨ae.map (·.1),b,.inr ⟨_,e,ez.symm⟩,λk hk=>?_,λms l pm pw hl=>?_⟩
  ·obtain⟨p,hp,rfl⟩:=fP.mp hk;exact hb p hp
  ·refine f.lst w (by rw[dc,pm.length_eq,dc];exact kk.1) (gJ λk hk=>?_) (gw ms) (h ms pm pw) l hl;obtain⟨p,hp,rfl⟩:=fP.mp (pm.mem_iff.mp hk);exact kk.2 p hp
 |_=>exact h.elim
def Ko (hc:autoParam (X.calm=true) bv) (hK:autoParam (X.K=K) bv):lS X (.builtin "sorted") (uq K):=by subst hK;exact wg hc
end
abbrev WIL:=Env->(List D->Prop)->Prop
end L2.Q
namespace L2.Q.R
section
variable {ρ:Env}{Q:Md->L2.Q.D->Prop}{te tk:WE}{d:L2.Q.D}{LQ:List L2.Q.D->Prop}
def lr':wD1 tk te ρ Q=tk ρ λ_ x=>te ρ λ_ y=>∃ k,x.key1=some k/\y.flat=true/\Q (.ow true) (.dK [(k,y)]):=rfl
def Mx:vf te ρ LQ=te ρ λ_ d=>dk d (f:=λd=>Au d λxs=>LQ (kZ xs)) ⟨⟩:=by unfold vf dk Au;rfl
def MP:lY te ρ LQ=te ρ λ_ d=>dk d (f:=λd=>Au d LQ) ⟨⟩:=by unfold lY dk Au;rfl
def Ny:pU te ρ LQ=te ρ λ_ d=>dk d (f:=λd=>Nn d LQ) ⟨⟩:=by unfold pU dk Nn;rfl
end
end L2.Q.R
namespace L2
open Builtin Builtin.Str Builtin.Int
section
variable {prog:cv}{w:cK}{A:eB}{E:ag->ay->Prop}{s:ay}{x:Str}{n:Int}{t u:Tok}
def rT(bX:MulOk x n)(h:∀ t' k,Q (.str (Txt.mul x n) t') { s with toks:=k }):bE (aT prog w) A (qA .Mult (.int n u) (.str x t)) Q E s:=by
 refine lm_binaryOp_repeat_right (by decide) (λs'=>typeIs_int s' n u) (typeIs_str s x t) F.fills_int_mul noFill_str_mul F.slot_int_mul lm_noRepeat_int repeat_str F.slot_int_index.lookup (call_gives F.slot_int_mul (typeIs_int s n u) F.entry_int_mul (F.args_int_mul_2 _ _) (AutoIntG3.int___mul___int_str_0 n u x t) ⟨rfl,typeIs_str _ x t,call_gives F.slot_str_mul (typeIs_str _ x t) F.entry_str_mul (F.args_str_mul_2 _ _) (gives_str_mul x n t u bX.1 bX.2.1 bX.2.2) ?_⟩)
 unfold Txt.mul at h;by_cases h1:n<1
 ·rw[if_pos h1];have h':=h s.toks (s.toks+1);rw[if_pos h1] at h';exact⟨by decide,h'⟩
 ·rw[if_neg h1];refine post_val_or_made (λhc=>fits_reps (bX.2.2 h1 (by simpa using hc))) λt' k=>?_;have h':=h t' k;rw[if_neg h1] at h';exact h'
end
def AA(n:Int)(z:Str):Str:=⟨(List.replicate n.toNat z.cps.toList).flatten.toArray⟩
theorem mU(xs:Array Nat):∀ (k:Nat) (acc:Array Nat),(List.replicate k xs).foldl (· ++ ·) acc=acc++(List.replicate k xs.toList).flatten.toArray
 |0,acc=>by simp
 |k+1,acc=>by rw[Wq,AU,mU xs k,Wq,List.flatten_cons];apply Array.ext';simp
def Ez(h:1<=n):Txt.mul z n=AA n z:=by
 unfold Txt.mul AA;rw[if_neg (by lia)];by_cases h1:n=1
 ·subst h1;simp
 ·by_cases h0:z.length=0
  ·have hz:z.cps = #[]:=RP h0;rw[if_pos (by simp[h0])];obtain⟨c⟩:=z;cases hz;simp
  ·rw[if_neg (by simp[h1,h0]),mU];simp
def G3:R2:=λx y H Q=>match x,y with
 |.int n,.str z=>(1<=n/\n<=100/\z.length<=100)/\Q (.str (AA n z)) H
 |_,_=>False
section
variable {X:Cx}
def GD:eP X (qA .Mult) G3:=by
 walk_at"e";unfold G3 at h;split at h
 ·rename_i n z;obtain⟨⟨h1,h2,h3⟩,q⟩:=h;obtain⟨t,rfl⟩:=rx;obtain⟨t',rfl⟩:=ry;refine rT ⟨?_,λ_ _=>?_,λ_ _=>?_⟩ λt' k=>⟨.str (AA n z),H,I.tok _,⟨_,by rw[Ez h1]⟩,q⟩
  ·have a1:¬ n < -(2 ^ 63:Int):=by lia
   have a2:¬ n >= 2 ^ 63:=by lia
   rw[decide_eq_false a1,decide_eq_false a2];rfl
  ·have:(2 ^ 63-1:Int) / 100<=(2 ^ 63-1) / n:=by apply Int.le_ediv_of_mul_le (by lia);lia
   lia
  ·have:z.length*n.toNat<=100*100:=Nat.mul_le_mul h3 (by lia);have hs:=kB;simp only[tooLong,decide_eq_false_iff_not];lia
 ·exact h.elim
def rX(ns:List Int):Nat->Int
 |0=>0
 |1=>ns.getD 0 0
 |j+2=>if ns.getD (j+1) 0>rX ns (j+1) then ns.getD (j+1) 0 else rX ns (j+1)
end
section
variable {prog:cv}{w:cK}{A:eB}{R:Result->ay->Prop}{I:ah}{fp wr:List ah}{P:Nat->ag->Prop}{St:Nat->dr->Prop}
def wY(W:Walks prog w A.in1 I fp wr ns.length P St)(ls':∀ i v,P i v->∃ t,v=.int (ns.getD i 0) t)(S:ah)(B7:S∉fp)(d:ag) :
  ∀ (k j:Nat) (s:ay) (c:Nat) (items:Array ag),ns.length-j=k->j<=ns.length->St j s.heap->((j=0/\items = #[])\/(0<j/\∃ t,items = #[.int (rX ns j) t,.int (rX ns j) t])) ->
  s.heap.get? S=some { cls:=.type "list",dict:=none,data:=.seq items c,slots:=#[] } ->
  (∀ v h' tk,(ns=[]/\v=d\/ns≠[]/\∃ t,v=.int (rX ns ns.length) t)->(∀ b o,b∉wr->b≠S->s.heap.get? b=some o->h'.get? b=some o)->R (.ok (.ret v)) { s with heap:=h',toks:=tk }) ->
  ua (aT prog w) A (.builtin "max.loop" ⟨[.ref I,.none,.ref S],[("default",d)]⟩) R s:=by
 have hSw:S∉wr:=λh=>B7 (W.sub _ h);have lu':(toString "max" ++ toString ".loop" : String) = "max.loop" := by decide
 intro k
 induction k with
 |zero =>
  intro j s c items hk hj kE hit hS hR;have mz:j=ns.length:=by lia
  refine BG F.entry_max_loop ?_;refine ax (OG hS rfl ?_);refine ax (wpAny_tryCatch (W.done s _ _ (mz ▸ kE) λh' tk kg=>?_));have AB:=kg S _ hSw hS;rcases hit with⟨h0,rfl⟩|⟨h0,t,rfl⟩
  ·exact ax (CH (bG (hR d _ tk (.inl ⟨Rq.mp (by lia),rfl⟩) λb o Bz vx e=>kg b o Bz e)))
  ·show bE _ A.in1 (updateSeq S (λ_=>#[]) >>= _) _ _ _;refine ax ?_;refine Rn AB rfl (ax (wpAny_letGo (bG ?_)));refine hR _ _ tk (.inr ⟨λz=>by rw[z] at mz;simp at mz;lia,t,by rw[mz]⟩) λb o Bz vx e=>(DB _ _ (Ne.symm vx)).trans (kg b o Bz e)
 |succ k ih =>
  intro j s c items hk hj kE hit hS hR;have eR:j<ns.length:=by lia
  refine BG F.entry_max_loop ?_;refine ax (OG hS rfl ?_);refine ax (wpAny_tryCatch (W.item j s _ _ eR kE λv h' tk hP Te kg=>?_));have AB:=kg S _ hSw hS;obtain⟨t1,rfl⟩:=ls' j v hP;rcases hit with⟨h0,rfl⟩|⟨h0,t,rfl⟩
  ·subst h0;show bE _ A.in1 (updateSeq S (λ_=>#[_,_]) >>= _) _ _ _;refine ax ?_;refine Rn AB rfl ?_;refine bG ⟨CD F.plain_max_loop _,ih 1 _ _ _ (by lia) eR (W.frame _ _ _ Te λb QC o e=>?_) (.inr ⟨by lia,t1,rfl⟩) (GY _ AB rfl) λv' Nw Tf ox Tg=>?_⟩
   ·exact(DB _ _ (λh:S=b=>B7 (by rw[h];exact QC))).trans e
   ·exact hR v' Nw Tf ox λb o Bz vx e=>Tg b o Bz vx ((DB _ _ (Ne.symm vx)).trans (kg b o Bz e))
  ·obtain⟨j,rfl⟩:∃ i,j=i+1:=⟨j-1,by lia⟩
   show bE _ A.in1 (tryCatch (holding [_,_] (richCompare .Gt _ _ >>= _)) _ >>= _) _ _ _;refine ax (wpAny_tryCatch (xC (ax (CmpOf.ints_gt (P:=λi v=>(i=0/\v=.int (ns.getD (j+1) 0) t1)\/(i=1/\v=.int (rX ns (j+1)) t)) (λi=>if i=0 then ns.getD (j+1) 0 else rX ns (j+1)) (λi v h=>?_) 0 1 _ _ _ _ _ (.inl ⟨rfl,rfl⟩) (.inr ⟨rfl,rfl⟩) ?_))))
   ·rcases h with⟨rfl,rfl⟩|⟨rfl,rfl⟩<;>exact⟨_,rfl⟩
   refine ax (xC (AJ ?_));refine ax (wpAny_letGo (bG ?_));simp only[if_true,show ¬ 1=0 by decide,if_false];have e2:rX ns (j+1+1)=if ns.getD (j+1) 0>rX ns (j+1) then ns.getD (j+1) 0 else rX ns (j+1):=rfl;by_cases hb:ns.getD (j+1) 0>rX ns (j+1)
   ·rw[if_pos hb] at e2;simp only[hb,decide_true,if_true];refine ax ?_;refine Rn AB rfl (ax (wpAny_letGo ?_));refine bG ⟨CD F.plain_max_loop _,ih (j+2) _ _ _ (by lia) eR (W.frame _ _ _ Te λb QC o e=>?_) (.inr ⟨by lia,t1,by rw[e2]⟩) (GY _ AB rfl) λv' Nw Tf ox Tg=>?_⟩
    ·exact(DB _ _ (λh:S=b=>B7 (by rw[h];exact QC))).trans e
    ·exact hR v' Nw Tf ox λb o Bz vx e=>Tg b o Bz vx ((DB _ _ (Ne.symm vx)).trans (kg b o Bz e))
   ·rw[if_neg hb] at e2;simp only[hb,decide_false,uj,if_false];exact ax (wpAny_letGo (bG ⟨CD F.plain_max_loop _,ih (j+2) _ c _ (by lia) eR Te (.inr ⟨by lia,t,by rw[e2]⟩) AB λv' Nw Tf ox Tg=>hR v' Nw Tf ox λb o Bz vx e=>Tg b o Bz vx (kg b o Bz e)⟩))
end
end L2
namespace L2
section
variable {X:Cx}{K:aI}{e e2:Expr}{te td:TE}{p pos ak':Pos}
def za (a v:ag):argsOk "max" ⟨[a],[(Str.ofString "default",v)]⟩:=by unfold argsOk;kernel_rfl
def Cj(K:aI):R2:=λx y H Q=>match x,y with
 |.ref a,.int d=>∃ ns:List Int,fE K H a (ns.map V.int)/\Q (.int (if ns=[] then d else rX ns ns.length)) H
 |_,_=>False
def zp(h:Cj K x y H Q):∃ a d ns,x=.ref a/\y=.int d/\fE K H a (ns.map V.int)/\Q (.int (if ns=[] then d else rX ns ns.length)) H:=by
 unfold Cj at h;split at h
 ·obtain⟨ns,h1,h2⟩:=h;exact⟨_,_,ns,rfl,rfl,h1,h2⟩
 ·exact h.elim
def G_ (hc:X.calm=true) (hg:Gl X "max") (hm:X.mg "max" = none) (hv:ly "max" = some (.builtin "max")) (he:PE X e te) (hd:PE X e2 td)(hs:autoParam (bT [e] X.env=(false,cp e X.env) :: bT [] X.env) bv) :
  PE X (.Call (.Name "max" p) [e] [⟨some "default",e2,ak'⟩] pos) (PD (Cj X.K) te td):=by
 walk_at"t";refine GL (DM I hg hm hv ?_ (by decide) (by decide));refine PyProof.Rows.callWith_kw ?_ (by rw[hs];rfl) (by rw[hs];rfl) rfl rfl;rw[hs];refine Calls.spliced_cons (cy (he pins s σ H _ I h) λu s1 cq=>L2.eW cq λx H1 I1 r1 q1=>Calls.spliced_nil ?_);refine kws_cons (cy (hd pins s1 σ H1 _ I1 q1) λv2 s2 cq=>L2.eW cq λy H2 I2 r2 q2=>kws_nil ?_);obtain⟨a,d,ns,rfl,rfl,hsq,q⟩:=zp (q2)
 ·have _:=hc;cases r1;obtain⟨td,rfl⟩:=r2;obtain⟨its,rv,pl,hz⟩:=I2.list hsq;have hl:s2.heap.IsList a its.toArray:=pl.isList;obtain⟨o,ho,Pp,n,FH⟩:=id hl;have hlen:=rv.length;rw[dc] at hlen;have i6:a≠s2.heap.objs.size:=gu (eT ho);have P2:X.A.in1.handled=none:=I2.ok.hd hc;have lu':(toString "max" ++ toString ".loop" : String) = "max.loop" := by decide
  refine kmb_tree F.kind_max F.plain_max F.entry_max (za _ _) ?_;refine ax (JJ (rfl) ?_);refine ax (bG ?_);refine ax (wpAny_pyIter_list hl ?_);refine ax (sR ?_);have hw:Walks X.prog X.w X.A.in1 s2.heap.objs.size [s2.heap.objs.size,a] [s2.heap.objs.size] ns.length (λi v=>its.toArray[i]? = some v) (λi h=>h.IsListIter s2.heap.objs.size a i/\h.IsList a its.toArray):=by have:=Walks.list (prog:=X.prog) (w:=X.w) P2 s2.heap.objs.size a i6 its.toArray;rwa[show its.toArray.size=ns.length by rw[hlen];exact jI ..] at this
  have hS:(s2.heap.push { cls:=.type "list_iterator",data:=.fields #[.ref a,.int 0 0] }).objs.size=s2.heap.objs.size+1:=G0 ..;have hal:=eT ho;refine bG ⟨CD F.plain_max_loop _,wY hw (λi v hv=>?_) (s2.heap.push { cls:=.type "list_iterator",data:=.fields #[.ref a,.int 0 0] }).objs.size (λhm=>by
    rcases fm.mp hm with e|hm
    ·rw[hS] at e;exact absurd e (Nat.succ_ne_self _)
    ·have e:=kD.mp hm;rw[hS] at e;exact absurd hal (by rw[<- e];exact Nat.not_lt.mpr (RN _))) (.int d td) _ 0 _ _ #[] rfl (fR _) ⟨⟨_,eM _ (i9 _ rfl),rfl,rfl⟩,⟨_,eM _ (eM _ ho),Pp,n,FH⟩⟩ (.inl ⟨rfl,rfl⟩)
   (i9 _ rfl) λv h' tk hP hk=>?_⟩
  ·have y9:its[i]? = some v:=by simpa using hv
   have hi:i<ns.length:=by have:=(kM.mp y9).1;lia
   obtain⟨w',e1,r1⟩:=rv.get (i:=i) (x:=V.int ns[i]) (by simp[hi]);rw[y9] at e1;cases e1;obtain⟨t,rfl⟩:=r1;exact⟨t,by simp[List.getD,hi]⟩
  ·have I3:Inv X pins σ H2 { s2 with heap:=h',toks:=tk }:=I2.kept λb o e=>by have eR:=eT e;exact hk b o (λhm=>by rw[kD.mp hm] at eR;exact wq _ eR) (by rw[hS];exact gu (AV eR)) (eM _ (eM _ e))
   refine⟨_,H2,I3,?_,q⟩;rcases hP with⟨h0,rfl⟩|⟨h0,t,rfl⟩
   ·rw[if_pos h0];exact⟨_,rfl⟩
   ·rw[if_neg h0];exact⟨_,rfl⟩
end
end L2
namespace L2.Q
section
variable {X:Cx}{K:aI}{e e2 a b:Expr}{ta tb:WE}{p pos ak':Pos}{x:Str}{id:String}
def Ti:W1:=λ_ x Q=>match x with
 |.list xs=>∃ bs:List Bool,xs=bs.map D.bl/\Q .sh (.bl (bs.all (λb=>b)))
 |_=>False
def Ii{H:Hp}{bs:List Bool}{vs:List V}(r:ck K H (bs.map D.bl) vs):vs=bs.map V.bl:=by
 induction bs generalizing vs with
 |nil=>exact r.n0
 |cons b bs ih =>obtain⟨u,us,rfl,r1,rs⟩:=ck.c r;cases r1;rw[ih rs];rfl
def wI:FV K (Vi K) Ti:=by
 walk_at"o";have r1:=rx.rep w
 cases r1 with
 |list z s q =>obtain⟨bs,rfl,h⟩:=h;cases Ii q;exact⟨bs,s,f.sh w (.bl _) h⟩
 |_=>exact h.elim
def uT:W1:=λ_ x Q=>match x with
 |.list xs=>eh xs=true/\Q .sh (.tup xs)
 |_=>False
def uW:FV K (λxs H Q=>∃ p ys,xs=[.ref p]/\((fE K H p ys/\∀ l,H l=none->Q (.ref l) (upd H l (.tup ys)))\/(kQ K H p ys/\Q (.ref p) H))) uT:=by
 walk_at"o";have r1:=rx.rep w
 cases r1 with
 |list z s q =>have hl:=q.length;exact⟨_,_,rfl,.inl ⟨s,f.tup w (by lia) q h.1 h.2⟩⟩
 |_=>exact h.elim
def DK (hK:autoParam (X.K=K) bv):lS X (.type "tuple") (λxs H Q=>∃ p ys,xs=[.ref p]/\((fE K H p ys/\∀ l,H l=none->Q (.ref l) (upd H l (.tup ys)))\/(kQ K H p ys/\Q (.ref p) H))):=by subst hK;exact iM'
def uC(n:Int)(z:Str):(AA n z).length=n.toNat*z.length:=by unfold AA Str.length;rw[jI,len_rep,AZ]
def Bj:W2:=λ_ x _ y Q=>match x,y with
 |.int n,.str z=>(1<=n/\n<=100/\z.length<=100)/\Q .sh (.str (AA n z))
 |_,_=>False
def Gb:mE K G3 Bj:=by
 walk_at"a";have r1:=rx.rep w;have r2:=ry.rep w
 cases r1 with
 |int i=>cases r2 with
  |str hz =>refine⟨h.1,wU f w ?_ h.2⟩;obtain⟨⟨h1,h2,h3⟩,_⟩:=h;rw[uC,kB];have:=Nat.mul_le_mul (show i.toNat<=100 by lia) h3;lia
  |_=>exact h.elim
 |_=>cases r2<;>exact h.elim
def Kc(ha:QE X K a ta)(hb:QE X K b tb):QE X K (.BinOp a .Mult b pos) (aS Bj ta tb):=Qr GD Gb ha hb
def CT:W2:=λ_ x _ y Q=>match x,y with
 |.list xs,.int d=>∃ ns:List Int,xs=ns.map D.int/\Q .sh (.int (if ns=[] then d else rX ns ns.length))
 |_,_=>False
def BP{H:Hp}{bs:List Int}{vs:List V}(r:ck K H (bs.map D.int) vs):vs=bs.map V.int:=by
 induction bs generalizing vs with
 |nil=>exact r.n0
 |cons b bs ih =>obtain⟨u,us,rfl,r1,rs⟩:=ck.c r;cases r1;rw[ih rs];rfl
def Hm:mE K (Cj K) CT:=by
 walk_at"a";have r1:=rx.rep w;have r2:=ry.rep w
 cases r1 with
 |list z s q=>cases r2 with
  |int d =>obtain⟨ns,rfl,h⟩:=h;cases BP q;exact⟨ns,s,f.sh w (.int _) h⟩
  |_=>exact h.elim
 |_=>cases r2<;>exact h.elim
def Kq:ly "max" = some (.builtin "max"):=by decide +kernel
def Ih:ly "min" = some (.builtin "min"):=by decide +kernel
def Kd (hg:Gl X "max") (hm:X.mg "max" = none) (he:QE X K e ta) (hd:QE X K e2 tb) (hc:autoParam (X.calm=true) bv) (hK:autoParam (X.K=K) bv) (hs:autoParam (bT [e] X.env=(false,cp e X.env) :: bT [] X.env) bv):QE X K (.Call (.Name "max" p) [e] [⟨some "default",e2,ak'⟩] pos) (aS CT ta tb):=by
 subst hK;exact PE.imp (G_ hc hg hm Kq he hd hs) (iM Hm)
def Gx:R2:=λx y H Q=>match x,y with
 |.int i,.int j=>Q (.int (if j<i then j else i)) H
 |_,_=>False
def FW:W2:=λ_ x _ y Q=>match x,y with
 |.int i,.int j=>Q .sh (.int (if j<i then j else i))
 |_,_=>False
def Ew:mE K Gx FW:=by
 walk_at"a";have r1:=rx.rep w;have r2:=ry.rep w
 cases r1 with
 |int i=>cases r2 with
  |int j=>exact f.sh w (.int _) h
  |_=>exact h.elim
 |_=>cases r2<;>exact h.elim
def Hd(hc:lS X (.builtin id) λxs H Q=>∃ x y,xs=[x,y]/\r x y H Q)(br:mE K r f)(hm:X.mg x=none)(hv:ly x=some (.builtin id))(ha:QE X K a ta)(hb:QE X K b tb)(hs:autoParam (bT [a,b] X.env=(false,cp a X.env) :: bT [b] X.env) bv) (kF:autoParam (bT [b] X.env=(false,cp b X.env) :: bT [] X.env) bv) (hn:x ≠ "__name__" := by decide) (kf:(x == ("__debug__" : Str))=false:=by decide) (iO:autoParam ((i3 pos (bT [b] X.env)).any (·.1)=false) bv) (hg:autoParam (Gl X x) bv):QE X K (.Call (.Name x p) [a,b] [] pos) (aS f ta tb):=by
 refine PE.imp (PH hc hg hm hv (kR ha (kR hb oo kF) hs) hn kf hs iO) λσ H Qv h=>?_;obtain⟨Hs,ρ,ai,Q,sr,h,fin⟩:=iM br σ H Qv h;exact⟨Hs,ρ,ai,Q,sr,h,λv H1 bP m x As g1 r1 f1 q1=>by
  obtain⟨bq,kK,fT,Q2,k8,h2,fin2⟩:=fin v H1 bP m x As g1 r1 f1 q1;exact⟨bq,kK,fT,Q2,k8,h2,λu H2 gi n y Bs g2 r2 f2 q2=>⟨v,u,rfl,fin2 u H2 gi n y Bs g2 r2 f2 q2⟩⟩⟩
def JS (hc:autoParam (X.calm=true) bv):lS X (.builtin "min") λxs H Q=>∃ x y,xs=[x,y]/\Gx x y H Q:=λpins s σ H xs us Q I r dS=>by
 obtain⟨x,y,e,q⟩:=dS;subst e;unfold Gx at q;split at q
 ·exact hy' hc pins s σ H _ us Q I r ⟨_,_,rfl,q⟩
 ·exact q.elim
end
end L2.Q
namespace L2.Q.R
section
variable {Q:Md->L2.Q.D->Prop}{m m':Md}{xs:List L2.Q.D}{a b:Int}{x:Str}
def Qe:Ti m (.list xs) Q = ∃ bs:List Bool,xs=bs.map L2.Q.D.bl/\Q .sh (.bl (bs.all (λb=>b))):=rfl
def Mj:uT m (.list xs) Q=(eh xs=true/\Q .sh (.tup xs)):=rfl
def Ni:Bj m (.int a) m' (.str x) Q=((1<=a/\a<=100/\x.length<=100)/\Q .sh (.str (AA a x))):=rfl
def NK:CT m (.list xs) m' (.int a) Q = ∃ ns:List Int,xs=ns.map L2.Q.D.int/\Q .sh (.int (if ns=[] then a else rX ns ns.length)):=rfl
def NZ:FW m (.int a) m' (.int b) Q=Q .sh (.int (if b<a then b else a)):=rfl
end
end L2.Q.R
namespace L2.Q
theorem jK(O:Nat->List D->Prop)(Iv:Env->Prop):∀ (xs:List D) (i:Nat) (pre:List D) (ρ:Env) (k:List D->Prop),Iv ρ->O i pre -> (∀ j x,xs[j]? = some x->∀ ρ,Iv ρ->∀ out,O (i+j) out->∀ N1:Env->Prop,∀ N2:Env->D->Prop,(∀ df d,Iv df->O (i+j+1) (out++[d])->N2 df d)->g x ρ λsN=>tc sN λb=>if b=true then te sN λm d=>Qy m d/\N2 sN d else N1 sN) -> (∀ out,O (i+xs.length) (pre++out)->k out)->h_ g tc te xs ρ k
 |[],i,pre,_,k,_,h0,_,h=>h [] (by simpa using h0)
 |x :: xs,i,pre,ρ,k,iv,h0,hs,h=>by
  refine hs 0 x rfl ρ iv pre h0 _ _ (λdf d Tc o'=>?_);refine jK O Iv xs (i+1) (pre++[d]) df _ Tc o' (λj y hy ρ iv out ho=>?_) λout ho=>?_
  ·have:=hs (j+1) y (by simpa using hy) ρ iv out (by rwa[show i+(j+1)=i+1+j by lia]);rwa[show i+(j+1)+1=i+1+j+1 by lia] at this
  ·refine h (d :: out) ?_;rw[ui] at ho;rwa[oi,show i+(xs.length+1)=i+1+xs.length by lia]
end L2.Q
end
namespace TS
open PySem PySem.SetTable
def fk:Nat->Nat->Nat
 |0,s=>s
 |k+1,s=>5*fk k s+1
def J_(a b s:Nat):fk (a+b) s=fk b (fk a s):=by
 induction b with
 |zero=>rfl
 |succ b ih=>show 5*fk (a+b) s+1=5*fk b (fk a s)+1;rw[ih]
def yW(n s:Nat):4*fk n s+1=5 ^ n*(4*s+1):=by
 induction n with
 |zero=>simp[fk]
 |succ n ih =>
  show 4*(5*fk n s+1)+1=5 ^ (n+1)*(4*s+1)
  rw[DC,Um (5 ^ n) 5,OV,<- ih];lia
def Bh(m:Nat):∃ q,5 ^ 2 ^ m=1+2 ^ (m+2)*q/\q % 2=1:=by
 induction m with
 |zero=>exact⟨1,by decide,by decide⟩
 |succ m ih =>
  obtain⟨q,e,o⟩:=ih;refine⟨q+2 ^ (m+1)*(q*q),?_,?_⟩
  ·have hp:5 ^ 2 ^ (m+1)=(5 ^ 2 ^ m) ^ 2:=by rw[DC 2 m,Nat.pow_mul]
   rw[hp,e];have e1:2 ^ (m+1+2)=2*2 ^ (m+2):=by rw[show m+1+2=(m+2)+1 by lia,DC];lia
   have e2:2 ^ (m+2)=2*2 ^ (m+1):=by rw[show m+2=(m+1)+1 by lia,DC];lia
   rw[e1,e2];generalize 2 ^ (m+1)=y;rw[Nat.pow_two];simp only[Nat.mul_add,Nat.add_mul,Nat.one_mul,Nat.mul_one];have a1:2*y*q*(2*y*q)=2*(2*y)*(y*(q*q)):=by simp only[OV,Nat.mul_left_comm,Um]
   have a2:2*(2*y)*q=2*y*q+2*y*q:=by rw[OV 2 (2*y) q];lia
   rw[a1,a2];lia
  ·have:2 ^ (m+1)*(q*q) % 2=0:=by rw[DC,Um (2 ^ m) 2,OV,Nat.mul_mod_right]
   lia
def Ec(m x:Nat):∃ r,fk (2 ^ m) x=x+2 ^ m*r/\r % 2=1:=by
 obtain⟨q,e,o⟩:=Bh m;have c:=yW (2 ^ m) x;rw[e] at c;refine⟨q*(4*x+1),?_,?_⟩
 ·have e2:2 ^ (m+2)=4*2 ^ m:=by rw[Nat.pow_add];lia
  rw[e2,Nat.add_mul,Nat.one_mul,OV,OV] at c;lia
 ·rw[Nat.mul_mod,o,Nat.one_mul];lia
def Ip(m s e:Nat):∃ k,k+1<=2 ^ m/\fk k s % 2 ^ m=e % 2 ^ m:=by
 induction m with
 |zero=>exact⟨0,by decide,by simp[Nat.mod_one]⟩
 |succ m ih =>
  obtain⟨k,hk,h⟩:=ih;have hp:2 ^ (m+1)=2 ^ m*2:=DC ..;have dT':0<2 ^ m:=Nat.pow_pos (by decide);have key:∀ a:Nat,a % (2 ^ m*2)=a % 2 ^ m+2 ^ m*(a / 2 ^ m % 2):=λa=>Nat.mod_mul;by_cases c:fk k s / 2 ^ m % 2=e / 2 ^ m % 2
  ·exact⟨k,by lia,by rw[hp,key,key,h,c]⟩
  ·refine⟨k+2 ^ m,by lia,?_⟩;obtain⟨r,er,ro⟩:=Ec m (fk k s);rw[J_,er,hp,key,key,Nat.add_mul_mod_self_left,h,Nat.add_mul_div_left _ _ dT'];have:(fk k s / 2 ^ m+r) % 2=e / 2 ^ m % 2:=by lia
   rw[this]
def vE(M:Nat)(p:Probe):Probe :=
 if p.more>0 then { p with j:=p.j+1,more:=p.more-1 } else
 { p with j:=(leap M p.i p.perturb).1,more:=runEnd M (leap M p.i p.perturb).1-(leap M p.i p.perturb).1,i:=(leap M p.i p.perturb).1,perturb:=(leap M p.i p.perturb).2 }
def ps(M:Nat)(h:Int):Nat->Probe
 |0=>{ j:=bits h % (M+1),more:=runEnd M (bits h % (M+1))-bits h % (M+1),i:=bits h % (M+1),perturb:=bits h,dummy:=none }
 |n+1=>vE M (ps M h n)
def J(M:Nat)(h:Int)(n:Nat):Nat:=(ps M h n).j
def tM(h:i<=M):i<=runEnd M i/\runEnd M i<=M/\runEnd M i<=i+9:=by unfold runEnd;split<;>lia
theorem HH(M:Nat)(h:Int):∀ n,(ps M h n).i<=M/\(ps M h n).j+(ps M h n).more<=M/\(ps M h n).dummy=none/\(ps M h n).more<=9
 |0=>by have h0:bits h % (M+1)<=M:=Ui (OY _ (Uo _));have:=tM h0;exact⟨h0,by show bits h % (M+1)+(runEnd M (bits h % (M+1))-bits h % (M+1))<=M;lia,rfl,by show runEnd M (bits h % (M+1))-bits h % (M+1)<=9;lia⟩
 |n+1=>by
  obtain⟨a,b,c,d⟩:=HH M h n;show(vE M (ps M h n)).i<=M/\_/\(vE M (ps M h n)).dummy=none/\_;unfold vE;by_cases hm:(ps M h n).more>0
  ·simp only[hm,if_true];show _/\(vE M (ps M h n)).j+(vE M (ps M h n)).more<=M/\_/\(vE M (ps M h n)).more<=9;simp only[vE,hm,if_true];exact⟨a,by lia,c,by lia⟩
  ·simp only[hm,if_false];show _/\(vE M (ps M h n)).j+(vE M (ps M h n)).more<=M/\_/\(vE M (ps M h n)).more<=9;simp only[vE,hm,if_false];have h0:(leap M (ps M h n).i (ps M h n).perturb).1<=M:=Ui (OY _ (Uo _));have:=tM h0;exact⟨h0,by lia,c,by lia⟩
def al'(M:Nat)(h:Int)(n:Nat):J M h n<=M:=by have:=HH M h n;unfold J;lia
theorem yQ(M:Nat)(h:Int)(n:Nat):∀ r,r<=(ps M h n).more->ps M h (n+r)={ ps M h n with j:=(ps M h n).j+r,more:=(ps M h n).more-r }
 |0,_=>rfl
 |r+1,hr=>by show vE M (ps M h (n+r))=_;rw[yQ M h n r (by exact AW ‹_›)];unfold vE;rw[if_pos (show(ps M h n).more-r>0 by lia)];simp only[Probe.mk.injEq,true_and,and_true];lia
def lp(M:Nat)(h:Int):Nat->Nat × Nat
 |0=>(bits h % (M+1),bits h)
 |k+1=>leap M (lp M h k).1 (lp M h k).2
def mh(M:Nat)(h:Int):Nat->Nat
 |0=>0
 |k+1=>mh M h k+(runEnd M (lp M h k).1-(lp M h k).1)+1
theorem Eh(M:Nat)(h:Int):∀ k,(lp M h k).1<=M
 |0=>Ui (OY _ (Uo _))
 |k+1=>Ui (OY _ (Uo _))
theorem zz(M:Nat)(h:Int):∀ k,mh M h k<=10*k
 |0=>de _
 |k+1=>by have:=zz M h k;have:=tM (Eh M h k);show mh M h k+_+1<=_;lia
theorem uM(M:Nat)(h:Int):∀ k,ps M h (mh M h k)={ j:=(lp M h k).1,more:=runEnd M (lp M h k).1-(lp M h k).1,i:=(lp M h k).1,perturb:=(lp M h k).2,dummy:=none }
 |0=>rfl
 |k+1=>by have ih:=uM M h k;have e:=yQ M h (mh M h k) (runEnd M (lp M h k).1-(lp M h k).1) (by rw[ih];exact de _);show vE M (ps M h (mh M h k+(runEnd M (lp M h k).1-(lp M h k).1)))=_;rw[e,ih];unfold vE;rw[if_neg (by simp)];rfl
theorem De(M:Nat)(h:Int):∀ k,(lp M h k).2=bits h / 32 ^ k
 |0=>by simp[lp]
 |k+1=>by show(lp M h k).2 / 32=_;rw[De M h k,Nat.div_div_eq_div_mul,DC]
def Hy(h:Int):bits h<2 ^ 64:=by unfold bits;lia
theorem xR(M:Nat)(h:Int):∀ k,(lp M h (13+k)).1 % (M+1)=fk k (lp M h 13).1 % (M+1)
 |0=>rfl
 |k+1=>by
  have e:(lp M h (13+k)).2=0:=by rw[De];exact Nat.div_eq_of_lt (pE (Hy h) (kL (by decide:2 ^ 64<=32 ^ 13) (Nat.pow_le_pow_right (by decide) (by lia))))
  show(leap M (lp M h (13+k)).1 (lp M h (13+k)).2).1 % (M+1)=_;rw[e];show((lp M h (13+k)).1*5+1+0 / 32) % (M+1) % (M+1)=(5*fk k (lp M h 13).1+1) % (M+1);rw[Nat.mod_mod,Nat.zero_div,OX,Nat.add_mod,Nat.mul_mod,xR M h k,<- Nat.mul_mod,<- Nat.add_mod,Um]
def cover(hM:M+1=2 ^ m)(h:Int)(he:e<=M):∃ k,k<=M+13/\(lp M h k).1=e:=by obtain⟨k,hk,q⟩:=Ip m (lp M h 13).1 e;rw[<- hM] at hk q;refine⟨13+k,by lia,?_⟩;have:=xR M h k;rw[q] at this;rwa[Nat.mod_eq_of_lt (Uj (Eh M h _)),Nat.mod_eq_of_lt (Uj he)] at this
def Jg(M:Nat)(h:Int)(k:Nat):J M h (mh M h k)=(lp M h k).1:=by unfold J;rw[uM]
def vV(hM:M+1=2 ^ m)(h:Int)(k9:Nat->Bool)(he:e<=M)(hf:k9 e=false):∃ n,n<=10*(M+13)/\k9 (J M h n)=false/\∀ k<n,k9 (J M h k)=true:=by
 obtain⟨k,hk,q⟩:=cover hM h he;have hb:=zz M h k;have hB:k9 (J M h (mh M h k))=false:=by rw[Jg,q];exact hf
 generalize mh M h k=b at hb hB;have go:∀ b,k9 (J M h b)=false->∃ n,n<=b/\k9 (J M h n)=false/\∀ k<n,k9 (J M h k)=true:=by
  intro b
  induction b using Nat.strongRecOn with
  |ind b ih =>
   intro hB;by_cases c:∃ k,k<b/\k9 (J M h k)=false
   ·obtain⟨k,h1,h2⟩:=c;obtain⟨n,a1,a2,a3⟩:=ih k h1 h2;exact⟨n,by lia,a2,a3⟩
   ·refine⟨b,de _,hB,λk hk=>?_⟩
    cases z:k9 (J M h k) with
    |true=>rfl
    |false=>exact absurd ⟨k,hk,z⟩ c
 obtain⟨n,a1,a2,a3⟩:=go b hB;exact⟨n,by lia,a2,a3⟩
def Up(xs:Array Nat):Prop:=∀ i j:Nat,i<j->j<xs.size->xs.getD i 0<xs.getD j 0
def tR{xs:Array Nat}{i d d':Nat}(h:i<xs.size):xs.getD i d=xs.getD i d':=by simp[Array.getD,h]
def oZ{xs:Array Nat}(U:Up xs)(j:Nat):∀ (fuel lo hi:Nat),hi-lo<=fuel->lo<=hi->hi<=xs.size->(∀ i<lo,xs.getD i 0<j)->(∀ i,hi<=i->i<xs.size->j<=xs.getD i 0) ->
  below.go xs j fuel lo hi<=xs.size/\(∀ i<below.go xs j fuel lo hi,xs.getD i 0<j)/\(∀ i,below.go xs j fuel lo hi<=i->i<xs.size->j<=xs.getD i 0)
 |0,lo,hi,hf,h1,h2,h3,h4=>by
  obtain rfl:lo=hi:=by lia
  exact⟨h2,h3,h4⟩
 |fuel+1,lo,hi,hf,h1,h2,h3,h4=>by
  unfold below.go;by_cases c:lo<hi
  ·rw[if_pos c];have hm:(lo+hi) / 2<xs.size:=by lia
   by_cases d:xs.getD ((lo+hi) / 2) j<j
   ·rw[if_pos d];rw[tR hm] at d;refine oZ U j fuel _ _ (by lia) (by lia) h2 (λi n4=>?_) h4;by_cases e:i=(lo+hi) / 2
    ·rw[e];exact d
    ·exact WD (U i _ (by lia) hm) d
   ·rw[if_neg d];rw[tR (d':=0) hm] at d;refine oZ U j fuel _ _ (by lia) (by lia) (by lia) h3 λi n4 hs=>?_;by_cases e:i=(lo+hi) / 2
    ·rw[e];lia
    ·have:=U ((lo+hi) / 2) i (by lia) hs;lia
  ·rw[if_neg c];obtain rfl:lo=hi:=by lia
   exact⟨h2,h3,h4⟩
def aZ(U:Up xs)(j:Nat):below xs j<=xs.size/\(∀ i<below xs j,xs.getD i 0<j)/\(∀ i,below xs j<=i->i<xs.size->j<=xs.getD i 0) :=
 oZ U j xs.size 0 xs.size (by lia) (by lia) (de _) (λi h=>absurd h (E5 i)) λi h1 h2=>by lia
def below_at(U:Up xs)(h:i<xs.size):below xs (xs.getD i 0)=i:=by
 obtain⟨a,b,c⟩:=aZ U (xs.getD i 0);by_cases h1:below xs (xs.getD i 0)<i
 ·have:=c _ (de _) (by lia);have:=U _ i h1 h;lia
 ·by_cases h2:i<below xs (xs.getD i 0)
  ·have:=b i h2;lia
  ·lia
def vR(U:Up xs)(h:i<xs.size):below xs (xs.getD i 0+1)=i+1:=by
 obtain⟨a,b,c⟩:=aZ U (xs.getD i 0+1);by_cases h1:below xs (xs.getD i 0+1)<i+1
 ·have:=c i (by lia) h;lia
 ·by_cases h2:i+1<below xs (xs.getD i 0+1)
  ·have:=b (i+1) h2;have:=U i (i+1) (by lia) (by lia);lia
  ·lia
def taken(xs:Array Nat)(j:Nat):Bool:=xs[below xs j]? == some j
def yc{xs:Array Nat}{i j:Nat}(h:xs[i]? = some j):i<xs.size/\xs.getD i 0=j:=by obtain⟨h1,h2⟩:=OZ.mp h;exact⟨h1,by simp[Array.getD,h1,h2]⟩
def wN{xs:Array Nat}{i:Nat}(h:i<xs.size):xs[i]? = some (xs.getD i 0):=by simp[Array.getD,h]
def eN{xs:Array Nat}(U:Up xs){j:Nat}:taken xs j=true↔∃ i,i<xs.size/\xs.getD i 0=j:=by
 unfold taken;rw[beq_iff_eq];constructor
 ·intro h;exact⟨_,yc h⟩
 ·rintro⟨i,h,rfl⟩;rw[below_at U h];exact wN h
def nT{xs:Array Nat}(U:Up xs){j:Nat}(h:taken xs j=true):below xs j<xs.size/\xs.getD (below xs j) 0=j:=by unfold taken at h;rw[beq_iff_eq] at h;exact yc h
def cC{α:Type}(xs:Array α){p:Nat}(x:α)(h:p<=xs.size):(insertAt xs p x).size=xs.size+1:=by unfold insertAt;simp;lia
def LN{α:Type}(xs:Array α){p:Nat}(x:α)(h:p<=xs.size)(i:Nat):(insertAt xs p x)[i]? = if i<p then xs[i]? else if i=p then some x else xs[i-1]? := by
 unfold insertAt;have hs:((xs.extract 0 p).push x).size=p+1:=by simp;exact Nat.min_eq_left ‹_›
 by_cases h1:i<p
 ·rw[if_pos h1,Array.getElem?_append_left (by lia),Array.getElem?_push,if_neg (by simp;lia),Uq];rw[if_pos (by lia)];simp
 ·rw[if_neg h1];by_cases h2:i=p
  ·rw[if_pos h2,Array.getElem?_append_left (by lia),Array.getElem?_push,if_pos (by simp;lia)]
  ·rw[if_neg h2,Array.getElem?_append_right (by lia),hs,Uq];by_cases h3:i-(p+1)<min xs.size xs.size-p
   ·rw[if_pos h3];congr 1;lia
   ·rw[if_neg h3,O0 (by lia)]
def cP(h:p<=xs.size)(i:Nat):(insertAt xs p x).getD i 0=if i<p then xs.getD i 0 else if i=p then x else xs.getD (i-1) 0:=by
 have e:∀ (ys:Array Nat) k,ys.getD k 0=ys[k]?.getD 0:=λys k=>by simp[KP]
 rw[e,LN xs x h];split
 ·rw[e]
 ·split
  ·rfl
  ·rw[e]
def Df(U:Up xs)(hj:taken xs j=false):Up (insertAt xs (below xs j) j):=by
 obtain⟨a,b,c⟩:=aZ U j;have ne:∀ i,i<xs.size->xs.getD i 0≠j:=λi hi e=>by have:=(eN U).mpr ⟨i,hi,e⟩;rw[hj] at this;cases this
 intro i k hik hk;rw[cC xs j a] at hk;rw[cP a,cP a];by_cases h1:k<below xs j
 ·rw[if_pos (by lia),if_pos h1];exact U i k hik (by lia)
 ·rw[if_neg h1];by_cases h2:k=below xs j
  ·rw[if_pos h2,if_pos (by lia)];exact b i (by lia)
  ·rw[if_neg h2];by_cases h3:i<below xs j
   ·rw[if_pos h3];exact U i (k-1) (by lia) (by lia)
   ·rw[if_neg h3];by_cases h4:i=below xs j
    ·rw[if_pos h4];have:=c (k-1) (by lia) (by lia);have:=ne (k-1) (by lia);lia
    ·rw[if_neg h4];exact U (i-1) (k-1) (by lia) (by lia)
def yM(U:Up xs)(hj:taken xs j=false):taken (insertAt xs (below xs j) j) k=(decide (k=j) || taken xs k):=by
 have a:=(aZ U j).1;have U':=Df U hj;apply y1.mpr;rw[eN U',Bool.or_eq_true,decide_eq_true_eq,eN U];rw[cC xs j a];constructor
 ·rintro⟨i,hi,e⟩;rw[cP a] at e;by_cases h1:i<below xs j
  ·rw[if_pos h1] at e;exact .inr ⟨i,by lia,e⟩
  ·rw[if_neg h1] at e;by_cases h2:i=below xs j
   ·rw[if_pos h2] at e;exact .inl e.symm
   ·rw[if_neg h2] at e;exact .inr ⟨i-1,by lia,e⟩
 ·rintro(rfl|⟨i,hi,e⟩)
  ·exact⟨below xs k,by lia,by rw[cP a,if_neg (by lia),if_pos rfl]⟩
  ·by_cases h1:i<below xs j
   ·exact⟨i,by lia,by rw[cP a,if_pos h1];exact e⟩
   ·exact⟨i+1,by lia,by rw[cP a,if_neg (by lia),if_neg (by lia)];exact e⟩
def Reach(M:Nat)(place:Array Nat)(h:Int)(j:Nat):Prop:=∃ n,n<=10*(M+13)/\J M h n=j/\∀ k<n,taken place (J M h k)=true
structure TI{α:Type}(t:SetTable)(es:Array (Int × α)):Prop where
 pw:∃ m,t.mask+1=2 ^ m/\3<=m
 sz:t.place.size=es.size
 up:Up t.place
 le:∀ i,i<t.place.size->t.place.getD i 0<=t.mask
 dm:t.dummies = #[]
 few:es.size*5<t.mask*3
 path:∀ i h x,es[i]? = some (h,x)->Reach t.mask t.place h (t.place.getD i 0)
section
variable {α:Type}{t:SetTable}{es:Array (Int × α)}
def TI.slot(T:TI t es)(j:Nat):t.slot j=if taken t.place j then .live (below t.place j) else .empty:=by
 unfold SetTable.slot taken;dsimp only;split
 ·rfl
 ·have:has t.dummies j=false:=by rw[T.dm];rfl
  rw[this];rfl
def TI.fits(T:TI t es):t.fits es.size=true:=by have:=T.few;simp only[SetTable.fits,fill,T.dm,T.sz,mS,beq_iff_eq,decide_eq_true_eq,true_and];simp;lia
def TI.odd(T:TI t es):t.gaveWay=false:=by
 obtain⟨m,h,h3⟩:=T.pw;unfold SetTable.gaveWay;rw[beq_eq_false_iff_ne];have:2 ^ m=2*2 ^ (m-1):=by rw[show m=(m-1)+1 by lia,DC];simp;lia
 lia
def TI.free(T:TI t es):∃ e,e<=t.mask/\taken t.place e=false:=by
 have hf:=T.few;have hs:=T.sz;by_cases c:∃ e,e<=t.mask/\taken t.place e=false
 ·exact c
 ·exfalso;have all:∀ e,e<=t.mask->taken t.place e=true:=λe he=>by
   cases z:taken t.place e with
   |true=>rfl
   |false=>exact absurd ⟨e,he,z⟩ c
  -- slot e stands at place at most e
  have go:∀ e,e<=t.mask->e<=below t.place e:=by
   intro e
   induction e with
   |zero=>intro _;exact fR _
   |succ e ih =>
    intro he;have h1:=nT T.up (all e (by lia));obtain⟨_,b,c⟩:=aZ T.up (e+1);by_cases z:below t.place e<below t.place (e+1)
    ·lia
    ·have:=c (below t.place e) (by lia) h1.1;lia
  have:=go t.mask (de _);have:=(nT T.up (all t.mask (de _))).1;lia
def TI.put(T:TI t es)(hj:j<=t.mask)(hn:taken t.place j=false)(hr:Reach t.mask t.place h j)(ht:t'.mask=t.mask)(hp:t'.place=insertAt t.place (below t.place j) j)(hd:t'.dummies = #[])(hf:(es.size+1)*5<t.mask*3):TI t' (insertAt es (below t.place j) (h,x)):=by
 have a:=(aZ T.up j).1;have a':below t.place j<=es.size:=by rw[<- T.sz];exact a
 refine⟨by rw[ht];exact T.pw,by rw[hp,cC _ _ a,cC _ _ a',T.sz],by rw[hp];exact Df T.up hn,λi hi=>?_,hd,by rw[cC _ _ a',ht];exact hf,λi g y e=>?_⟩
 ·rw[hp,cC _ _ a] at hi;rw[hp,cP a,ht];split
  ·exact T.le i (by lia)
  ·split
   ·exact hj
   ·exact T.le (i-1) (by lia)
 ·have mono:∀ {g:Int} {k:Nat},Reach t.mask t.place g k->Reach t'.mask t'.place g k:=λ{g k} ⟨n,h1,h2,h3⟩=>⟨n,by rw[ht];exact h1,by rw[ht];exact h2,λq hq=>by
   rw[hp,ht,yM T.up hn,h3 q hq,Bool.or_true]⟩
  rw[LN es _ a'] at e;rw[hp,cP a,<- hp];by_cases h1:i<below t.place j
  ·rw[if_pos h1] at e ⊢;exact mono (T.path i g y e)
  ·rw[if_neg h1] at e ⊢;by_cases h2:i=below t.place j
   ·rw[if_pos h2] at e ⊢;cases e;exact mono hr
   ·rw[if_neg h2] at e ⊢;exact mono (T.path (i-1) g y e)
end
theorem eG{α:Type}[DecidableEq α]:∀ {l m:List α},l.Nodup->(∀ x∈l,x∈m)->l.length<=m.length
 |[],_,_,_=>fR _
 |x :: l,m,nd,h=>by rw[oj] at nd;have hx:=h x fw;have:=eG (m:=m.erase x) nd.2 λy hy=>(List.mem_erase_of_ne (λe=>nd.1 (by rw[<- e];exact hy))).mpr (h y (fo _ hy));rw[List.length_erase_of_mem hx] at this;have:0<m.length:=T9 hx;simp only[oi];lia
def k9(owner:Array (Option Nat))(j:Nat):Bool:=(owner.getD j (some 0)).isSome
def qi(h:Int)(owner:Array (Option Nat)):∀ (fuel k:Nat),(∀ q<mh M h k,k9 owner (J M h q)=true)->(∃ K,k<=K/\K<k+fuel/\K<=M+13/\k9 owner (lp M h K).1=false) ->
  ∃ j n,layClean.free M owner fuel (lp M h k).1 (lp M h k).2=some j/\J M h n=j/\n<=10*(M+13)/\k9 owner j=false/\∀ q<n,k9 owner (J M h q)=true
 |0,k,_,⟨K,h1,h2,_⟩=>by lia
 |fuel+1,k,hq,⟨K,h1,h2,h3,h4⟩=>by
  have am':∀ r,r<=runEnd M (lp M h k).1-(lp M h k).1->J M h (mh M h k+r)=(lp M h k).1+r:=λr hr=>by unfold J;rw[yQ M h (mh M h k) r (by rw[uM];exact hr),uM]
  have hle:=tM (Eh M h k);have e:∀ r,(owner.getD ((lp M h k).1+r) (some 0)).isNone = !k9 owner ((lp M h k).1+r):=λr=>by unfold k9;cases owner.getD ((lp M h k).1+r) (some 0)<;>rfl
  unfold layClean.free
  cases hf:(List.range (runEnd M (lp M h k).1+1-(lp M h k).1)).find? λr=>(owner.getD ((lp M h k).1+r) (some 0)).isNone with
  |some r =>
   obtain⟨a1,a2,a3⟩:=List.find?_range_eq_some.mp hf;have a2:r<runEnd M (lp M h k).1+1-(lp M h k).1:=by simpa using a2
   rw[e] at a1;have a1:k9 owner ((lp M h k).1+r)=false:=by simpa using a1
   have occs:∀ q<mh M h k+r,k9 owner (J M h q)=true:=λq VP=>by
    by_cases z:q<mh M h k
    ·exact hq q z
    ·have:=a3 (q-mh M h k) (by lia);rw[e] at this;have hj:=am' (q-mh M h k) (by lia);rw[show mh M h k+(q-mh M h k)=q by lia] at hj;rw[hj];simpa using this
   refine⟨_,mh M h k+r,rfl,am' r (by lia),?_,a1,occs⟩;have hb:=zz M h K;by_cases z:mh M h k+r<=mh M h K
   ·lia
   ·have:=occs (mh M h K) (by lia);rw[Jg,h4] at this;cases this
  |none =>
   have hn:=List.find?_eq_none.mp hf;have dU':∀ r,r<=runEnd M (lp M h k).1-(lp M h k).1->k9 owner ((lp M h k).1+r)=true:=λr hr=>by have:=hn r (by simp;lia);rw[e] at this;simpa using this
   have hK:K≠k:=λz=>by subst z;have:=dU' 0 (fR _);rw[OX,h4] at this;cases this
   refine qi h owner fuel (k+1) (λq VP=>?_) ⟨K,by lia,by lia,h3,h4⟩;by_cases z:q<mh M h k
   ·exact hq q z
   ·have VP:q<mh M h k+(runEnd M (lp M h k).1-(lp M h k).1)+1:=VP;have hj:=am' (q-mh M h k) (by lia);rw[show mh M h k+(q-mh M h k)=q by lia] at hj;rw[hj];exact dU' _ (by lia)
structure OI(M:Nat)(hs:List Int)(owner:Array (Option Nat)):Prop where
 sz:owner.size=M+1
 lt:∀ j v:Nat,owner[j]? = some (some v)->v<hs.length
 inj:∀ j j' v:Nat,owner[j]? = some (some v)->owner[j']? = some (some v)->j=j'
 all:∀ v:Nat,v<hs.length->∃ j:Nat,owner[j]? = some (some v)
 path:∀ j v:Nat,owner[j]? = some (some v)->∃ n,n<=10*(M+13)/\J M (hs.getD v 0) n=j/\∀ q<n,k9 owner (J M (hs.getD v 0) q)=true
def rZ(h:j<owner.size):k9 owner j=true↔∃ v,owner[j]? = some (some v):=by
 unfold k9;rw[DE h];simp only[Array.getD,h,dite_true,Option.some.injEq]
 cases hh:owner[j] with
 |none =>have:owner.getInternal j h=none:=hh;rw[this];simp
 |some v =>have:owner.getInternal j h=some v:=hh;rw[this];simp
def OI.free(O:OI M hs owner)(hl:hs.length<=M):∃ e,e<=M/\k9 owner e=false:=by
 by_cases c:∃ e,e<=M/\k9 owner e=false
 ·exact c
 ·exfalso;have all:∀ e,e<=M->∃ v,owner[e]? = some (some v):=λe he=>by
   refine(rZ (by rw[O.sz];lia)).mp ?_
   cases z:k9 owner e with
   |true=>rfl
   |false=>exact absurd ⟨e,he,z⟩ c
  have nd:((List.range (M+1)).map λj=>(owner.getD j none).getD 0).Nodup:=by rw[Rp,AR];refine List.Pairwise.imp_of_mem ?_ (Rp.mp List.nodup_range);intro a b ha hb i6 z;obtain⟨va,ea⟩:=all a (by have:=wo.mp ha;lia);obtain⟨vb,eb⟩:=all b (by have:=wo.mp hb;lia);rw[KP,KP,ea,eb] at z;subst z;exact i6 (O.inj _ _ _ ea eb)
  have:=eG nd λx hx=>by obtain⟨j,hj,rfl⟩:=fP.mp hx;obtain⟨v,e⟩:=all j (by have:=wo.mp hj;lia);rw[KP,e];exact wo.mpr (O.lt _ _ e)
  simp at this;lia
def OI.lay(hM:M+1=2 ^ m)(O:OI M hs owner)(hl:hs.length<=M)(h:Int) :
  ∃ j,layClean.free M owner (turns M) (bits h % (M+1)) (bits h)=some j/\OI M (hs++[h]) (owner.setIfInBounds j (some hs.length)):=by
 obtain⟨e,he,hf⟩:=O.free hl;obtain⟨K,hK,hKe⟩:=cover hM h he;obtain⟨j,n,e1,e2,e3,e4,e5⟩:=qi h owner (turns M) 0 (λq hq=>absurd hq (E5 q)) ⟨K,fR _,by unfold turns;lia,hK,by rw[hKe];exact hf⟩;refine⟨j,e1,?_⟩;have hj:j<owner.size:=by rw[O.sz,<- e2];exact Uj (al' M h n)
 have get:∀ i,(owner.setIfInBounds j (some hs.length))[i]? = if j=i then some (some hs.length) else owner[i]? := λi=>by
  by_cases z:j=i
  ·subst z;simp[hj]
  ·simp[z]
 have oc:∀ i,k9 owner i=true->k9 (owner.setIfInBounds j (some hs.length)) i=true:=λi hi=>by
  unfold k9 at hi ⊢;rw[KP] at hi ⊢;rw[get];split
  ·rfl
  ·exact hi
 have i6:∀ v,owner[j]?≠some (some v):=λv z=>by have:=(rZ hj).mpr ⟨v,z⟩;rw[e4] at this;cases this
 refine⟨by rw[Array.size_setIfInBounds];exact O.sz,λi v z=>?_,λi i' v z z'=>?_,λv hv=>?_,λi v z=>?_⟩
 ·rw[get] at z;split at z
  ·cases z;simp
  ·have:=O.lt i v z;simp;lia
 ·rw[get] at z z';split at z
  ·cases z;split at z'
   ·lia
   ·exact absurd (O.lt _ _ z') (wq _)
  ·split at z'
   ·cases z';exact absurd (O.lt _ _ z) (wq _)
   ·exact O.inj i i' v z z'
 ·simp at hv;by_cases c:v=hs.length
  ·exact⟨j,by rw[get,if_pos rfl,c]⟩
  ·obtain⟨i,hi⟩:=O.all v (by lia);refine⟨i,?_⟩;rw[get,if_neg (λz=>i6 v (by rw[z];exact hi))];exact hi
 ·rw[get] at z;split at z
  ·rename_i hji;cases z;refine⟨n,e3,?_,λq hq=>oc _ ?_⟩
   ·rw[AO,EV (de _)];simp[e2,hji]
   ·have:=e5 q hq;simpa using this
  ·have hv:=O.lt i v z;obtain⟨n',a1,a2,a3⟩:=O.path i v z;have eg:(hs++[h]).getD v 0=hs.getD v 0:=by rw[AO,AO,EW hv]
   rw[eg];exact⟨n',a1,a2,λq hq=>oc _ (a3 q hq)⟩
def OI.nil(M:Nat):OI M [] (Array.replicate (M+1) none):=by
 have no:∀ (j v:Nat),¬ (Array.replicate (M+1) none)[j]? = some (some v):=λj v z=>by rw[Array.getElem?_replicate] at z;split at z<;>cases z
 exact⟨by simp,λj v z=>absurd z (no j v),λj j' v z _=>absurd z (no j v),λv hv=>absurd hv (E5 v),λj v z=>absurd z (no j v)⟩
def Fq(hM:M+1=2 ^ m)(hs:Array Int)(hl:hs.size<=M):∃ owner,layClean M hs=some owner/\OI M hs.toList owner:=by
 have go:∀ (l pre:List Int) owner,OI M pre owner->pre.length+l.length<=M->∃ dW',l.foldl (λacc h=>do
   let (owner,k) ← acc
   let j ← layClean.free M owner (turns M) (bits h % (M+1)) (bits h)
   pure (owner.setIfInBounds j (some k),k+1)) (some (owner,pre.length))=some (dW',pre.length+l.length)/\OI M (pre++l) dW':=by
  intro l
  induction l with
  |nil=>intro pre owner O _;exact⟨owner,rfl,by rw[mM];exact O⟩
  |cons h l ih =>
   intro pre owner O hz;rw[oi] at hz;obtain⟨j,e,O'⟩:=O.lay hM (by lia) h;obtain⟨o2,e2,O2⟩:=ih (pre++[h]) _ O' (by simp;lia);refine⟨o2,?_,by rw[ui] at O2;exact O2⟩;rw[AU];have:(do
    let (owner,k) ← (some (owner,pre.length):Option (Array (Option Nat) × Nat))
    let j ← layClean.free M owner (turns M) (bits h % (M+1)) (bits h)
    pure (owner.setIfInBounds j (some k),k+1))=some (owner.setIfInBounds j (some pre.length),(pre++[h]).length):=by
    simp[e]
   rw[this,e2];simp;lia
 obtain⟨o,e,O⟩:=go hs.toList [] _ (OI.nil M) (by simpa using hl);refine⟨o,?_,by simpa using O⟩;unfold layClean;rw[<- Array.foldl_toList];have e':=e;simp only[RB] at e';rw[e'];rfl
theorem jh:∀ (fuel a:Nat),3<=a->n<2 ^ (a+fuel)->∃ b,3<=b/\sizeAbove.go n fuel (2 ^ a)=2 ^ b/\n<2 ^ b/\(2 ^ b<=2*n\/b=a)
 |0,a,ha,h=>⟨a,ha,rfl,by simpa using h,.inr rfl⟩
 |fuel+1,a,ha,h=>by
  unfold sizeAbove.go;by_cases c:2 ^ a<=n
  ·rw[if_pos c];obtain⟨b,h1,h2,h3,h4⟩:=jh fuel (a+1) (by lia) (by rw[show a+1+fuel=a+(fuel+1) by lia];exact h);refine⟨b,h1,by rw[DC] at h2;exact h2,h3,?_⟩;rcases h4 with h4|h4
   ·exact .inl h4
   ·left;rw[h4,DC];lia
  ·rw[if_neg c];exact⟨a,ha,rfl,by lia,.inr rfl⟩
def lu(h:n<2 ^ 60):∃ b,3<=b/\sizeAbove n=2 ^ b/\n<2 ^ b/\(2 ^ b<=2*n\/b=3) :=
 jh 64 3 (de _) (WD h (by decide))
section
variable {α:Type}
def bB(M:Nat)(owner:Array (Option Nat)):List (Nat × Nat):=(List.range (M+1)).filterMap λj=>(owner.getD j none).map (j,·)
def dh:p∈bB M owner↔p.1<M+1/\owner[p.1]? = some (some p.2):=by
 unfold bB;rw[Ws];constructor
 ·rintro⟨j,hj,e⟩;rw[KP] at e
  cases h:owner[j]? with
  |none=>rw[h] at e;cases e
  |some o =>
   rw[h] at e
   cases o with
   |none=>cases e
   |some v =>cases e;exact⟨wo.mp hj,h⟩
 ·rintro⟨h1,h2⟩;exact⟨p.1,wo.mpr h1,by rw[KP,h2];rfl⟩
def rN(M:Nat)(owner:Array (Option Nat)):((bB M owner).map (·.1)).Pairwise (· < ·):=by
 unfold bB;rw[AR,List.pairwise_filterMap];refine List.Pairwise.imp ?_ List.pairwise_lt_range;intro a b NC p hp q hq
 cases h1:owner.getD a none with
 |none=>rw[h1] at hp;cases hp
 |some x =>
  cases h2:owner.getD b none with
  |none=>rw[h2] at hq;cases hq
  |some y =>rw[h1] at hp;rw[h2] at hq;cases hp;cases hq;exact NC
def tU{l:List Nat}(h:l.Pairwise (· < ·)):Up l.toArray:=λi j mw hj=>by
 have hj:j<l.length:=by simpa using hj
 have:=Ki.mp h i j (by lia) hj mw;have e:∀ k hk,l.toArray.getD k 0=l[k]:=λk hk=>by simp[Array.getD,hk]
 rw[e i (by lia),e j hj];exact this
theorem tG{β:Type}{f:α->Option β}:∀ {l:List α},(∀ x∈l,(f x).isSome=true)->(l.filterMap f).length=l.length/\∀ i:Nat,(l.filterMap f)[i]? = (l[i]?).bind f
 |[],_=>⟨rfl,λi=>by simp⟩
 |x :: l,h=>by
  obtain⟨a,b⟩:=tG λy hy=>h y (fo _ hy);have hx:=h x fw
  cases e:f x with
  |none=>rw[e] at hx;cases hx
  |some y =>
   rw[CM,e];refine⟨by simp[a],λi=>?_⟩
   cases i with
   |zero=>simp[e]
   |succ i=>simpa using b i
def tH(es:Array (Int × α)):(List.range es.size).filterMap (λi=>es[i]?)=es.toList:=by
 apply OS;intro i;rw[(tG λx hx=>by
  have:=wo.mp hx;simp[this]).2 i]
 by_cases h:i<es.size
 ·rw[Rv h,tj];rfl
 ·rw[GU (by simpa using h),GU (by simpa using h)];rfl
def Hf{M m finger moves:Nat}{led plain:Bool}(hM:M+1=2 ^ m)(hm:3<=m){es:Array (Int × α)}(hf:es.size*5<M*3) :
  ∃ t order,laid M finger moves led plain (es.map (·.1))=some (t,order)/\t.plain=plain/\t.led=led/\t.mask=M/\TI t (order.filterMap λi=>es[i]?)/\(order.filterMap λi=>es[i]?).size=es.size/\(order.filterMap λi=>es[i]?).toList.Perm es.toList/\order.toList.Perm (List.range es.size):=by
 obtain⟨owner,e,O⟩:=Fq hM (es.map (·.1)) (by rw[Array.size_map];lia);have hn:(es.map (·.1)).toList.length=es.size:=by simp
 refine⟨{ mask:=M,place:=((bB M owner).map (·.1)).toArray,dummies:=#[],finger,led,moves,plain },((bB M owner).map (·.2)).toArray,?_,rfl,rfl,rfl,?_⟩
 ·unfold laid;rw[e];rfl
 have vlt:∀ p∈bB M owner,p.2<es.size:=λp hp=>by have:=O.lt _ _ (dh.mp hp).2;lia
 have nd:((bB M owner).map (·.2)).Nodup:=by rw[Rp,AR];have:=rN M owner;rw[AR] at this;refine List.Pairwise.imp_of_mem ?_ this;intro p q hp hq eR z;have:=O.inj _ _ _ (dh.mp hp).2 (by rw[z];exact(dh.mp hq).2);lia
 have pm:((bB M owner).map (·.2)).Perm (List.range es.size):=by
  refine(List.perm_ext_iff_of_nodup nd List.nodup_range).mpr λv=>⟨λhv=>?_,λhv=>?_⟩
  ·obtain⟨p,hp,rfl⟩:=fP.mp hv;exact wo.mpr (vlt p hp)
  ·obtain⟨j,hj⟩:=O.all v (by rw[hn];exact wo.mp hv);have Tj:=(OZ.mp hj).1;rw[O.sz] at Tj;exact fP.mpr ⟨(j,v),dh.mpr ⟨Tj,hj⟩,rfl⟩
 have hlen:(bB M owner).length=es.size:=by have:=pm.length_eq;simpa using this
 have QD:(((bB M owner).map (·.2)).toArray.filterMap λi=>es[i]?).toList=(bB M owner).filterMap λp=>es[p.2]? := by rw[Array.toList_filterMap,Wt];rfl
 obtain⟨f1,f2⟩:=tG (l:=bB M owner) (f:=λp=>es[p.2]?) λp hp=>by simp[vlt p hp]
 have an':∀ i:Nat,(((bB M owner).map (·.2)).toArray.filterMap λi=>es[i]?)[i]? = ((bB M owner)[i]?).bind λp=>es[p.2]? := λi=>by rw[<- tj,QD];exact f2 i
 have hJ:(((bB M owner).map (·.2)).toArray.filterMap λi=>es[i]?).size=es.size:=by rw[<- AZ,QD,f1,hlen]
 have iO:∀ i:Nat,∀ p,(bB M owner)[i]? = some p->((bB M owner).map (·.1)).toArray.getD i 0=p.1:=λi p hp=>by simp[hp]
 have tk:∀ j,k9 owner j=true->j<=M->taken ((bB M owner).map (·.1)).toArray j=true:=λj hj hM'=>by
  obtain⟨v,hv⟩:=(rZ (by rw[O.sz];lia)).mp hj;obtain⟨i,hi⟩:=yT.mp (dh.mpr (show((j,v):Nat × Nat).1<M+1/\owner[((j,v):Nat × Nat).1]? = some (some ((j,v):Nat × Nat).2) from⟨by lia,hv⟩));exact(eN (tU (rN M owner))).mpr ⟨i,by
   have:=(kM.mp hi).1;simpa using this,iO i _ hi⟩
 refine⟨?_,hJ,?_,by simpa using pm⟩
 ·refine⟨⟨m,hM,hm⟩,?_,tU (rN M owner),λi hi=>?_,rfl,by rw[hJ];exact hf,λi h x hx=>?_⟩
  ·rw[hJ];simp[hlen]
  ·have hi:i<(bB M owner).length:=by simpa using hi
   have e1:=si hi;show((bB M owner).map (·.1)).toArray.getD i 0<=M;rw[iO i _ e1];have:=(dh.mp (pf e1)).1;lia
  ·rw[an'] at hx
   cases hp:(bB M owner)[i]? with
   |none=>rw[hp] at hx;cases hx
   |some p =>
    rw[hp] at hx;have hx:es[p.2]? = some (h,x):=hx;have QF:=dh.mp (pf hp);obtain⟨n,a1,a2,a3⟩:=O.path _ _ QF.2;have hh:(es.map (·.1)).toList.getD p.2 0=h:=by rw[AO,tj,Array.getElem?_map,hx];rfl
    rw[hh] at a2 a3;refine⟨n,a1,?_,λq hq=>tk _ (a3 q hq) (al' M h q)⟩;rw[iO i _ hp];exact a2
 ·rw[QD];have:=pm.filterMap λi=>es[i]?;rw[tH,Wt] at this;exact this
def zm{t:SetTable}{es:Array (Int × α)}(hn:es.size<=10000) :
  ∃ t' order,t.relaid (es.map (·.1)) (grown es.size)=some (t',order)/\t'.plain=t.plain/\t'.led=t.led/\sizeAbove (grown es.size)<=16777216/\(es.size<=1000->t'.mask<=8191)/\TI t' (order.filterMap λi=>es[i]?)/\(order.filterMap λi=>es[i]?).size=es.size/\(order.filterMap λi=>es[i]?).toList.Perm es.toList/\order.toList.Perm (List.range es.size):=by
 have hg:grown es.size=es.size*4:=by unfold grown;rw[if_neg (by lia)]
 obtain⟨b,h3,e,eR,hle⟩:=lu (n:=es.size*4) (by lia);have h8:8<=2 ^ b:=Nat.pow_le_pow_right (n:=2) (by decide) h3;unfold relaid;rw[hg,e];obtain⟨t',order,q1,q2,q3,qm,q4⟩:=Hf (M:=2 ^ b-1) (by lia) h3 (es:=es) (by lia);refine⟨t',order,q1,q2,q3,?_,λhz=>?_,q4⟩
 ·rcases hle with hle|rfl
  ·lia
  ·decide
 ·rw[qm];rcases hle with hle|rfl
  ·lia
  ·decide
end
section
variable {α:Type}{t:SetTable}{es:Array (Int × α)}
def uO(T:TI t es)(hashAt:Nat->Int)(h:Int):∀ (fuel n:Nat),(∃ N,n<=N/\N<n+fuel/\taken t.place (J t.mask h N)=false) ->
  ∃ n',n<=n'/\n'<n+fuel/\(∀ q,n<=q->q<n'->taken t.place (J t.mask h q)=true/\hashAt (below t.place (J t.mask h q))≠h) /\ ((taken t.place (J t.mask h n')=false/\probe.go t hashAt h fuel (ps t.mask h n)=some (.empty (J t.mask h n') none)) \/ (taken t.place (J t.mask h n')=true/\hashAt (below t.place (J t.mask h n'))=h/\probe.go t hashAt h fuel (ps t.mask h n)=some (.candidate (J t.mask h n') (below t.place (J t.mask h n')) (ps t.mask h (n'+1)))))
 |0,n,⟨N,h1,h2,_⟩=>by lia
 |fuel+1,n,⟨N,h1,h2,h3⟩=>by
  unfold probe.go;have hs:=T.slot (J t.mask h n);have hd:=(HH t.mask h n).2.2.1;by_cases c:taken t.place (J t.mask h n)=true
  ·rw[if_pos c] at hs;have hs:t.slot (ps t.mask h n).j=.live (below t.place (J t.mask h n)):=hs;rw[hs];dsimp only;by_cases e:hashAt (below t.place (J t.mask h n))=h
   ·rw[if_pos (by simpa using e)];exact⟨n,de _,by lia,λq a b=>by lia,.inr ⟨c,e,rfl⟩⟩
   ·rw[if_neg (by simpa using e)];have hN:N≠n:=λz=>by rw[z,c] at h3;cases h3
    obtain⟨n',a1,a2,a3,a4⟩:=uO T hashAt h fuel (n+1) ⟨N,by lia,by lia,h3⟩;refine⟨n',by lia,by lia,λq b1 b2=>?_,a4⟩;by_cases z:q=n
    ·subst z;exact⟨c,e⟩
    ·exact a3 q (by lia) b2
  ·have c:taken t.place (J t.mask h n)=false:=by simpa using c
   rw[if_neg (by rw[c];exact nX)] at hs;have hs:t.slot (ps t.mask h n).j=.empty:=hs;rw[hs];rw[hd];exact⟨n,de _,by lia,λq a b=>by lia,.inl ⟨c,rfl⟩⟩
end
section
variable {prog:cv}{w:cK}{K:Type}[DecidableEq K]{knd:KeyKind prog w K}
abbrev aN(knd:KeyKind prog w K)(k:List K):Int:=tupleKeyHash knd k
def Ax(knd:KeyKind prog w K)(p:List K × ah):Int × ag:=(aN knd p.1,.ref p.2)
structure QH(knd:KeyKind prog w K)(h:dr)(a:ah)(ks:List (List K × ah)):Prop where
 ob:∃ o es ep t,h.get? a=some o/\o.ExactSet/\o.data=.set es ep t/\TI t es/\t.mask<=8191/\t.led=(!w.params.followText "set-order")/\es.toList=ks.map (Ax knd)
 nd:(ks.map (·.1)).Nodup
 is:∀ p∈ks,IsTupleKey knd h p.1 p.2
variable {A:eB}{E:ag->ay->Prop}{s:ay}
def jZ(hk:IsTupleKey knd s.heap k a)(h:Q false s):bE (aT prog w) A (ofAClassStatement 8 (.ref a)) Q E s:=by
 have hT:=hk.typeIs;obtain⟨o,items,n,ho,_,hd,hi⟩:=hk;unfold ofAClassStatement;refine ax (wpAny_typeOf hT ?_);refine ax ?_;refine bG ?_;refine ax (OG ho hd ?_);refine ax ?_;rw[<- Ur];refine Rl _ (λrest r s'=>r.1=none/\s'=s/\∀ v∈rest,carriedByValue v=true) _ ?_ ?_ _ _ ⟨rfl,rfl,hi.byValue⟩
 ·rintro v rest r s' ⟨hr,rfl,rg⟩;have hv:=rg v fw;have e:ofAClassStatement 7 v=pure false:=by
   cases v with
   |ref a=>cases hv
   |_=>rfl
  rw[e];exact ax (bG (bG ⟨rfl,rfl,λu ND=>rg u (fo _ ND)⟩))
 ·rintro⟨r1,r2⟩ s' ⟨hr,rfl,_⟩;subst hr;exact bG h
def iH(hk:IsTupleKey knd s.heap k a)(FI:∀ k v,knd.is k v=true->v.scannable=true)(h:∀ b,Q b s):bE (aT prog w) A (hashByValue 8 (.ref a)) Q E s:=by
 have hT:=hk.typeIs;obtain⟨o,items,n,ho,_,hd,hi⟩:=hk;have lz':∀ v∈items.toList,v.scannable=true:=by
  generalize items.toList=l at hi
  induction hi with
  |nil=>intro v hv;cases hv
  |cons h1 _ ih =>
   intro v hv;rcases fm.mp hv with rfl|hv
   ·exact FI _ _ h1
   ·exact ih v hv
 refine ax (wpAny_specialOf hT F.slot_tuple_hash.lookup ?_);refine ax (OG ho hd ?_);dsimp only[Option.getD];refine ax ?_;rw[<- Ur];refine Rl _ (λrest r s'=>s'=s/\∀ v∈rest,v.scannable=true) _ ?_ ?_ _ _ ⟨rfl,lz'⟩
 ·rintro v rest r s' ⟨rfl,rg⟩;rw[hashByValue_scannable 7 (rg v fw)];refine ax (bG ?_);split
  ·exact bG (bG (h _))
  ·exact bG ⟨rfl,λu ND=>rg u (fo _ ND)⟩
 ·rintro⟨r1,r2⟩ s' ⟨rfl,_⟩
  cases r1 with
  |none=>exact bG (h true)
  |some b=>exact bG (h b)
end
local macro_rules | `(tactic| walk_at $s:str) => do
 let x:=s.getString
 if x.startsWith "PV" then `(tactic| exact $(Lean.mkIdent (.str (.str (.num (.str (.str (.str .anonymous "_private") "PySem") "SetOps") 0) "PySem") (x.drop 2).toString)))
 else Lean.Macro.throwUnsupported
abbrev xN:Array (Int × ag)->Nat->Int:=by walk_at "PVstoredHashAt"
abbrev Ea:Array (Int × ag)->Option (SetTable × Array Nat)->Sem (Array (Int × ag) × SetTable):=by walk_at "PVreordered"
abbrev oV:Array (Int × ag)->SetTable->Bool:=by walk_at "PVdrawn"
def rJ:Array (Int × ag)->Nat->Int:=xN
def pL(es:Array (Int × ag))(i:Nat):rJ es i=(es[i]?.map (·.1)).getD 0:=rfl
section
variable {prog:cv}{w:cK}{K:Type}[DecidableEq K]{knd:KeyKind prog w K}{A:eB}{E:ag->ay->Prop}{s:ay}
def v7(hk:IsTupleKey knd s.heap k a)(hy:∀ y∈ys,∃ k' b,y=.ref b/\IsTupleKey knd s.heap k' b)(h:Q false s):bE (aT prog w) A (searchCouldBeSeen (.ref a) ys) Q E s:=by
 refine ax ?_;refine Rl _ (λrest r s'=>r.1=none/\s'=s/\∀ y∈rest,∃ k' b,y=.ref b/\IsTupleKey knd s.heap k' b) _ ?_ ?_ _ _ ⟨rfl,rfl,hy⟩
 ·rintro y rest r s' ⟨hr,rfl,rg⟩;obtain⟨k',b,rfl,hb⟩:=rg y fw;dsimp only;split
  ·exact bG ⟨rfl,rfl,λu ND=>rg u (fo _ ND)⟩
  ·exact ax (wpAny_eqIsQuiet_tuple hk (ax (wpAny_eqIsQuiet_tuple hb (ax (jZ hk (ax (jZ hb (bG ⟨rfl,rfl,λu ND=>rg u (fo _ ND)⟩))))))))
 ·rintro⟨r1,r2⟩ s' ⟨hr,rfl,_⟩;subst hr;exact bG h
def Lb{K G:Prop}(pk:K)(h:K->G):G:=h pk
def pR{a x:ah}{k:List K}{ks:List (List K × ah)}{o:Obj}{es:Array (Int × ag)}{ep:Nat}{t:SetTable}(hu:A.units<gv)(ho:s.heap.get? a=some o)(hd:o.data=.set es ep t)(T:TI t es)(he:es.toList=ks.map (Ax knd))(B8:∀ p∈ks,IsTupleKey knd s.heap p.1 p.2) (hx:IsTupleKey knd s.heap k x) {Q:SetFound->ay->Prop} (dY':k∈ks.map (·.1)->Q (.there none) s)(nf:Nat) (hnf:nf<=10*(t.mask+13)) (QJ:taken t.place (J t.mask (aN knd k) nf)=false) (QC:∀ q<nf,taken t.place (J t.mask (aN knd k) q)=true)(UT:k∉ks.map (·.1)->Q (.free (J t.mask (aN knd k) nf) false) s) :
  ∀ (fuel n:Nat) (stand:Option Probe),stand.getD (t.probeStart (aN knd k))=ps t.mask (aN knd k) n->n<=nf->nf<n+fuel -> (∀ q<n,∀ p,ks[below t.place (J t.mask (aN knd k) q)]? = some p->p.1≠k)->bE (aT prog w) A (setSearchFrom a (.ref x) (aN knd k) true fuel stand) Q E s
 |0,n,stand,_,h1,h2,_=>by lia
 |fuel+1,n,stand,kE,h1,h2,hq=>by
  have hel:∀ i:Nat,es[i]? = (ks[i]?).map (Ax knd):=λi=>by rw[<- tj,he,ku]
  refine ax (CC ho hd T.fits ?_);dsimp only;rw[if_neg (by rw[T.odd];exact nX)];obtain⟨n',a1,a2,a3,a4⟩:=uO T (rJ es) (aN knd k) (10*turns t.mask) n ⟨nf,h1,by unfold turns;lia,QJ⟩;have Fh:n'<=nf:=by
   by_cases z:n'<=nf
   ·exact z
   ·have:=(a3 nf h1 (by lia)).1;rw[QJ] at this;cases this
  rcases a4 with⟨c1,c2⟩|⟨c1,c2,c3⟩
  ·have c2:t.probe (rJ es) (aN knd k) (stand.getD (t.probeStart (aN knd k)))=some (.empty (J t.mask (aN knd k) n') none):=by rw[kE];exact c2
   have e:n'=nf:=by
    by_cases z:n'<nf
    ·have:=QC n' z;rw[c1] at this;cases this
    ·lia
   have c2:t.probe (xN es) (aN knd k) (stand.getD (t.probeStart (aN knd k)))=some (.empty (J t.mask (aN knd k) n') none):=c2;rw[c2];rw[e];refine bG (UT λhm=>?_);obtain⟨p,hp,rfl⟩:=fP.mp hm;obtain⟨i,hi⟩:=yT.mp hp;have ei:es[i]? = some (aN knd p.1,.ref p.2):=by rw[hel,hi];rfl
   have dZ':i<t.place.size:=by rw[T.sz];exact(OZ.mp ei).1
   obtain⟨ni,b1,b2,b3⟩:=T.path i _ _ ei;have bt:below t.place (J t.mask (aN knd p.1) ni)=i:=by rw[b2];exact below_at T.up dZ'
   have tk:taken t.place (J t.mask (aN knd p.1) ni)=true:=by rw[b2];exact(eN T.up).mpr ⟨i,dZ',rfl⟩
   have eR:ni<nf:=by
    by_cases z:nf<ni
    ·have:=b3 nf z;rw[QJ] at this;cases this
    ·have:ni≠nf:=λz=>by rw[z,QJ] at tk;cases tk
     lia
   by_cases z:ni<n
   ·exact hq ni z p (by rw[bt];exact hi) rfl
   ·refine(a3 ni (by lia) (by lia)).2 ?_;rw[bt,pL,ei];rfl
  ·have c3:t.probe (xN es) (aN knd k) (stand.getD (t.probeStart (aN knd k)))=some (.candidate (J t.mask (aN knd k) n') (below t.place (J t.mask (aN knd k) n')) (ps t.mask (aN knd k) (n'+1))):=by rw[kE];exact c3
   rw[c3];dsimp only;have tk:=nT T.up c1;have QK:t.slot (J t.mask (aN knd k) n')=.live (below t.place (J t.mask (aN knd k) n')):=by rw[T.slot,if_pos c1]
   generalize hi:below t.place (J t.mask (aN knd k) n')=i at tk c2 QK ⊢;have hil:i<es.size:=by rw[<- T.sz];exact tk.1
   obtain⟨p,hp⟩:∃ p,ks[i]? = some p:=by
    have:i<ks.length:=by have:=congrArg List.length he;simp at this;lia
    exact⟨_,si this⟩
   have ei:es[i]? = some (aN knd p.1,.ref p.2):=by rw[hel,hp];rfl
   have hpm:=pf hp;have i6:n'≠nf:=λz=>by rw[z,QJ] at c1;cases c1
   have again:¬ p.1=k->bE (aT prog w) A (setSearchFrom a (.ref x) (aN knd k) true fuel (some (ps t.mask (aN knd k) (n'+1)))) Q E s:=λhpk =>
    pR hu ho hd T he B8 hx dY' nf hnf QJ QC UT fuel (n'+1) (some (ps t.mask (aN knd k) (n'+1))) rfl (by lia) (by lia) λq VP p' iF=>by
     by_cases z:q<n
     ·exact hq q z p' iF
     ·by_cases z2:q=n'
      ·subst z2;rw[hi,hp] at iF;cases iF;exact hpk
      ·intro e';have:=(a3 q (by lia) (by lia)).2;refine this ?_;rw[pL,hel,iF];show aN knd p'.1=_;rw[e']
   have mz:p.1=k->k∈ks.map (·.1):=λe=>e ▸ fP.mpr ⟨p,hpm,rfl⟩;have seen:∀ y∈List.map (λx=>x.snd) (Array.filter (λx=>x.fst == aN knd k) es).toList,∃ k' b,y=.ref b/\IsTupleKey knd s.heap k' b:=λy hy=>by obtain⟨e',Vp,rfl⟩:=fP.mp hy;rw[Array.toList_filter] at Vp;have:=(E2.mp Vp).1;rw[he] at this;obtain⟨p',iF,rfl⟩:=fP.mp this;exact⟨p'.1,p'.2,rfl,B8 p' iF⟩
   refine Lb ?pk (K:=?K) λkey=>?main;case main =>
    split
    ·refine ax (v7 hx seen ?_);exact key
    ·exact key
   rw[ei];refine ax (xC (wpAny_eqBool_tuple hu (B8 p hpm) hx ?_));refine ax (CC ho hd T.fits ?_);by_cases e:p.1=k
   ·rw[if_pos (by simp[e])];exact bG (dY' (mz e))
   ·rw[if_neg (by simp[e])];have ZR:t.sameMemory t.moves t.mask=some true:=by unfold sameMemory;rw[if_pos (by simp)]
    rw[ZR];dsimp only;rw[if_pos rfl,QK];dsimp only;rw[ei];refine ax ?_;unfold isSame;dsimp only;rw[if_pos (by simp)];refine bG (ax (bG ?_));rw[if_pos rfl];dsimp only;rw[if_neg (by simp[e])];exact again e
end
def ql{α β:Type}{f:α->β}:∀ {l l2:List β},l.Perm l2->∀ {m:List α},l2=m.map f->∃ m':List α,l=m'.map f/\m'.Perm m:=by
 intro l l2 p
 induction p with
 |nil=>intro m e;exact⟨m,by rw[<- e],.refl _⟩
 |cons x _ ih =>
  intro m e
  cases m with
  |nil=>cases e
  |cons y m =>simp only[jS,List.cons.injEq] at e;obtain⟨m',e1,p1⟩:=ih e.2;exact⟨y :: m',by rw[jS,<- e1,e.1],p1.cons _⟩
 |swap x y l =>
  intro m e
  match m,e with
  |a :: b :: m,e =>simp only[jS,List.cons.injEq] at e;exact⟨b :: a :: m,by simp[e.1,e.2.1,e.2.2],.swap ..⟩
 |trans _ _ ih1 Z5 =>intro m e;obtain⟨m',e1,p1⟩:=Z5 e;obtain⟨m2,e2,p2⟩:=ih1 e1;exact⟨m2,e2,p2.trans p1⟩
def vm{α:Type}(xs:Array α)(p:Nat)(x:α):(insertAt xs p x).toList=xs.toList.take p++x :: xs.toList.drop p:=by unfold insertAt;simp;rw[OQ (by simp)]
def pY(hz:(order.filterMap λi=>es[i]?).size=es.size)(h:Q (order.filterMap λi=>es[i]?,t) s):bE (aT prog w) A (Ea es (some (t,order))) Q E s:=by
 show bE _ _ (if ((order.filterMap λi=>es[i]?).size != es.size)=true then (do unsupported "internal:set-table-lost-an-element";pure (order.filterMap λi=>es[i]?,t)) else pure (order.filterMap λi=>es[i]?,t)) _ _ _;rw[if_neg (by simp[hz])];exact bG h
section
variable {prog:cv}{w:cK}{K:Type}[DecidableEq K]{knd:KeyKind prog w K}{A:eB}{E:ag->ay->Prop}{s:ay}
def IsTupleKey.fA(hk:IsTupleKey knd h k a)(e:∀ o,h.get? a=some o->h'.get? a=some o):IsTupleKey knd h' k a:=by obtain⟨o,items,n,ho,r⟩:=hk;exact⟨o,items,n,e o ho,r⟩
def QH.ne(S:QH knd h a ks)(hx:IsTupleKey knd h k x):x≠a:=by obtain⟨⟨o,es,ep,t,ho,hex,_⟩,_,_⟩:=S;obtain⟨o',items,n,nE,hc,_⟩:=hx;intro z;subst z;rw[ho] at nE;cases nE;rw[hex.1] at hc;exact absurd hc (by decide)
def Ij(S:QH knd s.heap a ks)(hx:IsTupleKey knd s.heap k x)(hz:ks.length<1000)(hu:A.units<gv)(FI:∀ k v,knd.is k v=true->v.scannable=true)(h:∀ (b:Bool) (h':dr) (k6:List (List K × ah)),Heap.SameBut a s.heap h'->QH knd h' a k6->(k∈ks.map (·.1)/\k6=ks\/k∉ks.map (·.1)/\k6.Perm ((k,x) :: ks))->Q b { s with heap:=h' }) :
  bE (aT prog w) A (setAddHashed a (.ref x) (aN knd k)) Q E s:=by
 obtain⟨⟨o,es,ep,t,ho,hex,hd,T,hM,hL,he⟩,nd,is⟩:=id S;have hlen:es.size=ks.length:=by have:=congrArg List.length he;simpa using this
 obtain⟨m,hm,_⟩:=T.pw;obtain⟨e0,he0,hf0⟩:=T.free;obtain⟨nf,n1,n2,n3⟩:=vV hm (aN knd k) (taken t.place) he0 hf0;refine xC (ax (CC ho hd T.fits ?_));dsimp only;have hbs:byScan (.ref x) es=false:=rfl;refine ax ?_;refine pR hu ho hd T he is hx (λmz=>?_) nf n1 n2 n3 (λSW=>?_) 100000 0 none rfl (fR _) (by lia) λq hq=>absurd hq (E5 q)
 ·dsimp only;refine bG ?_;have e:s={ s with heap:=s.heap }:=by cases s;rfl
  exact h _ _ ks (Heap.SameBut.refl a s.heap) S (.inl ⟨mz,rfl⟩)
 ·dsimp only;generalize hj:J t.mask (aN knd k) nf=j at n2 ⊢;have hjm:j<=t.mask:=by rw[<- hj];exact al' ..
  have hre:Reach t.mask t.place (aN knd k) j:=⟨nf,n1,hj,n3⟩
  refine ax (CC ho hd T.fits ?_);have lI':t.put j=({ t with place:=insertAt t.place (below t.place j) j,dummies:=#[] },below t.place j):=by
   unfold SetTable.put;have:has t.dummies j=false:=by rw[T.dm];rfl
   simp only[this,uj,if_false];rw[T.dm]
  rw[lI'];have mz:(insertAt es (below t.place j) (aN knd k,.ref x)).toList=(ks.take (below t.place j)++(k,x) :: ks.drop (below t.place j)).map (Ax knd):=by rw[vm,he,pz,jS,List.map_take,List.map_drop];rfl
  have QL:(ks.take (below t.place j)++(k,x) :: ks.drop (below t.place j)).Perm ((k,x) :: ks):=by refine List.perm_middle.trans ?_;rw[Rt]
  have QN:below t.place j<=es.size:=by rw[<- T.sz];exact(aZ T.up j).1
  have D6:(insertAt es (below t.place j) (aN knd k,Value.ref x)).size=es.size+1:=cC _ _ QN;have isK:∀ h',Heap.SameBut a s.heap h'->∀ k6:List (List K × ah),k6.Perm ((k,x) :: ks)->∀ p∈k6,IsTupleKey knd h' p.1 p.2:=λh' sb k6 pm p hp=>by
   have:IsTupleKey knd s.heap p.1 p.2:=by
    rcases fm.mp (pm.mem_iff.mp hp) with rfl|hp
    ·exact hx
    ·exact is p hp
   exact IsTupleKey.fA this λo' nE=>sb.extBut _ _ (S.ne this) nE
  have ndK:∀ k6:List (List K × ah),k6.Perm ((k,x) :: ks)->(k6.map (·.1)).Nodup:=λk6 pm=>by rw[(pm.map _).nodup_iff,jS,oj];exact⟨SW,nd⟩
  -- behind the flag
  have main:∀ pl:Bool,bE (aT prog w) A (do
    storeSet a (insertAt es (below t.place j) (aN knd k,.ref x)) { t with place:=insertAt t.place (below t.place j) j,dummies:=#[],plain:=pl }
    if (!false && ({ t with place:=insertAt t.place (below t.place j) j,dummies:=#[],plain:=pl }:SetTable).tooFull)=true then do
      setRelay a (grown (es.size+1))
      pure true
     else pure true) Q E s:=λpl=>by
   generalize Tn:({ t with place:=insertAt t.place (below t.place j) j,dummies:=#[],plain:=pl }:SetTable)=t';have tm:t'.mask=t.mask:=by rw[<- Tn]
   have tp:t'.place=insertAt t.place (below t.place j) j:=by rw[<- Tn]
   have td:t'.dummies = #[]:=by rw[<- Tn]
   have ed':t'.fill=es.size+1:=by unfold SetTable.fill;rw[tp,td,cC _ _ (aZ T.up j).1,T.sz];simp
   refine ax (wpAny_storeSet_of ho hd ?_ (by rw[D6,kB];lia));have D5:(s.heap.update a (Obj.putSet (insertAt es (below t.place j) (aN knd k,.ref x)) t')).get? a=some { o with data:=.set (insertAt es (below t.place j) (aN knd k,.ref x)) (ep+1) t' }:=by have:=GY (Obj.putSet (insertAt es (below t.place j) (aN knd k,.ref x)) t') ho (by rw[putSet_of _ _ hd];rfl);rw[putSet_of _ _ hd] at this;exact this
   have B9:=Heap.SameBut.update s.heap a (Obj.putSet (insertAt es (below t.place j) (aN knd k,.ref x)) t');by_cases c:t'.tooFull=true
   ·rw[if_pos (by rw[c];rfl)];have dF':t'.fits (insertAt es (below t.place j) (aN knd k,Value.ref x)).size=true:=by have:=T.few;simp only[SetTable.fits,ed',mS,beq_iff_eq,decide_eq_true_eq];rw[tp,cC _ _ (aZ T.up j).1,D6,T.sz,tm];exact⟨rfl,by lia⟩
    obtain⟨t2,order,r1,r2,r3,r4,r5,r6,r7,r8,_⟩:=zm (es:=insertAt es (below t.place j) (aN knd k,Value.ref x)) (by lia);rw[D6] at r1 r4;refine ax (ax (CC D5 rfl dF' ?_));dsimp only;rw[if_neg (by rw[kB];lia)];refine ax ?_;rw[r1];obtain⟨k6,ek,pk⟩:=ql r8 mz;refine pY r7 ?_;refine wpAny_storeSet_of D5 rfl ?_ (by rw[r7,D6,kB];lia);refine bG ?_;have QQ:=B9.trans (Heap.SameBut.update _ a (Obj.putSet (order.filterMap λi=>(insertAt es (below t.place j) (aN knd k,Value.ref x))[i]?) t2));have Fu:=GY (Obj.putSet (order.filterMap λi=>(insertAt es (below t.place j) (aN knd k,Value.ref x))[i]?) t2) D5 (by rw[putSet_of _ _ rfl];rfl);exact h true _ k6 QQ ⟨⟨_,_,_,_,Fu,hex,rfl,r6,r5 (by lia),by rw[r3,<- Tn];exact hL,ek⟩,ndK k6 (pk.trans QL),isK _ QQ k6 (pk.trans QL)⟩ (.inr ⟨SW,pk.trans QL⟩)
   ·rw[if_neg (by simpa using c)];refine bG ?_;have zk:(es.size+1)*5<t.mask*3:=by unfold SetTable.tooFull at c;rw[ed',tm] at c;simpa using c
    exact h true _ _ B9 ⟨⟨_,_,_,_,D5,hex,rfl,T.put hjm n2 hre tm tp td zk,by rw[tm];exact hM,by rw[<- Tn];exact hL,mz⟩,ndK _ QL,isK _ B9 _ QL⟩ (.inr ⟨SW,QL⟩)
  split
  ·refine ax (iH hx FI λb=>?_)
   cases b with
   |true=>exact main t.plain
   |false=>exact main false
  ·exact ax (bG (main t.plain))
end
end TS
namespace TS
open PySem PySem.SetTable PyProof.Rows
section
variable {prog:cv}{w:cK}{A:eB}{R:Result->ay->Prop}{I:ah}{fp wr:List ah}{n:Nat}{P:Nat->ag->Prop}{St:Nat->dr->Prop}
def Cm(W:Walks prog w A.in1 I fp wr n P St)(S:ah)(B7:S∉fp)(SI:Nat->dr->Prop)(keep:∀ i h h',SI i h->(∀ b o,b∉wr->h.get? b=some o->h'.get? b=some o)->SI i h')(step:∀ (i:Nat) (v:ag) (s':ay) (E':ag->ay->Prop) (Q:Bool->ay->Prop),P i v->SI i s'.heap->(∀ b h' tk,Heap.SameBut S s'.heap h'->SI (i+1) h'->Q b { s' with heap:=h',toks:=tk })->bE (aT prog w) A.in1 (setAdd S v) Q E' s') :
  ∀ (k i:Nat) (s:ay),n-i=k->i<=n->St i s.heap->SI i s.heap -> (∀ h' tk,SI n h'->(∀ b o,b∉wr->b≠S->s.heap.get? b=some o->h'.get? b=some o)->R (.ok (.ret .none)) { s with heap:=h',toks:=tk }) ->
   ua (aT prog w) A (.builtin "set.update.loop" ⟨[.ref S,.ref I],[]⟩) R s:=by
 have hSw:S∉wr:=λh=>B7 (W.sub _ h);intro k
 induction k with
 |zero =>
  intro i s hk hi kE hS hR;have mz:i=n:=by lia
  subst mz;refine BG F.entry_set_update_loop ?_;rw[Around.under_plainId F.plain_set_update_loop _];show bE _ A.in1 (pyNext (.ref I) >>= _) _ _ s;refine ax (W.done s _ _ kE λh' tk kg=>?_);show bE _ A.in1 (ret Value.none) _ _ _;exact bG (hR h' tk (keep _ _ _ hS kg) λb o hb _ e=>kg b o hb e)
 |succ k ih =>
  intro i s hk hi kE hS hR;have eR:i<n:=by lia
  refine BG F.entry_set_update_loop ?_;rw[Around.under_plainId F.plain_set_update_loop _];show bE _ A.in1 (pyNext (.ref I) >>= _) _ _ s;refine ax (W.item i s _ _ eR kE λv h' tk hP Te kg=>?_);show bE _ A.in1 (holding [v] (setAdd S v) >>= _) _ _ _;refine ax (xC (step i v _ _ _ hP (keep _ _ _ hS kg) λb h2 tk2 sb hS2=>?_));refine bG ⟨CD F.plain_set_update_loop _,ih (i+1) _ (by lia) eR (W.frame _ _ _ Te λb hb o e=>?_) hS2 λh3 tk3 hS3 MR=>?_⟩
  ·exact sb.extBut b o (λz=>B7 (by rw[<- z];exact hb)) e
  ·exact hR h3 tk3 hS3 λb o hb vx e=>MR b o hb vx (sb.extBut b o vx (kg b o hb e))
end
section
variable {prog:cv}{w:cK}{A:eB}{E:ag->ay->Prop}{s:ay}
def yl(a:ag)(h:Q₁ (.ref s.heap.objs.size) { s with heap:=s.heap.push { cls:=.type "set",dict:=none,data:=.set #[] 0 (.fresh 0 0 (!w.params.followText "set-order")) } }) :
  ua (aT prog w) A (.call (.builtin "set.__new__") ⟨[.type "set",a],[]⟩) (wants Q₁ E) s:=by
 refine codeAny_of_tree ?_;show bE _ A.in1 (do checkBuiltinCall "set.__new__" ⟨[.type "set",a],[]⟩;again (.builtin "set.__new__" ⟨[.type "set",a],[]⟩)) _ _ s;refine ax (JJ (F.newCall_set_1 a) (bG ⟨CD F.plain_set_new _,BG F.entry_set_new ?_⟩));rw[Around.under_plainId F.plain_set_new _];unfold Builtin.«set.__new__» Builtin.Frozenset.newClass;have ap':=sub_set_self;obtain⟨hp,g,d,tk,os⟩:=s;dsimp only
 wp_walk
 refine OB (bG ?_);dsimp only;simp only[newObj];refine ax (wpAny_alloc (bG ?_));exact bG h
def pX(hh:A.handled=none)(hl:s.heap.IsList l items)(SI:Nat->dr->Prop)(h0:∀ h,h.get? s.heap.objs.size=some { cls:=.type "set",dict:=none,data:=.set #[] 0 (.fresh 0 0 (!w.params.followText "set-order")) }->(∀ b o,s.heap.get? b=some o->h.get? b=some o)->SI 0 h) (keep:∀ i h h',SI i h->(∀ b o,b<=s.heap.objs.size->h.get? b=some o->h'.get? b=some o)->SI i h') (step:∀ (i:Nat) (v:ag) (s':ay) (E':ag->ay->Prop) (Q:Bool->ay->Prop),items[i]? = some v->SI i s'.heap->(∀ b h' tk,Heap.SameBut s.heap.objs.size s'.heap h'->SI (i+1) h'->Q b { s' with heap:=h',toks:=tk }) ->
   bE (aT prog w) A.in1.in1.in1 (setAdd s.heap.objs.size v) Q E' s')
  (h:∀ (h':dr) (tk:Nat),SI items.size h'->(∀ b o,b<s.heap.objs.size->s.heap.get? b=some o->h'.get? b=some o)->Q (.ref s.heap.objs.size) { s with heap:=h',toks:=tk }) :
  bE (aT prog w) A (call (.type "set") [.ref l]) Q E s:=by
 obtain⟨c,tl,rm'⟩:=F.called_set.mro;have rn':=F.called_set.made;have ap':=F.called_set.sub;refine wpAny_call (codeAny_of_tree ?_);show bE _ _ (callAny (.type "set") _) _ _ _;refine bG ⟨Code.quiet_builtin _ (by decide +kernel),BG F.entry_type_call ?_⟩;rw[Around.under_plain (weight_type_call_type "set" [.ref l] []) rfl];have h1:=F.called_set.notType;have h2:=F.called_set.canCreate;have hct:=F.typeCall_set_1 (.ref l);repeat (any_goals (first|assumption|wp_step))
 refine Jn (yl (.ref l) (E:=E) (Q₁:=λobj fz=>obj=.ref s.heap.objs.size/\fz={ s with heap:=s.heap.push { cls:=.type "set",dict:=none,data:=.set #[] 0 (.fresh 0 0 (!w.params.followText "set-order")) } }) ⟨rfl,rfl⟩) λr fz hr=>?_
 cases r with
 |error e=>exact hr
 |ok fl =>
  cases fl with
  |ret obj =>
   obtain⟨rfl,rfl⟩:=hr;generalize rq':(!w.params.followText "set-order")=led at h0 ⊢;have hS:(s.heap.push { cls:=.type "set",dict:=none,data:=.set #[] 0 (.fresh 0 0 led) }).get? s.heap.objs.size=some { cls:=.type "set",dict:=none,data:=.set #[] 0 (.fresh 0 0 led) }:=i9 _ rfl;have hT:Shared.TypeIs { s with heap:=s.heap.push { cls:=.type "set",dict:=none,data:=.set #[] 0 (.fresh 0 0 led) } } (.ref s.heap.objs.size) "set" := ⟨_,hS,rfl⟩
   have hli:=F.called_set.init.lookup;have hbi:=F.called_set.init.bind (.ref s.heap.objs.size);repeat (any_goals (first|assumption|wp_step))
   refine Jn (codeAny_call_builtin (R:=wants (λr ya=>r=.none/\∃ h' tk,ya={ s with heap:=h',toks:=tk }/\SI items.size h' /\ (∀ b o,b<s.heap.objs.size->s.heap.get? b=some o->h'.get? b=some o)) E) F.called_set.init.plain F.entry_set_init (check_set_init_1 hT ?_)) λlM' ya aq'=>?_
   ·obtain⟨ol,BD,pV,nl,hdl⟩:=hl;obtain⟨rt',lN',ru',lO'⟩:=ol;simp only at pV hdl;subst pV;subst hdl;have lP':(s.heap.push { cls:=.type "set",dict:=none,data:=.set #[] 0 (.fresh 0 0 led) }).get? l=some { cls:=.type "list",dict:=lN',data:=.seq items nl,slots:=lO' }:=eM _ BD;have rv':=F.sub_list_set;have rx':=F.sub_list_frozenset;have i6:(Value.type "list" == Value.type "dict")=false:=by decide
    have P8:(s.heap.push { cls:=.type "set",dict:=none,data:=.set #[] 0 (.fresh 0 0 led) }).IsList l items:=⟨_,lP',rfl,nl,rfl⟩
    unfold Builtin.«set.__init__» noKeywords Builtin.Frozenset.updateFrom;generalize hPI:pyIter=PI
    wp_walk
    subst hPI;refine wpAny_pyIter_list P8 ?_;refine ax (wpAny_runValue ?_);have hlS:l<s.heap.objs.size:=eT BD;have hh3:A.in1.in1.in1.handled=none:=by simp[hh]
    have hJ:(s.heap.push { cls:=.type "set",dict:=none,data:=.set #[] 0 (.fresh 0 0 led) }).objs.size=s.heap.objs.size+1:=Uh ..;have lS':l≠(s.heap.push { cls:=.type "set",dict:=none,data:=.set #[] 0 (.fresh 0 0 led) }).objs.size:=by rw[hJ];exact gu (AV hlS)
    have B7:s.heap.objs.size∉[(s.heap.push { cls:=.type "set",dict:=none,data:=.set #[] 0 (.fresh 0 0 led) }).objs.size,l]:=by rw[hJ];simp only[fm,kD,EX,or_false,not_or];exact⟨gu (Uk _),OW hlS⟩
    refine Cm (Walks.list hh3 _ l lS' items) s.heap.objs.size B7 SI (λi h h' hi hk=>keep i h h' hi λb o hb e=>hk b o ?_ e) (λi v s' E' Q' hP hi hq=>step i v s' E' Q' hP hi hq) (items.size-0) 0 _ (by lia) (fR _) ⟨⟨_,i9 _ rfl,rfl,rfl⟩,(P8.push _)⟩ ?hS0 ?hR
    ·rw[hJ];simp only[fm,EX,or_false];exact gu (Uj hb)
    case hS0 =>
     exact h0 _ (eM _ hS) λb o e=>eM _ (eM _ e)
    case hR =>
     intro h' VQ AB kg;show bE _ _ _ _ _ _;refine bG ?_;show bE _ _ (ret Value.none) _ _ _;refine bG ⟨rfl,h',VQ,rfl,AB,λb o hb e=>?_⟩;refine kg b o ?_ (gu hb) (eM _ (eM _ e));rw[hJ];simp only[fm,EX,or_false];exact gu (AV hb)
   ·cases lM' with
    |error e=>exact aq'
    |ok lU' =>
     cases lU' with
     |ret r =>
      obtain⟨rfl,h',tk,rfl,AB,kg⟩:=aq';repeat (any_goals (first|assumption|wp_step))
      exact h _ _ AB kg
     |_=>exact aq'.elim
  |_=>exact hr.elim
end
def qb:Manifest.owners.lookup (String.ofList ['r','o','t','a','r','e','t','i','_','t','e','s'].reverse)=some Manifest.sig_set_iterator:=by kernel_rfl
def bA:Slot "set_iterator" "__next__" "set_iterator.__next__" :=
 .of (owner := "set_iterator") (n := "__next__") (by rw[typeLookup_type,builtinLookup_eq_fast];kernel_rfl) (by decide +kernel) (by decide +kernel) (by decide +kernel) (by first|exact .inl (by decide +kernel)|exact .inr (by decide +kernel)) (by rw[isSubtype_type];kernel_rfl)
def lg:entryFor table "set_iterator.__next__" = some Builtin.«set_iterator.__next__» := entryFor_of_tree (by kernel_rfl)
def ph (a:ag):argsOk "set_iterator.__next__" ⟨[a],[]⟩:=by unfold argsOk;rw[signature?_of (n:=['_','_','t','x','e','n','_','_']) (by kernel_rfl) qb];kernel_rfl
def gP:Slot "set_iterator" "__iter__" "set_iterator.__iter__" :=
 .of (owner := "set_iterator") (n := "__iter__") (by rw[typeLookup_type,builtinLookup_eq_fast];kernel_rfl) (by decide +kernel) (by decide +kernel) (by decide +kernel) (by first|exact .inl (by decide +kernel)|exact .inr (by decide +kernel)) (by rw[isSubtype_type];kernel_rfl)
def lM:entryFor table "set.__iter__" = some Builtin.«frozenset.__iter__» :=
 entryFor_alias (id' := "frozenset.__iter__") (by kernel_rfl) rfl (by decide +kernel) (by kernel_rfl)
theorem iB{α:Type}:∀ (l:List α) (i:Nat) (h:i<l.length),(l[i] :: l.eraseIdx i).Perm l
 |x :: l,0,_=>.refl _
 |x :: l,i+1,h=>by have ih:=iB l i (by simpa using h);exact(List.Perm.swap _ _ _).trans (ih.cons x)
theorem yp{α:Type}(next:Nat->Nat):∀ (fuel k:Nat) (left:List α) (out:Array α),left.length=fuel->(pickOrder.go next fuel k left out).toList.Perm (out.toList++left)
 |0,k,left,out,h=>by have:left=[]:=Rq.mp h;subst this;unfold pickOrder.go;rw[mM]
 |fuel+1,k,left,out,h=>by unfold pickOrder.go;have eR:next k % left.length<left.length:=OY _ (by lia);rw[si eR];refine(yp next fuel (k+1) _ _ (by rw[List.length_eraseIdx];split<;>lia)).trans ?_;rw[sj,ui];exact List.Perm.append_left _ (iB _ _ eR)
def kj{α:Type}(next:Nat->Nat)(xs:Array α):(pickOrder next xs).toList.Perm xs.toList:=by unfold pickOrder;have:=yp next xs.size 0 xs.toList #[] (by simp);simpa using this
section
variable {prog:cv}{w:cK}{A:eB}{E:ag->ay->Prop}{s:ay}
def pC(hn:n≠0)(h:∀ i d,i<n->Q i { s with drawn:=d }):bE M A (choose src n) Q E s:=λΓ p _=>⟨hn,h _ _ (OY _ (Nat.pos_of_ne_zero hn))⟩
def En{α:Type}(n:Nat):∀ (xs:List α) (s:ay) (Q:List α->ay->Prop),xs.length=n->(∀ ys d,ys.Perm xs->Q ys { s with drawn:=d })->bE (aT prog w) A (drawOrder n xs) Q E s:=by
 induction n with
 |zero =>intro xs s Q h q;have:xs=[]:=Rq.mp h;subst this;exact bG (q [] s.drawn (.refl _))
 |succ n ih =>
  intro xs s Q h q
  cases xs with
  |nil=>cases h
  |cons x xs =>refine ax (pC (by simp) λi d hi=>?_);rw[si hi];exact ax (ih _ _ _ (by rw[List.length_eraseIdx,if_pos hi];simp at h ⊢;lia) λys d' py=>bG (q _ d' ((py.cons _).trans (iB _ _ hi))))
def vF(h:dr)(I:ah)(first:ag)(i:Nat)(a:ah)(n ep:Nat):Prop :=
 h.get? I=some { cls:=.type "set_iterator",dict:=none,data:=.fields #[first,.int i 0,.ref a,.int n 0,.int ep 0],slots:=#[] }
def D9(h:dr)(a:ah)(es:Array (Int × ag))(ep:Nat)(t:SetTable):Prop:=∃ o,h.get? a=some o/\o.data=.set es ep t
variable {a I:ah}{es:Array (Int × ag)}{ep:Nat}{t:SetTable}{first:ag}{i n:Nat}
def vF.typeIs (h:vF s.heap I first i a n ep):s.TypeIs (.ref I) "set_iterator" := ⟨_,h,rfl⟩
def zA(hit:vF s.heap I first i a n ep)(h:bE (aT prog w) A.in1 (Builtin.«set_iterator.__next__» ⟨[.ref I],[]⟩) (λfin s'=>∃ v,fin=.done (.ret v)/\Q (some v) s') (λe s'=>bE (aT prog w) A (isInstance e (.type "StopIteration")) (λb HM=>b=true/\Q none HM) E s') s) :
  bE (aT prog w) A (pyNext (.ref I)) Q E s:=by
 refine ax (wpAny_attempt (Rh hit.typeIs bA (EK bA hit.typeIs lg ?_ (ph _))))
 refine se h (λfin s' ⟨v,e,q⟩=>⟨v,e,bG q⟩) λe s' q=>?_;refine ax (se q (λb HM dS=>?_) λ_ _ x=>x);obtain⟨e,q⟩:=dS;subst e;exact bG q
def zH{P:Fin->ay->Prop}{Q:Option ag->ay->Prop}(hh:A.handled=none)(hQ:∀ h',(∀ b o,s.heap.get? b=some o->h'.get? b=some o)->Q none { s with heap:=h' }) :
  bE (aT prog w) A.in1 (newExc (.type "StopIteration") [] >>= λe=>raiseNew e) P (λe s'=>bE (aT prog w) A (isInstance e (.type "StopIteration")) (λb HM=>b=true/\Q none HM) E s') s:=by
 refine ax ?_;refine ax (sR ?_ (by size_fits));refine ax (JJ (by first|rfl|(simp only[firstArgMember];rfl)) ?_);refine sR ?_ (by size_fits);refine ax (wpAny_handled ?_);rw[show A.in1.handled=none from hh];refine ax (bG (wpAny_throw ?_));refine wpAny_isInstance ⟨_,i9 _ rfl,rfl⟩ isSubtype_stop ⟨rfl,?_⟩;exact hQ _ λb o e=>eM _ (eM _ e)
def ig{Q:Option ag->ay->Prop}{slot:Nat}{r:Option (ag × Nat)}(hh:A.handled=none)(i6:a≠I)(hit:vF s.heap I (.int slot 0) i a es.size ep)(NF:D9 s.heap a es ep t)(hf:t.fits es.size=true)(hr:∀ (A':eB) (E':ag->ay->Prop) (Q':Option (ag × Nat)->ay->Prop),Q' r s->bE (aT prog w) A' (setNext a slot i ep) Q' E' s)(h1:∀ x nx h',r=some (x,nx)->vF h' I (.int nx 0) (i+1) a es.size ep->Heap.SameBut I s.heap h'->Q (some x) { s with heap:=h' }) (h2:∀ h',r=none->(∀ b o,b≠I->s.heap.get? b=some o->h'.get? b=some o)->Q none { s with heap:=h' }) :
  bE (aT prog w) A (pyNext (.ref I)) Q E s:=by
 obtain⟨o,ho,hd⟩:=NF;refine zA hit ?_;refine ax (JJ rfl ?_);refine ax (wpAny_fieldsOf hit rfl ?_);refine ax (wpAny_setEntries_of ho hd hf ?_);rw[if_neg (by simp)];refine ax (hr _ _ _ ?_)
 cases r with
 |some p =>obtain⟨x,nx⟩:=p;exact ax (Oy hit (by simp) λg1 e1 B9=>ax (Oy e1 (by simp) λg2 e2 QQ=>bG ⟨x,rfl,h1 x nx g2 rfl (by unfold vF;simpa[oS] using e2) (B9.trans QQ)⟩))
 |none =>exact ax (Oy hit (by simp) λg1 e1 B9=>zH hh λh' k=>h2 h' rfl λb o hb e=>k b o (B9.extBut b o hb e))
def mJ{Q:Option ag->ay->Prop}{T:ah}{ix:List Nat}{oT:Obj}{kT:Nat}(hh:A.handled=none)(hit:vF s.heap I (.ref T) i a es.size ep)(NF:D9 s.heap a es ep t)(hf:t.fits es.size=true)(hT:s.heap.get? T=some oT) (hTd:oT.data=.seq (ix.map λ(k:Nat)=>Value.int k 0).toArray kT)(h1:∀ k e h',ix[i]? = some k->es[k]? = some e->vF h' I (.ref T) (i+1) a es.size ep->Heap.SameBut I s.heap h'->Q (some e.2) { s with heap:=h' }) (MD:∀ k∈ix,k<es.size) (h2:∀ h',ix[i]? = none->(∀ b o,b≠I->s.heap.get? b=some o->h'.get? b=some o)->Q none { s with heap:=h' }) :
  bE (aT prog w) A (pyNext (.ref I)) Q E s:=by
 obtain⟨o,ho,hd⟩:=NF;refine zA hit ?_;refine ax (JJ rfl ?_);refine ax (wpAny_fieldsOf hit rfl ?_);refine ax (wpAny_setEntries_of ho hd hf ?_);rw[if_neg (by simp)];refine ax (OG hT hTd ?_);simp only[KG,List.getElem?_toArray,ku]
 cases hk:ix[i]? with
 |some k =>have IH:=MD k (pf hk);refine ax ?_;refine ax (CC ho hd hf ?_);simp only[KG];rw[if_neg (by simp),DE IH];exact bG (ax (Oy hit (by simp) λg1 e1 B9=>bG ⟨_,rfl,h1 k es[k] g1 hk (DE IH) (by unfold vF;simpa[oS] using e1) B9⟩))
 |none =>exact ax (Oy hit (by simp) λg1 e1 B9=>ax (Oy e1 (by simp) λg2 e2 QQ=>zH hh λh' k=>h2 h' hk λb o hb e=>k b o ((B9.trans QQ).extBut b o hb e)))
def m_ (a:ag):argsOk "set_iterator.__iter__" ⟨[a],[]⟩:=by unfold argsOk;rw[signature?_of (n:=['_','_','r','e','t','i','_','_']) (by kernel_rfl) qb];kernel_rfl
def lL:entryFor table "set_iterator.__iter__" = some Builtin.«dict_keyiterator.__iter__» :=
 entryFor_alias (id' := "dict_keyiterator.__iter__") (by kernel_rfl) rfl (by decide +kernel) (by kernel_rfl)
def jR(hit:vF s.heap I first i a n ep)(h:Q (.ref I) s):bE (aT prog w) A (pyIter (.ref I)) Q E s:=by exact wpAny_pyIter_slot hit.typeIs gP (EK gP hit.typeIs lL (bG ⟨_,rfl, "set_iterator",_,hit.typeIs,bA.lookup,h⟩) (m_ _))
def qT {slot:Nat} {Q:Option (ag × Nat)->ay->Prop} (hb:w.params.followText "set-order" = true) (NF:D9 s.heap a es ep t) (hf:t.fits es.size=true)(h:Q (((pickOrder (w.params.setOrder a ep) es)[i]?).map λe=>(e.2,slot)) s):bE (aT prog w) A (setNext a slot i ep) Q E s:=by
 obtain⟨o,ho,hd⟩:=NF;refine ax (CC ho hd hf ?_);refine ax (ax (OB (bG ?_)));rw[if_pos (by exact hb),if_neg (by simp)];refine ax ?_;refine ax (CC ho hd hf ?_);refine ax (ax (OB (bG ?_)));rw[if_pos (by exact hb)];exact ax (OB (bG (bG h)))
def lV {slot:Nat} {Q:Option (ag × Nat)->ay->Prop} (hb:w.params.followText "set-order" = false) (hl:t.led=true) (QR:(!t.plain && decide (es.size>1))=false) (NF:D9 s.heap a es ep t) (hf:t.fits es.size=true)(h:Q (match es[below t.place slot]?,t.place[below t.place slot]? with
  |some (_,x),some j=>some (x,j+1)
  |_,_=>none) s):bE (aT prog w) A (setNext a slot i ep) Q E s:=by
 obtain⟨o,ho,hd⟩:=NF;refine ax (CC ho hd hf ?_);refine ax (ax (OB (bG ?_)));rw[if_neg (by rw[show(aT prog w).w.params.followText "set-order" = false from hb];exact nX)];have e0:oV es t=(!t.plain && decide (es.size>1)):=rfl;unfold oV at e0;rw[e0,QR,if_neg nX];refine ax ?_;show bE _ _ (if (!t.led && !es.isEmpty)=true then unsupported "set:maker-not-led" else pure ()) _ _ s;rw[if_neg (by rw[hl];simp)];exact bG (bG h)
def PV(ys:List (Int × ag))(i:Nat)(v:ag):Prop:=∃ e,ys[i]? = some e/\v=e.2
def vF.keep(x:vF h I first i a n ep)(e:∀ o,h.get? I=some o->h'.get? I=some o):vF h' I first i a n ep:=e _ x
def D9.keep(x:D9 h a es ep t)(e:∀ o,h.get? a=some o->h'.get? a=some o):D9 h' a es ep t:=let ⟨o,ho,r⟩:=x;⟨o,e _ ho,r⟩
def xH (hh:A.handled=none) (i6:a≠I) (hb:w.params.followText "set-order" = true) (hf:t.fits es.size=true) :
  Walks prog w A I [I,a] [I] es.size (PV (pickOrder (w.params.setOrder a ep) es).toList) (λi h=>(∃ slot:Nat,vF h I (.int slot 0) i a es.size ep)/\D9 h a es ep t) where
 sub:=λb hb=>by simp at hb;simp[hb]
 frame:=λ_ _ _ ⟨⟨sl,x⟩,y⟩ hk=>⟨⟨sl,x.keep λo e=>hk I (by simp) o e⟩,y.keep λo e=>hk a (by simp) o e⟩
 item:=λi s Q E hi ⟨⟨sl,x⟩,y⟩ hQ=>by
  have hlen:(pickOrder (w.params.setOrder a ep) es).size=es.size:=by have:=(kj (w.params.setOrder a ep) es).length_eq;simpa using this
  refine ig hh i6 x y hf (r:=((pickOrder (w.params.setOrder a ep) es)[i]?).map λe=>(e.2,sl)) (λA' E' Q' q=>qT hb y hf q) (λv nx h' e x' sb=>?_) λh' e k=>?_
  ·rw[DE (by lia)] at e;cases e;exact hQ _ h' s.toks ⟨_,by rw[tj];exact DE (by lia),rfl⟩ ⟨⟨_,x'⟩,y.keep λo e=>sb.extBut _ _ i6 e⟩ λb o hb e=>sb.extBut b o (λh=>hb (by simp[h])) e
  ·rw[DE (by lia)] at e;cases e
 done:=λs Q E ⟨⟨sl,x⟩,y⟩ hQ=>by
  have hlen:(pickOrder (w.params.setOrder a ep) es).size=es.size:=by have:=(kj (w.params.setOrder a ep) es).length_eq;simpa using this
  refine ig hh i6 x y hf (r:=((pickOrder (w.params.setOrder a ep) es)[es.size]?).map λe=>(e.2,sl)) (λA' E' Q' q=>qT hb y hf q) (λv nx h' e x' sb=>?_) λh' e k=>?_
  ·rw[O0 (by lia)] at e;cases e
  ·exact hQ h' s.toks λb o hb e=>k b o (λh=>hb (by simp[h])) e
 self:=λ_ _ _ _ ⟨⟨sl,x⟩,y⟩ hQ=>jR x hQ
def slotAt(t:SetTable):Nat->Nat
 |0=>0
 |i+1=>t.place.getD i 0+1
def iW(U:Up t.place)(h:i<=t.place.size):below t.place (slotAt t i)=i:=by
 cases i with
 |zero =>
  obtain⟨_,b,_⟩:=aZ U 0;by_cases z:below t.place 0=0
  ·exact z
  ·exact absurd (b 0 (Nat.pos_of_ne_zero z)) (E5 _)
 |succ i=>exact vR U (by lia)
def vI (hh:A.handled=none) (i6:a≠I) (hb:w.params.followText "set-order" = false) (hl:t.led=true) (QR:(!t.plain && decide (es.size>1))=false) (U:Up t.place) (hz:t.place.size=es.size) (hf:t.fits es.size=true) :
  Walks prog w A I [I,a] [I] es.size (PV es.toList) (λi h=>vF h I (.int (slotAt t i:Nat) 0) i a es.size ep/\D9 h a es ep t) where
 sub:=λb hb=>by simp at hb;simp[hb]
 frame:=λ_ _ _ ⟨x,y⟩ hk=>⟨x.keep λo e=>hk I (by simp) o e,y.keep λo e=>hk a (by simp) o e⟩
 item:=λi s Q E hi ⟨x,y⟩ hQ=>by
  have QN:=iW (t:=t) U (i:=i) (by lia);have e1:es[below t.place (slotAt t i)]? = some es[i]:=by rw[QN];exact DE hi
  have e2:t.place[below t.place (slotAt t i)]? = some (t.place.getD i 0):=by rw[QN];exact wN (by lia)
  refine ig hh i6 x y hf (r:=some (es[i].2,t.place.getD i 0+1)) (λA' E' Q' q=>lV hb hl QR y hf (by rw[e1,e2];exact q)) (λv nx h' e x' sb=>?_) λh' e k=>nomatch e;cases e;exact hQ _ h' s.toks ⟨_,by rw[tj];exact DE hi,rfl⟩ ⟨x',y.keep λo e=>sb.extBut _ _ i6 e⟩ λb o hb e=>sb.extBut b o (λh=>hb (by simp[h])) e
 done:=λs Q E ⟨x,y⟩ hQ=>by
  have QN:=iW (t:=t) U (i:=es.size) (by lia);have e1:es[below t.place (slotAt t es.size)]? = none:=by rw[QN];exact O0 (de _)
  refine ig hh i6 x y hf (r:=none) (λA' E' Q' q=>lV hb hl QR y hf (by rw[e1];exact q)) (λv nx h' e x' sb=>nomatch e) λh' e k=>?_;exact hQ h' s.toks λb o hb e=>k b o (λh=>hb (by simp[h])) e
 self:=λ_ _ _ _ ⟨x,y⟩ hQ=>jR x hQ
def wj{T:ah}{ix:List Nat}{kT:Nat}(hh:A.handled=none)(i6:a≠I)(hTI:T≠I)(hf:t.fits es.size=true)(hp:ix.Perm (List.range es.size)) :
  Walks prog w A I [I,a,T] [I] es.size (PV (ix.filterMap λk=>es[k]?)) (λi h=>vF h I (.ref T) i a es.size ep/\D9 h a es ep t/\∃ o,h.get? T=some o/\o.data=.seq (ix.map λ(k:Nat)=>Value.int k 0).toArray kT):=by
 have hlen:ix.length=es.size:=by simpa using hp.length_eq
 have MD:∀ k∈ix,k<es.size:=λk hk=>wo.mp (hp.mem_iff.mp hk);obtain⟨f1,f2⟩:=tG (l:=ix) (f:=λk=>es[k]?) λk hk=>by simp[MD k hk]
 exact {
  sub:=λb hb=>by simp at hb;simp[hb]
  frame:=λ_ _ _ ⟨x,y,o,z,zd⟩ hk=>⟨x.keep λo e=>hk I (by simp) o e,y.keep λo e=>hk a (by simp) o e,o,hk T (by simp) o z,zd⟩
  item:=λi s Q E hi ⟨x,y,o,z,zd⟩ hQ=>by
   refine mJ hh x y hf z zd (λk e h' e1 e2 x' sb=>?_) MD λh' e k=>?_
   ·refine hQ _ h' s.toks ⟨e,by rw[f2,e1];exact e2,rfl⟩ ⟨x',y.keep λo e=>sb.extBut _ _ i6 e,o,sb.extBut _ _ hTI z,zd⟩ λb o hb e=>sb.extBut b o (λh=>hb (by simp[h])) e
   ·rw[si (by lia)] at e;cases e
  done:=λs Q E ⟨x,y,o,z,zd⟩ hQ=>by
   refine mJ hh x y hf z zd (λk e h' e1 e2 x' sb=>?_) MD λh' e k=>?_
   ·rw[GU (by lia)] at e1;cases e1
   ·exact hQ h' s.toks λb o hb e=>k b o (λh=>hb (by simp[h])) e
  self:=λ_ _ _ _ ⟨x,_⟩ hQ=>jR x hQ }
end
section
variable {prog:cv}{w:cK}{A:eB}{E:ag->ay->Prop}{s:ay}{a:ah}{o:Obj}{es:Array (Int × ag)}{ep:Nat}{t:SetTable}
def B_ (hh:A.handled=none) (ho:s.heap.get? a=some o) (hex:o.ExactSet) (hd:o.data=.set es ep t) (hf:t.fits es.size=true) (U:Up t.place) (hz:t.place.size=es.size) (hl:t.led=(!w.params.followText "set-order")) (hn:es.size<=bS)(h:∀ (I:ah) (h2:dr) d (fp:List ah) (St:Nat->dr->Prop) (ys:List (Int × ag)),(∀ b o,s.heap.get? b=some o->h2.get? b=some o)->s.heap.objs.size<=I->(∀ b∈fp,b=a\/s.heap.objs.size<=b)->ys.Perm es.toList ->
   Walks prog w A I fp [I] es.size (PV ys) St->St 0 h2->Q (.ref I) { s with heap:=h2,drawn:=d }):bE (aT prog w) A (pyIter (.ref a)) Q E s:=by
 have hT:s.TypeIs (.ref a) "set" := ⟨o,ho,hex.1⟩
 have eR:a<s.heap.objs.size:=eT ho;refine wpAny_pyIter_slot hT F.slot_set_iter (EK F.slot_set_iter hT lM ?_ (F.args_set_iter_1 _));refine ax (JJ rfl ?_);refine ax ?_;refine ax (wpAny_setEntries_of ho hd hf (bG ?_));refine ax ?_;refine ax (CC ho hd hf ?_);refine ax (ax (OB (bG ?_)));refine bG ?_;have e0:oV es t=(!t.plain && decide (es.size>1)):=rfl;unfold oV at e0;show bE _ _ (if (!w.params.followText "set-order" && (!t.plain && decide (es.size>1)))=true then _ else _) _ _ s
 cases hb:w.params.followText "set-order" with
 |true =>
  refine ax (bG ?_);refine ax (wpAny_setEpoch_of ho hd hf ?_);refine ax (sR ?_);refine bG ⟨_,rfl, "set_iterator",_,⟨_,i9 _ rfl,rfl⟩,bA.lookup,?_⟩;have nE:(s.heap.push { cls:=.type "set_iterator",data:=.fields #[oS 0,oS 0,.ref a,oS es.size,oS ep] }).get? a=some o:=eM _ ho;exact h s.heap.objs.size _ s.drawn _ _ _ (λb o e=>eM _ e) (de _) (λb hb=>by
   rcases fm.mp hb with rfl|hb
   ·exact .inr (de _)
   ·exact .inl (kD.mp hb)) (kj _ _) (xH hh (gu eR) hb hf) ⟨⟨0,i9 _ rfl⟩,o,nE,hd⟩
 |false =>
  cases QR:(!t.plain && decide (es.size>1)) with
  |false =>
   refine ax (bG ?_);refine ax (wpAny_setEpoch_of ho hd hf ?_);refine ax (sR ?_);refine bG ⟨_,rfl, "set_iterator",_,⟨_,i9 _ rfl,rfl⟩,bA.lookup,?_⟩;have nE:(s.heap.push { cls:=.type "set_iterator",data:=.fields #[oS 0,oS 0,.ref a,oS es.size,oS ep] }).get? a=some o:=eM _ ho;exact h s.heap.objs.size _ s.drawn _ _ _ (λb o e=>eM _ e) (de _) (λb hb=>by
    rcases fm.mp hb with rfl|hb
    ·exact .inr (de _)
    ·exact .inl (kD.mp hb)) (.refl _) (vI hh (gu eR) hb (by rw[hl,hb];rfl) QR U hz hf) ⟨i9 _ rfl,o,nE,hd⟩
  |true =>
   refine ax (En es.size (List.range es.size) s _ (by simp) λix d hp=>?_);refine ax (sR ?_ ?hzz);case hzz =>
    have:=hp.length_eq;rw[Ry] at this;show(ix.map λ(i:Nat)=>oS i).toArray.size<=bS;rw[jI,dc,this];exact hn
   have D5:(s.heap.push { cls:=.type "tuple",data:=.seq (ix.map λ(i:Nat)=>oS i).toArray }).get? a=some o:=eM _ ho;refine ax (wpAny_setEpoch_of D5 hd hf ?_);refine ax (sR ?_);refine bG ⟨_,rfl, "set_iterator",_,⟨_,i9 _ rfl,rfl⟩,bA.lookup,?_⟩;have QV:(s.heap.push { cls:=.type "tuple",data:=.seq (ix.map λ(i:Nat)=>oS i).toArray }).objs.size=s.heap.objs.size+1:=Uh ..;refine h (s.heap.push { cls:=.type "tuple",data:=.seq (ix.map λ(i:Nat)=>oS i).toArray }).objs.size _ d [(s.heap.push { cls:=.type "tuple",data:=.seq (ix.map λ(i:Nat)=>oS i).toArray }).objs.size,a,s.heap.objs.size] _ (ix.filterMap λk=>es[k]?) (λb o e=>eM _ (eM _ e)) (by rw[QV];exact RN _) (λb hb=>?_) ?_ (wj hh (by rw[QV];exact gu (AV eR)) (by rw[QV];exact gu (Uk _)) hf hp) ⟨i9 _ rfl,⟨o,eM _ D5,hd⟩,_,eM _ (i9 _ rfl),rfl⟩
   ·rcases fm.mp hb with rfl|hb
    ·exact .inr (by rw[QV];exact RN _)
    ·rcases fm.mp hb with rfl|hb
     ·exact .inl rfl
     ·rw[kD.mp hb];exact .inr (de _)
   ·have:=hp.filterMap λk=>es[k]?;rw[tH] at this;exact this
def CW (hT:s.TypeIs (.ref a) "set") (h:Q false s):bE (aT prog w) A (Builtin.List.listLengthHint (.ref a)) Q E s:=by
 refine ax (wpAny_specialOf hT PySem.F.slot_set_len.lookup ?_);generalize hid:("set.__len__" : String)=id0
 wp_delta
 subst hid;exact ax (wpAny_isInstance (b:=true) hT (by rw[isSubtype_type];kernel_rfl) (wpAny_ite_split (λNC=>absurd NC (by decide)) (λ_=>wpAny_ite_split (λ_=>ax (wpAny_typeOf hT (bG h))) (λNC=>absurd (by decide +kernel) NC))))
def GX {R:Result->ay->Prop} (hh:A.handled=none) (ho:s.heap.get? a=some o) (hex:o.ExactSet) (hd:o.data=.set es ep t) (hf:t.fits es.size=true) (U:Up t.place) (hz:t.place.size=es.size) (hl:t.led=(!w.params.followText "set-order")) (hn:es.size<=bS)(S:ah) (hSa:S≠a) (res:ag) (c₀:Nat) (hS:s.heap.get? S=some { cls:=.type "list",data:=.seq #[] c₀ }) (hR:∀ h' tk d B1 c' ys,(∀ b o,b≠S->s.heap.get? b=some o->h'.get? b=some o)->h'.get? S=some { cls:=.type "list",dict:=none,data:=.seq B1 c',slots:=#[] }->ys.Perm es.toList->ItemsOf (PV ys) B1 es.size->R (.ok (.ret res)) { s with heap:=h',toks:=tk,drawn:=d }) :
  bE (aT prog w) A.in1 (Builtin.List.listExtendWith (.ref S) (.ref a) res) (λfin s'=>match fin with|.done f=>R (.ok f) s'|.again c'=>c'.quiet=true/\ua (aT prog w) A c' R s') (λe s'=>R (.error e) s') s:=by
 have hT:s.TypeIs (.ref a) "set" := ⟨o,ho,hex.1⟩
 have hSl:=eT hS;refine ax (wpAny_typeOf hT ?_);have h1:Builtin.List.listSameRef (.ref S) (.ref a)=false:=by simp[Builtin.List.listSameRef,hSa]
 simp only[h1,show(Value.type "set" == Value.type "list")=false by decide,show(Value.type "set" == Value.type "tuple")=false by decide,Bool.or_false,uj,if_false];refine ax (B_ hh ho hex hd hf U hz hl hn λI h2 d fp St ys kp hI hfp hp W st=>?_);have B7:S∉fp:=λhm=>by
  rcases hfp S hm with z|z
  ·exact hSa z
  ·exact absurd hSl (Nat.not_lt.mpr z)
 have key:∀ h (c₁ tk:Nat),St 0 h->(∀ b o,b≠S->s.heap.get? b=some o->h.get? b=some o) ->
   h.get? S=some { cls:=.type "list",data:=.seq #[] c₁ }->ua (aT prog w) A (.builtin "list.extend.loop" ⟨[.ref S,.ref I,res],[]⟩) R { s with heap:=h,toks:=tk,drawn:=d }:=by
  intro h c₁ tk kE hk To;refine codeAny_extend_loopS W.toS hn S B7 res es.size 0 _ #[] c₁ rfl (fR _) kE To (ItemsOf.nil _) λs' B1 c' hm AB Iq=>?_;rw[Moved.eq_with hm];refine hR s'.heap s'.toks d B1 c' ys (λb o hb e=>hm.heap b o (λSX=>?_) (hk b o hb e)) AB hp Iq;rcases fm.mp SX with e'|SX
  ·exact hb e'
  ·exact absurd (eT e) (by rw[kD.mp SX];exact Nat.not_lt.mpr hI)
 have To:h2.get? S=some { cls:=.type "list",data:=.seq #[] c₀ }:=kp _ _ hS;refine ax (xC (CW ⟨o,kp _ _ ho,hex.1⟩ ?_));refine wpAny_ite_split (λ_=>?_) (λ_=>bG ⟨CD PySem.F.plain_extend_loop _,key _ c₀ _ st (λb o _ e=>kp b o e) To⟩);refine ax (CH ?_);refine ax ?_;refine ax (Rn To rfl ?_);have ei':=GY (Obj.mapSeq (·.push Value.none)) To rfl;refine Rn ei' rfl ?_;have ma':=GY (Obj.mapSeq (·.pop)) ei' rfl;refine bG ⟨CD PySem.F.plain_extend_loop _,key _ _ _ ?_ (λb o hb e=>?_) ma'⟩
 ·refine W.frame 0 _ _ st λb hb o e=>?_;have vx:b≠S:=λh=>B7 (h ▸ hb);exact(DB _ _ (Ne.symm vx)).trans ((DB _ _ (Ne.symm vx)).trans e)
 ·exact(DB _ _ (Ne.symm hb)).trans ((DB _ _ (Ne.symm hb)).trans (kp _ _ e))
def vZ(h:ItemsOf (PV ys) acc n)(hn:ys.length=n):acc.toList=ys.map (·.2):=by
 apply OS;intro i;rw[ku];by_cases hi:i<n
 ·have n4:i<acc.size:=by rw[h.1];exact hi
  have e1:acc[i]? = some acc[i]:=DE n4;obtain⟨e,he,hv⟩:=h.2 i acc[i] e1;rw[tj,e1,he,hv];rfl
 ·rw[GU (by rw[AZ,h.1];lia),GU (by lia)];rfl
def jo {R:Result->ay->Prop} (hh:A.handled=none) (ho:s.heap.get? a=some o) (hex:o.ExactSet) (hd:o.data=.set es ep t) (hf:t.fits es.size=true) (U:Up t.place) (hz:t.place.size=es.size) (hl:t.led=(!w.params.followText "set-order")) (hn:es.size<=bS)(hR:∀ h' tk d B1 c' ys,(∀ b o,s.heap.get? b=some o->h'.get? b=some o)->h'.get? s.heap.objs.size=some { cls:=.type "list",dict:=none,data:=.seq B1 c',slots:=#[] }->ys.Perm es.toList->ItemsOf (PV ys) B1 es.size->R (.ok (.ret (.ref s.heap.objs.size))) { s with heap:=h',toks:=tk,drawn:=d }) :
  ua (aT prog w) A (.builtin "proto.collect" ⟨[.ref a],[]⟩) R s:=by
 have eR:a<s.heap.objs.size:=eT ho;walk_at"u";refine BG F.entry_proto_collect ?_;refine ax (sR ?_);refine bG ⟨CD F.plain_list_iadd _,BG F.entry_list_iadd ?_⟩;exact GX hh (eM _ ho) hex hd hf U hz hl hn s.heap.objs.size (OW eR) _ 0 hS λh' tk d B1 c' ys kp eo hp ia =>
  hR h' tk d B1 c' ys (λb o e=>kp b o (gu (eT e)) (eM _ e)) eo hp ia
def sW (hh:A.handled=none) (ho:s.heap.get? a=some o) (hex:o.ExactSet) (hd:o.data=.set es ep t) (hf:t.fits es.size=true) (U:Up t.place) (hz:t.place.size=es.size) (hl:t.led=(!w.params.followText "set-order")) (hn:es.size<=bS)(hQ:∀ h' tk d vs,(∀ b o,s.heap.get? b=some o->h'.get? b=some o)->s.heap.objs.size<=h'.objs.size->vs.Perm (es.toList.map (·.2))->Q vs { s with heap:=h',toks:=tk,drawn:=d }):bE (aT prog w) A (collect (.ref a)) Q E s:=by
 refine ax (wpAny_runValue (jo hh ho hex hd hf U hz hl hn λh' tk d acc c ys kp eo hp ia=>?_));refine ax (wpAny_load eo ?_);refine bG (hQ h' tk d _ kp (AW (eT eo)) ?_);rw[vZ ia (by rw[hp.length_eq];simp)];exact hp.map _
end
end TS
namespace D3
open PySem PyProof.Rows
section
variable {prog:cv}{w:cK}{A:eB}{E:ag->ay->Prop}{s:ay}{κ:tf}{r:ag->Int}{P:ag->Prop}
def qX{R:List ag->Prop}(Z3:∀ (A':eB) (E':ag->ay->Prop) (Q':List ag->ay->Prop),A'.handled=A.handled->(∀ vs h1 tk d,R vs->(∀ b o,s.heap.get? b=some o->h1.get? b=some o)->s.heap.objs.size<=h1.objs.size->Q' vs { s with heap:=h1,toks:=tk,drawn:=d })->bE (aT prog w) A' (collect v) Q' E' s) (hJ:∀ vs,R vs->vs.length<=bS) (hP:∀ vs,R vs->∀ v∈vs,P v) (hk:∀ vs,R vs->2<=vs.length->∀ (A':eB) (E':ag->ay->Prop) (s':ay),(∀ b o,s.heap.get? b=some o->s'.heap.get? b=some o)->∀ (Q:tf->ay->Prop),Q κ s'->bE (aT prog w) A' (keyKind' vs.toArray) Q E' s') (C:∀ (s':ay),(∀ b o,s.heap.get? b=some o->s'.heap.get? b=some o)->qa prog w A.in1.in1 s' κ r P) (h:∀ (vs:List ag) (h':dr) (a:ah) (out:List ag) (n tk:Nat) d,R vs->out.Perm vs->(out.Pairwise λx y=>r x<=r y)->(∀ b o,s.heap.get? b=some o->h'.get? b=some o)->s.heap.objs.size<=a->h'.get? a=some (seqObj "list" out.toArray n)->Q (.ref a) { s with heap:=h',toks:=tk,drawn:=d }) :
  bE (aT prog w) A (call (.builtin "sorted") [v]) Q E s:=by
 refine Calls.call_function_entry kind_sorted plain_sorted entry_sorted (args_sorted1 _) ?_;refine ax (bG ?_);refine ax (Z3 _ _ _ rfl λvs h1 tk d hR kp hz=>?_);have D6:=hJ vs hR;refine ax (wpAny_newList ?_ (by simpa using D6));have Fm:(h1.push (seqObj "list" vs.toArray 0)).get? h1.objs.size=some (seqObj "list" vs.toArray 0):=i9 _ rfl;have old:∀ b o,s.heap.get? b=some o->(dD (h1.push (seqObj "list" vs.toArray 0)) h1.objs.size vs).get? b=some o:=λb o e=>by have eR:b<h1.objs.size:=eT (kp b o e);rw[j7 (gu eR) (by rw[G0];exact AV eR)];exact eM _ (kp b o e)
 walk_at"m"
 obtain⟨n,e⟩:=sortedHeap_at Fm;refine bG ⟨_,rfl,h vs _ h1.objs.size out.toList n tk d hR a1 a2 (λb o e=>?_) hz (by rw[WL];exact e)⟩;have eR:b<h1.objs.size:=eT (kp b o e);rw[sortedHeap_old (gu eR) (by rw[G0];exact AV eR)];exact eM _ (kp b o e)
end
end D3
namespace TS
open PySem PySem.SetTable PyProof.Rows
section
variable {prog:cv}{w:cK}{K:Type}[DecidableEq K]{knd:KeyKind prog w K}{A:eB}{E:ag->ay->Prop}{s:ay}
def Bt{α:Type}(led:Bool):TI (α:=α) (SetTable.fresh 0 0 led) #[] :=
 ⟨⟨3,rfl,de _⟩,rfl,λi j h hj=>absurd hj (E5 _),λi hi=>absurd hi (E5 _),rfl,(by show 0*5<7*3;decide),λi h x e=>by simp at e⟩
def pD{l:ah}{items:Array ag}{xs:List (List K × ah)}{Q:ag->ay->Prop}(hh:A.handled=none)(hu:A.units+8<gv)(hl:s.heap.IsList l items)(hi:items.toList=xs.map λp=>Value.ref p.2)(B8:∀ p∈xs,IsTupleKey knd s.heap p.1 p.2) (hz:xs.length<=1000) (FI:∀ k v,knd.is k v=true->v.scannable=true)(h:∀ h' tk ks,QH knd h' s.heap.objs.size ks->(∀ k,k∈ks.map (·.1)↔k∈xs.map (·.1))->(∀ p∈ks,p∈xs)->(∀ b o,s.heap.get? b=some o->h'.get? b=some o)->Q (.ref s.heap.objs.size) { s with heap:=h',toks:=tk }) :
  bE (aT prog w) A (call (.type "set") [.ref l]) Q E s:=by
 have lt:∀ p∈xs,p.2<s.heap.objs.size:=λp hp=>by obtain⟨o,_,_,ho,_⟩:=B8 p hp;exact eT ho
 refine pX hh hl (λi h=>∃ ks,QH knd h s.heap.objs.size ks/\(∀ k,k∈ks.map (·.1)↔k∈(xs.take i).map (·.1))/\(∀ p∈ks,p∈xs)/\ks.length<=i/\∀ p∈xs,IsTupleKey knd h p.1 p.2) (λh e k=>?_) (λi h h' ⟨ks,S,m1,m2,m3,m4⟩ k=>?_) (λi v s' E' Q' hv ⟨ks,S,m1,m2,m3,m4⟩ q=>?_) λh' tk ⟨ks,S,m1,m2,m3,m4⟩ k=>?_
 ·exact⟨[],⟨⟨_,#[],0,_,e,⟨rfl,rfl,rfl⟩,rfl,Bt _,(by show 7<=8191;decide),rfl,rfl⟩,nv,λp hp=>nomatch hp⟩,λk=>by simp,(λp hp=>nomatch hp),de _,λp hp=>IsTupleKey.fA (B8 p hp) λo ho=>k _ _ ho⟩
 ·obtain⟨⟨o,es,ep,t,ho,r⟩,nd,is⟩:=S;exact⟨ks,⟨⟨o,es,ep,t,k _ _ (de _) ho,r⟩,nd,λp hp=>IsTupleKey.fA (is p hp) λo ho=>k _ _ (AW (lt p (m2 p hp))) ho⟩,m1,m2,m3,λp hp=>IsTupleKey.fA (m4 p hp) λo ho=>k _ _ (AW (lt p hp)) ho⟩
 ·have y9:items.toList[i]? = some v:=by rw[tj];exact hv
  rw[hi,ku] at y9
  cases ex:xs[i]? with
  |none=>rw[ex] at y9;cases y9
  |some p =>
   rw[ex] at y9;cases y9;have hp:=pf ex;have hil:i<xs.length:=(kM.mp ex).1;have tk1:(xs.take (i+1)).map (·.1)=(xs.take i).map (·.1)++[p.1]:=by rw[AQ,ex,pz];rfl
   refine xC (ax (wpAny_pyHash_tuple (by show A.units+3<gv;lia) (m4 p hp) ?_));refine Ij S (m4 p hp) (by lia) (by show A.units+3<gv;lia) FI λb h' k6 sb S' c=>?_;refine q b h' _ sb ⟨k6,S',λk=>?_,λp' iF=>?_,?_,λp' iF=>IsTupleKey.fA (m4 p' iF) λo ho=>sb.extBut _ _ (gu (lt p' iF)) ho⟩
   ·rw[tk1,eL,kD,<- m1];rcases c with⟨c1,rfl⟩|⟨c1,c2⟩
    ·exact⟨.inl,λz=>z.elim id λe=>e ▸ c1⟩
    ·rw[(c2.map _).mem_iff,jS,fm];exact⟨λz=>z.symm,λz=>z.symm⟩
   ·rcases c with⟨c1,rfl⟩|⟨c1,c2⟩
    ·exact m2 p' iF
    ·rcases fm.mp (c2.mem_iff.mp iF) with rfl|z
     ·exact hp
     ·exact m2 p' z
   ·rcases c with⟨c1,rfl⟩|⟨c1,c2⟩
    ·lia
    ·rw[c2.length_eq];simp;lia
 ·have e:items.size=xs.length:=by have:=congrArg List.length hi;simpa using this
  rw[e,EZ] at m1;exact h h' tk ks S m1 m2 λb o ho=>k b o (eT ho) ho
end
end TS
section
open PySem PySem.Spec PyProof.Rows
namespace L2
section
variable {X:Cx}{pins:List (ah × Obj)}{σ:St}{H:Hp}{s:ay}
def Inv.drawn{d}(I:Inv X pins σ H s):Inv X pins σ H { s with drawn:=d }:=⟨I.ok,I.os,I.bare,I.base,I.loc,I.cell,I.free,I.sq,I.pin,I.bX,I.len⟩
def Aq:∀ (k:Key) (v:ag),(iN prog w).is k v=true->v.scannable=true:=λk v h=>by rcases A0 h with⟨i,t,rfl,rfl⟩|⟨x,t,rfl,rfl⟩<;>rfl
def gZ(K:aI):V->Hp->VK->Prop:=λx H Q=>match x with
 |.ref p=>∃ ys ks b0 sh,fE K H p ys/\ys.length<=1000/\c7 H ys ks/\(∀ k∈ks,lT k=b0 :: sh) /\
   ∀ zs ms l,c7 H zs ms->ms.Nodup->(∀ k,k∈ms↔k∈ks)->(ms.Pairwise λa b=>kz b a=false)->H l=none->Q (.ref l) (upd H l (.lst zs))
 |_=>False
def c7.pairs(h:c7 H ys ks)(hv:Vals ys vs):∃ xs:List (List Key × ah),vs=xs.map (λp=>Value.ref p.2)/\xs.map (·.1)=ks/\∀ p∈xs,H p.2=some (.tup (p.1.map kV)):=by
 induction ys generalizing ks vs with
 |nil=>exact⟨[],Paired.n0 hv,(Paired.n0 h).symm,λp hp=>nomatch hp⟩
 |cons y ys ih =>
  obtain⟨k,ks,rfl,⟨b,rfl,g⟩,t⟩:=Paired.c h;obtain⟨v,vs,rfl,rfl,rs⟩:=Paired.c hv;obtain⟨xs,e1,e2,e3⟩:=ih t rs;refine⟨(k,b) :: xs,by rw[e1];rfl,by rw[<- e2];rfl,λp hp=>?_⟩;rcases fm.mp hp with rfl|hp
  ·exact g
  ·exact e3 p hp
end
section
variable {X:Cx}{e:Expr}{te:TE}{p p2 pos NH:Pos}
def sX (hc:X.calm=true) (hu:X.A.units+64<gv) (hg:Gl X "sorted") (hm:X.mg "sorted" = none) (hg2:Gl X "set") (A8:X.mg "set" = none) (he:PE X e te)(hv:ly "sorted" = some (.builtin "sorted")) (hv2:ly "set" = some (.type "set"))(kF:autoParam (bT [e] X.env=(false,cp e X.env) :: bT [] X.env) bv) (hs:autoParam (bT [.Call (.Name "set" p2) [e] [] NH] X.env=(false,cp (.Call (.Name "set" p2) [e] [] NH) X.env) :: bT [] X.env) bv) :
  PE X (.Call (.Name "sorted" p) [.Call (.Name "set" p2) [e] [] NH] [] pos) (tUn (gZ X.K) te):=by
 walk_at"t";refine GL (DM I hg hm hv ?_ (by decide) (by decide));refine PyProof.Rows.callWith_builtin1 ?_ hs rfl;refine Calls.spliced_cons ?_;refine GL (DM I hg2 A8 hv2 ?_ (by decide) (by decide));refine PyProof.Rows.callWith_type1 ?_ kF rfl;rw[kF];refine Calls.spliced_cons (cy (he pins s σ H _ I h) λu s1 cq=>L2.eW cq λx H1 I1 r1 q1=>Calls.spliced_nil ?_);have q1:gZ X.K x H1 Q:=q1;obtain⟨a,rfl⟩:∃ a,x=.ref a:=by
  unfold gZ at q1;split at q1
  ·exact⟨_,rfl⟩
  ·exact q1.elim
 obtain⟨ys,ks,b0,sh,hl,hz1,ht,D0,q⟩:=q1;cases r1;obtain⟨vs,rv,pl,hz⟩:=I1.list hl;obtain⟨xs,ex,ek,hx⟩:=ht.pairs rv;have P2:X.A.handled=none:=I1.ok.hd hc;have hlen:xs.length=ys.length:=by rw[rv.length,ex,dc]
 have B8:∀ p∈xs,IsTupleKey (iN X.prog X.w) s1.heap p.1 p.2:=λp hp=>by obtain⟨us,ru,o,e1,c1,n1,d1⟩:=I1.tup (hx p hp);exact⟨o,us.toArray,n1,e1,c1,d1,by simpa using Zr ru⟩
 refine TS.pD P2 (by lia) pl.isList (by simpa using ex) B8 (by lia) Aq λh2 tk k6 S m1 m2 kp=>?_;refine Calls.spliced_nil ?_;obtain⟨⟨o,es,ep,t,ho,hex,hd,T,hM,hL,QD⟩,nd,is⟩:=S;have md':es.toList.map (·.2)=k6.map λp=>Value.ref p.2:=by rw[QD,lP];rfl
 have rA':k6.length<=1000:=by
  have:=TS.eG nd (m:=ks) λk hk=>by rw[<- ek];exact(m1 k).mp hk
  rw[dc] at this;have:ks.length=xs.length:=by rw[<- ek,dc]
  lia
 have me':es.size=k6.length:=by have:=congrArg List.length QD;simpa using this
 have mf':∀ p∈k6,p.1∈ks:=λp hp=>by rw[<- ek];exact fP.mpr ⟨p,m2 p hp,rfl⟩
 have mem:∀ qf:List ag,qf.Perm (k6.map λp=>Value.ref p.2)->∀ v∈qf,∃ b k,v=.ref b/\H1 b=some (.tup (k.map kV))/\k∈ks:=λqf pv v hv=>by obtain⟨p,hp,rfl⟩:=fP.mp (pv.mem_iff.mp hv);exact⟨p.2,p.1,rfl,hx p (m2 p hp),mf' p hp⟩
 have h12:s1.heap.objs.size<=h2.objs.size:=AW (eT ho);refine D3.qX (κ:=tuples' true) (R:=λqf=>qf.Perm (k6.map λp=>Value.ref p.2)) (P:=λv=>∃ b k,v=.ref b/\H1 b=some (.tup (k.map kV))/\lT k=b0 :: sh/\k∈ks) (λA' E' Q' hA hQ=>TS.sW (hA.trans P2) ho hex hd T.fits T.up T.sz hL (by rw[me',kB];lia) λh' VQ d qf NJ hz' pv=>hQ qf h' VQ d (by rw[<- md'];exact pv) NJ hz') (λqf pv=>by rw[pv.length_eq,dc,kB];lia) (λqf pv v hv=>?_) (λqf pv h2' A' E' s' NJ Q' q'=>?_) (λs' NJ=>Aw I1 λb o e=>NJ b o (kp b o e)) λqf h' a' out n VQ d pv pm pw NJ ha eo=>?_
 ·obtain⟨b,k,e1,e2,e3⟩:=mem qf pv v hv;exact⟨b,k,e1,e2,D0 k e3,e3⟩
 ·obtain⟨zs,z1,z2⟩:=c7.of qf (mem qf pv);obtain⟨fs,f1,f2,f3⟩:=kat_tups I1 (λb o e=>NJ b o (kp b o e)) z1 z2 λk hk=>by obtain⟨v,hv,rfl⟩:=fP.mp hk;obtain⟨b,k,rfl,e2,e3⟩:=mem qf pv v hv;rw[dI e2];exact D0 k e3
  cases b0 with
  |true =>refine PySem.W.kat_kind (T:=.type "int") f1 (by lia) (λf hf=>?_) (by decide) q';obtain⟨i,t,rfl⟩:=(f3 f hf).1 rfl;exact .now
  |false =>refine PySem.W.kat_kind (T:=.type "str") f1 (by lia) (λf hf=>?_) (by decide) q';obtain⟨i,t,rfl⟩:=(f3 f hf).2 rfl;exact .now
 ·have Tp:=pm.trans pv;obtain⟨zs,z1,z2⟩:=c7.of out λv hv=>mem _ Tp v hv;have zl:=z2.length;have ol:=Tp.length_eq;rw[dc] at ol;have ekk:(k6.map λp=>Value.ref p.2).map (vU H1)=k6.map (·.1):=by rw[lP];exact GV λp hp=>dI (hx p (m2 p hp))
  have pms:(out.map (vU H1)).Perm (k6.map (·.1)):=by rw[<- ekk];exact Tp.map _
  refine⟨.ref a',_,(I1.laid (λb o e=>NJ b o (kp b o e)) (kL h12 ha) (show kP X.prog X.w _ h' _ (.lst zs) from⟨by rw[kB];lia,out,n,z2,eo⟩)).drawn,rfl,
   q zs _ _ z1 (pms.nodup_iff.mpr nd) (λk=>by rw[pms.mem_iff,m1,ek]) ?_ (I1.bX.fresh (kL h12 ha))⟩
  rw[AR];refine pw.imp_of_mem λ{x y} mx my hle=>?_;obtain⟨b,k,rfl,hb,kk⟩:=mem _ Tp x mx;obtain⟨c,m,rfl,K2,km⟩:=mem _ Tp y my;rw[dI hb,dI K2] at *
  have:=uJ ((D0 m km).trans (D0 k kk).symm) km;rw[<- this];exact decide_eq_false (by lia)
end
end L2
end
namespace TS
open PySem PySem.SetTable PyProof.Rows
end TS
section
open PySem PySem.Spec PyProof.Rows
namespace L2
end L2
namespace L2.Q
section
variable {X:Cx}{K:aI}{e:Expr}{te:WE}{p p2 pos NH:Pos}
def Ie:ly "set" = some (.type "set"):=by decide +kernel
def gA:W1:=λ_ x Q=>match x with
 |.list xs=>∃ (ks:List (List Key)) (sh:List Bool),xs=ks.map vw/\ks.length<=1000/\(∀ k∈ks,lT k=true :: sh)/\∀ ms:List (List Key),ms.Nodup->(∀ k,k∈ms↔k∈ks)->(ms.Pairwise λa b=>kz b a=false)->Q (.ow true) (.list (ms.map vw))
 |_=>False
def rQ:Z6 K (gZ K) gA:=by
 walk_at"o";have r1:=rx.rep w
 cases r1 with
 |list z s q =>obtain⟨ks,sh,rfl,hz,hs,h⟩:=h;obtain⟨ta,ok⟩:=GF q;have hl:=q.length;rw[dc] at hl;refine⟨_,ks,true,sh,s,by lia,ta,hs,λzs ms l tz nd mm pw NM=>?_⟩;have rr:=ud (K:=K) tz λk hk=>ok k ((mm k).mp hk);have:ms.length<=ks.length:=TS.eG nd λk hk=>(mm k).mp hk;exact f.lst w (by rw[dc,kB];lia) rr (j9 ms) (h ms nd mm pw) l NM
 |_=>exact h.elim
def vW (hm:X.mg "sorted" = none) (A8:X.mg "set" = none) (he:QE X K e te) (hc:autoParam (X.calm=true) bv) (hK:autoParam (X.K=K) bv) (kF:autoParam (bT [e] X.env=(false,cp e X.env) :: bT [] X.env) bv) (hs:autoParam (bT [.Call (.Name "set" p2) [e] [] NH] X.env=(false,cp (.Call (.Name "set" p2) [e] [] NH) X.env) :: bT [] X.env) bv) (hu:X.A.units+64<gv:=by assumption) (hg:Gl X "sorted" := by rfl) (hg2:Gl X "set" := by rfl) :
  QE X K (.Call (.Name "sorted" p) [.Call (.Name "set" p2) [e] [] NH] [] pos) (eA gA te):=by
 subst hK;exact PE.imp (sX hc hu hg hm hg2 A8 he pG Ie kF hs) λσ H Qv ⟨Hs,ρ,ai,Q,sr,h,fin⟩=>⟨Hs,ρ,ai,_,sr,h,λv H1 bP m x As g1 r1 f1 q1=>rQ bP H1 m x v As Q Qv g1.wf r1 q1 (Fin.after fin g1)⟩
end
end L2.Q
namespace L2.Q.R
section
variable {Q:Md->L2.Q.D->Prop}{m:Md}{xs:List L2.Q.D}
def HX:gA m (.list xs) Q = ∃ (ks:List (List Key)) (sh:List Bool),xs=ks.map vw/\ks.length<=1000/\(∀ k∈ks,lT k=true :: sh)/\∀ ms:List (List Key),ms.Nodup->(∀ k,k∈ms↔k∈ks)->(ms.Pairwise λa b=>kz b a=false)->Q (.ow true) (.list (ms.map vw)):=rfl
end
end L2.Q.R
namespace L2
end L2
namespace L2.Q
end L2.Q
namespace L2.Q.R
end L2.Q.R
namespace L2.Q
open PySem.W
abbrev el':List ag:=[.type "ValueError",.type "Exception",.type "BaseException",.type "object"]
structure qh(K:aI)(C:ah):Prop where
 ex:excIn K C el' "ValueError.__new__" = true
 gx:findIn K (.ref C) "__getattr__" = some none
 ga:findIn K (.ref C) "__getattribute__" = some (some (.builtin "BaseException.__getattribute__"))
 cl:findIn K (.ref C) "__class__" = some (some (.builtin "object.__class__"))
 ob:mroIn K C (.type "object")=some true
def qh.obj{K:aI}(x:qh K C)(X:K.In h):∃ bm N nm q bs hdct sn sub ab col dd k0 k1 k2 k3 k5 mN,
  h.get? C=some (excClassObj nm q C N bs bm hdct sn sub ab col dd k0 k1 k2 k3 k5 "ValueError.__new__")/\h.Ns N mN/\mN "__init__" = none/\OwnTail h el' bm:=by
 have q:=x.ex;unfold excIn at q;split at q
 ·rename_i dd cd sl ho;split at q
  ·rename_i C' bm k0 k1 k2 k3 n k5 hm hs;simp only[mS,beq_iff_eq,WH] at q;obtain⟨⟨⟨⟨⟨e1,e2⟩,mi'⟩,ht⟩,bX⟩,II⟩:=q;cases e1;cases e2;cases cd;cases hm;cases mi';have QK:sl = #[k0,k1,k2,k3,some (.builtin "ValueError.__new__"),k5]:=by cases sl;dsimp only at hs;rw[hs]
   cases QK;exact⟨bm,_,_,_,_,_,_,_,_,_,dd,k0,k1,k2,k3,k5,_,X _ _ ho,.of_isNs (isNs_of_in X bX),nsMap_none_of_in X bX II,tail_of_in X ht⟩
  ·cases q
 ·cases q
section
variable {prog:cv}{w:cK}{A:eB}{E:ag->ay->Prop}{h:dr}{g:Array GenState}{d:Drawn}{t:Nat}{os:OsState}{a C:ah}{o:Obj}{K:aI}
def CK{R:Result->ay->Prop}(x:qh K C)(X:K.In h)(hx:h.get? a=some o)(hc:o.cls=.ref C)(hq:R (.ok (.ret (.ref C))) ⟨h,g,d,t,os⟩) :
  ua (aT prog w) A (.call (.builtin "getset_descriptor.__get__") ⟨[.builtin "object.__class__",.ref a,.ref C],[]⟩) R ⟨h,g,d,t,os⟩:=by
 obtain⟨bm,N,nm,q,bs,hdct,sn,sub,ab,col,dd,k0,k1,k2,k3,k5,mN,hC,hN,II,T⟩:=x.obj X;have hT5:(⟨h,g,d,t,os⟩:ay).TypeIs (.builtin "object.__class__") "getset_descriptor" := F.typeOf_object_class;have Tq:(Value.ref C :: bm).contains (.type (".".intercalate ("object.__class__".cutAt '.').dropLast))=true:=by rw[F.owner_object_class,Wu,T.hasType rfl];rfl
 refine codeAny_call_builtin F.slot_gs_get.plain F.entry_gs_get (F.slot_gs_get.check _ _ _ _ _ _ _ _ hT5 (F.args_gs_get _ _ _) ?_);repeat (any_goals (first|assumption|(with_reducible refine I0 hx ?_;rw[hc])|(with_reducible refine wpAny_isSubtype_exc hC ?_;rw[Tq])|wp_step))
 refine⟨Code.quiet_builtin _ (by decide +kernel),BG F.entry_object_class ?_⟩;repeat (any_goals (first|assumption|(with_reducible refine I0 hx ?_;rw[hc])|wp_step))
def vO(x:qh K C)(X:K.In h)(hx:h.get? a=some o)(hc:o.cls=.ref C)(hq:Q (.done (.ret (.ref C))) ⟨h,g,d,t,os⟩) :
  bE (aT prog w) A (Builtin.«object.__getattribute__» ⟨[.ref a,.str "__class__" tk],[]⟩) Q E ⟨h,g,d,t,os⟩:=by
 have f5:=F.typeOf_object_class;have f6:=F.slot_gs_get.lookup;have f7:=F.slot_gs_set.lookup;have Lk:=looks_findIn (M:=aT prog w) X x.cl;repeat (any_goals (first|assumption|(with_reducible refine I0 hx ?_;rw[hc])|with_reducible refine Lk.at ?_|wp_step))
 refine CK x X hx hc ?_;repeat (any_goals (first|assumption|wp_step))
def Gg(x:qh K C)(X:K.In h)(hx:h.get? a=some o)(hc:o.cls=.ref C)(hq:Q (.ref C) ⟨h,g,d,t,os⟩) :
  bE (aT prog w) A (getAttrBy (.ref a) (.str "__class__" tk) false) Q E ⟨h,g,d,t,os⟩:=by
 have f3:=F.attr_ValueError.ga.bind (.ref a);have Lk:=looks_findIn (M:=aT prog w) X x.ga;have Lg:=looks_findIn (M:=aT prog w) X x.gx;repeat (any_goals (first|assumption|(with_reducible refine I0 hx ?_;rw[hc])|with_reducible refine Lk.at ?_|with_reducible refine Lg.at ?_|wp_step))
 obtain⟨bm,N,nm,q,bs,hdct,sn,sub,ab,col,dd,k0,k1,k2,k3,k5,mN,hC,hN,II,T⟩:=x.obj X;have hk:builtinKind "BaseException.__getattribute__" = some .slot:=by decide +kernel
 have hsplit:splitId "BaseException.__getattribute__" = some ("BaseException", "__getattribute__"):=by decide +kernel
 have Tq:(Value.ref C :: bm).contains (.type "BaseException")=true:=by rw[Wu,T.hasType rfl];rfl
 have chk:∀ {Q':Unit->ay->Prop} {E':ag->ay->Prop} {A':eB},Q' () ⟨h,g,d,t,os⟩->bE (aT prog w) A' (checkBuiltinCall "BaseException.__getattribute__" ⟨[.ref a,.str "__class__" tk],[]⟩) Q' E' ⟨h,g,d,t,os⟩:=λ{Q' E' A'} LW=>by
  have ha:=F.args_bexc_ga (.ref a) (.str "__class__" tk);simp only[checkBuiltinCall,hk,hsplit];refine ax ?_;unfold isInstance;repeat (first|(with_reducible refine I0 hx ?_;rw[hc])|(with_reducible refine wpAny_isSubtype_exc hC ?_;rw[Tq])|wp_step)
  exact LW
 refine codeAny_call_builtin F.attr_ValueError.ga.plain F.entry_bexc_ga (chk (vO x X hx hc ?_));repeat (any_goals (first|assumption|wp_step))
def wJ (x:qh K C) (X:K.In h) (hx:h.get? a=some o) (hc:o.cls=.ref C) (hq:Q (some (.ref C)) ⟨h,g,d,t+1,os⟩):bE (aT prog w) A (getAttr? (.ref a) "__class__") Q E ⟨h,g,d,t,os⟩:=by
 repeat (any_goals (first|assumption|with_reducible apply Gg x X hx hc|wp_step))
end
def XAt(a C:ah)(h:dr):Prop:=∃ o,h.get? a=some o/\o.cls=.ref C
def qh.mm'{K:aI}(x:qh K C)(X:K.In h):Looks M h (isType (.ref C)) true:=by obtain⟨bm,N,nm,q,bs,hdct,sn,sub,ab,col,dd,k0,k1,k2,k3,k5,mN,hC,hN,II,T⟩:=x.obj X;intro A' Q' E' s' k q;exact ax (wpAny_loadPart (k _ _ hC) (bG q))
def ug{K:aI}(x:qh K C):KitX K (.ref a) (.ref C) (XAt a C) where
 ty:=λM h X p=>by obtain⟨o,h1,h2⟩:=p;exact h2 ▸ (Looks.ld h1).andThen .now
 it:=λM h X p=>x.mm' X
 ne:=λh tp dd its n sl X htp=>by obtain⟨bm,N,nm,q,bs,hdct,sn,sub,ab,col,dd,k0,k1,k2,k3,k5,mN,hC,hN,II,T⟩:=x.obj X;refine Bool.eq_false_iff.mpr λq=>?_;have e:C=tp:=Value.ref.inj (beq_iff_eq.mp q);subst e;have z:=congrArg (λo=>o.map (·.data)) (hC.symm.trans htp);cases z
 ca:=λ{prog w A E Q s} X p k=>by obtain⟨h,g,d,t,os⟩:=s;obtain⟨o,h1,h2⟩:=p;exact wJ x X h1 h2 k
def sI{K:aI}{a C R:ah}{os:OsState}(x:qh K C)(r:qh K R)(sub:mroIn K C (.ref R)=some true)(X:K.In h)(p:XAt a C h)(hq:Q true ⟨h,g,d,t,os⟩):bE M A (excMatches (.ref a) (.ref R)) Q E ⟨h,g,d,t,os⟩:=by
 obtain⟨bm,N,nm,q,bs,hdct,sn,rC',ab,col,dd,k0,k1,k2,k3,k5,mN,hC,hN,II,T⟩:=r.obj X;obtain⟨oe,he,WZ⟩:=p;have Tq:(Value.ref R :: bm).contains (.type "BaseException")=true:=by rw[Wu,T.hasType rfl];rfl
 have f:=tc_notTuple;have Lk:=looks_mroIn (M:=M) X sub;repeat (first|(with_reducible refine I0 he ?_;rw[WZ])|with_reducible refine I0 hC ?_|(with_reducible refine wpAny_isSubtype_exc hC ?_;rw[Tq])|with_reducible refine Lk.at ?_|wp_step)
 exact hq
theorem FunFrames.rebase{h base B:dr}:∀ {l:List PySem.Env},h.FunFrames base l->(∀ b∈hG l,B.get? b=none)->h.FunFrames B l
 |[],_,_=>trivial
 |env :: rest,⟨hk,⟨L,o,hf,hn,ho,hd⟩,hr⟩,hB=>⟨hk,⟨L,o,hf,hB L (by unfold hG;rw[CM,hf];exact fw),ho,hd⟩,
   FunFrames.rebase hr λb hb=>hB b (by unfold hG;rw[CM,hf];exact fo _ hb)⟩
def kP.there{P:cv}(x:kP P w H h a o):∃ u,h.get? a=some u:=by
 cases o with
 |lst xs=>obtain⟨_,_,_,_,e⟩:=x;exact⟨_,e⟩
 |tup xs=>obtain⟨_,_,_,_,e,_⟩:=x;exact⟨_,e⟩
 |dK ae=>obtain⟨_,_,_,_,o,_,_,e,_⟩:=x;exact⟨_,e⟩
 |dT ae=>obtain⟨_,_,_,_,o,_,_,e,_⟩:=x;exact⟨_,e⟩
 |set S n=>obtain⟨o,_,_,_,e,_⟩:=x;exact⟨_,e⟩
 |ins C dx fs=>obtain⟨_,_,_,e,_⟩:=x;exact⟨_,e⟩
 |own y=>exact x
 |xd fs=>obtain⟨_,⟨_,_,_,e,_⟩,_⟩:=x;exact⟨_,e⟩
 |Ux lo hi=>obtain⟨_,_,_,e⟩:=x;exact⟨_,e⟩
 |qE ob u=>obtain⟨e,_⟩:=x;exact⟨_,e⟩
 |He ps=>exact⟨_,(x)⟩
 |met f y=>exact⟨_,(x)⟩
 |ext φ=>obtain⟨_,e,_⟩:=x;exact e
def Ee(B:dr)(fs:List ah)(H':Hp)(h₀ h:dr):Prop:=∀ b o,h.get? b=some o->(H' b≠none\/h₀.get? b≠none)->b∉fs->B.get? b=some o
def AF(P:cv)(w:cK)(mg:Str->Option ag)(rn:List Str):Fs:=λouter H s E e s' =>
 ∃ a n C a0 H' B,e=.ref a/\(n∈rn/\mg n=some (.ref C))/\s'.os=s.os/\AllBare s'.gens/\Un (hG outer) [] H H' s.heap s'.heap/\iA P w H' s'.heap /\
  Heap.FlyingW B outer a (.ref C) a0 s'.heap/\Ee B (hG outer) H' s.heap s'.heap/\(∀ b∈hG outer,H' b=none)/\E (.ref C) none H'
structure gK(fs:List ah)(H':Hp)(h₀ h h':dr):Prop where
 keep:∀ b o,h.get? b=some o->(H' b≠none\/h₀.get? b≠none)->b∉fs->h'.get? b=some o
 slot:∀ b o,h.get? b=some o->b∈fs->∃ sl,h'.get? b=some { o with slots:=sl }
def gK.of{B:dr}(c:Ee B (hG l) H' h₀ h)(st:B.StaysIn h')(up:h.UpToSlots h')(ff:h.FunFrames base l):gK (hG l) H' h₀ h h' :=
 ⟨λb o e k n=>st b o (c b o e k n),λb o e m=>by
  obtain⟨_,o',e',d⟩:=ff.mem m;rw[e] at e';cases e';exact up b o e d⟩
def gK.un(m:gK fs H' h₀ h h')(u:Un fs [] H H' h₀ h):Un fs [] H H' h₀ h' where
 keep:=λb o e n nb nx=>m.keep b o (u.keep b o e n nb nx) (.inr (by rw[e];exact λz=>nomatch z)) nb
 slot:=λb o e n hb nx=>by obtain⟨_,e1⟩:=u.slot b o e n hb nx;obtain⟨sl,e2⟩:=m.slot b _ e1 hb;exact⟨sl,e2⟩
 free:=u.free
 there:=λb o e nx=>by
  obtain⟨o',e1⟩:=u.there b o e nx;by_cases hb:b∈fs
  ·obtain⟨sl,e2⟩:=m.slot b o' e1 hb;exact⟨_,e2⟩
  ·exact⟨o',m.keep b o' e1 (.inr (by rw[e];exact λz=>nomatch z)) hb⟩
 j3:=u.j3
 xS:=u.xS
 y6:=u.y6
def gK.bX{P:cv}(m:gK fs H' h₀ h h')(f:∀ b∈fs,H' b=none)(x:iA P w H' h):iA P w H' h':=λa o e =>
 (x a o e).fA (λb u hb q=>by
  have hH:H' b≠none:=by
   rcases hb with z|z
   ·rw[z,e];exact λz=>nomatch z
   ·rw[z];exact λz=>nomatch z
  exact m.keep b u q (.inl hH) λz=>hH (f b z)) (λ_ q=>q) λ_ _ q=>q
section
variable {X:Cx}{pins:List (ah × Obj)}{σ:St}{H H':Hp}{s:ay}{e:ag}
def Ee.up{B h h':dr}(kE:X.stack=X.env :: X.outer)(hf:X.env.frame=some X.env.locals)(hex:X.ex=[])(I:Inv X pins σ H s)(un:Un (hG X.stack) [] H H' s.heap h)(c:Ee B (hG X.stack) H' s.heap h)(m:gK (hG X.stack) H' s.heap h h')(fr:∀ b∈hG X.stack,H' b=none)(bX:iA X.prog X.w H' h) :
  Un X.fs [] X.HC H' X.g7.heap h'/\Ee B X.fs H' X.g7.heap h':=by
 have hs:∀ b,b∈hG X.stack↔b=X.env.locals\/b∈X.fs:=λb=>by rw[kE];unfold hG;rw[CM,hf];exact fm
 have R0:∀ b o,X.g7.heap.get? b=some o->b≠X.env.locals:=λb o e=>gu (pE (eT e) I.ok.above);have QX:∀ b:ah,b∉X.ex:=λb z=>by rw[hex] at z;exact nomatch z
 have m':=m.un un;have th:∀ b o,X.g7.heap.get? b=some o->∃ o',s.heap.get? b=some o':=λb o e=>I.base.there b o e (QX b);refine⟨⟨λb o e n nb nx=>?_,λb o e n hb nx=>?_,λb o e n nx=>?_,λb o e nx=>?_,λb xs e=>un.j3 b xs (I.base.j3 b xs e),λb ob u e=>un.xS b ob u (I.base.xS b ob u e),λb ps e=>?_⟩,λb o e k nb=>?_⟩
 ·exact m'.keep b o (I.base.keep b o e n nb (QX b)) (I.base.free b o e n (QX b)) (λz=>((hs b).mp z).elim (R0 b o e) nb) (by simp)
 ·obtain⟨_,e1⟩:=I.base.slot b o e n hb (QX b);obtain⟨sl,e2⟩:=m'.slot b _ e1 (I.base.free b o e n (QX b)) ((hs b).mpr (.inr hb)) (by simp);exact⟨sl,e2⟩
 ·obtain⟨o',e1⟩:=th b o e;exact un.free b o' e1 (I.base.free b o e n (QX b)) (by simp)
 ·obtain⟨o',e1⟩:=th b o e;exact m'.there b o' e1 (by simp)
 ·obtain⟨m1,e1⟩:=I.base.y6 b ps e;obtain⟨m2,e2⟩:=un.y6 b _ e1;exact⟨m1++m2,by rw[e2,RQ]⟩
 ·have key:∀ o',h.get? b=some o'->(H' b≠none\/s.heap.get? b≠none)->b∉hG X.stack->B.get? b=some o:=λo' e' k' n'=>by have:=m.keep b o' e' k' n';rw[e] at this;cases this;exact c b o e' k' n'
  rcases k with k|k
  ·have nf:b∉hG X.stack:=λz=>k (fr b z)
   cases q:H' b with
   |none=>exact absurd q k
   |some u =>obtain⟨o',e'⟩:=kP.there (bX b u q);exact key o' e' (.inl k) nf
  ·cases q:X.g7.heap.get? b with
   |none=>exact absurd q k
   |some o0 =>obtain⟨o1,e1⟩:=th b o0 q;obtain⟨o2,e2⟩:=un.there b o1 e1 (by simp);exact key o2 e2 (.inr (by rw[e1];exact λz=>nomatch z)) λz=>((hs b).mp z).elim (R0 b o0 q) nb
end
section
variable {P:cv}{w:cK}{K:aI}{mg:Str->Option ag}{base:dr}{N:List Str}{qual:Str}{scope:Scope}{f:ah}{cd:ag}{A:eB}{outer:List PySem.Env}{g7:ay}{HC:Hp}{E:XK}{rn:List Str}
def GJ(hf:env.frame=some L)(h:b∈hG l):b∈hG (env :: l):=by unfold hG;rw[CM,hf];exact fo _ h
def rY(X:Cx)(rn:List Str)(E:XK):Prop:=∀ (pins:List (ah × Obj)) (σ:St) (H:Hp) (s:ay) (h':dr) (e:ah) (n:Str) (C:ah) (vs:List ag),Inv X pins σ H s->Heap.MadeExcOf s.heap h' e (.ref C) vs ->
 n∈rn->X.mg n=some (.ref C)->E (.ref C) none H->X.xe (.ref e) { s with heap:=h' }
def Jj:rY (oz (AF P w mg rn) P w K mg base N qual scope f cd A outer g7 HC E) rn E:=by
 intro pins σ H s h' e n C vs I hx hn hm hE;have st:=I.stack;have ff:s.heap.FunFrames (hideAll s.heap (hG (kN qual scope g7.heap.objs.size f cd :: outer))) (kN qual scope g7.heap.objs.size f cd :: outer):=FunFrames.rebase st λb hb=>hideAll_none _ hb;refine wpAny_leaves_madeW (h:=s.heap) I.ok.frames rfl (λb o q=>of_hideAll _ q) ff hx λNw t Ts tup hnt up=>?_;have ff':h'.FunFrames (hideAll s.heap (hG (kN qual scope g7.heap.objs.size f cd :: outer))) (kN qual scope g7.heap.objs.size f cd :: outer):=ff.of_keeps λb o q _=>⟨o,hx.keeps b o q,rfl⟩
 have bX:iA P w H h':=I.bX.kept hx.keeps;have fr:∀ b∈hG (kN qual scope g7.heap.objs.size f cd :: outer),H b=none:=I.WV;have cov:Ee (hideAll s.heap (hG (kN qual scope g7.heap.objs.size f cd :: outer))) (hG (kN qual scope g7.heap.objs.size f cd :: outer)) H s.heap h':=λb o q k nb=>by
  have ho:∃ o1,s.heap.get? b=some o1:=by
   rcases k with k|k
   ·cases z:H b with
    |none=>exact absurd z k
    |some u=>exact kP.there (I.bX b u z)
   ·exact WQ.mp k
  obtain⟨o1,e1⟩:=ho;have e2:=hx.keeps b o1 e1;rw[q] at e2;cases e2;exact hideAll_get _ e1 nb
 have mv:gK (hG (kN qual scope g7.heap.objs.size f cd :: outer)) H s.heap h' Nw:=gK.of cov Ts.1 up ff';obtain⟨u1,c1⟩:=Ee.up rfl rfl rfl I (Un.kept hx.keeps) cov mv fr bX;exact⟨e,n,C,_,H,_,rfl,⟨hn,hm⟩,I.os,I.bare,u1,mv.bX fr bX,Ts,c1,λb hb=>fr b (GJ rfl hb),hE⟩
def Lh{X:Cx}:Passes (AF P w mg rn) X E0:=by intro _ _ _ _ _ _ _ hx;obtain⟨_,_,_,_,_,_,_,_,_,_,_,_,_,_,_,h⟩:=hx;exact h.elim
def LX(rn:List Str)(mg:Str->Option ag)(E:XK):Str->Hp->Prop:=λn H'=>n∈rn->∀ C,mg n=some (.ref C)->E (.ref C) none H'
def eQ(K:aI)(rn:List Str)(mg:Str->Option ag)(sp:gp):Sp:=λvs H Qv E=>∃ ds Qd,ck K H ds vs/\sp ds Qd /\ (∀ v H' aE m d As,bI H aE->Wf aE H'->RM K aE H' m d v As->As.Nodup->(∀ a∈As,aE a=none)->Qd m d->Qv v H') /\
 ∀ n H',bI H H'->Qd (.ow false) (.str n)->LX rn mg E n H'
def vK(h:eQ K rn mg sp vs H Qv E)(hp:∀ ds Q,sp ds Q->t { nx:=λ_=>Q .sh .non,rt:=Q } (aM N.length ds)) :
  A9 K (LX rn mg E) t { nx:=λ_ H'=>Qv .non H',rt:=Qv } (start N vs) H:=by
 obtain⟨ds,Qd,rs,hs,fin,fx⟩:=h;have hl:=rs.length;refine⟨H,aM N.length ds,[],{ nx:=λ_=>Qd .sh .non,rt:=Qd },⟨?_,⟨bI.refl _,λ_ _ e=>e⟩,nv,λa h=>nomatch h⟩,hp ds Qd hs,?_,?_,?_,?_,fx⟩
 ·unfold aM start;rw[hl];exact SR.start rs
 ·exact λcx H' aE df dv s sr q=>fin .non H' aE .sh .non [] s sr.wf ⟨rfl,.non⟩ nv (λa h=>nomatch h) q
 ·exact λcx H' aE df dv s sr q=>q.elim
 ·exact λcx H' aE df dv s sr q=>q.elim
 ·exact λv H' aE m d As s w r nd own q=>fin v H' aE m d As s w r nd own q
def av'.ok{st:i5}{ps:List Str}(F:oC K x qual st f fd)(S:zh N ps (fe st))(len:∀ ds Q,sp ds Q->ds.length=ps.length)(xa:∀ (dE:ag) (A:eB) (outer:List PySem.Env) (s:ay) (H:Hp) (E:XK),hU k (A.deeper (kN qual (fe st) s.heap.objs.size f dE))->xo (oz (AF P w mg rn) P w K mg base N qual (fe st) f dE A outer s H E) K (LX rn mg E) (nh st) t)(hp:∀ ds Q,sp ds Q->t { nx:=λ_=>Q .sh .non,rt:=Q } (aM N.length ds)):kS P w K mg base (AF P w mg rn) (k+1) f fd ps (eQ K rn mg sp):=by
 obtain⟨oc,od,kV,doc,pm,an,dE,ct,BM,rfl,lk,tF⟩:=F.ex;exact ce' lk tF S (λvs H Q E ⟨ds,Qd,rs,hs,_⟩=>by rw[<- rs.length];exact len ds Qd hs) λA outer s H vs Q E hr DV=>⟨_,xa dE A outer s H E hr,vK DV hp⟩
structure QY(P:cv)(w:cK)(K:aI)(mg:Str->Option ag)(base:dr)(rn:List Str)(k:Nat)(x:Str)(ps:List Str)(sp:gp):Prop where
 ex:∃ (g:ah) (fd:qB),mg x=some (.ref g)/\wd K (.ref g)=true/\Binds K fd ps []/\kS P w K mg base (AF P w mg rn) k g fd ps (eQ K rn mg sp)
def oC.mo'{st:i5}{ps:List Str}(F:oC K x qual st f fd)(hm:mg x=some (.ref f))(ok:kS P w K mg base (AF P w mg rn) k f fd ps (eQ K rn mg sp))(h:∀ (kV doc pm:ag) (an:Option ah) (dE ct:ag) (us:List ag),us.length=ps.length->bindArgs (sf x qual (vj st) (nh st) (fe st) .none kV doc pm an dE ct) ⟨us,[]⟩=pure (ps.zip us)):QY P w K mg base rn k x ps sp:=⟨f,fd,hm,F.kp,F.binds h,ok⟩
end
def XCl(K:aI)(mg:Str->Option ag)(n:Str):Prop:=∃ C,mg n=some (.ref C)/\qh K C
def EA(m:Md)(d:D)(Y:Str->Prop)(N:Prop):Prop:=match m,d with
 |.ow false,.str n=>Y n
 |_,_=>N
def zr{K:aI}(r:RM K Hs H m d v As)(h:EA m d Y N):N:=by
 unfold EA at h;split at h
 ·obtain⟨r,ne⟩:=r;cases r;exact absurd rfl ne
 ·exact h
section
variable {X:Cx}{K:aI}{rn:List Str}{E:XK}{e:Expr}{es:List Expr}{te:WE}{t:WA}{pos:Pos}
def wL(n:Str)(te:WE):WS:=λE ρ=>te ρ λ_ _=>E.rt (.ow false) (.str n)
def Bb (hc:X.calm=true) (ok:rY X rn E) (hn:x∈rn) (hm:X.mg x=some (.ref C)) (xc:qh X.K C) (ha:PA X [e] ta) (hg:Gl X x) (kf:(x == ("__debug__" : Str))=false)(he:bT [e] X.env=[(false,cp e X.env)]):PS X (.Raise (some (.Call (.Name x np) [e] [] hZ)) none pos) (λD σ H=>ta σ H λvs H1=>vs.length<=bS/\E (.ref C) none H1):=by
 intro pins s σ H D I h;obtain⟨bm,N,nm,q,bs,hdct,sn,sub,ab,col,dd,k0,k1,k2,k3,k5,mN,hC,hN,II,T⟩:=xc.obj I.mod.Pm;refine wpAny_Raise_call_subT (nm:=nm) (q:=q) (N:=N) (bs:=bs) (hdct:=hdct) (sn:=sn) (sub:=sub) (ab:=ab) (col:=col) (dd:=dd) (k0:=k0) (k1:=k1) (k2:=k2) (k3:=k3) (k5:=k5)
  F.excBase_ValueError (T.hasType F.excBase_ValueError.hasBase) (I.ok.hd hc) (by rw[he];rfl) II (Lc I hg hm ⟨rfl,?_⟩ kf)
 have h2:=ha hZ pins s σ H _ I h;rw[he] at h2 ⊢;exact Calls.evalArgs_plain (cy h2 λvs s1 ⟨xs,H1,I1,r,hl,q⟩=>⟨rfl,by rw[<- r.length];exact hl,I1.bk _ _ hC,hN.keeps I1.bk,T.keeps I1.bk,λh' e' hx=>ok pins σ H1 s1 h' e' x C vs I1 hx hn hm q⟩)
def By (hc:X.calm=true) (ok:rY X rn E) (xc:XCl K X.mg x) (hn:x∈rn) (he:QE X K e te) (hg:autoParam (Gl X x) bv) (kf:(x == ("__debug__" : Str))=false:=by decide) (hK:autoParam (X.K=K) bv) (hs:autoParam (bT [e] X.env=[(false,cp e X.env)]) bv):QS X K (LX rn X.mg E) (.Raise (some (.Call (.Name x np) [e] [] hZ)) none pos) (wL x te):=by
 subst hK;obtain⟨C,hm,xc⟩:=xc;exact PS.imp (Bb hc ok hn hm xc (kR he oo hs) hg kf hs) λD σ H hx=>mY hx λHs ρ ai E' sr h k1 k2 k3 k4 kx=>⟨Hs,ρ,ai,_,sr,h,λv H1 bP m d As g1 r1 f1 q1=>⟨(by decide:1<=bS),kx x H1 (g1.sh.trans g1.wf.sub) q1 hn C hm⟩⟩
section
variable {k:Nat}{x:Str}{ps:List Str}{sp:gp}{p:Pos}
def HB (C:QY X.prog X.w X.K X.mg X.base rn k x ps sp) (hr:hU k X.A) (hx:Passes (AF X.prog X.w X.mg rn) X E) (ha:PA X (e :: es) ta) (hg:Gl X x) (kf:(x == ("__debug__" : Str))=false) (he:bT (e :: es) X.env=(false,cp e X.env) :: bT es X.env)(iO:(i3 pos (bT es X.env)).any (·.1)=false):PE X (.Call (.Name x p) (e :: es) [] pos) (LV (eQ X.K rn X.mg sp) [] E ta):=by
 obtain⟨g,fd,hm,hk,hb,F⟩:=C.ex;exact bW' F hr hg hm hk hb .nil hx ha kf he iO
def vD{σ:St}{H:Hp}{Qv:VK}{Hs:Hp}{ρ:Env}{ai:List ah}{Y:Str->Prop}{Q:Md->D->Prop}(sr:eI K Hs ρ σ H ai)(h:t ρ λps=>sp (ps.map (·.2)) λm d=>EA m d Y (dk (m,d) (f:=λp=>Q (An p.1 p.2) p.2) ⟨⟩)) (f:∀ v H' aE m d As,fN Hs H aE H'->RM K aE H' m d v As->bR aE H As->Q m d->Qv v H') (fx:∀ n H',bI Hs H'->Y n->LX rn X.mg E n H'):LV (eQ K rn X.mg sp) [] E (Vx K t) σ H Qv:=by
 refine⟨Hs,ρ,ai,_,sr,h,λvs H1 bP ps As g1 r1 f1 q1=>?_⟩;refine⟨_,_,by rw[mM];exact r1.reps g1.wf,q1,λv H' aE m d As s w r nd own q=>?_,λn H' s q=>fx n H' (g1.sh.trans (g1.wf.sub.trans s)) q⟩;obtain⟨iL,r',fr⟩:=kh g1.wf s w r nd own;exact Fin.after f g1 v H' _ (An m d) d iL (cG g1.wf s w) r' fr (zr r q)
def qw(sp:gp)(t:WA):WE:=λρ Q=>t ρ λps=>sp (ps.map (·.2)) λm d=>EA m d (λ_=>False) (dk (m,d) (f:=λp=>Q (An p.1 p.2) p.2) ⟨⟩)
variable (C:QY X.prog X.w X.K X.mg X.base rn k x ps sp)(hr:hU k X.A)
include C hr
def zW (ha:QA X K (e :: es) t) (hK:autoParam (X.K=K) bv) (hg:autoParam (Gl X x) bv) (kf:(x == ("__debug__" : Str))=false:=by decide) (he:autoParam (bT (e :: es) X.env=(false,cp e X.env) :: bT es X.env) bv) (iO:autoParam ((i3 pos (bT es X.env)).any (·.1)=false) bv):QE X K (.Call (.Name x p) (e :: es) [] pos) (qw sp t):=by
 subst hK;exact PE.imp (HB C hr Lh ha hg kf he iO) λσ H Qv h=>iP h λHs ρ ai Q sr h f=>vD sr h f λn H' _ z=>z.elim
variable (hx:Passes (AF X.prog X.w X.mg rn) X E)
include hx
end
def QZ(j:Nat)(a:ah)(b:Bool):WE:=λρ Q=>ρ[j]? = some (some (.xc a))/\Q .sh (.bl b)
def J9 (hm:X.mg "isinstance" = none) (hp:(a,oe)∈X.pn) (pV:oe.cls=.ref C) (xc:qh X.K C) (hk:kitOne X.K (.ref C) c=some b) (he:PE X e (kc j)) (ht:PE X e2 (tC vc)) (hvc:∀ u,RelV vc u->u=c)(hg:Gl X "isinstance" := by rfl) (hs:autoParam (bT (e :: [e2]) X.env=(false,cp e X.env) :: bT [e2] X.env) bv) (kF:autoParam (bT (e2 :: []) X.env=(false,cp e2 X.env) :: bT [] X.env) bv) (iO:autoParam ((i3 pos (bT [e2] X.env)).any (·.1)=false) bv) :
  QE X K (.Call (.Name "isinstance" p) [e,e2] [] pos) (QZ j a b):=by
 have hc:lS X (.builtin "isinstance") (λxs H Q=>xs=[.ref a,vc]/\Q (.bl b) H):=by intro pins s σ H xs us Q I r h;obtain⟨rfl,q⟩:=h;obtain⟨u,v,rfl,ru,rv⟩:=Vals.two r;obtain rfl:u=Value.ref a:=ru;obtain rfl:=hvc v rv;obtain⟨ho,_⟩:=I.pin (a,oe) (kr _ hp);exact kia_one (ug xc) I.hX ⟨oe,ho,pV⟩ hk (λz=>nomatch z) λtk=>⟨.bl b,H,I.tok tk,rfl,q⟩
 refine PE.imp (PH hc hg hm du (kR he (kR ht oo kF) hs) (by decide) (by decide) hs iO) λσ H Qv hx=>iP hx λHs ρ ai Q sr h f=>?_;obtain⟨ea,q⟩:=h;obtain⟨v,e1,r⟩:=sr.sr.get ea;subst r;exact⟨_,e1,rfl,Fin.sh f sr.wf (.bl _) q⟩
end
abbrev iI(X:Cx)(pn:List (ah × Obj))(xe:ag->ay->Prop):Cx:={ X with pn:=pn,xe:=xe }
abbrev IJ(X:Cx)(pn:List (ah × Obj))(a:ah):Cx:={ X with A:=X.A.mark (some (.ref a)),calm:=false,pn:=pn,xe:=λ_ _=>False }
abbrev Hh(X:Cx)(H:Hp)(s:ay)(p:ah × Obj):Prop:=s.heap.get? p.1=some p.2/\H p.1=none/\p.1≠X.env.locals/\p.1∉X.fs/\∀ v,p.2.data≠.cell v
section
variable {X:Cx}{pins sv pn:List (ah × Obj)}{σ:St}{H:Hp}{s:ay}{xe:ag->ay->Prop}{a:ah}
def Inv.iI(I:Inv X pins σ H s)(h:∀ p∈pn++sv,Hh X H s p):Inv (iI X pn xe) sv σ H s :=
 ⟨⟨I.ok.mod,I.ok.kind,I.ok.glob,I.ok.blt,I.ok.above,I.ok.inj,I.ok.has,I.ok.DH,I.ok.hd,I.ok.frames,I.ok.E8,I.ok.E9,I.ok.bs,I.ok.x3,I.ok.DI,I.ok.DJ,I.ok.tq,I.ok.A2⟩,I.os,I.bare,I.base,I.loc,I.cell,I.free,I.sq,h,I.bX,I.len⟩
def Inv.mF(I:Inv (L2.Q.iI X pn xe) sv σ H s)(h:∀ p∈X.pn++pins,p∈pn++sv):Inv X pins σ H s :=
 ⟨⟨I.ok.mod,I.ok.kind,I.ok.glob,I.ok.blt,I.ok.above,I.ok.inj,I.ok.has,I.ok.DH,I.ok.hd,I.ok.frames,I.ok.E8,I.ok.E9,I.ok.bs,I.ok.x3,I.ok.DI,I.ok.DJ,I.ok.tq,I.ok.A2⟩,I.os,I.bare,I.base,I.loc,I.cell,I.free,I.sq,λp hp=>I.pin p (h p hp),I.bX,I.len⟩
def Inv.IJ(I:Inv (L2.Q.iI X pn xe) sv σ H s)(h:∀ p∈pn2++mr',Hh X H s p):Inv (L2.Q.IJ X pn2 a) mr' σ H s :=
 ⟨⟨I.ok.mod,I.ok.kind,I.ok.glob,I.ok.blt,I.ok.above,I.ok.inj,I.ok.has,I.ok.DH,(λz=>nomatch z),I.ok.frames,I.ok.E8,I.ok.E9,I.ok.bs,I.ok.x3,I.ok.DI,I.ok.DJ,I.ok.tq,I.ok.A2⟩,I.os,I.bare,I.base,I.loc,I.cell,I.free,I.sq,h,I.bX,I.len⟩
def Inv.Lw(I:Inv (L2.Q.iI X pn xe) pins σ H s):Inv (L2.Q.iI X pn xe2) pins σ H s :=
 ⟨⟨I.ok.mod,I.ok.kind,I.ok.glob,I.ok.blt,I.ok.above,I.ok.inj,I.ok.has,I.ok.DH,I.ok.hd,I.ok.frames,I.ok.E8,I.ok.E9,I.ok.bs,I.ok.x3,I.ok.DI,I.ok.DJ,I.ok.tq,I.ok.A2⟩,I.os,I.bare,I.base,I.loc,I.cell,I.free,I.sq,I.pin,I.bX,I.len⟩
def Inv.z8(I:Inv (L2.Q.IJ X pn a) sv σ H s)(hd:X.calm=true->X.A.handled=none)(h:∀ p∈X.pn++pins,p∈pn++sv):Inv X pins σ H s :=
 ⟨⟨I.ok.mod,I.ok.kind,I.ok.glob,I.ok.blt,I.ok.above,I.ok.inj,I.ok.has,I.ok.DH,hd,I.ok.frames,I.ok.E8,I.ok.E9,I.ok.bs,I.ok.x3,I.ok.DI,I.ok.DJ,I.ok.tq,I.ok.A2⟩,I.os,I.bare,I.base,I.loc,I.cell,I.free,I.sq,λp hp=>I.pin p (h p hp),I.bX,I.len⟩
def SP.mF{D:Ends}(h:SP (L2.Q.iI X pn xe) sv D f s)(hp:∀ p∈X.pn++pins,p∈pn++sv):SP X pins D f s:=by
 cases f with
 |next=>obtain⟨cx,H',I,q⟩:=h;exact⟨cx,H',Inv.mF I hp,q⟩
 |brk=>obtain⟨cx,H',I,q⟩:=h;exact⟨cx,H',Inv.mF I hp,q⟩
 |cont=>obtain⟨cx,H',I,q⟩:=h;exact⟨cx,H',Inv.mF I hp,q⟩
 |ret u=>obtain⟨v,cx,H',I,r,q⟩:=h;exact⟨v,cx,H',Inv.mF I hp,r,q⟩
def Inv.forget(I:Inv X pins σ H s)(hn:h'.Ns X.env.locals m)(hs:Heap.SameBut X.env.locals s.heap h'):Inv X pins (List.replicate X.N.length none) H { s with heap:=h',toks:=t }:=by
 have ne:∀ b o,X.g7.heap.get? b=some o->b≠X.env.locals:=λb o e=>gu (pE (eT e) I.ok.above);refine⟨I.ok,I.os,I.bare,⟨λb o e n hb hx=>(hs.2 b (ne b o e)).trans (I.base.keep b o e n hb hx),λb o e n hb hx=>?_,I.base.free,λb o e hx=>?_,I.base.j3,I.base.xS,I.base.y6⟩,⟨m,hn,λi x v e1 e2=>?_⟩,λx c e=>?_,I.free,I.sq,λp hp=>?_,λb o e=>?_,Wn⟩
 ·obtain⟨sl,e1⟩:=I.base.slot b o e n hb hx;exact⟨sl,(hs.2 b (ne b o e)).trans e1⟩
 ·obtain⟨o',e1⟩:=I.base.there b o e hx;exact⟨o',(hs.2 b (ne b o e)).trans e1⟩
 ·rw[Wm] at e2;split at e2<;>cases e2
 ·obtain⟨v,z⟩:=I.cell x c e;exact⟨v,z.sameBut hs (I.Fc x c e)⟩
 ·obtain⟨e,n,nl,nf,d⟩:=I.pin p hp;exact⟨(hs.2 p.1 nl).trans e,n,nl,nf,d⟩
 ·refine(I.bX b o e).fA (λc u hc q=>(hs.2 c ?_).trans q) (λ_ q=>q) λ_ _ q=>q;intro z;rcases hc with w|w
  ·rw[<- w,z,I.free] at e;cases e
  ·rw[z,I.free] at w;cases w
end
def Ee.next{P:cv}{B:dr}(c:Ee B fs H' h₀ h)(m:gK fs H' h₀ h h')(bX:iA P w H' h)(th:∀ b o,h₀.get? b=some o->∃ o',h.get? b=some o'):Ee B fs H' h₀ h':=λb o e k nb=>by
 have ho:∃ o',h.get? b=some o':=by
  rcases k with k|k
  ·cases z:H' b with
   |none=>exact absurd z k
   |some u=>exact kP.there (bX b u z)
  ·obtain⟨o0,e0⟩:=WQ.mp k;exact th b o0 e0
 obtain⟨o',e'⟩:=ho;have e2:=m.keep b o' e' k nb;rw[e] at e2;cases e2;exact c b o e' k nb
structure J2(K:aI)(mg:Str->Option ag)(rn:List Str)(R:Str):Prop where
 ex:∃ r,mg R=some (.ref r)/\qh K r/\∀ n C,n∈rn->mg n=some (.ref C)->qh K C/\mroIn K C (.ref r)=some true
end L2.Q
namespace L2.Q
def oO:ly "ValueError" = some (.type "ValueError"):=by decide +kernel
end L2.Q
namespace L2.Q.R
section
variable {E:jt}{ρ:Env}{Q:Md->L2.Q.D->Prop}{te:WE}{tar:WA}{j:Nat}{a:ah}{b:Bool}{sp:gp}{n:Str}{d:L2.Q.D}{Y:Str->Prop}{N:Prop}
def LK:wL n te E ρ=te ρ λ_ _=>E.rt (.ow false) (.str n):=rfl
def K5:qw sp tar ρ Q=tar ρ λps=>sp (ps.map (·.2)) λm d=>EA m d (λ_=>False) (dk (m,d) (f:=λp=>Q (An p.1 p.2) p.2) ⟨⟩):=rfl
def Pa:QZ j a b ρ Q=(ρ[j]? = some (some (.xc a))/\Q .sh (.bl b)):=rfl
def Qf:EA (.ow false) (.str n) Y N=Y n:=rfl
def Qh:EA (.ow b) (.list xs) Y N=N:=by cases b<;>rfl
end
end L2.Q.R
namespace L2.Q
open PySem.W
def vM{K:Frag}:kitAny K t []=some false:=rfl
def fZ{K:Frag}(h:kitOne K t c=some a)(g:kitAny K t r=some b):kitAny K t (c :: r)=some (a || b):=by
 unfold kitAny;rw[h];cases a
 ·exact g
 ·rfl
section
variable {X:Cx}{K:aI}{e:Expr}{es:List Expr}{pos:Pos}
def VR(vs:List V):TA:=λ_ H Q=>Q vs H
def Gz:PA X [] (VR []):=oo
def nY(h:PE X e (tC v))(r:PA X es (VR vs))(hs:autoParam (bT (e :: es) X.env=(false,cp e X.env) :: bT es X.env) bv):PA X (e :: es) (VR (v :: vs)):=kR h r hs
def Gr{cs:List ah}{us:List ag}(h:Vals (cs.map V.ref) us):us=cs.map Value.ref:=by
 induction cs generalizing us with
 |nil=>exact Paired.n0 h
 |cons c cs ih =>obtain⟨u,us,rfl,r,t⟩:=Paired.c h;rw[show u=Value.ref c from r,ih t];rfl
def IK {j:Nat} {a C:ah} {oe:Obj} {cs:List ah} {b:Bool} {x1} {p p2:Pos} (hm:X.mg "isinstance" = none) (hp:(a,oe)∈X.pn) (pV:oe.cls=.ref C) (xc:qh X.K C) (hk:kitAny X.K (.ref C) (cs.map Value.ref)=some b) (hz:cs.length<=100) (he:PE X e (kc j)) (ht:PA X es (VR (cs.map V.ref)))(hg:Gl X "isinstance" := by rfl) (hs:autoParam (bT (e :: [.Tuple es x1 p2]) X.env=(false,cp e X.env) :: bT [.Tuple es x1 p2] X.env) bv) (kF:autoParam (bT (.Tuple es x1 p2 :: []) X.env=(false,cp (.Tuple es x1 p2) X.env) :: bT [] X.env) bv) (iO:autoParam ((i3 pos (bT [.Tuple es x1 p2] X.env)).any (·.1)=false) bv) :
  QE X K (.Call (.Name "isinstance" p) [e,.Tuple es x1 p2] [] pos) (QZ j a b):=by
 have hc:lS X (.builtin "isinstance") (λxs H Q=>∃ t,xs=[.ref a,.ref t]/\H t=some (.tup (cs.map V.ref))/\Q (.bl b) H):=by intro pins s σ H xs us Q I r h;obtain⟨t,rfl,et,q⟩:=h;obtain⟨u,v,rfl,ru,rv⟩:=Vals.two r;obtain rfl:u=Value.ref a:=ru;obtain rfl:v=Value.ref t:=rv;obtain⟨ho,_⟩:=I.pin (a,oe) (kr _ hp);obtain⟨its,ri,o,e1,e2,n,e3⟩:=I.tup et;obtain⟨c',d',dt,sl⟩:=o;cases e2;cases e3;rw[Gr ri] at e1;exact kia_tup (ug xc) I.hX ⟨oe,ho,pV⟩ e1 hk (λz=>nomatch z) λtk=>⟨.bl b,H,I.tok tk,rfl,q⟩
 refine PE.imp (PH hc hg hm du (kR he (kR (Ze ht) oo kF) hs) (by decide) (by decide) hs iO) λσ H Qv hx=>iP hx λHs ρ ai Q sr h f=>?_;obtain⟨ea,q⟩:=h;obtain⟨v,e1,r⟩:=sr.sr.get ea;subst r;refine⟨_,e1,by rw[dc];exact kL hz (by decide),λt hT=>⟨t,rfl,fq,?_⟩⟩;have g:=S0 (vs:=cs.map V.ref) sr.wf hT;exact Fin.sh (Fin.after f g) g.wf (.bl _) q
end
def SR.Et{K:aI}{Hs H:Hp}{ρ:Env}{σ:St}{ai:List ah}{j:Nat}{o:Option V}(s:SR K Hs H (ρ.set j none) σ ai):SR K Hs H (ρ.set j none) (σ.set j o) ai:=by
 generalize e:ρ.set j none=df at s
 induction s generalizing ρ j with
 |nil=>exact .nil
 |non s ih =>
  cases ρ with
  |nil=>cases e
  |cons x ρ =>
   cases j with
   |zero=>exact .non s
   |succ j=>exact .non (ih (List.cons.inj e).2)
 |sh r s ih =>
  cases ρ with
  |nil=>cases e
  |cons x ρ =>
   cases j with
   |zero=>cases e
   |succ j=>exact .sh r (ih (List.cons.inj e).2)
 |xc s ih =>
  cases ρ with
  |nil=>cases e
  |cons x ρ =>
   cases j with
   |zero=>cases e
   |succ j=>exact .xc (ih (List.cons.inj e).2)
 |ow ne r s ih =>
  cases ρ with
  |nil=>cases e
  |cons x ρ =>
   cases j with
   |zero=>cases e
   |succ j=>exact .ow ne r (ih (List.cons.inj e).2)
 |lk ne r s ih =>
  cases ρ with
  |nil=>cases e
  |cons x ρ =>
   cases j with
   |zero=>cases e
   |succ j=>exact .lk ne r (ih (List.cons.inj e).2)
 |ob r s ih =>
  cases ρ with
  |nil=>cases e
  |cons x ρ =>
   cases j with
   |zero=>cases e
   |succ j=>exact .ob r (ih (List.cons.inj e).2)
def Fz{α:Type}{l:List α}(h:l.Nodup){i j:Nat}{x:α}(a:l[i]? = some x)(b:l[j]? = some x):i=j:=by
 obtain⟨hi,ei⟩:=kM.mp a;obtain⟨hj,ej⟩:=kM.mp b;rcases Nat.lt_trichotomy i j with q|q|q
 ·exact absurd (ei.trans ej.symm) (Ki.mp h i j hi hj q)
 ·exact q
 ·exact absurd (ej.trans ei.symm) (Ki.mp h j i hj hi q)
section
variable {X:Cx}{pins:List (ah × Obj)}{σ:St}{H:Hp}{s:ay}
def Inv.drop(I:Inv X pins σ H s)(hN:X.N.Nodup)(hj:X.N[j]? = some en)(lk:∀ (i:Nat) (x:Str) (v:V),X.N[i]? = some x->σ[i]? = some (some v)->RZ X.env.scope x->∃ u,RelV v u/\Look X.env s.heap m x u)(hn:h'.Ns X.env.locals λx=>if x=en then v else m x) (hs:Heap.SameBut X.env.locals s.heap h'):Inv X pins (σ.set j none) H { s with heap:=h',toks:=t }:=by
 have F:=Inv.forget (t:=t) I hn hs;refine⟨F.ok,F.os,F.bare,F.base,⟨_,hn,λi x v' e1 e2 vs=>?_⟩,F.cell,F.free,F.sq,F.pin,F.bX,by rw[Kx];exact I.len⟩;have mw:j≠i:=λz=>by
  subst z;rw[Rz] at e2;split at e2
  ·split at e2<;>cases e2
  ·rename_i z;exact z rfl
 rw[T_ mw] at e2;obtain⟨u,r,l⟩:=lk i x v' e1 e2 vs;refine⟨u,r,?_⟩;rcases l with⟨a,b⟩|⟨a,c,b,d⟩
 ·refine .inl ⟨a,?_⟩;show(if x=en then v else m x)=some u;rw[if_neg λz=>mw ?_]
  ·exact b
  ·subst z;exact Fz hN hj e1
 ·exact .inr ⟨a,c,b,d.sameBut hs (I.Fc x c b)⟩
end
end L2.Q
namespace L2.Q.R
end L2.Q.R
namespace L2
open Builtin Builtin.Str Builtin.Int
end L2
namespace L2.Q
section
variable {X:Cx}{K:aI}{a b:Expr}{tb:WE}{pos:Pos}
def IL(o:Option (Option Sl))(k:List D->Prop):Prop:=match o with
 |some (some (.ow true (.list xs)))=>k xs
 |_=>False
def intD(y:D)(k:Int->Prop):Prop:=match y with
 |.int i=>k i
 |_=>False
def Tt(d:D):Md:=bif d.flat then .sh else .ow true
def uA(i:Nat)(tb:WE):WS:=λE ρ=>IL ρ[i]? λxs=>tb ρ λ_ y=>intD y λk=>∃ d,L2.fF xs k=some d/\E.rt (Tt d) d
def Ar(he:PE X a (kc i))(hb:QE X K b tb)(hs:UW b:=by exact λ_ _=>rfl)(hK:autoParam (X.K=K) bv):QS X K L (.Return (some (.Subscript a b pos)) pos') (uA i tb) :=
 PS.imp (R6 (Zm (kIx hK) he hb hs)) λD σ H hx=>cz hx λHs ρ ai E sr h k1 k2 k3 k4=>by
 unfold uA IL at h;split at h
 ·rename_i xs e1;obtain⟨v,As,e2,ne,r,sb⟩:=sr.sr.at e1
  cases r with
  |sh _ _=>exact absurd rfl ne
  |@list a vs _ As z e rs =>
   refine⟨_,e2,Hs,ρ,ai,_,sr,h,λu H1 bP m y Bs g1 r1 f1 q1=>?_⟩;have ry:=r1.rep g1.wf
   cases ry with
   |int k =>
    obtain⟨d,e3,q⟩:=q1;obtain⟨j,ej,ed⟩:=I_ e3;have nd:As.Nodup:=(oj.mp (sb.nodup sr.nI)).2;obtain⟨w,B,ew,oB,sB,_⟩:=rs.at ed nd;have sub:∀ c∈B,c∈ai:=λc hc=>sb.subset (fo _ (sB.subset hc));have r2:=oB.grow g1.sh g1.all;refine .inl ⟨vs,w,.inl (.inl (g1.all _ _ e)),Iz (by rw[<- rs.length];exact ej) ew,?_⟩;have Q0:=sr.grow g1
    cases hf:d.flat with
    |true =>rw[Tt,hf] at q;exact k4 w H1 bP .sh d [] g1.sh g1.wf ⟨rfl,(r2.rep g1.wf.sub λ_ _=>rfl).il g1.wf.j3 hf⟩ nv (λc hc=>zD hc) q
    |false =>rw[Tt,hf] at q;exact k4 w H1 bP (.ow true) d B g1.sh g1.wf ⟨r2,r2.ne hf⟩ (sB.nodup nd) (λc hc=>Q0.own c (sub c hc)) q
   |_=>exact q1.elim
 ·exact h.elim
end
end L2.Q
namespace L2.Q.R
section
variable {ρ:Env}{te:WE}{ys:List L2.Q.D}
def Lj:uA i te E ρ=dk ρ[i]? (f:=λo=>IL o λxs=>te ρ λ_ y=>dk y (f:=λy=>intD y λk=>∃ d,fF xs k=some d/\dk d (f:=λd=>E.rt (Tt d) d) ⟨⟩) ⟨⟩) ⟨⟩:=rfl
def N7:IL (some (some (.ow true (.list ys)))) k=k ys:=rfl
def Ob:intD (.int i) k=k i:=rfl
end
end L2.Q.R
namespace L2
section
variable {prog:cv}{w:cK}{A:eB}{E:ag->ay->Prop}{s:ay}
def Ef{κ:Type}[DecidableEq κ]{kd:HeapKind prog w κ}{d b:ah}{xs:List (κ × ah × ag)}{k:κ}{r:ag}{Q:ag->ay->Prop}(hu:kd.room A)(hk:kd.is s.heap k b)(hm:s.heap.DictOfH kd d xs)(hz:xs.length<=bS)(h1:∀ p,atKey xs k=some p->Q p.2 { s with toks:=s.toks+kd.draws k }) (h2:atKey xs k=none->∀ h',h'.DictOfH kd d (storedH xs k b r)->Heap.SameBut d s.heap h'->Q r { s with heap:=h',toks:=s.toks+kd.draws k }):bE (aT prog w) A (dictSetDefault d (.ref b) r) Q E s:=by
 obtain⟨o,es,ep,ho,hc,hd,he,B8,hn⟩:=hm;unfold dictSetDefault;try with_reducible refine xC ?_
 refine ax (kd.pyHash hu hk (ax (wpAny_dictFind_heap hu hk ho hd he B8 hn (λno=>?_) λj p hj=>?_)))
 ·have nk:=atKey_none_of_get no;refine ax (CH (ax (wpAny_updateDictKeys (hz:=by have e:=size_of_entries he;lia) ho hd (bG (h2 nk _ ?_ (Heap.SameBut.update ..))))));rw[storedH_new nk];refine⟨_,_,ep+1,GY _ ho (Obj.isFreed_of_dict (Obj.data_mapDictKeys hd _)),hc.mapDictKeys _,Obj.data_mapDictKeys hd _,by simp[he,entryOfKey],λx hx=>?_,?_⟩
  ·rcases eL.mp hx with q|q
   ·exact kd.keeps (B8 x q) ho hd (Heap.SameBut.update ..)
   ·obtain rfl:=kD.mp q;exact kd.keeps hk ho hd (Heap.SameBut.update ..)
  ·rw[pz];refine gV.mpr ⟨hn,by simp,λx hx y hy e=>?_⟩;obtain rfl:y=k:=by simpa using hy
   exact not_mem_keys_of_get no (e ▸ hx)
 ·refine ax (Rk ho hd ?_);rw[entry_at he j,hj];exact ax (CH (bG (h1 _ (atKey_of_get hn hj))))
def BJ{κ:Type}[DecidableEq κ](kd:HeapKind prog w κ)(d b:ah)(hd:(d == qq)=false)(r:ag) :
  MeetsIn prog w (Builtin.«dict.setdefault» ⟨[.ref d,.ref b,r],[]⟩) (λA R s=>kd.room A.in1/\∃ k xs,kd.is s.heap k b/\s.heap.DictOfH kd d xs/\xs.length<=bS /\ (∀ p,atKey xs k=some p->R (.ok (.ret p.2)) { s with toks:=s.toks+kd.draws k }) /\ (atKey xs k=none->∀ h',h'.DictOfH kd d (storedH xs k b r)->Heap.SameBut d s.heap h'->R (.ok (.ret r)) { s with heap:=h',toks:=s.toks+kd.draws k })) :=
 .of_wp λA R s dS=>by obtain⟨hu,k,xs,hk,hm,hz,h1,h2⟩:=dS;refine ax (ax (wpAny_notOrdered_dict hm.typeIs ?_));refine(bG ?_);refine(show bE _ _ (if (d == qq)=true then _ else (dictSetDefault d (Value.ref b) r >>= _)) _ _ s from ?_);rw[if_neg (by rw[hd];decide)];exact ax (Ef hu hk hm hz (λp q=>bG ⟨p.2,rfl,h1 p q⟩) λq h' a c=>bG ⟨r,rfl,h2 q h' a c⟩)
end
section
variable {X:Cx}{pins:List (ah × Obj)}{σ:St}{H:Hp}{s:ay}{a b:ah}{A:eB}{E:ag->ay->Prop}
def A_(hu:A.units+1<gv)(I:Inv X pins σ H s)(e:H a=some (.dT ae))(eb:H b=some (.tup (k.map kV)))(hl:ae.length<bS)(rv:RelV v r)(h1:∀ v' w' s',gL ae k=some v'->Inv X pins σ H s'->RelV v' w'->Q w' s') (h2:gL ae k=none->∀ s',Inv X pins σ (upd H a (.dT (putK ae k v))) s'->Q r s') :
  bE (aT X.prog X.w) A (call (.builtin "dict.setdefault") [.ref a,.ref b,r]) Q E s:=by
 obtain⟨z,hd,xs,rel,dd⟩:=cw' I.bX e;have hz:xs.length<=bS:=by rw[<- Paired.length rel];exact z
 have hp:(putK ae k v).length<=bS:=by have:=U5 ae k v;lia
 have vl:=rel.val k;refine call_meetsIn PySem.F.slot_dict_setdefault dd.typeIs PySem.F.entry_dict_setdefault (PySem.F.args_dict_setdefault_3 _ _ _) (BJ (ER (iN X.prog X.w)) a b hd r) ⟨Ri hu,k,xs,L7 I.bX eb,dd,hz,λp iF=>?_,λhn h' BQ hs=>?_⟩
 ·rw[iF] at vl
  cases ev:gL ae k with
  |none=>rw[ev] at vl;exact vl.elim
  |some v'=>rw[ev] at vl;exact h1 v' _ _ ev (I.tok _) vl
 ·have ev:gL ae k=none:=by
   rw[hn] at vl
   cases ev:gL ae k with
   |none=>rfl
   |some v'=>rw[ev] at vl;exact vl.elim
  refine h2 ev _ ?_;obtain⟨q,es,ep,hq,g2,g3,g4,_,g5⟩:=BQ;refine Sn I (by rw[e];exact True.intro) hs ⟨q,hq⟩ ⟨hp,hd,_,(rel.put k eb rv).keeps λc ys ec=>?_,q,es,ep,hq,g2,g3,g4,g5⟩;rw[dP (bi' ec e λz=>nomatch z)];exact ec
end
def tSd(td ty tx:TE):TE:=λσ H Q=>td σ H λx H1=>∃ a,x=.ref a/\U9 H1 a/\ty σ H1 λy H2=>tx σ H2 λz H3=>∃ ae k b,H3 a=some (.dT ae)/\y=.ref b/\H3 b=some (.tup (k.map kV))/\ae.length<bS /\ (∀ v,gL ae k=some v->Q v H3)/\(gL ae k=none->Q z (upd H3 a (.dT (putK ae k z))))
def Lx {X:Cx} (hu:X.A.units+1<gv) (ho:PE X o td) (he:PE X e ty) (hf:PE X f tx) (m:M2 X o "setdefault" apos e f hZ):PE X (.Call (.Attribute o "setdefault" apos) [e,f] [] hZ) (tSd td ty tx):=by intro pins s σ H Q I h;refine wpAny_Call_method m.base m.few m.line PySem.F.plainAttrs_dict PySem.F.slot_dict_setdefault PySem.F.type_dict_setdefault (cy (ho pins s σ H _ I h) λu s1 dS=>?_);obtain⟨x,H1,I1,rx,a,ex,d,q1⟩:=dS;subst ex;cases (rx);have td:=cC' I1 d;refine⟨td.1,td.2.1,?_⟩;rw[m.trees];refine Calls.callWith_builtin rfl (Calls.evalArgs_plain (Calls.spliced_cons (cy (he pins s1 σ H1 _ I1 q1) λiv s2 cq=>L2.eW cq λy H2 I2 ry q2=>Calls.spliced_cons (cy (hf pins s2 σ H2 _ I2 q2) λfv s3 ⟨z,H3,I3,rz,ae,k,b,e1,e2,e3,hl,q3,q4⟩=>Calls.spliced_nil ?_))));subst e2;cases (ry);exact A_ hu I3 e1 e3 hl rz (λv' w' s' ev I' r'=>⟨v',H3,I',r',q3 v' ev⟩) λev s' I'=>⟨z,_,I',rz,q4 ev⟩
end L2
namespace L2.Q
section
variable {X:Cx}{K:aI}{a b c:Expr}{ta tb tc:WE}{pos apos hZ:Pos}
def onD(x:D)(f:List (Key × D)->Prop)(g:List (List Key × D)->Prop):Prop:=match x with
 |.dK ae=>f ae
 |.dT ae=>g ae
 |_=>False
def Tv(y:D)(k:List D->Prop):Prop:=match y with
 |.tup ys=>k ys
 |_=>False
def Q5(o:Option D)(m n:Md)(z:D)(Q:Md->D->Prop):Prop:=match o with
 |some d=>Q (xt m d) d
 |none=>Q n z
def Tw(ta tb tc:WE):WE:=λρ Q=>ta ρ λm x=>onD x (λae=>tb ρ λ_ y=>tc ρ λn z=>∃ k,y.key1=some k/\Q5 (gE ae k) m n z Q) (λae=>tb ρ λ_ y=>tc ρ λn z=>Tv y λys=>∃ ks,dW ys=some ks/\Q5 (gE ae ks) m n z Q)
def Av(hx:oI K (Tw ta tb tc) σ H Qv):cD' (oI K ta) (oI K tb) (oI K tc) σ H Qv:=iP hx λHs ρ ai Q sr h fin=>by
 walk_at"d"
 have got:∀ {o:Option V} {d? : Option D} {H2 H3 bq gi:Hp} {w:V} {n:Md} {z:D} {Cs:List ah},fN bP H1 bq H2->fN bq H2 gi H3->RM K gi H3 n z w Cs->bR gi H2 Cs->(match d? with
   |some d=>∃ v,o=some v/\Rep K H3 d v/\(m=.sh->Rep K gi d v)
   |none=>o=none)->Q5 d? m n z Q->Qv (o.getD w) H3:=by
  intro o d? H2 H3 bq gi w n z Cs g2 g3 r3 f3 l q
  cases d? with
  |none=>rw[show o=none from l];exact fin w H3 gi n z Cs ((g1.trans g2).trans g3) r3 (f3.of (g1.trans g2).all) q
  |some d =>obtain⟨v',e,u1,u2⟩:=l;rw[e];exact(Fin.after fin ((g1.trans g2).trans g3)).xt g3.wf u1 u2 q
 have core:∀ G:Hp,bI G H1->(∀ H3 gi,fN bP H1 gi H3->∀ d v,Rep K G d v->Rep K H3 d v/\(m=.sh->Rep K gi d v))->Rep K G x v->∃ a,v=.ref a/\U9 H1 a/\oI K tb σ H1 λy H2=>oI K tc σ H2 λz H3=>∃ o,sA H3 a y o/\Qv (o.getD z) H3:=by
  intro G sg up r
  cases r with
  |dK kk s q =>
   refine⟨_,rfl,.inl ⟨_,bI.rd sg s⟩,bP,ρ,ai,_,sr.grow g1,q1,λu H2 bq n y Bs g2 r2 f2 q2=>⟨bq,ρ,ai,_,(sr.grow g1).grow g2,q2,λw H3 gi n3 z Cs g3 r3 f3 q3=>?_⟩⟩;have ry:=(r2.grow g3).rep g3.wf;obtain⟨k,hk,q4⟩:=q3;have ev:=ry.key hk;subst ev;refine⟨_,sA.k' (bI.rd (g2.trans g3).all (bI.rd sg s)),got g2 g3 r3 f3 ?_ q4⟩;have z:=zip_get (k:=k) q;split
   ·rename_i d e;rw[e] at z;obtain⟨v',e',r'⟩:=z;exact⟨v',e',up _ _ (g2.trans g3) _ _ r'⟩
   ·rename_i e;rw[e] at z;exact z
  |dT kk s q =>
   refine⟨_,rfl,.inr ⟨_,bI.rd sg s⟩,bP,ρ,ai,_,sr.grow g1,q1,λu H2 bq n y Bs g2 r2 f2 q2=>⟨bq,ρ,ai,_,(sr.grow g1).grow g2,q2,λw H3 gi n3 z Cs g3 r3 f3 q3=>?_⟩⟩;have ry:=(r2.grow g3).rep g3.wf
   cases ry with
   |tup t2 e2 p2 =>
    obtain⟨k,hk,q4⟩:=q3;obtain⟨b',eb,e3⟩:=Rep.vw (.tup t2 e2 p2) hk;cases eb;refine⟨_,sA.t' (bI.rd (g2.trans g3).all (bI.rd sg s)) e3,got g2 g3 r3 f3 ?_ q4⟩;have z:=zip_get (k:=k) q;split
    ·rename_i d e;rw[e] at z;obtain⟨v',e',r'⟩:=z;exact⟨v',e',up _ _ (g2.trans g3) _ _ r'⟩
    ·rename_i e;rw[e] at z;exact z
   |_=>exact q3.elim
  |_=>exact q1.elim
 rcases r1.here g1.wf with⟨hm,r⟩|⟨hm,r⟩
 ·exact core bP g1.wf.sub (λH3 gi g d v q=>⟨q.same (g1.wf.sub.trans g.all),λ_=>q.same g.sh⟩) r
 ·exact core H1 (bI.refl H1) (λH3 gi g d v q=>⟨q.same g.all,λz=>absurd z hm⟩) r
def JM (ha:QE X K a ta) (hb:QE X K b tb) (hc:QE X K c tc) (hm:M2 X a "get" apos b c hZ:=by exact⟨rfl,rfl,rfl,rfl⟩) (hu:X.A.units+64<gv:=by assumption):QE X K (.Call (.Attribute a "get" apos) [b,c] [] hZ) (Tw ta tb tc) :=
 PE.imp (jm' (by lia) ha hb hc hm) λσ H Qv hx=>Av hx
def Tx(d x:D):D:=match d with
 |.list xs=>.list (xs++[x])
 |d=>d
def oa:List (List Key × D)->List Key->D->List (List Key × D)
 |[],k,x=>[(k,.list [x])]
 |p :: r,k,x=>if p.1=k then (p.1,Tx p.2 x) :: r else p :: oa r k x
def Q6(ae:List (List Key × D))(k:List Key):List (List Key × D):=match gE ae k with
 |some _=>ae
 |none=>ae++[(k,.list [])]
def Dj:Option D->Prop
 |none=>True
 |some (.list xs)=>xs.length<bS
 |_=>False
def VS(o:Option (Option Sl))(k:List (List Key × D)->Prop):Prop:=match o with
 |some (some (.ow true (.dT ae)))=>k ae
 |_=>False
def VW(i:Nat)(tk te:WE):WS:=λE ρ=>VS ρ[i]? λae=>tk ρ λ_ y=>Tv y λys=>∃ ks,dW ys=some ks/\ae.length<bS/\Dj (gE ae ks) /\
 te (ρ.set i (some (.ow true (.dT (Q6 ae ks))))) λ_ x=>x.flat=true/\E.nx (ρ.set i (some (.ow true (.dT (oa ae ks x)))))
def bj{κ β:Type}[DecidableEq κ](p:κ × β)(r:List (κ × β))(k:κ):gE (p :: r) k=if p.1=k then some p.2 else gE r k:=by by_cases h:p.1=k<;>simp[gE,h]
def Kv:∀ {ae:List (List Key × D)},gE ae k=some d->∃ j,(ae.map (·.2))[j]? = some d/\(∀ vs:List V,vs.length=ae.length->gL ((ae.map (·.1)).zip vs) k=vs[j]?) /\
  ∀ x,(oa ae k x).map (·.1)=ae.map (·.1)/\(oa ae k x).map (·.2)=(ae.map (·.2)).set j (Tx d x)
 |[],h=>by simp[gE] at h
 |p :: ae,h=>by
  rw[bj] at h;by_cases e:p.1=k
  ·rw[if_pos e] at h;cases h;refine⟨0,rfl,λvs hl=>?_,λx=>?_⟩
   ·cases vs with
    |nil=>cases hl
    |cons v vs=>exact zo e
   ·simp[oa,e]
  ·rw[if_neg e] at h;obtain⟨j,h1,h2,h3⟩:=Kv h;refine⟨j+1,by simpa using h1,λvs hl=>?_,λx=>?_⟩
   ·cases vs with
    |nil=>cases hl
    |cons v vs =>show gL ((p.1,v) :: (ae.map (·.1)).zip vs) k=_;rw[zt e,h2 vs (by simpa using hl)];rfl
   ·simp[oa,e,h3 x]
theorem qC:∀ {ae:List (List Key × D)},gE ae k=none->gE (ae++[(k,d)]) k=some d
 |[],_=>by simp[gE]
 |p :: ae,h=>by
  rw[bj] at h;by_cases e:p.1=k
  ·rw[if_pos e] at h;cases h
  ·rw[if_neg e] at h;rw[Wx,bj,if_neg e,qC h]
theorem tK:∀ {ae:List (List Key × D)},gE ae k=none->oa (ae++[(k,.list [])]) k x=oa ae k x
 |[],_=>by simp[oa,Tx]
 |p :: ae,h=>by
  rw[bj] at h;by_cases e:p.1=k
  ·rw[if_pos e] at h;cases h
  ·rw[if_neg e] at h;rw[Wx,oa,oa,if_neg e,if_neg e,tK h]
def eI.place(sr:eI K Hs ρ σ H ai)(e:ρ[i]? = some (some (.ow fl d))):∃ v,σ[i]? = some (some v)/\Place K Hs H σ fl d v λeK d2=>ρ.set i (some (.ow eK d2)):=by obtain⟨v,As,t,e2,ne,r,sb,g⟩:=SR.put i sr.sr e sr.nI;refine⟨v,e2,As,r,ne,sb.nodup sr.nI,λa h=>sr.own a (sb.subset h),λbq H2 eK d2 hV s2 w2 n2 _ r2 ne2 nr o2 st=>?_⟩;obtain⟨t2,x,y,z⟩:=g bq H2 eK d2 hV s2 r2 ne2 nr (λa ha m=>(o2 a ha).2.elim id λq=>absurd q (sr.sr.own a m).ne) λa ha m=>st a (sr.sr.own a ha).ne m;exact⟨t2,z,w2,x,λa h=>(y a h).elim (λq=>n2 a (sr.own a q) (sr.sr.own a q).ne) λq=>(o2 a q).1⟩
def ue(sr:eI K Hs ρ σ H ai)(e1:ρ[i]? = some (some (.ow true (.dT ae))))(hg:gE ae ks=some (.list xs)) :
  ∃ a Q7 c ws,σ[i]? = some (some (.ref a))/\H a=some (.dT Q7)/\gL Q7 ks=some (.ref c)/\H c=some (.lst ws)/\ws.length=xs.length /\
   ∀ x y,x.flat=true->Rep K Hs x y->ws.length<bS->∃ fT,eI K Hs (ρ.set i (some (.ow true (.dT (oa ae ks x))))) σ (upd H c (.lst (ws++[y]))) fT:=by
 obtain⟨v,e2,pl⟩:=sr.place e1;obtain⟨iL,r,ne,nd,own,k⟩:=pl.ex
 cases r with
 |sh hf _=>exact absurd rfl ne
 |@dT a0 vs _ A kk e rs =>
  obtain⟨na,nA⟩:=oj.mp nd;obtain⟨j,ej,ev,es⟩:=Kv hg;obtain⟨w,B,e3,r3,sb,g⟩:=rs.at ej nA;have hl:vs.length=ae.length:=by have:=rs.length;rw[dc] at this;exact this.symm
  cases r3 with
  |sh hf _=>exact absurd (hf rfl) (by simp[D.flat])
  |@list c ws _ B' hz ec eS =>
   have cA:c∈A:=sb.subset fw;refine⟨a0,_,c,ws,e2,e,(ev vs hl).trans e3,ec,eS.length.symm,λx y hx rx hw=>?_⟩;have hca:a0≠c:=λz=>na (z ▸ cA);obtain⟨nc,nB⟩:=oj.mp (sb.nodup nA);have r4:cE K Hs (upd H c (.lst (ws++[y]))) true (.list (xs++[x])) (.ref c) (c :: B'):=by have:=(eS.fA (H':=upd H c (.lst (ws++[y]))) (bI.refl _) λb hb=>dP λz=>nc (z ▸ hb)).append (aA.cons (.sh (λ_=>hx) rx) .nil);rw[mM,mM] at this;exact .list (by rw[mI];exact hw) fq this
   obtain⟨hV,n2,y2,_,r5⟩:=g Hs (upd H c (.lst (ws++[y]))) true _ _ (bI.refl _) id r4 (sb.nodup nA) (λ_ h _=>h) (λb _ nb=>dP λz=>nb (z ▸ fw));have in2:∀ b∈hV,b∈A:=λb hb=>(y2 b hb).elim (λq=>q.1) λq=>sb.subset q;obtain⟨k1,k2⟩:=es x;have kl:(oa ae ks x).length=ae.length:=by have:=congrArg List.length k1;simpa using this
   refine k Hs _ true (.dT (oa ae ks x)) (a0 :: hV) (bI.refl _) (pB sr.wf (own c (fo _ cA)) λ_ z=>nomatch z) (λ_ h _=>h) id (.dT ⟨by rw[kl];exact kk.1,λp hp=>?_⟩ (by rw[dP hca,k1];exact e) (by rw[k2];exact r5)) (by simp) (oj.mpr ⟨λz=>na (in2 _ z),n2⟩) (λb hb=>?_) λb _ nb=>dP λz=>nb (z ▸ fo _ cA)
   ·have:p.1∈ae.map (·.1):=k1 ▸ List.mem_map_of_mem hp;obtain⟨p',iF,e'⟩:=fP.mp this;rw[<- e'];exact kk.2 p' iF
   ·have hb':b∈a0 :: A:=(fm.mp hb).elim (λz=>z ▸ fw) λz=>fo _ (in2 b z);exact⟨own b hb',.inl hb'⟩
def Dn{te:WE}{Hs H:Hp}{ρ:Env}{σ:St}{ai:List ah}{i:Nat}{ae:List (List Key × D)}{ks:List Key}{xs:List D}{a:ah}{Q7:List (List Key × V)}{v':V}{R:Env->Prop}{G:Hp->Prop}(sr:eI K Hs ρ σ H ai)(e1:ρ[i]? = some (some (.ow true (.dT ae))))(hg:gE ae ks=some (.list xs))(hz:xs.length<bS)(eσ:σ[i]? = some (some (.ref a))) (eH:H a=some (.dT Q7)) (ev:gL Q7 ks=some v') (q:te ρ λ_ x=>x.flat=true/\R (ρ.set i (some (.ow true (.dT (oa ae ks x)))))) (k1:∀ H' aE df dv,bI Hs aE->eI K aE df σ H' dv->R df->G H') :
  UZ K "list" v' H/\R_ (oI K te) LP σ H λus H2=>Zq v' us H2 λ_ H3=>G H3:=by
 obtain⟨a',kv',c,ws,f1,f2,f3,f4,f5,f6⟩:=ue sr e1 hg;have ea:a'=a:=by rw[f1] at eσ;cases eσ;rfl
 subst ea;have ek:kv'=Q7:=by rw[f2] at eH;cases eH;rfl
 subst ek;have e':v'=.ref c:=by rw[f3] at ev;cases ev;rfl
 subst e';refine⟨.inl ⟨rfl,_,.inl (.inl f4)⟩,Hs,ρ,ai,_,sr,q,λy H2 bq m x Cs g2 r2 fr2 q2=>?_⟩;obtain⟨hx,q2⟩:=q2;obtain⟨b',kv2,c2,ws2,h1,h2,h3,h4,h5,h6⟩:=ue (sr.grow g2) e1 hg;have ea:b'=a':=by rw[f1] at h1;cases h1;rfl
 subst ea;have ek:kv2=kv':=by rw[g2.all _ _ f2] at h2;cases h2;rfl
 subst ek;have e':c2=c:=by rw[f3] at h3;cases h3;rfl
 subst e';obtain⟨fT,k8⟩:=h6 x y hx (r2.flat g2.wf hx) (by lia);exact⟨c2,ws2,y,rfl,rfl,h4,by lia,k1 _ bq _ fT g2.sh k8 q2⟩
def set_own{α:Type}{ρ:List α}{i:Nat}{x:α}(h:ρ[i]? = some x):ρ.set i x=ρ:=by
 apply OS;intro j;rw[Rz];split
 ·rename_i e;subst e;have:=(kM.mp h).1;rw[if_pos this,h]
 ·rfl
def Mf {L:Str->Hp->Prop} {i:Nat} {p1 p2 p3 p4 p5:Pos} (he:PE X a (kc i)) (hb:QE X K b tb) (hc:QE X K c tc) (hK:autoParam (X.K=K) bv) (hm:M2 X a "setdefault" p1 b (.List [] p2) p3:=by exact⟨rfl,rfl,rfl,rfl⟩) (hs:autoParam (og (.Call (.Attribute (.Call (.Attribute a "setdefault" p1) [b,.List [] p2] [] p3) "append" p4) [c] [] p5) none pos.line X.env=pure false) bv) (xh:autoParam (yB (.Call (.Attribute a "setdefault" p1) [b,.List [] p2] [] p3) "append" X.env (cp (.Call (.Attribute a "setdefault" p1) [b,.List [] p2] [] p3) X.env)=cp (.Call (.Attribute a "setdefault" p1) [b,.List [] p2] [] p3) X.env) bv) (zk:autoParam (((i3 p5 (bT [c] X.env)).all (λx=>!x.1) && (backToKw p5 (CF [] X.env)).all (λx=>x.1.isSome)
   && decide ([c].length+([]:List xD).length+(if ([]:List xD).isEmpty then 0 else 1)<30))=true) bv)
  (hline:autoParam ((p4.endLine == p5.line)=true) bv) (yn:autoParam (bT (c :: []) X.env=(false,cp c X.env) :: bT [] X.env) bv) (BO:autoParam ((i3 p5 (bT [] X.env)).any (·.1)=false) bv) (hu:X.A.units+64<gv:=by assumption) :
  QS X K L (.Expr (.Call (.Attribute (.Call (.Attribute a "setdefault" p1) [b,.List [] p2] [] p3) "append" p4) [c] [] p5) pos) (VW i tb tc):=by
 subst hK;refine PS.imp (LB (Sf PySem.F.plainAttrs_list PySem.F.slot_list_append PySem.F.type_list_append Sg (Lx (by lia) he hb (cM (K:=X.K) au) hm) (kR hc oo yn) xh zk hline yn BO) hs) λD σ H hx=>cz hx λHs ρ ai E sr h k1 k2 k3 k4=>?_;unfold VW VS at h;split at h
 ·rename_i ae e1;obtain⟨v,e2,pl⟩:=sr.place e1;obtain⟨iL,r,ne,nd,own,k⟩:=pl.ex;have lv:∀ x∈iL,Hs x=none/\H x≠none:=λx hx=>⟨own x hx,(r.own x hx).ne⟩
  cases r with
  |sh hf _=>exact absurd rfl ne
  |@dT a0 vs _ A kk e rs =>
   refine⟨_,e2,a0,rfl,.inr ⟨_,.inl e⟩,Hs,ρ,ai,_,sr,h,λu H2 bq m y Bs g2 r2 f2 q2=>?_⟩;refine⟨bq,ρ,ai,λm d=>m=.ow true/\d=.list [],sr.grow g2,⟨fR _,rfl,rfl⟩,λw H3 gi n z Cs g3 r3 f3 q3=>?_⟩;obtain⟨rfl,rfl⟩:=q3;have ry:=(r2.grow g3).rep g3.wf
   cases ry with
   |tup t2 ey p2 =>
    obtain⟨ks,hk,hz,D0,q⟩:=q2;obtain⟨b',eb,e3⟩:=Rep.vw (.tup t2 ey p2) hk;cases eb;have g:=g2.trans g3;have hl:ae.length=vs.length:=by have:=rs.length;rwa[dc] at this
    have srg:=sr.grow g;have zg:=zip_get (k:=ks) (rs.reps sr.wf.sub λ_ _=>rfl);refine⟨_,ks,_,g.all _ _ e,rfl,e3,by rw[RC,dc,<- hl,RL];exact hz,λv' ev=>?_,λev=>?_⟩
    ·cases hg:gE ae ks with
     |none=>rw[hg] at zg;rw[zg] at ev;cases ev
     |some d =>
      rw[hg] at D0
      cases d with
      |list xs =>rw[show Q6 ae ks=ae by unfold Q6;rw[hg],set_own e1] at q;exact Dn srg e1 hg D0 e2 (g.all _ _ e) ev q λH' aE df dv s1 s2 q'=>k1 σ H' aE df dv (g.sh.trans s1) s2 q'
      |_=>exact D0.elim
    ·have hg:gE ae ks=none:=by
      cases hg:gE ae ks with
      |none=>rfl
      |some d=>rw[hg] at zg;obtain⟨v',z,_⟩:=zg;rw[z] at ev;cases ev
     rw[show Q6 ae ks=ae++[(ks,.list [])] by unfold Q6;rw[hg]] at q;obtain⟨r3,_⟩:=r3
     cases r3 with
     |sh hf _=>exact absurd (hf rfl) (by simp[Q.D.flat])
     |@list c ws _ B' hw ec eS =>
      cases eS;obtain⟨na,nA⟩:=oj.mp nd;have fc:=f3.2 c fw;have VX:H c=none:=g2.all.free fc.2;have cA:∀ b∈a0 :: A,b≠c:=λb hb z=>by
       subst z;rcases fm.mp hb with rfl|hb
       ·rw[e] at VX;cases VX
       ·exact(rs.own _ hb).ne VX
      have ek:putK ((ae.map (·.1)).zip vs) ks (V.ref c)=((ae++[(ks,Q.D.list [])]).map (·.1)).zip (vs++[V.ref c]):=by have:=Si ks ((ae.map (·.1)).zip vs);rw[ev] at this;unfold putK;rw[this,if_neg (by decide),pz,List.zip_append (by rw[dc];exact hl)];rfl
      obtain⟨kl,ko⟩:=uY p2 hk;have l1:=p2.length;have rs3:=rs.grow g.sh g.all;have rs4:aA X.K gi (upd H3 a0 (.dT (((ae++[(ks,Q.D.list [])]).map (·.1)).zip (vs++[V.ref c])))) true ((ae++[(ks,Q.D.list [])]).map (·.2)) (vs++[V.ref c]) (A++[c]):=by have q1:=rs3.fA (H':=upd H3 a0 (.dT (((ae++[(ks,Q.D.list [])]).map (·.1)).zip (vs++[V.ref c])))) (bI.refl _) λb hb=>dP λz=>na (z ▸ hb);have q2:=q1.append (aA.cons (cE.list hw ((dP λz=>cA a0 fw z.symm).trans ec) .nil) .nil);rw[show(ae++[(ks,Q.D.list [])]).map (·.2)=ae.map (·.2)++[Q.D.list []] by simp];exact q2
      obtain⟨fT,k8⟩:=k.node g lv (λ_ z=>by cases z) id (.dT ⟨by rw[mI];exact hz,λp hp=>(eL.mp hp).elim (kk.2 p) λz=>by
        obtain rfl:p=(ks,.list []):=by simpa using z
        exact⟨by show ks.length<=_;lia,ko⟩⟩ fq rs4)
       (gV.mpr ⟨nA,by simp,λx hx y hy z=>cA x (fo _ hx) (by rw[z];simpa using hy)⟩) (λz=>(eL.mp z).elim na λz=>cA a0 fw (by simpa using z))
       (λx hx=>(eL.mp hx).imp id λz=>by
        obtain rfl:x=c:=by simpa using z
        exact⟨fc.1,VX⟩)
      rw[ek];have hi:i<ρ.length:=(kM.mp e1).1;refine Dn (xs:=[]) k8 (by simp[hi]) (qC hg) (by rw[kB];decide) e2 fq (by rw[<- ek,iS',if_pos rfl]) ?_ λH' aE df dv s1 s2 q'=>k1 σ H' aE df dv (g.sh.trans s1) s2 q';simp only[List.set_set,tK hg];exact q
   |_=>exact q2.elim
 ·exact h.elim
end
end L2.Q
namespace L2
end L2
namespace L2.Q
section
def Jy(h:IL o k):∃ xs,o=some (some (.ow true (.list xs)))/\k xs:=by
 unfold IL at h;split at h
 ·exact⟨_,rfl,h⟩
 ·exact h.elim
end
end L2.Q
namespace L2.Q.R
section
variable {ρ:Env}{E:jt}{te tb tc tk:WE}{m:Md}{x y:L2.Q.D}{ys:List L2.Q.D}{Q:Md->L2.Q.D->Prop}{i k:Nat}
def PN:Tw te tb tc ρ Q=te ρ λm x=>dk x (f:=λx=>onD x (λae=>tb ρ λ_ y=>tc ρ λn z=>∃ k,y.key1=some k/\Q5 (gE ae k) m n z Q) (λae=>tb ρ λ_ y=>tc ρ λn z=>dk y (f:=λy=>Tv y λys=>∃ ks,dW ys=some ks/\Q5 (gE ae ks) m n z Q) ⟨⟩)) ⟨⟩:=rfl
def Pk:onD (.dT ae) f g=g ae:=rfl
def O6{k:List L2.Q.D->Prop}:Tv (.tup ys) k=k ys:=rfl
def mz':VW i tk te E ρ=dk ρ[i]? (f:=λo=>VS o λae=>tk ρ λ_ y=>dk y (f:=λy=>Tv y λys=>∃ ks,dW ys=some ks/\ae.length<bS/\Dj (gE ae ks) /\
 te (ρ.set i (some (.ow true (.dT (Q6 ae ks))))) λ_ x=>x.flat=true/\E.nx (ρ.set i (some (.ow true (.dT (oa ae ks x)))))) ⟨⟩) ⟨⟩:=rfl
def O9{ae:List (List Key × L2.Q.D)}{k:List (List Key × L2.Q.D)->Prop}:VS (some (some (.ow true (.dT ae)))) k=k ae:=rfl
end
end L2.Q.R
namespace L2
end L2
namespace L2.Q
section
variable {K:aI}{e e3:Expr}
def uc:ly "int" = some (.type "int"):=by decide +kernel
def ax':W1:=λ_ x Q=>match x with
 |.int i=>Q .sh (.int i)
 |.bl b=>Q .sh (.int (if b then 1 else 0))
 |_=>False
def Jl:FV K (λxs H Q=>(∃ i,xs=[.int i]/\Q (.int i) H)\/∃ k,xs=[.bl k]/\Q (.int (if k then 1 else 0)) H) ax':=by
 walk_at"o";have r1:=rx.rep w
 cases r1 with
 |int i=>exact .inl ⟨i,rfl,f.sh w (.int _) h⟩
 |bl b=>exact .inr ⟨b,rfl,f.sh w (.int _) h⟩
 |_=>exact h.elim
def Place.short(pl:Place K bP H1 σ fl (.list xs) v up)(e:v=.ref a)(h:H1 a=some (.lst vs)):vs.length<=bS:=by
 subst e;rcases pl.ex with⟨iL,r,ne,_⟩
 cases r with
 |sh _ _=>exact absurd rfl ne
 |list hz e3 _=>rw[h] at e3;cases e3;exact hz
end
end L2.Q
namespace L2.Q.R
section
variable {m:Md}{Q:Md->L2.Q.D->Prop}{xs:List L2.Q.D}{k:List L2.Q.D->Prop}
def ay'(d:L2.Q.D)(k:List L2.Q.D->Prop):Prop:=match d with
 |.list xs=>k xs
 |_=>False
def PJ:ay' (.list xs) k=k xs:=rfl
def Od:ax' m (.bl b) Q=Q .sh (.int (if b then 1 else 0)):=rfl
end
end L2.Q.R
namespace L2
section
variable {X:Cx}{o i value:Expr}{pos pos':Pos}{td ty tv:TE}
def Mv(td ty tv:TE):TS:=λD σ H=>tv σ H λv H1=>td σ H1 λx H2=>ty σ H2 λy H3=>∃ a xs,∃ j:Int,x=.ref a/\y=.int j/\H3 a=some (.lst xs)/\0<=j/\j<xs.length/\D.nx σ (upd H3 a (.lst (xs.set j.toNat v)))
def u_(r:RelV v u)(h:Vals xs us)(k:Nat):Vals (xs.set k v) (us.set k u):=by
 induction h generalizing k with
 |nil=>exact .nil
 |cons a _ ih =>
  cases k with
  |zero=>exact .cons r ‹_›
  |succ k=>exact .cons a (ih k)
def Hr(ho:PE X o td)(hi:PE X i ty)(hv:PE X value tv)(hs:og value (some (.Subscript o i pos')) pos.line X.env=pure false) :
  PS X (.Assign [.Subscript o i pos'] value pos) (Mv td ty tv):=by
 intro pins s σ H D I h;walk_at"b";obtain⟨y,H3,I3,ry,a,xs,j,ex,ey,g,h0,h1,q3⟩:=dS;subst ex ey;obtain rfl:u=Value.ref a:=rx;obtain⟨t,rfl⟩:=ry;obtain⟨z,its,n,r',hl,e⟩:=I3.U4 g;have QK:bS<2 ^ 62:=by rw[kB];decide
 exact PySem.W.ki_setAt e h0 (by lia) (by rw[jI];lia) ⟨σ,_,I3.U0 g e (by simp) (u_ rv r' _) (by simpa using z),q3⟩
end
end L2
namespace L2.Q
section
variable {X:Cx}{K:aI}{L:Str->Hp->Prop}{a b c e2:Expr}{p:WP}{tk tv:WE}{pos pos':Pos}
def aA.put(r:cE K Hs H fl d v [])(k:Nat)(q:aA K Hs H fl ds vs As):∃ Bs,Bs.Sublist As/\aA K Hs H fl (ds.set k d) (vs.set k v) Bs:=by
 induction k generalizing ds vs As with
 |zero =>
  cases ds with
  |nil=>obtain⟨rfl,rfl⟩:=q.n0;exact⟨[],List.Sublist.refl _,q⟩
  |cons x ds =>obtain⟨u,us,A,B,rfl,rfl,_,q2⟩:=q.c;exact⟨[]++B,lI _ _,aA.cons r q2⟩
 |succ k ih =>
  cases ds with
  |nil=>obtain⟨rfl,rfl⟩:=q.n0;exact⟨[],List.Sublist.refl _,q⟩
  |cons x ds =>obtain⟨u,us,A,B,rfl,rfl,r1,q2⟩:=q.c;obtain⟨Bs,sb,q3⟩:=ih q2;exact⟨A++Bs,List.Sublist.append (List.Sublist.refl _) sb,aA.cons r1 q3⟩
def Gj(p:WP)(tk tv:WE):WS:=λE ρ=>tv ρ λ_ x=>p ρ λfl d up=>tk ρ λ_ j=>x.flat=true/\R.ay' d λxs=>intD j λj=>0<=j/\j<xs.length/\E.nx (up fl (.list (xs.set j.toNat x)))
def Ei(ho:QP X K a p)(hi:QE X K b tk)(hv:QE X K c tv)(hs:autoParam (og c (some (.Subscript a b pos')) pos.line X.env=pure false) bv) :
  QS X K L (.Assign [.Subscript a b pos'] c pos) (Gj p tk tv):=by
 refine PS.imp (Hr ho hi hv hs) λD σ H hx=>cz hx λHs ρ ai E sr h k1 k2 k3 k4=>?_;walk_at"j";obtain⟨hx,q3⟩:=q3;have rx:Rep K gi x v:=((r1.grow g2).grow g3).flat g3.wf hx;have ry:=r3.rep g3.wf
 cases d with
 |list xs =>
  cases ry with
  |int j =>obtain⟨h0,h1,q3⟩:=q3;obtain⟨a,vs,A,ea,e2,e21,rs,nd,hn,k⟩:=p2.put g3;obtain⟨nA,QB⟩:=oj.mp nd;have hl:=rs.length;have hz0:=p2.short ea e21;obtain⟨B,sb,rb⟩:=aA.put (cE.sh (λ_=>hx) rx) j.toNat rs;refine⟨a,vs,j,ea,rfl,e2,h0,by lia,?_⟩;obtain⟨fT,k8⟩:=k fl _ _ B id rb (by rw[Kx];lia) (sb.nodup QB) (λz=>nA (sb.subset z)) (λx hx=>.inl (sb.subset hx));exact k1 _ _ gi _ fT ((g1.sh.trans g2.sh).trans g3.sh) k8 q3
  |_=>exact q3.elim
 |_=>exact q3.elim
end
end L2.Q
namespace L2.Q.R
section
variable {tk tv:WE}{ρ:L2.Q.Env}{E:jt}{p:WP}
def Nv:Gj p tk tv E ρ=tv ρ λ_ x=>p ρ λfl d up=>tk ρ λ_ j=>x.flat=true/\dk d (f:=λd=>ay' d λxs=>dk j (f:=λj=>intD j λj=>0<=j/\j<xs.length/\E.nx (up fl (.list (xs.set j.toNat x)))) ⟨⟩) ⟨⟩:=rfl
end
end L2.Q.R
namespace L2.Q
open PySem.W
abbrev WX:=Env->(Md->D->Prop)->(Str->Prop)->Prop
def tpX(K:aI)(rn:List Str)(mg:Str->Option ag)(E1:XK)(t9:St)(t:WX):TE:=λσ H Qv=>σ=t9/\∃ Hs ρ ai Q Y,eI K Hs ρ σ H ai/\t ρ Q Y /\ (∀ v H' aE m d As,fN Hs H aE H'->RM K aE H' m d v As->bR aE H As->Q m d->Qv v H')/\∀ n H',bI H H'->Y n->LX rn mg E1 n H'
def yf(rn:List Str)(X:Cx)(t9:St)(E1:XK):Prop:=∀ pins H s e s',Inv X pins t9 H s->AF X.prog X.w X.mg rn X.stack H s E1 e s'->X.xe e s'
def zY(sp:gp)(t:WA):WX:=λρ Q Y=>t ρ λps=>sp (ps.map (·.2)) λm d=>EA m d Y (dk (m,d) (f:=λp=>Q (An p.1 p.2) p.2) ⟨⟩)
section
variable {X:Cx}{K:aI}{rn:List Str}{E:XK}{t9:St}{e:Expr}{es:List Expr}{t:WA}{ta:TA}{pos p:Pos}{k:Nat}{x:Str}{ps:List Str}{sp:gp}
def wD (C:QY X.prog X.w X.K X.mg X.base rn k x ps sp) (hr:hU k X.A) (hx:yf rn X t9 E) (ha:PA X (e :: es) ta) (hg:Gl X x) (kf:(x == ("__debug__" : Str))=false) (he:bT (e :: es) X.env=(false,cp e X.env) :: bT es X.env)(iO:(i3 pos (bT es X.env)).any (·.1)=false):PE X (.Call (.Name x p) (e :: es) [] pos) (λσ H Q=>σ=t9/\LV (eQ X.K rn X.mg sp) [] E ta σ H Q):=by
 intro pins s σ H Q I ⟨e0,h⟩;subst e0;obtain⟨g,fd,hm,hk,hb,F⟩:=C.ex;refine GL (Lc I hg hm ?_ kf);refine Wd I.ok.mod.Pm hk (cy (ha pos pins s σ H _ I h) λus s1 cq=>L2.eW cq λvs H1 I1 r q=>⟨I1.hX,?_⟩) he iO;have r2:Vals (vs++[]) (us++[]):=r.append .nil;have hl:(us++[]).length=ps.length:=by rw[<- r2.length];exact F.len _ _ _ _ q
 refine wpAny_call (Jn (F.run X.A X.stack s1 H1 ⟨us,[]⟩ (us++[]) (vs++[]) Q E hr I1.Zf (hb s1 us I1.hX hl) r2 q) λr s' hq=>?_)
 cases r with
 |error e=>exact hx pins H1 s1 e s' I1 hq
 |ok fl =>
  cases fl with
  |ret u=>exact I1.after hq
  |next=>exact False.elim hq
  |brk=>exact False.elim hq
  |cont=>exact False.elim hq
def rG{σ:St}{H:Hp}{Qv:VK}{Hs:Hp}{ρ:Env}{ai:List ah}{Y:Str->Prop}{N:Md->D->Prop}(sr:eI K Hs ρ σ H ai)(h:t ρ λps=>sp (ps.map (·.2)) λm d=>EA m d Y (N m d))(f:∀ v H1 bP H' aE m d As,fN Hs H bP H1->bI H1 aE->Wf aE H'->RM K aE H' m d v As->As.Nodup->(∀ a∈As,aE a=none)->N m d->Qv v H') (fx:∀ n H',bI H H'->Y n->LX rn X.mg E n H'):LV (eQ K rn X.mg sp) [] E (Vx K t) σ H Qv:=by
 exact⟨Hs,ρ,ai,_,sr,h,λvs H1 bP ps As g1 r1 f1 q1=>⟨_,_,by rw[mM];exact r1.reps g1.wf,q1,λv H' aE m d As s w r nd own q=>f v H1 bP H' aE m d As g1 s w r nd own (zr r q),λn H' s q=>fx n H' (g1.all.trans s) q⟩⟩
def G8 (C:QY X.prog X.w X.K X.mg X.base rn k x ps sp) (hr:hU k X.A) (hx:yf rn X t9 E) (ha:QA X K (e :: es) t) (hK:autoParam (X.K=K) bv) (hg:autoParam (Gl X x) bv) (kf:(x == ("__debug__" : Str))=false:=by decide) (he:autoParam (bT (e :: es) X.env=(false,cp e X.env) :: bT es X.env) bv) (iO:autoParam ((i3 pos (bT es X.env)).any (·.1)=false) bv):PE X (.Call (.Name x p) (e :: es) [] pos) (tpX K rn X.mg E t9 (zY sp t)):=by
 subst hK;refine PE.imp (wD C hr hx ha hg kf he iO) λσ H Qv ⟨e0,Hs,ρ,ai,Q,Y,sr,h,f,fx⟩=>⟨e0,rG sr h (λv H1 bP H' aE m d As g1 s w r nd own q=>?_) fx⟩
 obtain⟨iL,r',fr⟩:=kh g1.wf s w r nd own;exact Fin.after f g1 v H' _ (An m d) d iL (cG g1.wf s w) r' fr q
end
end L2.Q
namespace L2.Q.R
end L2.Q.R
namespace L2.Q
open PySem.W
abbrev WB:=Env->(Env->Prop)->(Str->Prop)->Prop
def tpB(K:aI)(rn:List Str)(mg:Str->Option ag)(E1:XK)(t9:St)(t:WB):TS:=λD σ H=>σ=t9/\∃ Hs ρ ai N Y,eI K Hs ρ σ H ai/\t ρ N Y /\ (∀ cx H' aE df dv,bI Hs aE->eI K aE df cx H' dv->N df->D.nx cx H')/\∀ n H',bI H H'->Y n->LX rn mg E1 n H'
def xZ(wx:WX):WB:=λρ N Y=>wx ρ (λ_ _=>N ρ) Y
def SR.Io{K:aI}:∀ (i:Nat),SR K Hs H ρ σ ai->∃ dv,dv.Sublist ai/\SR K Hs H (ρ.set i (some (.xc a))) (σ.set i (some (.ref a))) dv:=by
 intro i s
 induction s generalizing i with
 |nil=>exact⟨[],Dp _,.nil⟩
 |non s ih =>
  cases i with
  |zero=>exact⟨_,List.Sublist.refl _,.xc s⟩
  |succ i=>obtain⟨t,a,b⟩:=ih i;exact⟨t,a,.non b⟩
 |sh q s ih =>
  cases i with
  |zero=>exact⟨_,List.Sublist.refl _,.xc s⟩
  |succ i=>obtain⟨t,a,b⟩:=ih i;exact⟨t,a,.sh q b⟩
 |xc s ih =>
  cases i with
  |zero=>exact⟨_,List.Sublist.refl _,.xc s⟩
  |succ i=>obtain⟨t,a,b⟩:=ih i;exact⟨t,a,.xc b⟩
 |ow ne q s ih =>
  cases i with
  |zero=>exact⟨_,lI _ _,.xc s⟩
  |succ i=>obtain⟨t,a,b⟩:=ih i;exact⟨_,a.append_left _,.ow ne q b⟩
 |lk ne q s ih =>
  cases i with
  |zero=>exact⟨_,lI _ _,.xc s⟩
  |succ i=>obtain⟨t,a,b⟩:=ih i;exact⟨_,a.append_left _,.lk ne q b⟩
 |ob q s ih =>
  cases i with
  |zero=>exact⟨_,lI _ _,.xc s⟩
  |succ i=>obtain⟨t,a,b⟩:=ih i;exact⟨_,a.append_left _,.ob q b⟩
section
variable {X:Cx}{K:aI}{rn:List Str}{E1:XK}{t9:St}{e:Expr}{wx:WX}{pos:Pos}
def GK(he:PE X e (tpX K rn X.mg E1 t9 wx))(hs:autoParam (og e none pos.line X.env=pure false) bv):mn X [.Expr e pos] (tpB K rn X.mg E1 t9 (xZ wx)):=by intro pins s σ H D I ⟨e0,Hs,ρ,ai,N,Y,sr,h,f,fx⟩;exact R5 (LB he hs) pins s σ H D I ⟨e0,Hs,ρ,ai,_,_,sr,h,λv H' aE m d As g1 r1 f1 q1=>f _ H' aE _ ai g1.sh (sr.grow g1) q1,fx⟩
end
def Fi(j:Nat)(wb:WB)(hd:ah->Str->WS):WS:=λE ρ=>wb ρ E.nx λn=>∀ a,hd a n { nx:=λdf=>E.nx (df.set j none),rt:=E.rt } (ρ.set j (some (.xc a)))
def EY{X:Cx}{K:aI}{R:Str}(xr:J2 X.K X.mg rn R) (hN:X.N.Nodup) (hj:X.N[j]? = some en) (hl:X.env.scope.names.lookup en=some .local) (kE:X.stack=X.env :: X.outer) (hf:X.env.frame=some X.env.locals)(hb:∀ pn xe E1 t9,yf rn (iI X pn xe) t9 E1->mn (iI X pn xe) body (tpB K rn X.mg E1 t9 wb))(hh:∀ pn a oe n C,n∈rn->X.mg n=some (.ref C)->qh X.K C->(a,oe)∈pn->oe.cls=.ref C->xo (IJ X pn a) K L (mB' :: suite) (hd a n)) (hg:autoParam (Gl X R) bv) (kf:(R == ("__debug__" : Str))=false:=by decide) :
  QS X K L (.Try body [.ExceptHandler (some (.Name R np)) (some en) (mB' :: suite) dT'] [] [] pos) (Fi j wb hd):=by
 intro pins s σ H D I hx;obtain⟨Hs,ρ,ai,E,sr,h,k1,k2,k3,k4,kx⟩:=hx;obtain⟨r,hm,xr,sub⟩:=xr.ex;have sp0:∀ p∈X.pn++pins,p∈(X.pn++pins)++[]:=λp hp=>by rw[mM];exact hp
 have xa:=hb (X.pn++pins) (λe s'=>∃ sv H1 s1,Inv (iI X (X.pn++pins) X.xe) sv σ H1 s1/\AF X.prog X.w X.mg rn X.stack H1 s1 (λc _ H'=>∃ n C,c=.ref C/\n∈rn/\X.mg n=some (.ref C)/\bI H H'/\∀ a,hd a n { nx:=λdf=>E.nx (df.set j none),rt:=E.rt } (ρ.set j (some (.xc a)))) e s') _ σ (λsv H1 s1 e s' I1 c=>⟨sv,H1,s1,Inv.Lw I1,c⟩) [] s σ H D (Inv.iI I λp hp=>I.pin p (by rw[mM] at hp;exact hp)) ⟨rfl,Hs,ρ,ai,_,_,sr,h,k1,λn H' s2 q hn C hC=>⟨n,C,rfl,hn,hC,s2,q⟩⟩
 refine wpAny_Try_except (se xa (λf s1 hs=>?_) λe s' hx=>?_)
 ·have hs:=SP.mF hs sp0
  cases f with
  |next =>obtain⟨cx,H',I',q⟩:=hs;exact W3 pins s1 cx H' D I' q
  |brk=>exact hs
  |cont=>exact hs
  |ret u=>exact hs
 ·obtain⟨sv,H1,s1,I1,a,n',C,a0,H',B,rfl,Fh,os,bare,un,bX,Ts,cov,fr,n,C2,eC,hn,A8,sm,hq⟩:=hx;cases eC;obtain⟨xc,ap'⟩:=sub n C hn A8;obtain⟨hh',g',d',t',Zg⟩:=s';obtain rfl:Zg=s1.os:=os;have mD':Heap.FlyingW B (X.env :: X.outer) a (.ref C) a0 hh':=kE ▸ Ts;have th:∀ b o,s1.heap.get? b=some o->∃ o',hh'.get? b=some o':=λb o e=>un.there b o e (by simp);refine wpAny_looks_onW (kE ▸ I.ok.frames) hf mD' λh4 held up4=>wpAny_landsW held λh5 VY up5=>?_;have mv5:gK (hG X.stack) H' s1.heap hh' h5:=gK.of cov VY.1 (up4.trans up5) Ts.2.2.1;have ey':=cov.next mv5 bX th;have un5:=mv5.un un;have aC':=mv5.bX fr bX;have I5:Inv (iI X (X.pn++pins) X.xe) sv σ H' ⟨h5,g',d',t',s1.os⟩:=I1.call un5 aC' bare (λb z=>absurd z (by simp));refine wpAny_handleBy_cons (codeAny_handlers_test ?_) (by intro q;cases q);refine Lc (Inv.IJ I5 λp hp=>I5.pin p hp) hg hm ?_ kf;refine sI xc xr ap' I5.hX VY.there (codeAny_handlers_suite_as ?_);refine lands_againW VY λh6 VZ up6=>?_;have ff5:h5.FunFrames B X.stack:=kE ▸ VY.2.2.1;have mv6:gK (hG X.stack) H' s1.heap h5 h6:=gK.of ey' VZ.1 up6 ff5;have un6:=mv6.un un5;have mJ':=mv6.bX fr aC';have I6:Inv (iI X (X.pn++pins) X.xe) sv σ H' ⟨h6,g',d',t',s1.os⟩:=I1.call un6 mJ' bare (λb z=>absurd z (by simp));obtain⟨oe,vs,he,pV,hdt,_⟩:=VZ.first;have nf:a∉hG X.stack:=λz=>by have ff6:h6.FunFrames B X.stack:=kE ▸ VZ.2.2.1;obtain⟨_,o,e1,d1⟩:=ff6.mem z;rw[he] at e1;cases e1;exact d1 vs hdt
  have na:H' a=none:=by
   cases z:H' a with
   |none=>rfl
   |some u =>have:=(ey'.next mv6 aC' λb o e=>un5.there b o e (by simp)) a oe he (.inl (by rw[z];exact λz=>nomatch z)) nf;rw[VZ.2.1] at this;cases this
  have frm:∀ b,b∈hG X.stack↔b=X.env.locals\/b∈X.fs:=λb=>by rw[kE];unfold hG;rw[CM,hf];exact fm
  have pa:Hh X H' ⟨h6,g',d',t',s1.os⟩ (a,oe):=⟨he,na,λz=>nf ((frm a).mpr (.inl z)),λz=>nf ((frm a).mpr (.inr z)),λv z=>by rw[hdt] at z;cases z⟩
  have I6h:Inv (IJ X ((a,oe) :: (X.pn++pins)) a) [] σ H' ⟨h6,g',d',t',s1.os⟩:=Inv.IJ I6 λp hp=>by
   rw[mM] at hp;rcases fm.mp hp with z|z
   ·rw[z];exact pa
   ·exact I6.pin p (kr _ z)
  have gr:=cG sr.wf sm ⟨bI.refl H',λ_ _ e=>e⟩;have sg:=sr.grow gr;obtain⟨mM',eA',r6⟩:=SR.Io j sg.sr;refine bm' (X:=IJ X ((a,oe) :: (X.pn++pins)) a) (v:=.ref a) I6h hN hj (.inl hl) rfl (λs7 I7 _=>?_) (.inr hl);refine se (hh ((a,oe) :: (X.pn++pins)) a oe n C hn A8 xc fw pV [] s7 (σ.set j (some (.ref a))) H' { nx:=λNR H8=>∃ Q8 Tz V0,bI _ Q8/\eI K Q8 Tz NR H8 V0/\E.nx (Tz.set j none),rt:=D.rt } I7 ⟨_,ρ.set j (some (.xc a)),mM',_,⟨r6,sg.wf,eA'.nodup sg.nI,λb hb=>sg.own b (eA'.subset hb)⟩,hq a,λNR H8 Q8 Tz V0 m8 r8 q8=>⟨Q8,Tz,V0,m8,r8,q8⟩,λ_ _ _ _ _ _ _ z=>z,λ_ _ _ _ _ _ _ z=>z,
    λv H2 bq m d As s2=>k4 v H2 bq m d As (gr.sh.trans s2),λn H2 s2=>kx n H2 (gr.sh.trans s2)⟩) (λf s8 hs=>?_) λ_ _ z=>z.elim
  cases f with
  |next =>
   obtain⟨NR,H8,I8,Q8,Tz,V0,m8,r8,q8⟩:=hs;have I9:Inv X pins NR H8 s8:=Inv.z8 I8 I.ok.hd λp hp=>by rw[mM];exact fo _ hp
   obtain⟨m,hn8,lk⟩:=id I9.loc;obtain⟨mN',eB',r9⟩:=SR.Ht j r8.sr;exact wpAny_nameGoes_keeps hl hn8 (by rw[I9.ok.kind];rfl) λh9 v hn9 sb=>⟨NR.set j none,H8,Inv.drop I9 hN hj lk hn9 sb,k1 _ H8 Q8 _ mN' (gr.sh.trans m8) ⟨r9.Et,r8.wf,eB'.nodup r8.nI,λb hb=>r8.own b (eB'.subset hb)⟩ q8⟩
  |brk=>obtain⟨_,_,_,z⟩:=hs;exact z.elim
  |cont=>obtain⟨_,_,_,z⟩:=hs;exact z.elim
  |ret u =>
   obtain⟨v,NR,H8,I8,rv,q⟩:=hs;have I9:Inv X pins NR H8 s8:=Inv.z8 I8 I.ok.hd λp hp=>by rw[mM];exact fo _ hp
   obtain⟨m,hn8,_⟩:=id I9.loc;exact wpAny_nameGoes hl hn8 (by rw[I9.ok.kind];rfl) λh9 m9 hn9 sb=>⟨v,_,H8,Inv.forget I9 hn9 sb,rv,q⟩
end L2.Q
namespace L2.Q.R
section
variable {ρ:L2.Q.Env}{E:jt}{j:Nat}{wb:WB}{hd:ah->Str->WS}{sp:gp}{t:WA}{N:L2.Q.Env->Prop}{Y:Str->Prop}
def Nf:Fi j wb hd E ρ=wb ρ E.nx λn=>∀ a,hd a n { nx:=λdf=>E.nx (df.set j none),rt:=E.rt } (ρ.set j (some (.xc a))):=rfl
def Ml:xZ (zY sp t) ρ N Y=t ρ λps=>sp (ps.map (·.2)) λm d=>EA m d Y (dk (m,d) (f:=λ_=>N ρ) ⟨⟩):=rfl
end
end L2.Q.R
namespace L2
section
variable {X:Cx}{o i value:Expr}{pos pos':Pos}{td ty tv:TE}
def JG(td ty tv:TE):TS:=λD σ H=>tv σ H λv H1=>td σ H1 λx H2=>ty σ H2 λy H3=>∃ a xs,∃ (j:Int) (n:Nat),x=.ref a/\y=.int j/\H3 a=some (.lst xs)/\qV xs.length j=some n/\D.nx σ (upd H3 a (.lst (xs.set n v)))
def CP(ho:PE X o td)(hi:PE X i ty)(hv:PE X value tv)(hs:og value (some (.Subscript o i pos')) pos.line X.env=pure false) :
  PS X (.Assign [.Subscript o i pos'] value pos) (JG td ty tv):=by
 intro pins s σ H D I h;walk_at"b";obtain⟨y,H3,I3,ry,a,xs,j,k,ex,ey,g,h0,q3⟩:=dS;subst ex ey;obtain rfl:u=Value.ref a:=rx;obtain⟨t,rfl⟩:=ry;obtain⟨z,its,n,r',hl,e⟩:=I3.U4 g;have QK:bS<2 ^ 62:=by rw[kB];decide
 have fin:∀ m,m=k->SP X pins D .next { s3 with heap:=s3.heap.update a (Obj.mapSeq (·.setIfInBounds m r)) }:=λm em=>by subst em;exact⟨σ,_,I3.U0 g e (by simp) (u_ rv r' _) (by simpa using z),q3⟩
 unfold qV at h0;split at h0
 ·split at h0
  ·exact PySem.W.ki_setAt e ‹_› (by lia) (by rw[jI];lia) (fin _ (Option.some.inj h0))
  ·cases h0
 ·split at h0
  ·exact PySem.W.ki_setBack e (by lia) (by rw[jI];lia) (by lia) (fin _ (by rw[jI,<- hl];exact Option.some.inj h0))
  ·cases h0
end
end L2
namespace L2.Q
section
variable {X:Cx}{K:aI}{L:Str->Hp->Prop}{a b c:Expr}{tk tv:WE}{pos pos':Pos}{i:Nat}{x:Str}
def cE.inL(r:cE K Hs H true (.list xs) v As):∃ a vs A,v=.ref a/\As=a :: A/\vs.length<=bS/\H a=some (.lst vs)/\aA K Hs H true xs vs A:=by
 cases r with
 |sh hf _=>exact absurd (hf rfl) (by simp[D.flat])
 |list z e rs=>exact⟨_,_,_,rfl,rfl,z,e,rs⟩
def aA.aG'(r:cE K Hs H fl d v C)(k:Nat)(hk:k<ds.length)(q:aA K Hs H fl ds vs As):∃ Bs,(∀ x∈Bs,x∈As\/x∈C)/\(As.Nodup->C.Nodup->(∀ x∈C,x∉As)->Bs.Nodup)/\aA K Hs H fl (ds.set k d) (vs.set k v) Bs:=by
 induction k generalizing ds vs As with
 |zero =>
  cases ds with
  |nil=>exact absurd hk (E5 _)
  |cons x ds =>obtain⟨u,us,A,B,rfl,rfl,_,q2⟩:=q.c;exact⟨C++B,λx hx=>(eL.mp hx).elim .inr λz=>.inl (fh _ z),λn1 n2 dj=>gV.mpr ⟨n2,(gV.mp n1).2.1,λx hx y hy e=>dj x hx (e ▸ fh _ hy)⟩,aA.cons r q2⟩
 |succ k ih =>
  cases ds with
  |nil=>exact absurd hk (E5 _)
  |cons x ds =>
   obtain⟨u,us,A,B,rfl,rfl,r1,q2⟩:=q.c;obtain⟨Bs,m,n,q3⟩:=ih (Nat.lt_of_succ_lt_succ hk) q2;refine⟨A++Bs,λx hx=>?_,λn1 n2 dj=>?_,aA.cons r1 q3⟩
   ·rcases eL.mp hx with z|z
    ·exact .inl (kr _ z)
    ·exact(m x z).imp (fh _) id
   ·obtain⟨nA,nB,d2⟩:=gV.mp n1;refine gV.mpr ⟨nA,n nB n2 λx hx z=>dj x hx (fh _ z),λx hx y hy e=>?_⟩;subst e;rcases m x hy with z|z
    ·exact d2 x hx x z rfl
    ·exact dj x z (kr _ hx)
def wH(i:Nat)(tk tv:WE):WS:=λE ρ=>tv ρ λm d=>IL ρ[i]? λxs=>tk ρ λ_ j=>intD j λj=>∃ n,L2.qV xs.length j=some n/\Qy m d/\E.nx (ρ.set i (some (.ow true (.list (xs.set n d)))))
def BR(ha:PE X a (kc i))(hi:QE X K b tk)(hv:QE X K c tv)(hs:autoParam (og c (some (.Subscript a b pos')) pos.line X.env=pure false) bv) :
  QS X K L (.Assign [.Subscript a b pos'] c pos) (wH i tk tv):=by
 refine PS.imp (CP ha hi hv hs) λD σ H hx=>cz hx λHs ρ ai E sr h k1 k2 k3 k4=>?_;refine⟨Hs,ρ,ai,_,sr,h,λv H1 bP m1 x VL g1 r1 f1 q1=>?_⟩;obtain⟨xs,ei,q1⟩:=Jy q1;have Q0:=sr.grow g1;obtain⟨v0,As,_,ev,ne,r0,s0,up⟩:=SR.put i Q0.sr ei Q0.nI;refine⟨v0,ev,bP,ρ,ai,_,Q0,q1,λy H3 gi m3 yd VB g3 r3 f3 q3=>?_⟩;have ry:=r3.rep g3.wf
 cases ry with
 |int j =>
  obtain⟨n,h0,ok,q⟩:=q3;have hn:=(cj' h0).2.1;have xv:=Q0.grow g3;obtain⟨v0',iL,_,ev',ne',r0',TB,up'⟩:=SR.put i xv.sr ei xv.nI;cases ev.symm.trans ev';obtain⟨a,vs,A,rfl,rfl,z,ea,rs⟩:=r0'.inL;have hl:=rs.length;refine⟨a,vs,j,n,rfl,rfl,ea,by rw[<- hl];exact h0,?_⟩;obtain⟨C,rC,nC,hC⟩:∃ C,cE K gi H3 true x v C/\C.Nodup/\∀ w∈C,gi w=none/\H w=none:=by
   rcases ok with hf|rfl
   ·exact⟨[],.sh (λ_=>hf) ((r1.grow g3).flat g3.wf hf),nv,λw hw=>zD hw⟩
   ·exact⟨VL,r1.1.grow g3.sh g3.all,f1.1,λw hw=>⟨g3.qc (f1.2 w hw).1 (r1.1.own w hw).ne,(f1.2 w hw).2⟩⟩
  have own:∀ w∈ai,H w≠none:=λw hw=>(sr.sr.own w hw).ne;have Ca:∀ w∈C,w∉ai:=λw hw t=>own w t (hC w hw).2;have nd:=TB.nodup xv.nI;obtain⟨na,nA⟩:=oj.mp nd;have aC:a∉C:=λt=>Ca a t (TB.subset fw);have st:∀ {w},w≠a->upd H3 a (.lst (vs.set n v)) w=H3 w:=λh=>dP h;obtain⟨B,mB,nB,rB⟩:=aA.aG' (rC.fA (bI.refl _) λw hw=>st λe=>aC (e ▸ hw)) n (by lia) (rs.fA (bI.refl _) λw hw=>st λe=>na (e ▸ hw));have aB:a∉B:=λt=>(mB a t).elim na aC;obtain⟨fT,n2,i2,s2⟩:=up' gi (upd H3 a (.lst (vs.set n v))) true (.list (xs.set n x)) (a :: B) (bI.refl _) (.list (by rw[Kx];exact z) fq rB) (RA _ _) (oj.mpr ⟨aB,nB nA nC λw hw t=>Ca w hw (TB.subset (fo _ t))⟩) (λw hw t=>by
    rcases fm.mp hw with rfl|hw
    ·exact fw
    ·exact(mB w hw).elim (fo _) λq=>absurd t (Ca w q))
   (λw _ nw=>st λe=>nw (e ▸ fw))
  have Ha:gi a=none:=xv.own a (TB.subset fw);exact k1 _ _ gi _ fT (g1.sh.trans g3.sh) ⟨s2,pB g3.wf Ha (λ_ z=>nomatch z),n2,λw hw=>by
   rcases i2 w hw with t|t
   ·exact xv.own w t
   ·rcases fm.mp t with rfl|t
    ·exact Ha
    ·exact(mB w t).elim (λt=>xv.own w (TB.subset (fo _ t))) λt=>(hC w t).1⟩ q
 |_=>exact q3.elim
end
end L2.Q
namespace L2.Q.R
section
variable {tk tv:WE}{ρ:L2.Q.Env}{E:jt}{i:Nat}
def Ma:wH i tk tv E ρ=tv ρ λm d=>dk ρ[i]? (f:=λo=>IL o λxs=>tk ρ λ_ j=>dk j (f:=λj=>intD j λj=>∃ n,L2.qV xs.length j=some n/\Qy m d/\E.nx (ρ.set i (some (.ow true (.list (xs.set n d)))))) ⟨⟩) ⟨⟩:=rfl
end
end L2.Q.R
namespace L2
abbrev RI:=Key ⊕ List Key
section
variable {prog:cv}{w:cK}
inductive cu(prog:cv)(w:cK)(h:dr):RI->ag->Prop
 |one {k:Key} {v:ag}:(iN prog w).is k v=true->cu prog w h (.inl k) v
 |tup {ks:List Key} {a:ah}:IsTupleKey (iN prog w) h ks a->cu prog w h (.inr ks) (.ref a)
inductive bC(prog:cv)(w:cK)(h:dr):List RI->List ag->Prop
 |nil:bC prog w h [] []
 |cons {i:RI} {v:ag} {is:List RI} {vs:List ag}:cu prog w h i v->bC prog w h is vs->bC prog w h (i :: is) (v :: vs)
def cu.inj(a:cu prog w h x v)(b:cu prog w h y v):x=y:=by
 cases a with
 |one a =>
  cases b with
  |one b=>rw[(iN prog w).inj _ _ _ a b]
  |tup b=>exact absurd ((iN prog w).byValue _ _ a) (by simp[carriedByValue])
 |tup a =>
  cases b with
  |one b=>exact absurd ((iN prog w).byValue _ _ b) (by simp[carriedByValue])
  |tup b=>rw[a.inj b]
def bC.inj(a:bC prog w h x vs)(b:bC prog w h y vs):x=y:=by
 induction a generalizing y with
 |nil=>cases b;rfl
 |cons a _ ih =>
  cases b with
  |cons b t=>rw[a.inj b,ih t]
def cu.keeps{es ep}(a:cu prog w h x v)(ho:h.get? d=some o)(hd:o.data=.dict es ep)(hs:Heap.SameBut d h h'):cu prog w h' x v:=by
 cases a with
 |one a=>exact .one a
 |tup a=>exact .tup (a.keeps ho hd hs)
def bC.keeps{es ep}(a:bC prog w h x vs)(ho:h.get? d=some o)(hd:o.data=.dict es ep)(hs:Heap.SameBut d h h'):bC prog w h' x vs:=by
 induction a with
 |nil=>exact .nil
 |cons a _ ih=>exact .cons (a.keeps ho hd hs) ih
def jl (prog:cv) (w:cK) (h:dr) (r:List RI) (a:ah):Prop:=∃ o items n,h.get? a=some o/\o.cls=.type "tuple"/\o.data=.seq items n/\bC prog w h r items.toList
def jl.typeIs {s:ay} {r:List RI} {a:ah} (x:jl prog w s.heap r a):s.TypeIs (.ref a) "tuple" := let ⟨o,_,_,ho,hc,_⟩:=x;⟨o,ho,hc⟩
def jl.inj(p:jl prog w h x a)(q:jl prog w h y a):x=y:=by obtain⟨o,i,n,h1,_,h2,h3⟩:=p;obtain⟨o',i',n',g1,_,g2,g3⟩:=q;rw[h1] at g1;cases g1;rw[h2] at g2;cases g2;exact h3.inj g3
def jl.keeps{es ep}(x:jl prog w h r a)(ho:h.get? d=some o)(hd:o.data=.dict es ep)(hs:Heap.SameBut d h h'):jl prog w h' r a:=by obtain⟨u,items,n,h1,h2,h3,h4⟩:=x;refine⟨u,items,n,(hs.2 a λz=>?_).trans h1,h2,h3,h4.keeps ho hd hs⟩;rw[z,ho] at h1;cases h1;rw[hd] at h3;cases h3
def zu(prog:cv)(w:cK):RI->Int
 |.inl k=>(iN prog w).hash k
 |.inr ks=>tupleKeyHash (iN prog w) ks
def rP(prog:cv)(w:cK)(r:List RI):Int:=reduceHash (Builtin.Tuple.tupleHashOf (r.map (zu prog w)))
def mj:RI->Nat
 |.inl _=>1
 |.inr ks=>ks.length+1
def mW(r:List RI):Nat:=(r.map mj).sum+1
variable {A:eB}{E:ag->ay->Prop}{s:ay}
def cu.hash(hu:A.units<gv)(x:cu prog w s.heap i v)(h:Q (zu prog w i) { s with toks:=s.toks+mj i }):bE (aT prog w) A (pyHash v) Q E s:=by
 cases x with
 |one x=>exact(iN prog w).pyHash x h
 |tup x=>exact wpAny_pyHash_tuple hu x h
def Bg{r:List RI}{a:ah}{Q:Int->ay->Prop}(hu:A.units+1<gv)(x:jl prog w s.heap r a)(h:Q (rP prog w r) { s with toks:=s.toks+mW r }):bE (aT prog w) A (pyHash (.ref a)) Q E s:=by
 have ty:=x.typeIs;obtain⟨o,items,n,ho,_,hd,hi⟩:=x;refine PySem.W.pyHash_slot ty PySem.F.slot_tuple_hash PySem.F.entry_tuple_hash (PySem.F.args_tuple_hash_1 _) (beq_builtin_none _) (.inr (by lia)) ?_;show bE _ _ (Builtin.Tuple.tupleItemsOf (.ref a) >>= _) _ _ s;refine ax (wpAny_tupleItemsOf ho hd (ax ?_));rw[<- Ur];refine Rl _ (λrest b s'=>∃ done left,r=done++left/\bC prog w s.heap left rest/\b.toList=done.map (zu prog w)/\s'={ s with toks:=s.toks+(done.map mj).sum }) _ ?_ ?_ _ _ ⟨[],r,rfl,hi,rfl,rfl⟩
 ·rintro v rest b s' ⟨done,left,rfl,hl,hb,rfl⟩
  cases hl with
  |@cons i _ eC' _ x1 NM =>
   refine ax (cu.hash (by exact hu) x1 ?_);have fin:∃ d l,done++i :: eC'=d++l/\bC prog w s.heap l rest/\(b.push (zu prog w i)).toList=d.map (zu prog w)/\({ s with toks:=s.toks+(done.map mj).sum+mj i }:ay)={ s with toks:=s.toks+(d.map mj).sum } :=
    ⟨done++[i],eC',by simp,NM,by simp[hb],by simp[Nat.add_assoc]⟩
   first
    |exact bG fin
    |exact ax (bG (bG fin))
 ·rintro b s' ⟨done,left,e,hl,hb,rfl⟩;cases hl;rw[mM] at e;subst e;show bE _ _ (retInt (Builtin.Tuple.tupleHashOf b.toList)) _ _ _;rw[hb];exact ax (wpAny_mkInt (bG ⟨_,_,rfl,by
   have h':=h;unfold rP mW at h';exact h'⟩))
def qQ (ho:s.heap.get? a=some o) (hc:o.cls=.type "tuple") (hd:o.data=.seq items n)(hv:∀ v∈items.toList,∀ Q:Bool->ay->Prop,Q true s->bE (aT prog w) A (eqIsQuiet m v) Q E s) (h:Q true s):bE (aT prog w) A (eqIsQuiet (m+1) (.ref a)) Q E s:=by
 have ty:s.TypeIs (.ref a) "tuple" := ⟨o,ho,hc⟩
 unfold eqIsQuiet;refine ax (wpAny_specialOf ty PySem.F.slot_tuple_eq.lookup ?_);refine ax (wpAny_isInstance ty isSubtype_tuple_tuple ?_);refine ax (OG ho hd (ax ?_));rw[<- Ur];refine Rl _ (λrest r s'=>r.1=none/\s'=s/\∀ v∈rest,v∈items.toList) _ ?_ ?_ _ _ ⟨rfl,rfl,λ_ z=>z⟩
 ·rintro v rest r s' ⟨_,rfl,all⟩;exact ax (hv v (all v fw) _ (bG ⟨rfl,rfl,λu z=>all u (fo _ z)⟩))
 ·rintro⟨r1,r2⟩ s' ⟨z,rfl,_⟩;subst z;exact bG h
def bC.mem(x:bC prog w h r vs):∀ v∈vs,∃ i,cu prog w h i v:=by
 induction x with
 |nil=>intro v z;cases z
 |cons a _ ih =>
  intro v z;rcases fm.mp z with rfl|z
  ·exact⟨_,a⟩
  ·exact ih v z
def cu.quiet(x:cu prog w s.heap i v)(h:Q true s):bE (aT prog w) A (eqIsQuiet (m+1) v) Q E s:=by
 cases x with
 |one x =>rw[eqIsQuiet_byValue _ ((iN prog w).byValue _ _ x)];exact bG h
 |tup x =>obtain⟨o,items,n,ho,hc,hd,hi⟩:=x;refine qQ ho hc hd (λv hv Q q=>?_) h;rw[eqIsQuiet_byValue _ (hi.byValue v hv)];exact bG q
def wF(x:jl prog w s.heap r a)(h:Q true s):bE (aT prog w) A (eqIsQuiet 8 (.ref a)) Q E s:=by obtain⟨o,items,n,ho,hc,hd,hi⟩:=x;refine qQ ho hc hd (λv hv Q q=>?_) h;obtain⟨i,y⟩:=hi.mem v hv;exact y.quiet q
end
end L2
namespace L2.Q
def yv:RI->D
 |.inl k=>md k
 |.inr ks=>.tup (ks.map md)
def oy(r:List RI):D:=.tup (r.map yv)
theorem uz:∀ {x y:Key},md x=md y->x=y
 |.inl _,.inl _,h=>by cases h;rfl
 |.inr _,.inr _,h=>by cases h;rfl
 |.inl _,.inr _,h=>nomatch h
 |.inr _,.inl _,h=>nomatch h
theorem map_inj{α β:Type}{f:α->β}(hf:∀ x y,f x=f y->x=y):∀ {l m:List α},l.map f=m.map f->l=m
 |[],[],_=>rfl
 |x :: l,y :: m,h=>by injection h with h1 h2;rw[hf x y h1,map_inj hf h2]
theorem Fx:∀ {x y:RI},yv x=yv y->x=y
 |.inl _,.inl _,h=>by rw[uz h]
 |.inr _,.inr _,h=>by injection h with h;rw[map_inj (λ_ _=>uz) h]
 |.inl (.inl _),.inr _,h=>nomatch h
 |.inl (.inr _),.inr _,h=>nomatch h
 |.inr _,.inl (.inl _),h=>nomatch h
 |.inr _,.inl (.inr _),h=>nomatch h
def Cg(h:oy x=oy y):x=y:=by injection h with h;exact map_inj (λ_ _=>Fx) h
theorem mV:∀ ks:List Key,rL (ks.map md)=true
 |[]=>rfl
 |.inl _ :: ks=>by simp[rL,D.nb,md,mV ks]
 |.inr _ :: ks=>by simp[rL,D.nb,md,mV ks]
theorem jY:∀ r:List RI,rL (r.map yv)=true
 |[]=>rfl
 |.inl (.inl _) :: r=>by simp[rL,D.nb,yv,md,jY r]
 |.inl (.inr _) :: r=>by simp[rL,D.nb,yv,md,jY r]
 |.inr ks :: r=>by simp[rL,D.nb,yv,mV ks,jY r]
def G4(x y:List RI):nK (oy x) (oy y)=decide (x=y):=by rw[y1,decide_eq_true_iff,nO (oy x) (oy y) (jY x) (jY y)];exact⟨Cg,λz=>by rw[z]⟩
section
variable {prog:cv}{w:cK}{h:dr}
def qe(x:(iN prog w).is k v=true):Reads h v (md k).py []:=by
 rcases A0 x with⟨i,t,rfl,rfl⟩|⟨y,t,rfl,rfl⟩
 ·exact .int i t
 ·exact .str y t
def v_(x:ItemsAre (iN prog w) ks vs):ReadsAll h vs (tJ (ks.map md)) []:=by
 induction x with
 |nil=>exact .nil
 |cons a _ ih=>exact .cons (qe a) ih
def vp(x:cu prog w h i v):Reads h v (yv i).py []:=by
 cases x with
 |one x=>exact qe x
 |tup x =>obtain⟨o,items,n,ho,hc,hd,hi⟩:=x;exact .tuple ho hc hd (v_ hi)
def rW(x:bC prog w h r vs):ReadsAll h vs (tJ (r.map yv)) []:=by
 induction x with
 |nil=>exact .nil
 |cons a _ ih=>exact .cons (vp a) ih
def row_reads(x:jl prog w h r a):Reads h (.ref a) (oy r).py []:=by obtain⟨o,items,n,ho,hc,hd,hi⟩:=x;exact .tuple ho hc hd (rW hi)
end
def nZ(prog:cv)(w:cK):HeapKind prog w (List RI) where
 is:=λh r a=>jl prog w h r a/\fI 12 (oy r)=true
 hash:=rP prog w
 draws:=mW
 room:=λA=>A.units+13<gv
 inj:=λx y=>x.1.inj y.1
 keeps:=λx ho hd hs=>⟨x.1.keeps ho hd hs,x.2⟩
 pyHash:=λhu x h=>Bg (by lia) x.1 h
 eqBool:=λ{A E s x y a b Q} hu hx hy h=>by have l1:=mq 12 _ hx.2;have l2:=mq 12 _ hy.2;have e:=PySem.SeqAt.eqAt_reads (oy x).py (oy y).py A s _ _ _ _ (row_reads hx.1) (row_reads hy.1) l1.1 l2.1 (by lia);have q:PyData.eqv (oy x).py (oy y).py=decide (x=y):=G4 x y;rw[q] at e;exact e prog w E Q h
 quiet:=λx h=>wF x.1 h
def FX(P:cv)(w:cK)(a:ah)(xs:List (List RI × ah × ag)):HO:=.ext λh=>∃ o es ep,h.get? a=some o/\o.ExactDict/\o.data=.dict es ep/\es.toList=xs.map (entryOfKey (nZ P w))/\(xs.map (·.1)).Nodup
def Bp(H:Hp):RI->V->Prop
 |.inl k,y=>y=kV k
 |.inr ks,y=>∃ c,y=.ref c/\H c=some (.tup (ks.map kV))
def jv(H:Hp)(r:List RI)(b:ah):Prop:=fI 12 (oy r)=true/\∃ ys,H b=some (.tup ys)/\Paired (Bp H) r ys
section
variable {P:cv}{w:cK}{H:Hp}{h:dr}
theorem uK(ok:iA P w H h):∀ {r:List RI} {ys:List V} {vs:List ag},Paired (Bp H) r ys->Vals ys vs->bC P w h r vs
 |_,_,_,.nil,.nil=>.nil
 |_,_,_,.cons (a:=i) p ps,.cons q qs=>.cons (match i,p with
  |.inl k,p=>.one (L4 (by rw[<- show _=kV k from p];exact q))
  |.inr ks,p=>by
   obtain⟨c,rfl,e⟩:=p;cases (q);exact .tup (L7 ok e)) (uK ok ps qs)
def ur(ok:iA P w H h)(x:jv H r b):(nZ P w).is h r b:=by
 obtain⟨o1,ys,e,p⟩:=x;obtain⟨_,its,q,o,h1,h2,n,h3⟩:=(ok b _ e)
 exact⟨⟨o,its.toArray,n,h1,h2,h3,by simpa using uK ok p q⟩,o1⟩
def L5(ok:iA P w H h)(e:H p=some (FX P w p xs))(ks:∀ x∈xs,jv H x.1 x.2.1):h.DictOfH (nZ P w) p xs:=by
 obtain⟨⟨o,es,ep,h1,h2,h3,h4,h5⟩,_,_⟩:=(ok p _ e)
 exact⟨o,es,ep,h1,h2,h3,h4,λx hx=>ur ok (ks x hx),h5⟩
def jv.TC(x:jv H r b)(e:H p=some o)(no:∀ ys,o≠.tup ys):jv (upd H p ob) r b:=by
 have go:∀ {c:ah} {ys:List V},H c=some (.tup ys)->upd H p ob c=some (.tup ys):=λ{c ys} z=>by rw[dP (λq=>by rw[q,e] at z;cases z;exact no ys rfl)];exact z
 obtain⟨o1,ys,e1,q⟩:=x;refine⟨o1,ys,go e1,?_⟩;clear e1 o1
 induction q with
 |nil=>exact .nil
 |@cons i y is ys hi _ ih =>
  refine .cons ?_ ih
  match i,hi with
  |.inl k,hi=>exact hi
  |.inr ks,hi =>obtain⟨c,rfl,z⟩:=hi;exact⟨c,rfl,go z⟩
end
section
variable {X:Cx}{pins:List (ah × Obj)}{σ:St}{H:Hp}{s:ay}{p b:ah}{xs:List (List RI × ah × ag)}{r:List RI}{A:eB}{E:ag->ay->Prop}
def j_{P:cv}(hu:A.units+14<gv):(nZ P w).room A.in1:=by show A.units+1+13<gv;lia
def Hb(hu:A.units+14<gv)(I:Inv X pins σ H s)(e:H p=some (FX X.prog X.w p xs))(hp:(p == qq)=false)(ks:∀ x∈xs,jv H x.1 x.2.1)(rb:jv H r b)(h:∀ s',Inv X pins σ H s'->Q (.bool (!(atKey xs r).isSome)) s'):bE (aT X.prog X.w) A (i7 .NotIn (.ref b) (.ref p)) Q E s :=
 wpAny_notIn_heap (j_ hu) (ur I.bX rb) hp (L5 I.bX e ks) (h _ (I.tok _))
def zK(hu:A.units+14<gv)(I:Inv X pins σ H s)(e:H p=some (FX X.prog X.w p xs))(ks:∀ x∈xs,jv H x.1 x.2.1)(rb:jv H r b)(hq:atKey xs r=some q)(h:∀ s',Inv X pins σ H s'->Q q.2 s'):bE (aT X.prog X.w) A (getItem (.ref p) (.ref b)) Q E s :=
 wpAny_getItem_heap (j_ hu) (ur I.bX rb) (L5 I.bX e ks) hq (h _ (I.tok _))
def Ac(hu:A.units+14<gv)(I:Inv X pins σ H s)(e:H p=some (FX X.prog X.w p xs))(ks:∀ x∈xs,jv H x.1 x.2.1)(rb:jv H r b)(hz:xs.length<=bS)(h:∀ s',Inv X pins σ (upd H p (FX X.prog X.w p (storedH xs r b v))) s'->Q () s'):bE (aT X.prog X.w) A (setItem (.ref p) (.ref b) v) Q E s:=by
 refine wpAny_setItem_heap (j_ hu) (ur I.bX rb) (L5 I.bX e ks) λh' BQ hs=>h _ ?_;obtain⟨q,es,ep,hq,h2,h3,h4,_,h5⟩:=BQ;exact Sn I (by rw[e];exact True.intro) hs ⟨q,hq⟩ ⟨⟨q,es,ep,hq,h2,h3,h4,h5⟩,⟨q,hq⟩,λh1 h2 ⟨o,es,ep,a,z⟩ k=>⟨o,es,ep,k o a,z⟩⟩
end
def RD(P:cv)(w:cK)(H:Hp)(p:ah)(ae:List (List RI × V)):Prop:=∃ xs:List (List RI × ah × ag),(p == qq)=false/\H p=some (FX P w p xs)/\xs.length<=bS /\
 Paired (λ(q:List RI × V) (x:List RI × ah × ag)=>q.1=x.1/\jv H x.1 x.2.1/\RelV q.2 x.2.2) ae xs
section
variable {H:Hp}
def yE(x:Paired (λ(q:List RI × V) (x:List RI × ah × ag)=>q.1=x.1/\jv H x.1 x.2.1/\RelV q.2 x.2.2) ae xs)(k:List RI):pS (gL ae k) ((atKey xs k).map (·.2)):=by
 induction x with
 |nil=>exact True.intro
 |@cons p q ps qs h t ih =>
  unfold gL atKey at *
  rw[E3,E3,h.1];by_cases e:q.1=k
  ·rw[decide_eq_true e];exact h.2.2
  ·rw[decide_eq_false e];exact ih
def o_(x:Paired (λ(q:List RI × V) (x:List RI × ah × ag)=>q.1=x.1/\jv H x.1 x.2.1/\RelV q.2 x.2.2) ae xs):∀ q∈xs,jv H q.1 q.2.1:=by
 induction x with
 |nil=>intro q hq;cases hq
 |cons h _ ih =>
  intro q hq;rcases fm.mp hq with rfl|hq
  ·exact h.2.1
  ·exact ih q hq
end
def Af(P:cv)(w:cK)(td ty:TE):TE:=λσ H Q=>td σ H λx H1=>ty σ H1 λy H2=>∃ a b ae r v,x=.ref a/\y=.ref b/\RD P w H2 a ae/\jv H2 r b/\gL ae r=some v/\Q v H2
def zO(P:cv)(w:cK)(ty td:TE):TE:=λσ H Q=>ty σ H λy H1=>td σ H1 λx H2=>∃ a b ae r,x=.ref a/\y=.ref b/\RD P w H2 a ae/\jv H2 r b/\Q (.bl (!(gL ae r).isSome)) H2
section
variable {X:Cx}{o i e value:Expr}{pos pos':Pos}{td ty tv:TE}
def Ab (I:Inv X pins σ H s) (x:RD X.prog X.w H a ae):s.TypeIs (.ref a) "dict" := by obtain⟨xs,_,e,_,p⟩:=x;exact(L5 I.bX e (o_ p)).typeIs
def E_(hu:X.A.units+14<gv)(ho:PE X o td)(hi:PE X i ty)(hs:U6 i):PE X (.Subscript o i pos) (Af X.prog X.w td ty):=by intro pins s σ H Q I h;refine cy' PySem.F.slot_dict_getitem.lookup hs (cy (ho pins s σ H _ I h) λu s1 cq=>L2.eW cq λx H1 I1 rx q1=>cy (hi pins s1 σ H1 _ I1 q1) λiv s2 dS=>?_);obtain⟨y,H2,I2,ry,a,b,ae,r,v,ex,ey,d,hr,l,q2⟩:=dS;subst ex ey;obtain rfl:u=Value.ref a:=rx;obtain rfl:iv=Value.ref b:=ry;have ty:=Ab I2 d;obtain⟨xs,_,e,_,p⟩:=d;obtain⟨w',hw,oB⟩:=pS.some_of (by rw[<- l];exact yE p r);obtain⟨q,hq,hq2⟩:=Uu.mp hw;exact⟨ty,zK hu I2 e (o_ p) hr hq λs3 I3=>⟨v,H2,I3,by rw[hq2];exact oB,q2⟩⟩
def xY(hu:X.A.units+14<gv)(hi:PE X i ty)(ho:PE X o td):PC X .NotIn i o (zO X.prog X.w ty td):=by intro pins s σ H Q I h;refine cy (hi pins s σ H _ I h) λiv s1 cq=>L2.eW cq λy H1 I1 ry q1=>cy (ho pins s1 σ H1 _ I1 q1) λu s2 dS=>?_;obtain⟨x,H2,I2,rx,a,b,ae,r,ex,ey,d,hr,q2⟩:=dS;subst ex ey;obtain rfl:u=Value.ref a:=rx;obtain rfl:iv=Value.ref b:=ry;obtain⟨xs,hp,e,_,p⟩:=d;have q:=(yE p r).Sj;rw[Uv] at q;exact Hb hu I2 e hp (o_ p) hr λs3 I3=>⟨_,H2,I3,by rw[<- q];rfl,q2⟩
def Il(P:cv)(w:cK)(td ty tv:TE):TS:=λD σ H=>tv σ H λv H1=>td σ H1 λx H2=>ty σ H2 λy H3=>∃ a b ae r,x=.ref a/\y=.ref b/\RD P w H3 a ae/\jv H3 r b/\gL ae r=none/\ae.length<bS /\
 ∀ H4,RD P w H4 a (ae++[(r,v)])->(∀ c,c≠a->H4 c=H3 c)->(∃ φ,H4 a=some (.ext φ))->D.nx σ H4
def JV{H:Hp}{a:ah}{o:HO}{φ:dr->Prop}(e:H a=some (.ext φ)){ae:List (List RI × V)}{xs:List (List RI × ah × ag)}(x:Paired (λ(q:List RI × V) (x:List RI × ah × ag)=>q.1=x.1/\jv H x.1 x.2.1/\RelV q.2 x.2.2) ae xs){r:List RI}{b:ah}{v:V}{u:ag}(hb:jv H r b)(hv:RelV v u) :
  Paired (λ(q:List RI × V) (x:List RI × ah × ag)=>q.1=x.1/\jv (upd H a o) x.1 x.2.1/\RelV q.2 x.2.2) (ae++[(r,v)]) (xs++[(r,b,u)]):=by
 induction x with
 |nil=>exact .cons ⟨rfl,hb.TC e (λ_ z=>nomatch z),hv⟩ .nil
 |cons h _ ih=>exact .cons ⟨h.1,h.2.1.TC e (λ_ z=>nomatch z),h.2.2⟩ ih
def Hc(hu:X.A.units+14<gv)(ho:PE X o td)(hi:PE X i ty)(hv:PE X value tv)(hs:og value (some (.Subscript o i pos')) pos.line X.env=pure false) :
  PS X (.Assign [.Subscript o i pos'] value pos) (Il X.prog X.w td ty tv):=by
 intro pins s σ H D I h;refine T4 (cy (hv pins s σ H _ I h) λu0 s1 cq=>L2.eW cq λv H1 I1 rv q1=>cy (ho pins s1 σ H1 _ I1 q1) λu s2 cq=>L2.eW cq λx H2 I2 rx q2=>cy (hi pins s2 σ H2 _ I2 q2) λiv s3 dS=>?_) hs;obtain⟨y,H3,I3,ry,a,b,ae,r,ex,ey,d,hr,l,lz,q3⟩:=dS;subst ex ey;obtain rfl:u=Value.ref a:=rx;obtain rfl:iv=Value.ref b:=ry;obtain⟨xs,hp,e,z,p⟩:=d;have n:atKey xs r=none:=by
  have q:=(yE p r).Sj;rw[l,Uv] at q
  cases z:atKey xs r with
  |none=>rfl
  |some _=>rw[z] at q;cases q
 have xl:xs.length=ae.length:=(Paired.length p).symm;refine Ac hu I3 e (o_ p) hr z λs4 I4=>⟨σ,_,I4,?_⟩
 rw[storedH_new n];exact q3 _ ⟨_,hp,fq,by rw[mI,Kj];lia,JV e p hr rv⟩ (λc hc=>dP hc) ⟨_,fq⟩
def Jv(P:cv)(w:cK):TE:=λ_ H Q=>∀ p,H p=none->RD P w (upd H p (FX P w p [])) p []->Q (.ref p) (upd H p (FX P w p []))
def Hg:PE X (.Dict [] [] pos) (Jv X.prog X.w):=λpins s σ H Q I h =>
 wpAny_Dict_empty ⟨.ref s.heap.objs.size,_,I.laid (o:=FX X.prog X.w s.heap.objs.size []) (λ_ _ q=>eM _ q) (de _) ⟨⟨_,#[],0,i9 _ rfl,⟨rfl,rfl,rfl⟩,rfl,rfl,nv⟩,⟨_,i9 _ rfl⟩,λh1 h2 ⟨o,es,ep,a,z⟩ k=>⟨o,es,ep,k o a,z⟩⟩,rfl,
  h _ (I.bX.fresh (de _)) ⟨[],beq_eq_false_iff_ne.mpr (Ne.symm (gu I.big)),fq,fR _,.nil⟩⟩
end
def FY(rs:List (List RI)):List (List RI × V):=rs.zipIdx.map λq=>(q.1,V.int q.2)
structure dC(K:aI)(P:cv)(w:cK)(H:Hp)(x dx rp pp:ah)(rs:List (List RI)):Prop where
 ins:∃ C,H x=some (.ins C dx [("rows",.ref rp),("places",.ref pp)])/\uS K C/\ve K C "rows"/\ve K C "places"
 own:H dx=some (.own x)
 rows:∃ bs:List ah,H rp=some (.lst (bs.map .ref))/\Paired (jv H) rs bs
 places:RD P w H pp (FY rs)
 nd:rs.Nodup
def Cw(rs:List (List RI))(r:List RI):FY (rs++[r])=FY rs++[(r,V.int rs.length)]:=by unfold FY;rw[List.zipIdx_append,pz];simp
def tE(h:r∉rs):gL (FY rs) r=none:=by unfold gL FY;rw[Option.map_eq_none_iff,List.find?_eq_none];intro q hq;obtain⟨⟨y,k⟩,hm,rfl⟩:=fP.mp hq;have:=OL.mp hm;simp only[decide_eq_true_eq];rintro rfl;exact h (pf this)
def u5{rs:List (List RI)}{r:List RI}(nd:rs.Nodup){k:Nat}(h:rs[k]? = some r):gL (FY rs) r=some (.int k):=by
 unfold gL FY;rw[Uu];have:∃ q,(rs.zipIdx.map λq=>(q.1,V.int q.2)).find? (λkv=>decide (kv.1=r))=some q:=by rw[<- Ut,List.find?_isSome];exact⟨(r,.int k),fP.mpr ⟨(r,k),OL.mpr h,rfl⟩,by simp⟩
 obtain⟨q,hq⟩:=this;refine⟨q,hq,?_⟩;obtain⟨⟨y,j⟩,hm,rfl⟩:=fP.mp (List.mem_of_find?_eq_some hq);have e:y=r:=by have:=List.find?_some hq;simpa using this
 subst e;have hj:=OL.mp hm;obtain⟨j1,j2⟩:=kM.mp hj;obtain⟨k1,k2⟩:=kM.mp h;have:j=k:=(Ww nd).mp (j2.trans k2.symm);rw[this]
def J5(K:aI)(ta:TE):TE:=UM (λxs H Q=>∃ x n,xs=[x]/\bO' K x H n/\Q (.int n) H) (R_ ta LP)
def aH'(K:aI)(P:cv)(w:cK):TS :=
 R4 (bw' (tB (zO P w (kc 1) (Fn K (kc 0) "places"))) (R4 (Il P w (Fn K (kc 0) "places") (kc 1) (J5 K (Fn K (kc 0) "rows"))) (bv' (tBM K "list" Zq (Fn K (kc 0) "rows") (R_ (kc 1) LP))))
  bu')
 (UE (Af P w (Fn K (kc 0) "places") (kc 1)))
def dC.fld{K:aI}{P:cv}(S:dC K P w H x dx rp pp rs)(e:σ[0]? = some (some (.ref x))) : (Q (.ref rp) H->Fn K (kc 0) "rows" σ H Q)/\(Q (.ref pp) H->Fn K (kc 0) "places" σ H Q):=by
 obtain⟨C,i,c,n1,n2⟩:=S.ins;exact⟨λq=>⟨_,e,x,C,dx,_,_,rfl,i,c,n1,rfl,q⟩,λq=>⟨_,e,x,C,dx,_,_,rfl,i,c,n2,by
  have z:(("places" : Str) == "rows")=false:=by decide +kernel
  simp[List.lookup,z],q⟩⟩
def GR{K:aI}{P:cv}{D:Ends}(S:dC K P w H x dx rp pp rs)(hr:jv H r b)(hz:rs.length<bS)(h:∀ H' eS k,dC K P w H' x dx rp pp eS->(r∈rs/\eS=rs\/r∉rs/\eS=rs++[r])->eS[k]? = some r->(∀ c,c≠rp->c≠pp->H' c=H c)->D.rt (.int (k:Nat)) H') :
  aH' K P w D [some (.ref x),some (.ref b)] H:=by
 -- the end: self.places[row]
 have fin:∀ H' eS k,dC K P w H' x dx rp pp eS->(r∈rs/\eS=rs\/r∉rs/\eS=rs++[r])->eS[k]? = some r->(∀ c,c≠rp->c≠pp->H' c=H c)->jv H' r b->UE (Af P w (Fn K (kc 0) "places") (kc 1)) D [some (.ref x),some (.ref b)] H':=λH' eS k S' e1 e2 e3 hr' =>
by
  unfold UE Af;exact(S'.fld rfl).2 ⟨_,rfl,pp,b,_,r,_,rfl,rfl,S'.places,hr',u5 S'.nd e2,h H' eS k S' e1 e2 e3⟩
 refine⟨_,rfl,(S.fld rfl).2 ⟨pp,b,_,r,rfl,rfl,S.places,hr,_,rfl,?_⟩⟩;by_cases m:r∈rs
 ·obtain⟨k,hk⟩:=yT.mp m;rw[u5 S.nd hk];exact fin H rs k S (.inl ⟨m,rfl⟩) hk (λ_ _ _=>rfl) hr
 ·rw[tE m];obtain⟨bs,e,pr⟩:=S.rows;have bl:bs.length=rs.length:=(Paired.length pr).symm;refine(S.fld rfl).1 ⟨.ref rp,rs.length,rfl,.inl ⟨_,.inl (.inl e),by rw[dc,bl]⟩,(S.fld rfl).2 ⟨_,rfl,pp,b,_,r,rfl,rfl,S.places,hr,tE m,?_,λH4 d4 k4 x4=>?_⟩⟩
  ·unfold FY;rw[dc,List.length_zipIdx];exact hz
  obtain⟨C,hi,c,n1,n2⟩:=S.ins;obtain⟨xs0,_,ep,_,_⟩:=S.places;have ne1:rp≠pp:=λz=>by rw[z,ep] at e;cases e
  have ne2:x≠pp:=λz=>by rw[z,ep] at hi;cases hi
  have ne3:x≠rp:=λz=>by rw[z,e] at hi;cases hi
  have ne4:dx≠pp:=λz=>by have:=S.own;rw[z,ep] at this;cases this
  have ne5:dx≠rp:=λz=>by have:=S.own;rw[z,e] at this;cases this
  have e4:H4 rp=some (.lst (bs.map .ref)):=by rw[k4 rp ne1];exact e
  have iP:H4 x=some (.ins C dx [("rows",.ref rp),("places",.ref pp)]):=by rw[k4 x ne2];exact hi
  have up:∀ {q:List RI} {d:ah},jv H q d->jv (upd H4 rp (.lst (bs.map .ref++[.ref b]))) q d:=λ{q d} z=>by
   obtain⟨φ,x4⟩:=x4;have z4:jv H4 q d:=by
    have:H4=upd H pp (.ext φ):=funext λc=>by
     by_cases hc:c=pp
     ·rw[hc,x4,fq]
     ·rw[k4 c hc,dP hc]
    rw[this];exact z.TC ep (λ_ z=>nomatch z)
   exact z4.TC e4 (λ_ z=>nomatch z)
  refine⟨_,rfl,x,C,dx,_,_,rfl,iP,c,n1,rfl,?_,_,rfl,rp,bs.map .ref,.ref b,rfl,rfl,e4,by rw[dc,bl];exact hz,?_⟩
  ·exact .inl ⟨rfl,_,.inl (.inl e4)⟩
  refine fin _ (rs++[r]) rs.length ⟨⟨C,by rw[dP ne3];exact iP,c,n1,n2⟩,by rw[dP ne5,k4 dx ne4];exact S.own,⟨bs++[b],by rw[fq,pz];rfl,?_⟩,?_,?_⟩ (.inr ⟨m,rfl⟩) (by simp) (λc h1 h2=>by rw[dP h1,k4 c h2]) (up hr)
  ·have go:∀ {l:List (List RI)} {ds:List ah},Paired (jv H) l ds->Paired (jv (upd H4 rp (.lst (bs.map .ref++[.ref b])))) (l++[r]) (ds++[b]):=by
    intro l ds z
    induction z with
    |nil=>exact .cons (up hr) .nil
    |cons y _ ih=>exact .cons (up y) ih
   exact go pr
  ·rw[Cw];obtain⟨xs,a1,a2,a3,a4⟩:=d4;refine⟨xs,a1,by rw[dP (Ne.symm ne1)];exact a2,a3,Paired.imp' (λq y z=>⟨z.1,z.2.1.TC e4 (λ_ z=>nomatch z),z.2.2⟩) a4⟩
  ·rw[gV];exact⟨S.nd,by simp,λy hy z hz q=>by rw[kD.mp hz] at q;exact m (q ▸ hy)⟩
section
variable {X:Cx}{e:Expr}{te:TE}{p pos:Pos}
def HQ (hg:Gl X "len") (hm:X.mg "len" = none) (he:PE X e te) (hs:autoParam (bT [e] X.env=(false,cp e X.env) :: bT [] X.env) bv) (iO:autoParam ((i3 pos (bT [] X.env)).any (·.1)=false) bv):PE X (.Call (.Name "len" p) [e] [] pos) (J5 X.K te) :=
 PH UL hg hm aP (kR he oo hs) (by decide) (by decide) hs iO
def HR (hu:X.A.units+14<gv) (hg:Gl X "len") (hm:X.mg "len" = none)(n0:∀ p,PE X (.Name "self" p) (kc 0)) (n1:∀ p,PE X (.Name "row" p) (kc 1))(b0:∀ p f,yB (.Name "self" p) f X.env (cp (.Name "self" p) X.env)=cp (.Name "self" p) X.env)(c1:autoParam (GN .NotIn (.Attribute (.Name "self" p2) "places" p3)=false) bv) (sl:∀ p,U6 (.Name "row" p)) (s1:autoParam (og (.Call (.Name "len" q1) [.Attribute (.Name "self" q2) "rows" q3] [] q4) (some (.Subscript (.Attribute (.Name "self" p5) "places" p6) (.Name "row" p7) p8)) p9.line X.env=pure false) bv) (t1:autoParam (bT [.Attribute (.Name "self" q2) "rows" q3] X.env=(false,cp (.Attribute (.Name "self" q2) "rows" q3) X.env) :: bT [] X.env) bv) (t2:autoParam ((i3 q4 (bT [] X.env)).any (·.1)=false) bv) (s2:autoParam (og (.Call (.Attribute (.Attribute (.Name "self" q5) "rows" q6) "append" q7) [.Name "row" q8] [] q9) none r1.line X.env=pure false) bv) (xh:autoParam (yB (.Attribute (.Name "self" q5) "rows" q6) "append" X.env (cp (.Attribute (.Name "self" q5) "rows" q6) X.env)=cp (.Attribute (.Name "self" q5) "rows" q6) X.env) bv) (zk:autoParam (((i3 q9 (bT [.Name "row" q8] X.env)).all (λx=>!x.1) && (backToKw q9 (CF [] X.env)).all (λx=>x.1.isSome)
   && decide ([Expr.Name "row" q8].length+([]:List xD).length+(if ([]:List xD).isEmpty then 0 else 1)<30))=true) bv)
  (hline:autoParam ((q7.endLine == q9.line)=true) bv) (yn:autoParam (bT [.Name "row" q8] X.env=(false,cp (.Name "row" q8) X.env) :: bT [] X.env) bv) (BO:autoParam ((i3 q9 (bT [] X.env)).any (·.1)=false) bv) :
  mn X [.If (.Compare (.Name "row" p1) [.NotIn] [.Attribute (.Name "self" p2) "places" p3] p4) [.Assign [.Subscript (.Attribute (.Name "self" p5) "places" p6) (.Name "row" p7) p8] (.Call (.Name "len" q1) [.Attribute (.Name "self" q2) "rows" q3] [] q4) p9,
     .Expr (.Call (.Attribute (.Attribute (.Name "self" q5) "rows" q6) "append" q7) [.Name "row" q8] [] q9) r1] [] r2,
   .Return (some (.Subscript (.Attribute (.Name "self" r3) "places" r4) (.Name "row" r5) r6)) r2] (aH' X.K X.prog X.w) :=
 UD (bx' (fP' (xY hu (n1 _) (PF (n0 _) (b0 _ _))) c1) (UD (Hc hu (PF (n0 _) (b0 _ _)) (n1 _) (HQ hg hm (PF (n0 _) (b0 _ _)) t1 t2) s1) (R5 (LB (Sf PySem.F.plainAttrs_list PySem.F.slot_list_append PySem.F.type_list_append Sg (PF (n0 _) (b0 _ _)) (kR (n1 _) oo yn) xh zk hline yn BO) s2)))
   W3)
  (R5 (R6 (E_ hu (PF (n0 _) (b0 _ _)) (n1 _) (sl _))))
end
def yF (K:aI) (P:cv) (w:cK):TS:=R4 (Zd K (kc 0) (bT' LP) "rows") (Zd K (kc 0) (Jv P w) "places")
def Bx {K:aI} {P:cv} {D:Ends} (hi:H x=some (.ins C dx [])) (ho:H dx=some (.own x)) (c:uS K C) (n1:ve K C "rows") (n2:ve K C "places")(h:∀ H' rp pp,dC K P w H' x dx rp pp []->H' x=some (.ins C dx [("rows",.ref rp),("places",.ref pp)])->H rp=none->H pp=none->(∀ a,a≠x->a≠rp->a≠pp->H' a=H a)->D.nx [some (.ref x)] H'):yF K P w D [some (.ref x)] H:=by
 refine⟨fR _,λrp hr=>⟨_,rfl,x,C,dx,[],rfl,?_,c,n1,by decide,?_⟩⟩
 ·rw[dP (λz=>by rw[z,hr] at hi;cases hi)];exact hi
 have x1:x≠rp:=λz=>by rw[z,hr] at hi;cases hi
 have d1:dx≠rp:=λz=>by rw[z,hr] at ho;cases ho
 have dx1:dx≠x:=λz=>by rw[z,hi] at ho;cases ho
 intro pp hp rd;have p1:pp≠x:=λz=>by rw[z,fq] at hp;cases hp
 rw[dP p1] at hp;have p2:pp≠rp:=λz=>by rw[z,fq] at hp;cases hp
 rw[dP p2] at hp;have d2:dx≠pp:=λz=>by rw[z,hp] at ho;cases ho
 refine⟨_,rfl,x,C,dx,[("rows",.ref rp)],rfl,by rw[dP (Ne.symm p1),fq];rfl,c,n2,(by show 1<1000;decide),?_⟩;have z:putF "places" (.ref pp) [("rows",.ref rp)]=[(("rows" : Str),V.ref rp),("places",.ref pp)]:=by rfl
 refine h _ rp pp ⟨⟨C,fq,c,n1,n2⟩,by rw[dP dx1,dP d2,dP dx1,dP d1];exact ho,⟨[],?_,.nil⟩,?_,nv⟩ fq hr hp λa h1 h2 h3=>by rw[dP h1,dP h3,dP h1,dP h2]
 ·rw[dP (Ne.symm x1),dP (Ne.symm p2),dP (Ne.symm x1),fq];rfl
 ·obtain⟨xs,a1,a2,a3,a4⟩:=rd;refine⟨xs,a1,by rw[dP p1];exact a2,a3,?_⟩;cases a4;exact .nil
section
variable {X:Cx}
def Bf (n0:∀ p,PE X (.Name "self" p) (kc 0))(s1:autoParam (og (.List [] p3) (some (.Attribute (.Name "self" p1) "rows" p2)) p4.line X.env=pure false) bv) (s2:autoParam (og (.Dict [] [] q3) (some (.Attribute (.Name "self" q1) "places" q2)) q4.line X.env=pure false) bv) :
  mn X [.Assign [.Attribute (.Name "self" p1) "rows" p2] (.List [] p3) p4,.Assign [.Attribute (.Name "self" q1) "places" q2] (.Dict [] [] q3) q4] (yF X.K X.prog X.w) :=
 UD (bR' (n0 _) (bU' oo) s1) (R5 (bR' (n0 _) Hg s2))
end
def t6(K:aI)(P:cv)(w:cK):Sp:=λvs H Q E=>∃ x dx rp pp b rs r,vs=[.ref x,.ref b]/\dC K P w H x dx rp pp rs/\jv H r b/\rs.length<bS /\
 ∀ H' eS k,dC K P w H' x dx rp pp eS->(r∈rs/\eS=rs\/r∉rs/\eS=rs++[r])->eS[k]? = some r->(∀ c,c≠rp->c≠pp->H' c=H c)->Q (.int (k:Nat)) H'
def mZ (K:aI) (P:cv) (w:cK):Sp:=λvs H Q E=>∃ x dx C,vs=[.ref x]/\H x=some (.ins C dx [])/\H dx=some (.own x)/\uS K C/\ve K C "rows"/\ve K C "places" /\
 ∀ H' rp pp,dC K P w H' x dx rp pp []->H' x=some (.ins C dx [("rows",.ref rp),("places",.ref pp)])->H rp=none->H pp=none->(∀ a,a≠x->a≠rp->a≠pp->H' a=H a)->Q .non H'
section
variable {P:cv}{w:cK}{K:aI}{mg:Str->Option ag}{base:dr}{x qual:Str}{st:i5}{f:ah}{fd:qB}
def Eo (F:oC K x qual st f fd) (S:zh ["self", "row"] ["self", "row"] (fe st))(xa:∀ (dE:ag) (A:eB) (outer:List PySem.Env) (s:ay) (H:Hp) (E:XK),hU 0 (A.deeper (kN qual (fe st) s.heap.objs.size f dE))->mn (oz kG P w K mg base ["self", "row"] qual (fe st) f dE A outer s H E).yb (nh st) (aH' K P w)) :
  kS P w K mg base kG 1 f fd ["self", "row"] (t6 K P w) :=
 F.ok S (λvs H Q E ⟨_,_,_,_,_,_,_,e,_⟩=>by rw[e];rfl) λdE A outer s H vs Q E hr dS=>by obtain⟨x,dx,rp,pp,b,rs,r,e,sh,hb,hz,h⟩:=dS;subst e;exact⟨_,xa dE A outer s H E hr,GR sh hb hz h⟩
def Bu (F:oC K x qual st f fd) (S:zh ["self"] ["self"] (fe st))(xa:∀ (dE:ag) (A:eB) (outer:List PySem.Env) (s:ay) (H:Hp) (E:XK),hU 0 (A.deeper (kN qual (fe st) s.heap.objs.size f dE))->mn (oz kG P w K mg base ["self"] qual (fe st) f dE A outer s H E).yb (nh st) (yF K P w)) :
  kS P w K mg base kG 1 f fd ["self"] (mZ K P w) :=
 F.ok S (λvs H Q E ⟨_,_,_,e,_⟩=>by rw[e];rfl) λdE A outer s H vs Q E hr dS=>by obtain⟨x,dx,C,e,hi,ho,c,n1,n2,h⟩:=dS;subst e;exact⟨_,xa dE A outer s H E hr,Bx hi ho c n1 n2 h⟩
end
def Cb(Hs:Hp)(As:List ah)(H:Hp):Hp:=λb=>if b∈As then H b else Hs b
def gH(h:b∈As):Cb Hs As H b=H b:=by unfold Cb;rw[if_pos h]
def nR(h:b∉As):Cb Hs As H b=Hs b:=by unfold Cb;rw[if_neg h]
def tD(n:Qb Hs aE)(k:∀ b∈As,H' b=H b):Qb (Cb Hs As H) (Cb aE As H'):=λa o d e=>by
 by_cases h:a∈As
 ·rw[gH h] at e ⊢;rw[k a h];exact e
 ·rw[nR h] at e ⊢;exact n a o d e
def oN(w:Wf Hs H):bI (Cb Hs As H) H:=λa o e=>by
 by_cases h:a∈As
 ·rw[gH h] at e;exact e
 ·rw[nR h] at e;exact w.sub a o e
section
variable {K:aI}{P:cv}{w:cK}{G G':Hp}{x dx rp pp:ah}{rs:List (List RI)}
def jv.mono(n:∀ c ys,G c=some (.tup ys)->G' c=some (.tup ys))(h:jv G r b):jv G' r b:=by
 obtain⟨o1,ys,e,q⟩:=h;refine⟨o1,ys,n _ _ e,?_⟩;clear e o1
 induction q with
 |nil=>exact .nil
 |@cons i y is ys hi _ ih =>
  refine .cons ?_ ih
  match i,hi with
  |.inl k,hi=>exact hi
  |.inr ks,hi =>obtain⟨c,rfl,z⟩:=hi;exact⟨c,rfl,n _ _ z⟩
def dC.moves(h:dC K P w G x dx rp pp rs)(t:∀ c ys,G c=some (.tup ys)->G' c=some (.tup ys))(k:∀ c∈[x,dx,rp,pp],G' c=G c):dC K P w G' x dx rp pp rs:=by obtain⟨⟨C,i1,i2⟩,ow,⟨bs,b1,b2⟩,⟨xs,a1,a2,a3,a4⟩,nd⟩:=h;refine⟨⟨C,(k x (by simp)).trans i1,i2⟩,(k dx (by simp)).trans ow,⟨bs,(k rp (by simp)).trans b1,Paired.imp' (λ_ _ z=>z.mono t) b2⟩,⟨xs,a1,(k pp (by simp)).trans a2,a3,Paired.imp' (λ_ _ z=>⟨z.1,z.2.1.mono t,z.2.2⟩) a4⟩,nd⟩
def dC.at(h:dC K P w G x dx rp pp rs):∀ c∈[x,dx,rp,pp],∃ o,G c=some o/\dz' o/\∀ vs,o≠.tup vs:=by
 obtain⟨⟨C,i1,i2⟩,ow,⟨bs,b1,b2⟩,⟨xs,a1,a2,a3,a4⟩,nd⟩:=h;intro c hc;simp only[fm,EX,or_false] at hc;rcases hc with rfl|rfl|rfl|rfl
 ·exact⟨_,i1,trivial,λ_ z=>nomatch z⟩
 ·exact⟨_,ow,trivial,λ_ z=>nomatch z⟩
 ·exact⟨_,b1,trivial,λ_ z=>nomatch z⟩
 ·exact⟨_,a2,trivial,λ_ z=>nomatch z⟩
def dC.near(n:Qb G G')(h:dC K P w G x dx rp pp rs):dC K P w G' x dx rp pp rs :=
 h.moves (λc ys e=>n c _ trivial e) λc hc=>by obtain⟨o,e,d,_⟩:=h.at c hc;rw[e];exact n c o d e
end
def NS:RI->Bool
 |.inl k=>sD k
 |.inr ks=>decide (ks.length<=bS) && ks.all sD
def TF(r:List RI):Bool:=decide (r.length<=bS) && r.all NS
def sd(K:aI)(P:cv)(w:cK)(C:ah)(o:Bool)(rs:List (List RI)):SY where
 is:=λHs H x As=>(∀ r∈rs,TF r=true)/\∃ dx rp pp,dC K P w (Cb Hs As H) x dx rp pp rs/\Cb Hs As H x=some (.ins C dx [("rows",.ref rp),("places",.ref pp)])/\As=bif o then [x,dx,rp,pp] else []
 fA:=λn k ⟨sm,dx,rp,pp,s,i,e⟩=>⟨sm,dx,rp,pp,s.near (tD n k),tD n k _ _ trivial i,e⟩
 own:=λ⟨sm,dx,rp,pp,s,i,e⟩ b hb=>by
  cases o with
  |false=>rw[e] at hb;exact nomatch hb
  |true =>obtain⟨u,h1,_,h2⟩:=s.at b (by rw[e] at hb;exact hb);rw[gH hb] at h1;exact⟨u,h1,h2⟩
abbrev EB:=Bool->List (List RI)->SY
section
variable {K:aI}{Hs H:Hp}
def DR(h:jv Hs r b)(sm:TF r=true):Rep K Hs (oy r) (.ref b):=by
 obtain⟨ok,ys,e,p⟩:=h;simp only[TF,mS,decide_eq_true_eq,CY] at sm;refine .tup (by rw[<- Paired.length p];exact sm.1) e ?_;have sm2:=sm.2;clear e sm ok
 induction p with
 |nil=>exact .nil
 |@cons i y is ys hi _ ih =>
  refine .cons ?_ (ih λz hz=>sm2 z (fo _ hz));have hm:=sm2 i fw
  match i,hi with
  |.inl (.inl k),hi=>rw[show y=.int k from hi];exact .int k
  |.inl (.inr k),hi=>rw[show y=.str k from hi];exact .str (by simpa[NS,sD] using hm)
  |.inr ks,hi =>obtain⟨c,rfl,z⟩:=hi;simp only[NS,mS,decide_eq_true_eq] at hm;exact .tup (by rw[dc];exact hm.1) z (gJ (CY.mp hm.2))
def CZ{ks:List Key}{vs:List V}(h:ck K Hs (ks.map md) vs):vs=ks.map kV/\ks.all sD=true:=by
 induction ks generalizing vs with
 |nil=>rw[ck.n0 h];exact⟨rfl,rfl⟩
 |cons k ks ih =>
  obtain⟨u,us,rfl,r,t⟩:=ck.c h;obtain⟨e,a⟩:=ih t;rw[e]
  cases k with
  |inl i=>cases r;exact⟨rfl,by simpa[sD] using a⟩
  |inr y=>cases r with|str z=>exact⟨rfl,by simp only[E4,sD,mS,decide_eq_true_eq];exact⟨z,a⟩⟩
def Hi(h:Rep K Hs (oy r) v)(ok:fI 12 (oy r)=true):∃ b,v=.ref b/\jv Hs r b/\TF r=true:=by
 cases h with
 |@tup a vs _ z e rs =>
  have key:Paired (Bp Hs) r vs/\∀ i∈r,NS i=true:=by
   clear e z ok
   induction r generalizing vs with
   |nil=>rw[ck.n0 rs];exact⟨.nil,λi h=>nomatch h⟩
   |cons i r ih =>
    obtain⟨u,us,rfl,h1,h2⟩:=ck.c rs;obtain⟨p,q⟩:=ih h2;have one:Bp Hs i u/\NS i=true:=by
     match i,h1 with
     |.inl (.inl k),h1=>cases h1;exact⟨rfl,rfl⟩
     |.inl (.inr k),h1=>cases h1 with|str z=>exact⟨rfl,by simpa[NS,sD] using z⟩
     |.inr ks,h1 =>
      cases h1 with
      |tup z e eS =>obtain⟨e2,a⟩:=CZ eS;refine⟨⟨_,rfl,by rw[e,e2]⟩,?_⟩;simp only[NS,mS,decide_eq_true_eq];exact⟨by rw[e2,dc] at z;exact z,a⟩
    exact⟨.cons one.1 p,λj hj=>(fm.mp hj).elim (λz=>z ▸ one.2) (q j)⟩
  refine⟨a,rfl,⟨ok,vs,e,key.1⟩,?_⟩;simp only[TF,mS,decide_eq_true_eq,CY];exact⟨by rw[Paired.length key.1];exact z,key.2⟩
def SR.aG'(i:Nat)(s:SR K Hs H ρ σ ai):ρ[i]? = some (some (.ob a p))->ai.Nodup ->
  ∃ As,σ[i]? = some (some (.ref a))/\p.is Hs H a As/\As.Sublist ai/\∀ bq H2 q,bI Hs bq->q.is bq H2 a As->(∀ b∈ai,b∉As->H2 b=H b)->SR K bq H2 (ρ.set i (some (.ob a q))) σ ai:=by
 induction s generalizing i with
 |nil=>intro e;simp at e
 |non s ih =>
  intro e n
  cases i with
  |zero=>simp at e
  |succ i =>obtain⟨As,e1,r,sb,g⟩:=ih i (by simpa using e) n;exact⟨As,by simpa using e1,r,sb,λbq H2 q s2 h2 k=>.non (g bq H2 q s2 h2 k)⟩
 |sh r0 s ih =>
  intro e n
  cases i with
  |zero=>simp at e
  |succ i =>obtain⟨As,e1,r,sb,g⟩:=ih i (by simpa using e) n;exact⟨As,by simpa using e1,r,sb,λbq H2 q s2 h2 k=>.sh (r0.same s2) (g bq H2 q s2 h2 k)⟩
 |xc s ih =>
  intro e n
  cases i with
  |zero=>simp at e
  |succ i =>obtain⟨As,e1,r,sb,g⟩:=ih i (by simpa using e) n;exact⟨As,by simpa using e1,r,sb,λbq H2 q s2 h2 k=>.xc (g bq H2 q s2 h2 k)⟩
 |ow ne r0 s ih =>
  intro e n;walk_at"c"
  cases i with
  |zero=>simp at e
  |succ i =>obtain⟨As,e1,r,sb,g⟩:=ih i (by simpa using e) n2;exact⟨As,by simpa using e1,r,sb.trans (lI _ _),λbq H2 q s2 h2 k=>.ow ne (r0.fA s2 λb hb=>k b (kr _ hb) λz=>n3 b hb b (sb.subset z) rfl) (g bq H2 q s2 h2 λb hb=>k b (fh _ hb))⟩
 |lk ne r0 s ih =>
  intro e n;walk_at"c"
  cases i with
  |zero=>simp at e
  |succ i =>obtain⟨As,e1,r,sb,g⟩:=ih i (by simpa using e) n2;exact⟨As,by simpa using e1,r,sb.trans (lI _ _),λbq H2 q s2 h2 k=>.lk ne (r0.fA s2 λb hb=>k b (kr _ hb) λz=>n3 b hb b (sb.subset z) rfl) (g bq H2 q s2 h2 λb hb=>k b (fh _ hb))⟩
 |@ob ρ σ t B a0 p0 r0 s ih =>
  intro e n;walk_at"c"
  cases i with
  |zero =>obtain⟨rfl,rfl⟩:=e;exact⟨B,rfl,r0,OO _ _,λbq H2 q s2 h2 k=>.ob h2 (s.fA s2 λb hb=>k b (fh _ hb) λz=>n3 b z b hb rfl)⟩
  |succ i =>obtain⟨As,e1,r,sb,g⟩:=ih i (by simpa using e) n2;exact⟨As,by simpa using e1,r,sb.trans (lI _ _),λbq H2 q s2 h2 k=>.ob (p0.fA (iJ s2) (λb hb=>k b (kr _ hb) λz=>n3 b hb b (sb.subset z) rfl) r0) (g bq H2 q s2 h2 λb hb=>k b (fh _ hb))⟩
def SR.mU'(r:p.is Hs H a As)(nd:As.Nodup)(i:Nat)(s:SR K Hs H ρ σ ai):ai.Nodup->(∀ b∈As,b∉ai) ->
  ∃ dv,dv.Nodup/\(∀ b∈dv,b∈ai\/b∈As)/\SR K Hs H (ρ.set i (some (.ob a p))) (σ.set i (some (.ref a))) dv:=by
 induction s generalizing i with
 |nil=>exact λn _=>⟨[],nv,(λa h=>zD h),.nil⟩
 |non s ih =>
  intro n dj
  cases i with
  |zero=>exact⟨_,dU nd n dj,λa h=>(eL.mp h).symm,.ob r s⟩
  |succ i=>obtain⟨t,a,b,c⟩:=ih i n dj;exact⟨t,a,b,.non c⟩
 |sh q s ih =>
  intro n dj
  cases i with
  |zero=>exact⟨_,dU nd n dj,λa h=>(eL.mp h).symm,.ob r s⟩
  |succ i=>obtain⟨t,a,b,c⟩:=ih i n dj;exact⟨t,a,b,.sh q c⟩
 |xc s ih =>
  intro n dj
  cases i with
  |zero=>exact⟨_,dU nd n dj,λa h=>(eL.mp h).symm,.ob r s⟩
  |succ i=>obtain⟨t,a,b,c⟩:=ih i n dj;exact⟨t,a,b,.xc c⟩
 |ow ne' q s ih =>
  intro n dj;walk_at"c";have tT:=λa ha m=>dj a ha (fh _ m)
  cases i with
  |zero=>exact⟨_,dU nd n2 tT,λa h=>(eL.mp h).symm.imp (λz=>fh _ z) λz=>z,.ob r s⟩
  |succ i=>obtain⟨t,a,b,c⟩:=ih i n2 tT;exact⟨_,(aQ n dj a b).1,(aQ n dj a b).2,.ow ne' q c⟩
 |lk ne' q s ih =>
  intro n dj;walk_at"c";have tT:=λa ha m=>dj a ha (fh _ m)
  cases i with
  |zero=>exact⟨_,dU nd n2 tT,λa h=>(eL.mp h).symm.imp (λz=>fh _ z) λz=>z,.ob r s⟩
  |succ i=>obtain⟨t,a,b,c⟩:=ih i n2 tT;exact⟨_,(aQ n dj a b).1,(aQ n dj a b).2,.lk ne' q c⟩
 |ob q s ih =>
  intro n dj;walk_at"c";have tT:=λa ha m=>dj a ha (fh _ m)
  cases i with
  |zero=>exact⟨_,dU nd n2 tT,λa h=>(eL.mp h).symm.imp (λz=>fh _ z) λz=>z,.ob r s⟩
  |succ i=>obtain⟨t,a,b,c⟩:=ih i n2 tT;exact⟨_,(aQ n dj a b).1,(aQ n dj a b).2,.ob q c⟩
end
def oH(K:aI)(P:cv)(w:cK)(C:ah)(vS:List (List RI)->gp):Sp:=λvs H Qv _=>∃ x rs ds qf Qd,vs=.ref x :: qf/\(sd K P w C false rs).is H H x []/\ck K H ds qf/\vS rs ds Qd /\
 ∀ v H' aE m d As,bI H aE->Wf aE H'->RM K aE H' m d v As->As.Nodup->(∀ a∈As,aE a=none)->Qd m d->Qv v H'
def ie(n:Nat)(a:ah)(p:SY)(ds:List D):Env:=some (.ob a p) :: (ds.map (λd=>some (.sh d))++List.replicate (n-(ds.length+1)) none)
section
variable {K:aI}{P:cv}{w:cK}{C:ah}{vS:List (List RI)->gp}{t:WS}
def v5(h:oH K P w C vS vs H Qv E)(hp:∀ a rs ds Q,vS rs ds Q->t { nx:=λ_=>Q .sh .non,rt:=Q } (ie N.length a (sd K P w C false rs) ds)) :
  A9 K L0 t { nx:=λ_ H'=>Qv .non H',rt:=Qv } (start N vs) H:=by
 obtain⟨x,rs,ds,qf,Qd,rfl,sh,re,hs,fin⟩:=h;have hl:=re.length;refine⟨H,ie N.length x (sd K P w C false rs) ds,[],{ nx:=λ_=>Qd .sh .non,rt:=Qd },⟨?_,⟨bI.refl _,λ_ _ e=>e⟩,nv,λa h=>nomatch h⟩,hp x rs ds Qd hs,?_,?_,?_,?_,λ_ _ _ _=>trivial⟩
 ·unfold ie start;rw[hl];exact .ob sh (SR.start re)
 ·exact λcx H' aE df dv s sr q=>fin .non H' aE .sh .non [] s sr.wf ⟨rfl,.non⟩ nv (λa h=>nomatch h) q
 ·exact λcx H' aE df dv s sr q=>q.elim
 ·exact λcx H' aE df dv s sr q=>q.elim
 ·exact λv H' aE m d As s w r nd own q=>fin v H' aE m d As s w r nd own q
def aI'.ok{st:i5}{N ps:List Str}(F:oC K x qual st f fd)(S:zh N ps (fe st))(len:∀ rs ds Q,vS rs ds Q->ds.length+1=ps.length)(xa:∀ (dE:ag) (A:eB) (outer:List PySem.Env) (s:ay) (H:Hp) (E:XK),hU k (A.deeper (kN qual (fe st) s.heap.objs.size f dE))->xo (oz kG P w K mg base N qual (fe st) f dE A outer s H E).yb K L0 (nh st) t)(hp:∀ a rs ds Q,vS rs ds Q->t { nx:=λ_=>Q .sh .non,rt:=Q } (ie N.length a (sd K P w C false rs) ds)):kS P w K mg base kG (k+1) f fd ps (oH K P w C vS) :=
 F.ok S (λvs H Q E ⟨x,rs,ds,qf,Qd,e,_,re,hs,_⟩=>by rw[e,oi,<- re.length];exact len rs ds Qd hs) λdE A outer s H vs Q E hr hs=>⟨_,xa dE A outer s H E hr,v5 hs hp⟩
end
def xP(SP:EB)(i:Nat)(vS:List (List RI)->gp)(t:WA):WE:=λρ Q=>∃ a o rs,ρ[i]? = some (some (.ob a (SP o rs)))/\t ρ λps=>vS rs (ps.map (·.2)) λm d=>dk (m,d) (f:=λp=>Q (An p.1 p.2) p.2) ⟨⟩
def wM(SP:EB)(i:Nat)(t:WE):WE:=λρ Q=>∃ a o rs,ρ[i]? = some (some (.ob a (SP o rs)))/\t ρ λ_ y=>∃ (k:Nat) (r:List RI),y=.int k/\rs[k]? = some r/\Q .sh (oy r)
def IV(SP:EB)(i:Nat):WS:=λE ρ=>∀ a,E.nx (ρ.set i (some (.ob a (SP true []))))
def wV(SP:EB)(iy ix:Nat)(te:WE):WS:=λE ρ=>∃ a rs ds,ρ[ix]? = some (some (.ob a (SP true rs)))/\ρ[iy]? = some (some (.ow true (.list ds)))/\rs.length<bS/\ds.length<bS/\te ρ λ_ d=>∃ r,d=oy r/\fI 12 (oy r)=true /\
 ∀ eS k,(r∈rs/\eS=rs\/r∉rs/\eS=rs++[r])->eS[k]? = some r->E.nx ((ρ.set ix (some (.ob a (SP true eS)))).set iy (some (.ow true (.list (ds++[.int (k:Nat)])))))
def yo(r:List RI):(oy r).flat=true:=by
 have ks:∀ ks:List Key,eh (ks.map md)=true:=λks=>by
  induction ks with
  |nil=>rfl
  |cons k ks ih=>cases k<;>simpa[eh,md,D.flat] using ih
 show eh (r.map yv)=true
 induction r with
 |nil=>rfl
 |cons i r ih =>
  match i with
  |.inl (.inl k)=>simpa[eh,yv,md,D.flat] using ih
  |.inl (.inr k)=>simpa[eh,yv,md,D.flat] using ih
  |.inr l=>simpa[eh,yv,D.flat,ks l] using ih
def Hq{α β:Type}{R:α->β->Prop}{l:List α}{m:List β}(p:Paired R l m){k:Nat}{x:α}(h:l[k]? = some x):∃ y,m[k]? = some y/\R x y:=by
 induction p generalizing k with
 |nil=>simp at h
 |cons a _ ih =>
  cases k with
  |zero=>simp at h;subst h;exact⟨_,rfl,a⟩
  |succ k=>exact ih (by simpa using h)
section
variable {X:Cx}{K:aI}{L:Str->Hp->Prop}{C:ah}{e0 e:Expr}{es:List Expr}{i:Nat}{t:WA}{te:WE}{m:Str}{apos pos p q:Pos}{f:ah}{fd:qB}{ps:List Str}{k:Nat}{vS:List (List RI)->gp}
def zq{P:cv}(wf:Wf Hs H)(h:(sd K P w C o rs).is Hs H a As):(sd K P w C false rs).is H H a []:=by
 obtain⟨sm,dx,rp,pp,s,i,e⟩:=h;have n:Qb (Cb Hs As H) (Cb H [] H):=λb u _ z=>by exact oN wf b u z
 exact⟨sm,dx,rp,pp,s.near n,n _ _ trivial i,rfl⟩
def yD(h0:PE X e0 (kc i))(c:uS X.K C)(hm:Meth X.K C m f)(F:kS X.prog X.w X.K X.mg X.base kG k f fd ps (oH K X.prog X.w C vS))(hr:hU k X.A)(hb:Binds X.K fd ps [])(ha:QA X K (e :: es) t)(hK:autoParam (X.K=K) bv) (hn:(m == ("rows" : Str))=false/\(m == ("places" : Str))=false:=by decide +kernel) (kE:autoParam (bT (e :: es) X.env=(false,cp e X.env) :: bT es X.env) bv) (iO:autoParam ((i3 pos (bT es X.env)).any (·.1)=false) bv) (ht:autoParam (cp (.Call (.Attribute e0 m apos) (e :: es) [] pos) X.env=(do
   let ov ← eval e0 X.env
   standAt apos.atName
   let (f,first) ← holding [ov] (getMethod ov m pl)
   callWith pos f first (i3 pos (bT (e :: es) X.env)) (backToKw pos (CF [] X.env)))) bv):QE X K (.Call (.Attribute e0 m apos) (e :: es) [] pos) (xP (sd K X.prog X.w C) i vS t):=by
 subst hK;refine PE.imp (bX' h0 c hm F hr hb (.nil) Va ha kE iO ht) λσ H Qv hx=>iP hx λHs ρ ai Q sr h f=>?_;obtain⟨a,o,rs,e1,h⟩:=h;obtain⟨v,e2,rfl,As,is,_⟩:=sr.sr.get e1;have Q9:=zq sr.wf is;obtain⟨_,dx,rp,pp,s1,i1,_⟩:=id Q9;refine⟨_,e2,a,dx,_,rfl,i1,?_,Hs,ρ,ai,_,sr,h,λvs H1 bP ps VL g1 r1 f1 q1=>?_⟩
 ·simp[List.lookup,hn.1,hn.2]
 ·refine⟨a,rs,_,vs,_,by rw[mM],(sd X.K X.prog X.w C false rs).fA (iJ g1.all) (λb hb=>nomatch hb) Q9,r1.reps g1.wf,q1,λv H' aE m d As s w r nd own q=>?_⟩;obtain⟨iL,r',fr⟩:=kh g1.wf s w r nd own;exact Fin.after f g1 v H' _ (An m d) d iL (cG g1.wf s w) r' fr q
def zj (h0:PE X e0 (kc i)) (hb:QE X K e te) (hK:autoParam (X.K=K) bv) (hba:autoParam (yB e0 "rows" X.env (cp e0 X.env)=cp e0 X.env) bv) (hs:UW e:=by exact λ_ _=>rfl) (hu:X.A.units+64<gv:=by assumption) :
  QE X K (.Subscript (.Attribute e0 "rows" p) e q) (wM (sd K X.prog X.w C) i te):=by
 subst hK;refine PE.imp (Zm (dE' hu rfl) (PF h0 hba) hb hs) λσ H Qv hx=>iP hx λHs ρ ai Q sr h f=>?_;obtain⟨a,o,rs,e1,h⟩:=h;obtain⟨v,e2,rfl,As,is,_⟩:=sr.sr.get e1;have Q9:=zq sr.wf is;obtain⟨_,dx,rp,pp,s1,i1,_⟩:=id Q9;obtain⟨C',i2,c,n1,_⟩:=s1.ins;refine⟨_,e2,a,C',dx,_,.ref rp,rfl,i2,c,n1,rfl,Hs,ρ,ai,_,sr,h,λu H2 bq m y hV g2 r2 f2 q2=>?_⟩;obtain⟨k,r,rfl,hk,q⟩:=q2;have r2:=r2.rep g2.wf;cases r2;obtain⟨bs,b1,b2⟩:=s1.rows;obtain⟨b,hb,rb⟩:=Hq b2 hk;refine .inl (.inl ⟨_,.ref b,.inl (.inl (g2.all _ _ b1)),Iz ?_ (by rw[ku,hb];rfl),(Fin.after f g2).sh g2.wf (DR (rb.mono λc ys z=>g2.wf.j3 c ys (g2.all _ _ z)) (is.1 r (pf hk))) q⟩);have hl:k<bs.length:=(kM.mp hb).1;unfold qV;simp[hl]
def Gm (M:Mk X.K C mW') (c:uS X.K C) (n1:ve X.K C "rows") (n2:ve X.K C "places") (F:kS X.prog X.w X.K X.mg X.base kG k mW' fdi ["self"] (mZ X.K X.prog X.w)) (hr:hU (k+1) X.A) (hm:X.mg "Sheet" = some (.ref C)) (hb:Binds X.K fdi ["self"] []) (hg:Gl X "Sheet" := by rfl) (hK:autoParam (X.K=K) bv) (hs:autoParam (og (.Call (.Name "Sheet" p) [] [] q) (some (.Name y pos')) pos.line X.env=pure false) bv) (hf:X.fn y=true\/X.env.scope.names.lookup y=some .local:=by first|exact .inl rfl|exact .inr rfl|assumption) (hN:X.N.Nodup:=by assumption) (hi:autoParam (X.N[i]? = some y) bv) (hy:Loc X.env.scope y:=by first|exact .inl rfl|exact .inr rfl) :
  QS X K L (.Assign [.Name y pos'] (.Call (.Name "Sheet" p) [] [] q) pos) (IV (sd K X.prog X.w C) i):=by
 subst hK;refine PS.imp (bz' hN hi hy (hZ' M F hr hg hm hb .nil Va) hs hf) λD σ H hx=>cz hx λHs ρ ai E sr h k1 k2 k3 k4=>?_;intro x dx hx hd ne;refine⟨x,dx,C,rfl,fq,by rw[dP ne,fq],c,n1,n2,λH' rp pp S n4 Q_ Ra kp=>⟨rfl,?_⟩⟩;have px:pp≠x:=λz=>by rw[z,fq] at Ra;cases Ra
 have rx:rp≠x:=λz=>by rw[z,fq] at Q_;cases Q_
 rw[dP px] at Ra;rw[dP rx] at Q_;have pd:pp≠dx:=λz=>by rw[z,fq] at Ra;cases Ra
 have rd:rp≠dx:=λz=>by rw[z,fq] at Q_;cases Q_
 rw[dP pd] at Ra;rw[dP rd] at Q_;have fr:∀ b∈[x,dx,rp,pp],H b=none:=by intro b hb;simp only[fm,EX,or_false] at hb;rcases hb with rfl|rfl|rfl|rfl<;>assumption
 have rp':rp≠pp:=λz=>by obtain⟨bs,b1,_⟩:=S.rows;obtain⟨xs,_,a2,_⟩:=S.places;rw[z,a2] at b1;cases b1
 have keep:∀ b,b∉[x,dx,rp,pp]->H' b=H b:=λb hb=>by simp only[fm,EX,or_false,not_or] at hb;rw[kp b hb.1 hb.2.2.1 hb.2.2.2,dP hb.1,dP hb.2.1]
 have nt:∀ b o,H b=some o->b∉[x,dx,rp,pp]:=λb o z m=>by rw[fr b m] at z;cases z
 have wf:Wf Hs H':=⟨λb o z=>(keep b (nt b o (sr.wf.sub b o z))).trans (sr.wf.sub b o z),λb vs z=>by
  by_cases hb:b∈[x,dx,rp,pp]
  ·obtain⟨o,z2,_,n⟩:=S.at b hb;rw[z] at z2;cases z2;exact absurd rfl (n vs)
  ·rw[keep b hb] at z;exact sr.wf.j3 b vs z⟩
 have nd:[x,dx,rp,pp].Nodup:=by simp[ne,Ne.symm ne,px,Ne.symm px,rx,Ne.symm rx,pd,Ne.symm pd,rd,Ne.symm rd,rp']
 have is:(sd X.K X.prog X.w C true []).is Hs H' x [x,dx,rp,pp]:=⟨(λr z=>nomatch z),dx,rp,pp,S.moves (λc ys z=>by
  by_cases hc:c∈[x,dx,rp,pp]
  ·rw[gH hc];exact z
  ·rw[nR hc];exact wf.j3 c ys z) (λc hc=>gH hc),by rw[gH (by simp)];exact n4,rfl⟩
 obtain⟨dv,t1,t2,t3⟩:=SR.mU' is nd i (sr.sr.fA (bI.refl _) λb hb=>keep b (nt b _ (WQ.mp (sr.sr.own b hb).ne).choose_spec)) sr.nI (λb hb m=>(sr.sr.own b m).ne (fr b hb));exact k1 _ H' Hs _ dv (bI.refl _) ⟨t3,wf,t1,λb hb=>(t2 b hb).elim (sr.own b) λm=>sr.wf.sub.free (fr b m)⟩ (h x)
def yC (hy:PE X ey (kc iy)) (hx:PE X ex (kc ix)) (c:uS X.K C) (hm:Meth X.K C "put" mZ') (F:kS X.prog X.w X.K X.mg X.base kG k mZ' fdp ["self", "row"] (t6 X.K X.prog X.w)) (hr:hU k X.A) (hb:Binds X.K fdp ["self", "row"] [])(he:QE X K e te) (i6:ix≠iy) (hK:autoParam (X.K=K) bv) (hs:autoParam (og (.Call (.Attribute ey "append" apos) [.Call (.Attribute ex "put" NV) [e] [] EC] [] p) none pos.line X.env=pure false) bv) (xh:autoParam (yB ey "append" X.env (cp ey X.env)=cp ey X.env) bv) (zk:autoParam (((i3 p (bT [.Call (.Attribute ex "put" NV) [e] [] EC] X.env)).all (λx=>!x.1) && (backToKw p (CF [] X.env)).all (λx=>x.1.isSome)
   && decide ([Expr.Call (.Attribute ex "put" NV) [e] [] EC].length+([]:List xD).length+(if ([]:List xD).isEmpty then 0 else 1)<30))=true) bv)
  (hline:autoParam ((apos.endLine == p.line)=true) bv) (yn:autoParam (bT [.Call (.Attribute ex "put" NV) [e] [] EC] X.env=(false,cp (.Call (.Attribute ex "put" NV) [e] [] EC) X.env) :: bT [] X.env) bv) (BO:autoParam ((i3 p (bT [] X.env)).any (·.1)=false) bv)
  (kE:autoParam (bT [e] X.env=(false,cp e X.env) :: bT [] X.env) bv) (iO:autoParam ((i3 EC (bT [] X.env)).any (·.1)=false) bv)
  (ht:autoParam (cp (.Call (.Attribute ex "put" NV) [e] [] EC) X.env=(do
   let ov ← eval ex X.env
   standAt NV.atName
   let (f,first) ← holding [ov] (getMethod ov "put" pl)
   callWith EC f first (i3 EC (bT [e] X.env)) (backToKw EC (CF [] X.env)))) bv) :
  QS X K L (.Expr (.Call (.Attribute ey "append" apos) [.Call (.Attribute ex "put" NV) [e] [] EC] [] p) pos) (wV (sd K X.prog X.w C) iy ix te):=by
 subst hK;refine PS.imp (LB (Sf PySem.F.plainAttrs_list PySem.F.slot_list_append PySem.F.type_list_append Sg hy (kR (bX' hx c hm F hr hb .nil Va (kR he oo kE) kE iO ht) oo yn) xh zk hline yn BO) hs) λD σ H hx=>cz hx λHs ρ ai E sr h k1 k2 k3 k4=>?_;obtain⟨a,rs,ds,ex,ey,hrs,Se,h⟩:=h;obtain⟨v,As,ev,ne,r,sbv⟩:=SR.at sr.sr ey;obtain⟨u,eu,rfl,Bs,isu,_⟩:=sr.sr.get ex
 cases r with
 |sh hf _=>exact absurd rfl ne
 |@list l vs _ A hz el rl =>
 have Q9:=zq sr.wf isu;obtain⟨_,dx0,rp0,pp0,s1,i1,_⟩:=id Q9;refine⟨_,ev,.inl ⟨rfl,_,.inl (.inl el)⟩,_,eu,a,dx0,_,rfl,i1,?_,Hs,ρ,ai,_,sr,h,λw1 H2 bq m d hV g2 r2 f2 q2=>?_⟩
 ·have z1:(("put" : Str) == "rows")=false:=by decide +kernel
  have z2:(("put" : Str) == "places")=false:=by decide +kernel
  simp[List.lookup,z1,z2]
 obtain⟨rw1,rfl,TH,q2⟩:=q2;have k8:=sr.grow g2;obtain⟨b,rfl,rb,smb⟩:=Hi ((r2.rep g2.wf).il g2.wf.j3 (yo _)) TH;obtain⟨Cs,e3,is3,sb3,g3⟩:=SR.aG' ix k8.sr ex k8.nI;obtain⟨sm,dx,rp,pp,S,iS,eC⟩:=id is3;have eC:Cs=[a,dx,rp,pp]:=eC;have S2:dC X.K X.prog X.w H2 a dx rp pp rs:=S.near (iJ (oN g2.wf));refine⟨a,dx,rp,pp,b,rs,rw1,rfl,S2,rb.mono (λc ys z=>g2.wf.sub _ _ z),hrs,λH3 eS kk S3 eF' hk kp=>?_⟩;have nC:∀ c,c∉Cs->H3 c=H2 c:=λc hc=>kp c (λz=>hc (by rw[eC,z];simp)) (λz=>hc (by rw[eC,z];simp));have wf3:Wf bq H3:=⟨λc o z=>(nC c λm=>by rw[k8.own c (sb3.subset m)] at z;cases z).trans (g2.wf.sub c o z),λc ys z=>by
  by_cases hc:c∈Cs
  ·obtain⟨o,z2,_,n⟩:=S3.at c (eC ▸ hc);rw[z] at z2;cases z2;exact absurd rfl (n ys)
  ·rw[nC c hc] at z;exact g2.wf.j3 c ys z⟩
 have iS3:H3 a=some (.ins C dx [("rows",.ref rp),("places",.ref pp)]):=by
  have e2:H2 a=some (.ins C dx [("rows",.ref rp),("places",.ref pp)]):=oN g2.wf _ _ iS;rw[kp a (λz=>?_) (λz=>?_)]
  ·exact e2
  ·obtain⟨bs,b1,_⟩:=S2.rows;rw[<- z,e2] at b1;cases b1
  ·obtain⟨xs,_,a2,_⟩:=S2.places;rw[<- z,e2] at a2;cases a2
 have is4:(sd X.K X.prog X.w C true eS).is bq H3 a Cs:=by
  refine⟨λr hr=>?_,dx,rp,pp,S3.moves (λc ys z=>?_) (λc hc=>gH (by rw[eC];exact hc)),by rw[gH (by rw[eC];simp)];exact iS3,eC⟩
  ·rcases eF' with⟨_,rfl⟩|⟨_,rfl⟩
   ·exact sm r hr
   ·rcases eL.mp hr with z|z
    ·exact sm r z
    ·rw[kD.mp z];exact smb
  ·by_cases hc:c∈Cs
   ·rw[gH hc];exact z
   ·rw[nR hc];exact wf3.j3 c ys z
 have xv:eI X.K bq (ρ.set ix (some (.ob a (sd X.K X.prog X.w C true eS)))) σ H3 ai:=⟨g3 bq H3 _ (bI.refl _) is4 (λc _ nc=>nC c nc),wf3,k8.nI,k8.own⟩
 have ey3:(ρ.set ix (some (.ob a (sd X.K X.prog X.w C true eS))))[iy]? = some (some (.ow true (.list ds))):=by rw[T_ i6];exact ey
 obtain⟨v3,VB,t3,ev3,ne3,r3,sb4,g4⟩:=SR.put iy xv.sr ey3 xv.nI;rw[ev] at ev3;cases ev3
 cases r3 with
 |sh hf _=>exact absurd rfl ne3
 |@list _ V1 _ A3 hz3 el3 rl3 =>
 have MQ:=rl3.length;refine⟨l,V1,.int kk,rfl,rfl,el3,by lia,?_⟩;have QB:=(sb4.nodup xv.nI)
 have naA:l∉A3:=(oj.mp QB).1;have hn:bq l=none:=xv.own l (sb4.subset fw);have ns':cE X.K bq (upd H3 l (.lst (V1++[.int kk]))) true (.list (ds++[.int kk])) (.ref l) (l :: A3):=by have:=(rl3.fA (H':=upd H3 l (.lst (V1++[.int kk]))) (bI.refl _) λc hc=>dP λz=>naA (z ▸ hc)).append (aA.cons (cE.sh (λ_=>rfl) (.int kk)) .nil);rw[mM,mM] at this;exact .list (by rw[mI,Kj];lia) fq this
 obtain⟨t5,n5,m5,s5⟩:=g4 bq (upd H3 l (.lst (V1++[.int kk]))) true (.list (ds++[.int kk])) (l :: A3) (bI.refl _) ns' (by simp) QB (λc hc _=>hc) (λc _ nc=>dP λz=>nc (z ▸ fw));exact k1 σ _ bq _ t5 g2.sh ⟨s5,pB wf3 hn (λ_ z=>nomatch z),n5,λc hc=>(m5 c hc).elim (xv.own c) λz=>xv.own c (sb4.subset z)⟩ (q2 eS kk eF' hk)
end
end L2.Q
namespace L2
def TJ(lo c:Int)(n:Nat):It:=⟨λi _=>i<n,λi H x H'=>H'=H/\x=.int (lo+i*c),λi _=>n<=i⟩
def sH{P:cv}{K:aI}(it:ah)(lo c:Int)(n:Nat):Turn P w K tg (TJ lo c n) [it] it (λi h=>IsRangeIter h it (lo+(i:Nat)*c) ((n:Int)-(i:Nat)) c) where
 mem:=by simp
 obj:=λi h st b hb=>by
  have e:b=it:=by simpa using hb
  subst e;exact⟨_,st,λv z=>by
   have z':Data.fields _=Data.cell v:=z;cases z'⟩
 keep:=λi h h' st k=>k it (by simp) _ st
 item:=by intro X hP hw hK hc i pins s σ H E I hf st hg;subst hP hw hK;obtain⟨f0,f1,f2,f3,f4,f5⟩:=hf it (by simp);have W:=Walks.range (prog:=X.prog) (w:=X.w) (I.ok.hd hc) it lo c n;refine W.item i s _ _ hg st λv h' tk hv aw kk=>?_;obtain⟨t,rfl⟩:=hv;have I1:Inv X pins σ H { s with heap:=h',toks:=tk }:=I.turned (λb o hb e=>kk b o (by simpa using hb) e) f0 f1 f3 f4 f5;exact⟨_,rfl,R7 (s:={ s with heap:=h',toks:=tk }) (n := "range_iterator") aw rfl rfl (by decide) ⟨.int (lo+i*c),H,I1,⟨t,rfl⟩,⟨rfl,rfl⟩,aw,λb hb=>(hf b hb).1⟩⟩
 done:=by intro X hP hw hK hc i pins s σ H E I hf st hg;subst hP hw hK;obtain⟨f0,f1,f2,f3,f4,f5⟩:=hf it (by simp);exact wpAny_pyNext_range_end (I.ok.hd hc) st (by have:n<=i:=hg;lia) λh' eb=>⟨rfl,I.turned (t':=s.toks) (λb o hb e=>eb b o hb e) f0 f1 f3 f4 f5⟩
 self:=λ_ _ _ _ _ st h=>wpAny_pyIter_rangeiter st h
def vT(a b c:Int):Nat:=(Builtin.Range.rangeSize a b c).toNat
def Ik(hc:c = -1\/c=2):((vT a b c:Nat):Int)=Builtin.Range.rangeSize a b c:=by
 unfold vT Builtin.Range.rangeSize;rcases hc with rfl|rfl
 ·rw[if_neg (by decide),show -(-1:Int)=1 from rfl];split<;>lia
 ·rw[if_pos (by decide)];split<;>lia
def Aj(hc:c = -1\/c=2)(h:-16777216<=a/\a<=16777216/\-16777216<=b/\b<=16777216):Builtin.Range.small a b c=true:=by
 unfold Builtin.Range.small Builtin.Range.rangeSize;rcases hc with rfl|rfl
 ·simp only[Builtin.Range.rangeFitsLong,mS,Bool.or_eq_true,decide_eq_true_eq,beq_iff_eq,show ¬ (-1:Int)>0 by decide,if_false,show -(-1:Int)=1 from rfl];split<;>lia
 ·simp only[Builtin.Range.rangeFitsLong,mS,Bool.or_eq_true,decide_eq_true_eq,beq_iff_eq,show(2:Int)>0 by decide,if_true];split<;>lia
section
variable {X:Cx}{tg:Expr}
def Lq(ta:TA):TI:=λσ H R=>ta σ H λvs H1=>∃ i j c:Int,vs=[.int i,.int j,.int c]/\(c = -1\/c=2)/\(-16777216<=i/\i<=16777216/\-16777216<=j/\j<=16777216)/\R (TJ i c (vT i j c)) H1
def xF (hg:Gl X "range") (hm:X.mg "range" = none) (ha:PA X [a,b,c] ta) (hs:autoParam (bT [a,b,c] X.env=[(false,cp a X.env),(false,cp b X.env),(false,cp c X.env)]) bv) (kF:autoParam (bT [b,c] X.env=[(false,cp b X.env),(false,cp c X.env)]) bv) :
  PI X tg (.Call (.Name "range" p) [a,b,c] [] pos) (Lq ta):=by
 intro pins s σ H R I h;walk_at"n";obtain⟨i,j,c,e,hc,hb,q⟩:=q1;subst e
 cases r1 with
 |cons r rr =>
  cases rr with
  |cons r' rr =>
   cases rr with
   |cons r'' rr =>
    cases rr;obtain⟨t,rfl⟩:=r;obtain⟨u,rfl⟩:=r';obtain⟨v,rfl⟩:=r'';refine call_range_3 (by rcases hc with rfl|rfl<;>decide) ?_ (Or.inl (PyProof.noPylong_small (by lia)));refine wpAny_pyIter_range (IsRange.new ..) (Aj hc hb) ?_;have I2:Inv X pins σ H1 { s1 with heap:=s1.heap.push { cls:=.type "range",data:=.fields #[.int i t,.int j u,.int c v] } }:=I1.kept λb o e=>eM _ e;refine⟨_,[_],_,_,H1,rfl,I2.kept λb o e=>eM _ e,sH _ i c (vT i j c),?_,λb hb=>?_,q⟩
    ·show IsRangeIter _ _ (i+0*c) (((vT i j c:Nat):Int)-0) c;rw[Ik hc];simp only[Int.natCast_zero,Int.zero_mul,Int.add_zero,Int.sub_zero];exact i9 _ rfl
    ·have e:=kD.mp hb;subst e;exact I2.LD (de _) (I2.bX.fresh (de _))
end
end L2
namespace L2.Q
def TK(lo c:Int)(n:Nat):List D:=(List.range n).map λi=>.int (lo+(i:Nat)*c)
def zJ(ta tb tc:WE):WI:=λρ Q=>ta ρ λ_ x=>tb ρ λ_ y=>tc ρ λ_ z=>match x with
 |.int i=>match y with
  |.int j=>match z with
   |.int c=>(c = -1\/c=2)/\(-16777216<=i/\i<=16777216/\-16777216<=j/\j<=16777216)/\vT i j c<=16777216/\Q (TK i c (vT i j c))
   |_=>False
  |_=>False
 |_=>False
def Ci(lo c:Int)(n:Nat):fD (TJ lo c n) ((List.range n).map λi=>V.int (lo+(i:Nat)*c)) (λ_=>True) where
 go:=λi H _ h=>by simpa[TJ] using h
 pT:=λi H x H' _ hi h=>by
  have hi:i<n:=by simpa using hi
  obtain⟨rfl,rfl⟩:=h;refine⟨rfl,?_⟩;simp[hi]
 stop:=λH _=>by simp[TJ]
theorem uU{K:aI}(lo c:Int):∀ (l:List Nat),ck K H (l.map λi=>.int (lo+(i:Nat)*c)) (l.map λi=>V.int (lo+(i:Nat)*c))
 |[]=>.nil
 |_ :: l=>.cons (.int _) (uU lo c l)
section
variable {X:Cx}{K:aI}{e e2 e3 tg:Expr}{te IG te3:WE}{pos p:Pos}
def yV (hm:X.mg "range" = none) (he:QE X K e te) (MA:QE X K e2 IG) (he3:QE X K e3 te3) (hg:Gl X "range" := by rfl) (hs:autoParam (bT (e :: [e2,e3]) X.env=(false,cp e X.env) :: bT [e2,e3] X.env) bv) (kF:autoParam (bT (e2 :: [e3]) X.env=(false,cp e2 X.env) :: bT [e3] X.env) bv) (Zx:autoParam (bT (e3 :: []) X.env=(false,cp e3 X.env) :: bT [] X.env) bv) (iE:autoParam (bT [e,e2,e3] X.env=[(false,cp e X.env),(false,cp e2 X.env),(false,cp e3 X.env)]) bv) (ac':autoParam (bT [e2,e3] X.env=[(false,cp e2 X.env),(false,cp e3 X.env)]) bv):QI X K tg (.Call (.Name "range" p) [e,e2,e3] [] pos) (zJ te IG te3):=by
 refine PI.imp (xF hg hm (kR he (kR MA (kR he3 oo Zx) kF) hs) iE ac') λσ H R hx=>iP hx λHs ρ ai Q sr h k=>⟨Hs,ρ,ai,_,sr,h,λv H1 bP m d As g1 r1 f1 q1=>⟨bP,ρ,ai,_,sr.grow g1,q1,λu H2 bq n y Bs g2 r2 f2 q2=>⟨bq,ρ,ai,_,(sr.grow g1).grow g2,q2,λu3 H3 gi n3 y3 Bs3 g3 r3 f3 q3=>?_⟩⟩⟩
 have r:=((r1.grow g2).grow g3).rep g3.wf;have r':=(r2.grow g3).rep g3.wf;have r'':=r3.rep g3.wf
 cases r with
 |int i=>cases r' with
  |int j=>cases r'' with
   |int c =>obtain⟨h1,h2,h3,q3⟩:=q3;exact⟨i,j,c,rfl,h1,h2,k _ H3 gi _ ((g1.trans g2).trans g3) (.seq (uU i c _) (fD.imp (Ci _ _ _) λ_ _=>trivial)) (by rw[dc,Ry,kB];lia) q3⟩
   |_=>exact q3.elim
  |_=>exact q3.elim
 |_=>exact q3.elim
end
abbrev GE:=Str × Tok × Str × Tok
def V2(w:cK)(e:GE):DictEntry:=⟨RV w.params e.1,.str e.1 e.2.1,.str e.2.2.1 e.2.2.2⟩
structure GlD(w:cK)(K:aI)(mg:Str->Option ag)(x:Str)(ae:List (Str × Str)):Prop where
 ex:∃ (a:ah) (es:List GE) (n:Nat),mg x=some (.ref a)/\K.lookup a=some { cls:=.type "dict",data:=.dict (es.map (V2 w)).toArray n }/\es.map (fun e=>(e.1,e.2.2.1))=ae
def V3(ae:List (Str × Str))(te:WE):WE:=λρ Q=>te ρ λ_ d=>∃ y v,d=.str y/\ae.lookup y=some v/\v.length<=bS/\Q .sh (.str v)
def Ex{es:List GE}{y v:Str}(h:(es.map λe:GE=>(e.1,e.2.2.1)).lookup y=some v)(P:cv)(w:cK):∃ t,findBy (iN P w).is (es.map (V2 w)).toArray (.inr y)=some (.str v t):=by
 unfold findBy;rw[List.find?_toArray]
 induction es with
 |nil=>simp at h
 |cons e es ih =>
  rw[jS,Uc] at h;rw[jS,E3];have hk:(iN P w).is (.inr y) (V2 w e).key=decide (y=e.1):=by refine(KeyKind.is_eq_decide (Uw P w e.1 e.2.1) (.inr y)).trans ?_;by_cases z:y=e.1<;>simp[z]
  rw[hk];by_cases z:y=e.1
  ·rw[z,beq_self_eq_true] at h;cases h;rw[decide_eq_true z];exact⟨_,rfl⟩
  ·rw[beq_eq_false_iff_ne.mpr z] at h;rw[decide_eq_false z];exact ih h
section
variable {X:Cx}{K:aI}{e:Expr}{te:WE}{x:Str}{ae:List (Str × Str)}{p pos:Pos}
def nu' (h:GlD X.w X.K X.mg x ae) (he:QE X K e te) (hg:autoParam (Gl X x) bv) (kf:(x == ("__debug__" : Str))=false:=by decide) (hs:U6 e:=by exact λ_ _=>rfl):QE X K (.Subscript (.Name x p) e pos) (V3 ae te):=by
 obtain⟨a,es,n,hm,hl,rfl⟩:=h.ex;intro pins s σ H Qv I hx;obtain⟨Hs,ρ,ai,Q,sr,h,f⟩:=hx;refine cy' PySem.F.slot_dict_getitem.lookup hs (Lc I hg hm (cy (he pins s σ H (λy H2=>∃ bP m d As,fN Hs H bP H2/\RM K bP H2 m d y As/\∃ yy v,d=.str yy/\(es.map λe:GE=>(e.1,e.2.2.1)).lookup yy=some v/\v.length<=bS/\Q .sh (.str v)) I ⟨Hs,ρ,ai,_,sr,h,λv H1 bP m d As g1 r1 f1 q1=>⟨bP,m,d,As,g1,r1,q1⟩⟩) λiv s2 dS=>?_) kf);obtain⟨y,H2,I2,ry,bP,m,d,As,g1,r1,yy,v,ed,l,hz,q⟩:=dS;subst ed;have r:=r1.rep g1.wf;cases r;have an':=I2.hX _ _ hl;obtain⟨t,ht⟩:=Ex l X.prog X.w;have mp:s2.heap.MapOf (iN X.prog X.w) a (findBy (iN X.prog X.w).is (es.map (V2 X.w)).toArray):=⟨_,_,n,an',⟨rfl,rfl,rfl⟩,rfl,λen hen=>by
  obtain⟨ge,_,rfl⟩:=fP.mp (List.mem_toArray.mp hen);exact⟨.inr ge.1,Uw _ _ _ _,rfl⟩,λ_=>rfl⟩
 obtain⟨tk,rfl⟩:=ry;exact⟨mp.typeIs,wpAny_getItem_of (Uw _ _ _ _) mp ht ⟨.str v,H2,I2.tok _,⟨t,rfl⟩,(Fin.after f g1).sh g1.wf (.str hz) q⟩⟩
end
def aa'.mk{P:cv}{w:cK}{K:aI}{mg:Str->Option ag}{base:dr}{x:Str}{st:i5}{f:ah}{fd:qB}{sp:gp}{t:WS}(m:mg x=some (.ref f))(F:oC K x x st f fd)(N:List Str)(n k:Nat)(len:∀ ds Q,sp ds Q->ds.length=n)(hp:∀ ds Q,sp ds Q->t { nx:=λ_=>Q .sh .non,rt:=Q } (aM N.length ds)) (hb:∀ {dE:ag} {A:eB} {outer:List PySem.Env} {s:ay} {H:Hp} {E:XK},{_:hU k (A.deeper (kN x (fe st) s.heap.objs.size f dE))}->{_:(A.deeper (kN x (fe st) s.heap.objs.size f dE)).units+64<gv}->{_:N.Nodup} -> {_:(oz kG P w K mg base N x (fe st) f dE A outer s H E).yb.env.scope=fe st/\(oz kG P w K mg base N x (fe st) f dE A outer s H E).yb.N=N}->xo (oz kG P w K mg base N x (fe st) f dE A outer s H E).yb K L0 (nh st) t) (S:zh N (N.take n) (fe st):=by exact⟨rfl,rfl,rfl,by decide +kernel,rfl,by decide +kernel,by decide +kernel⟩) (hl:autoParam ((N.take n).length=n) bv) (bi:∀ (kV doc pm:ag) (an:Option ah) (dE ct:ag) (us:List ag),us.length=(N.take n).length->bindArgs (sf x x (vj st) (nh st) (fe st) .none kV doc pm an dE ct) ⟨us,[]⟩=pure ((N.take n).zip us):=by
   intro _ _ _ _ _ _ us h;iterate 13 all_goals rcases us with _|⟨_,us⟩<;>first|rfl|(simp at h;done)|skip):Vk P w K mg base (k+1) x (N.take n) (fO K sp)/\kS P w K mg base kG (k+1) f fd (N.take n) (fO K sp) :=
 have G:=aa'.ok F S (λds Q h=>(len ds Q h).trans hl.symm) (λ_ _ _ _ _ _ hr=>@hb _ _ _ _ _ _ hr hr.units S.nd ⟨rfl,rfl⟩) hp
 ⟨F.cal m G bi,G⟩
def av'.mk{P:cv}{w:cK}{K:aI}{mg:Str->Option ag}{base:dr}{rn:List Str}{x:Str}{st:i5}{f:ah}{fd:qB}{sp:gp}{t:WS}(m:mg x=some (.ref f))(F:oC K x x st f fd)(N:List Str)(n k:Nat)(len:∀ ds Q,sp ds Q->ds.length=n)(hp:∀ ds Q,sp ds Q->t { nx:=λ_=>Q .sh .non,rt:=Q } (aM N.length ds)) (hb:∀ {dE:ag} {A:eB} {outer:List PySem.Env} {s:ay} {H:Hp} {E:XK},{_:hU k (A.deeper (kN x (fe st) s.heap.objs.size f dE))}->{_:(A.deeper (kN x (fe st) s.heap.objs.size f dE)).units+64<gv}->{_:N.Nodup} -> {_:(oz (AF P w mg rn) P w K mg base N x (fe st) f dE A outer s H E).env.scope=fe st/\(oz (AF P w mg rn) P w K mg base N x (fe st) f dE A outer s H E).N=N}->xo (oz (AF P w mg rn) P w K mg base N x (fe st) f dE A outer s H E) K (LX rn mg E) (nh st) t) (S:zh N (N.take n) (fe st):=by exact⟨rfl,rfl,rfl,by decide +kernel,rfl,by decide +kernel,by decide +kernel⟩) (hl:autoParam ((N.take n).length=n) bv) (bi:∀ (kV doc pm:ag) (an:Option ah) (dE ct:ag) (us:List ag),us.length=(N.take n).length->bindArgs (sf x x (vj st) (nh st) (fe st) .none kV doc pm an dE ct) ⟨us,[]⟩=pure ((N.take n).zip us):=by
   intro _ _ _ _ _ _ us h;iterate 13 all_goals rcases us with _|⟨_,us⟩<;>first|rfl|(simp at h;done)|skip):QY P w K mg base rn (k+1) x (N.take n) sp :=
 oC.mo' F m (av'.ok F S (λds Q h=>(len ds Q h).trans hl.symm) (λ_ _ _ _ _ _ hr=>@hb _ _ _ _ _ _ hr hr.units S.nd ⟨rfl,rfl⟩) hp) bi
def aI'.mk{P:cv}{w:cK}{K:aI}{mg:Str->Option ag}{base:dr}{C:ah}{x qual:Str}{st:i5}{f:ah}{fd:qB}{vS:List (List RI)->gp}{t:WS}(F:oC K x qual st f fd)(N:List Str)(n k:Nat)(len:∀ rs ds Q,vS rs ds Q->ds.length+1=n)(hp:∀ a rs ds Q,vS rs ds Q->t { nx:=λ_=>Q .sh .non,rt:=Q } (ie N.length a (sd K P w C false rs) ds)) (hb:∀ {dE:ag} {A:eB} {outer:List PySem.Env} {s:ay} {H:Hp} {E:XK},{_:hU k (A.deeper (kN qual (fe st) s.heap.objs.size f dE))}->{_:(A.deeper (kN qual (fe st) s.heap.objs.size f dE)).units+64<gv}->{_:N.Nodup} -> {_:(oz kG P w K mg base N qual (fe st) f dE A outer s H E).yb.env.scope=fe st/\(oz kG P w K mg base N qual (fe st) f dE A outer s H E).yb.N=N}->xo (oz kG P w K mg base N qual (fe st) f dE A outer s H E).yb K L0 (nh st) t) (S:zh N (N.take n) (fe st):=by exact⟨rfl,rfl,rfl,by decide +kernel,rfl,by decide +kernel,by decide +kernel⟩) (hl:autoParam ((N.take n).length=n) bv):kS P w K mg base kG (k+1) f fd (N.take n) (oH K P w C vS) :=
 aI'.ok F S (λrs ds Q h=>(len rs ds Q h).trans hl.symm) (λ_ _ _ _ _ _ hr=>@hb _ _ _ _ _ _ hr hr.units S.nd ⟨rfl,rfl⟩) hp
end L2.Q
end
local macro_rules | `(tactic| walk_at "q") => do
 let nm (s:String):Lean.Ident:=Lean.mkIdent ((s.splitOn ".").foldl Lean.Name.mkStr .anonymous)
 let ds ← ("PX Ol Oz M9 Nk Ql Qj K1 Ky Ov OD Nz NT Nh O4 NQ Oh N6 Ma Nf Ml PJ Od PN Pk O6 mz' O9 OJ Qi Nu NB Ow O1 Ph Lf NP Nt Kh M8 KC KZ P0 N5 wB_ Qm O_ li' Qc Pb Mr LC wC_ lk' ll' MK Oe O5 Ou Oq PB PL P_ Og Mw MJ MT La K7 Mu Mz Ly Ox M_ Ot Nr Oi Pj O7 Oa O8 Qe Mj Ni NK NZ HX Nv Qg Qo Py Pq Pu Qa Pz Oc Nq Oj Pn Ln L_ lm' KJ Nx Om Pg Px Qp N_ K6 M7 ln' KN O3 Lp KY LR Qk Nm Pr Lz Nb N8 Ng K8 Mm KD Kz gN_ gT_ Nj Qn Np lr' Mx MP Ny LK K5 Pa Qf Qh Lj N7 Ob".splitOn " ").toArray.mapM fun s=>`(Lean.Parser.Tactic.simpLemma| ↓$(nm ("L2.Q.R." ++ s)):ident)
 let us ← ("L2.Q.VN L2.Q.Tt L2.Q.vz L2.Q.Gk L2.Q.B6 L2.Q.MZ L2.Q.S5 L2.Q.An L2.Q.kI L2.Q.S8 L2.Q.S7 L2.Q.Z_ L2.Q.mH L2.Q.D_ L2.Q.asg L2.Q.xt L2.Q.aM L2.Q.D.flat L2.Q.eh L2.Q.D.ty L2.Q.VD L2.Q.D.key1 L2.Q.dW L2.Q.Oo L2.Q.xQ List.length_map List.map_cons List.map_nil List.length_cons List.length_nil List.replicate_succ List.replicate_zero List.cons_append List.nil_append List.append_nil List.getElem?_cons_zero List.getElem?_cons_succ List.getElem?_nil List.set_cons_zero List.set_cons_succ List.all_cons List.all_nil Option.some.injEq Option.join_some Option.map_some Option.map_none Nat.reduceAdd Nat.reduceSub true_and and_true Bool.and_true Bool.true_and Bool.and_false Bool.false_and Bool.not_true Bool.not_false Bool.false_eq_true if_true if_false decide_true decide_false reduceIte cond_true cond_false PySem.sizeLine_eq L2.Q.le' L2.Q.lf' L2.Q.lg' L2.Q.bJ L2.Q.JQ L2.Q.empty_app Nat.zero_add exists_eq_left' Int.reduceLT Int.reduceLE Int.reducePow Int.reduceNeg Int.reduceToNat Int.reduceAdd Int.reduceMul Int.reduceSub Nat.reduceLeDiff Nat.reduceLT false_or or_false and_self L2.PQ".splitOn " ").toArray.mapM fun s=>`(Lean.Parser.Tactic.simpLemma| $(nm s):ident)
 let as:Lean.TSyntaxArray [`Lean.Parser.Tactic.simpStar,`Lean.Parser.Tactic.simpErase,`Lean.Parser.Tactic.simpLemma]:=(ds++us).map fun x=>⟨x.raw⟩
 `(tactic| simp -dsimp only [$as,*])
section
open PySem PySem.Spec PyProof.Rows
namespace L2.Q.V4
def small{n:Nat}(h:n<=10000):n<=bS:=kL h (by decide)
def Ja{n:Nat}(h:n<=10000):n<bS:=xd2 h (by decide)
def isLet(c:Nat):Bool:=decide (97<=c/\c<=122)
abbrev abc:Str := "abcdefghijklmnopqrstuvwxyz"
def n8:sg abc=(List.range 26).map (97 + ·):=by decide +kernel
def Iu{i:Int}(h0:0<=i)(h1:i<26):∃ c,fF (sg abc) i=some c/\isLet c=true:=by
 refine⟨97+i.toNat,?_,?_⟩
 ·have:fF (sg abc) i.toNat=some (97+i.toNat):=vi (by
   rw[n8];have:i.toNat<26:=by lia
   simp[this])
  rwa[mP h0] at this
 ·simp[isLet];lia
def Ey(x:Int):∃ c,fF (sg abc) (x % 26)=some c/\isLet c=true:=Iu (w_ _ (by decide)) (xI _ (by decide))
def lets(x:Str):Prop:=∀ c∈sg x,isLet c=true
def Open(x:Str):Prop:=1<=x.length/\x.length<=6/\lets x
def BE (x:Str):Prop:=x = "*"\/Open x
def tX{x y:Str}(hx:lets x)(hy:lets y):lets (x++y):=λc hc=>by rw[uR] at hc;exact(eL.mp hc).elim (hx c) (hy c)
def Ak{c:Nat}(h:isLet c=true):lets ⟨#[c]⟩:=λd hd=>by grind
def oG{x:Str}(h:lets x)(lo hi:Option Int):lets (oq x lo hi):=λc hc=>by exact h c (Ub (Ru hc))
def fC(c:Nat):(⟨#[c]⟩:Str).length=1:=rfl
def BE.ok{x:Str}(h:BE x):PyData.strOk x=true:=by
 rw[DX];rcases h with rfl|h
 ·have:sg "*" = [42]:=by decide +kernel
  intro c hc;rw[this] at hc;have:c=42:=by simpa using hc
  lia
 ·intro c hc;have:=h.2.2 c hc;simp[isLet] at this;lia
theorem gG:∀ (l:List Str),eh (l.map D.str)=true
 |[]=>rfl
 |x :: l=>by simp[eh,gG l,D.flat]
theorem aW:∀ (l:List Int),eh (l.map D.int)=true
 |[]=>rfl
 |x :: l=>by simp[eh,aW l,D.flat]
def Cp(l:List Str)(x:Str):l.map D.str++[D.str x]=(l++[x]).map D.str:=by simp
def ints_app(l:List Int)(x:Int):l.map D.int++[D.int x]=(l++[x]).map D.int:=by simp
def fX{n i:Nat}{lo:Int}{x:D}(h:(gF lo n)[i]? = some x):i<n/\x=.int (lo+(i:Nat)):=by
 unfold gF at h;rw[ku] at h;by_cases hi:i<n
 ·grind
 ·grind
def e_(lo:Int)(n:Nat):(gF lo n).length=n:=by simp[gF]
def oM{lo:Int}{n:Nat}{x:D}(h:x∈gF lo n):∃ i:Nat,i<n/\x=.int (lo+i):=by obtain⟨i,hi⟩:=yT.mp h;exact⟨i,fX hi⟩
def iR{α:Type}(l:List α):l.filter (λ_=>true)=l:=Wr.mpr λ_ _=>rfl
abbrev iX:=Int × Str × Int
def GA(s:iX):List Key:=[.inl s.1,.inr s.2.1,.inl s.2.2]
def wa(s:iX):D:=.tup [.int s.1,.str s.2.1,.int s.2.2]
def mD(many:Int)(steps:List iX):D:=.tup [.int many,.list (steps.map wa)]
def NW(many:Int)(s:iX):Prop:=0<=s.1/\s.1<many/\BE s.2.1/\0<=s.2.2/\s.2.2<many
def Ib{many:Int}{s:iX}(n:Nat)(h:NW many s):fI (n+1) (wa s)=true:=by have:=h.2.2.1.ok;simp[fI,wa,this]
def MN{many:Int}{l:List iX}(n:Nat)(h:∀ s∈l,NW many s):fI (n+2) (.list (l.map wa))=true:=by simp only[fI,OU,CY];intro s hs;exact Ib n (h s hs)
def eq_self{x:D}(h:x.nb=true):nK x x=true:=(nO x x h h).mpr rfl
def Ay{s t:iX}(h:GA s=GA t):s=t:=by obtain⟨a,b,c⟩:=s;obtain⟨a',b',c'⟩:=t;obtain⟨rfl,rfl,rfl⟩:=h;rfl
def ltP(s t:iX):Bool:=kz (GA s) (GA t)
theorem z7{P:iX->Prop}:∀ {ks:List (List Key)},(∀ k∈ks,∃ s,k=GA s/\P s)->∃ l:List iX,ks=l.map GA/\∀ s∈l,P s
 |[],_=>⟨[],rfl,λs h=>nomatch h⟩
 |k :: ks,h=>by
  obtain⟨s,rfl,p⟩:=h k fw;obtain⟨l,rfl,q⟩:=z7 λk hk=>h k (fo _ hk);refine⟨s :: l,rfl,λt ht=>?_⟩;rcases fm.mp ht with rfl|ht
  ·exact p
  ·exact q t ht
abbrev Kn:=List (List Key × D)
def Fg{names:List Str}{i:Int}(h0:0<=i)(h1:i<names.length):∃ n,n∈names/\fF (names.map D.str) i=some (.str n):=by
 have hn:i.toNat<names.length:=by lia
 refine⟨names[i.toNat],Ud hn,?_⟩;have:=vi (xs:=names.map D.str) (j:=i.toNat) (v:=.str names[i.toNat]) (by simp[hn]);rwa[mP h0] at this
def name_mod{names:List Str}(x:Int)(h:1<=names.length):∃ n,n∈names/\fF (names.map D.str) (x % (names.length:Int))=some (.str n) :=
 Fg (w_ _ (by lia)) (xI _ (by lia))
def oh{α:Type}(f:α->D)(l:List α)(lo hi:Option Int):rV (l.map f) lo hi=(rV l lo hi).map f:=by unfold rV;rw[dc,List.map_take,List.map_drop]
def Rb(steps out:List iX):Prop:=out.Nodup/\(∀ s,s∈out↔s∈steps)/\(out.Pairwise λa b=>ltP b a=false)
def qK{α β:Type}{f:α->β}{l:List α}(h:(l.map f).Nodup):l.Nodup:=by rw[List.Nodup,AR] at h;exact h.imp λNC e=>NC (by rw[e])
def Rb.len{steps out:List iX}(M:Rb steps out):out.length<=steps.length:=TS.eG M.1 λs hs=>(M.2.1 s).mp hs
def GQ{l:List iX}(P:List D->Prop)(hz:l.length<=1000)(k:∀ out,Rb l out->P (out.map wa)):∃ (ks:List (List Key)) (sh:List Bool),l.map wa=ks.map vw/\ks.length<=1000/\(∀ k∈ks,lT k=true :: sh) /\
  ∀ ms:List (List Key),ms.Nodup->(∀ k,k∈ms↔k∈ks)->(ms.Pairwise λa b=>kz b a=false)->P (ms.map vw):=by
 refine⟨l.map GA,[false,true],by rw[lP];rfl,by simpa using hz,?_,λms nd mm pw=>?_⟩
 ·intro k hk;obtain⟨s,_,rfl⟩:=fP.mp hk;rfl
 ·obtain⟨out,rfl,ho⟩:=z7 (P:=λs=>s∈l) (ks:=ms) λk hk=>by grind
  have e:(out.map GA).map vw=out.map wa:=by rw[lP];rfl
  rw[e];refine k out ⟨qK nd,λs=>⟨λhm=>ho s hm,λhm=>?_⟩,AR.mp pw⟩;obtain⟨s',iE,e⟩:=fP.mp ((mm (GA s)).mpr (fP.mpr ⟨s,hm,rfl⟩));rw[<- Ay e];exact iE
def Jd{steps:List iX}{i:Nat}{x:D}(h:(steps.map wa)[i]? = some x):∃ p d r,x=.tup [.int p,.str d,.int r]/\(p,d,r)∈steps/\steps.take (i+1)=steps.take i++[(p,d,r)]:=by
 rw[ku] at h
 cases e:steps[i]? with
 |none=>rw[e] at h;cases h
 |some s =>rw[e] at h;cases h;obtain⟨p,d,r⟩:=s;exact⟨p,d,r,rfl,pf e,by rw[AQ,e];rfl⟩
def Rb.ok{many:Int}{l out:List iX}(h:∀ s∈l,NW many s)(M:Rb l out):∀ s∈out,NW many s:=λs hs=>h s ((M.2.1 s).mp hs)
inductive Rw where
 |st (w d:Str) (j:Int)
 |nt (j:Int)
 |jn (w:Str) (ps:List Int)
def cw:Rw->D
 |.st w d j=>.tup [.str w,.str d,.int j]
 |.nt j=>.tup [.str "not",.int j]
 |.jn w ps=>.tup [.str w,.tup (ps.map .int)]
def nL(k:Int):Rw->Prop
 |.st w d j=>(w = "some"\/w = "all")/\BE d/\0<=j/\j<k
 |.nt j=>0<=j/\j<k
 |.jn w ps=>(w = "and"\/w = "or")/\ps.length<=200/\∀ p∈ps,0<=p/\p<k
def eJ(l:List Rw):Prop:=∀ (i:Nat) (r:Rw),l[i]? = some r->nL i r
def qk:Rw->List Int
 |.st _ _ j=>[j]
 |.nt j=>[j]
 |.jn _ ps=>ps
theorem qW:∀ r:Rw,(cw r).flat=true
 |.st _ _ _=>rfl
 |.nt _=>rfl
 |.jn _ ps=>by simp[cw,D.flat,eh,aW]
theorem gD:∀ l:List Rw,eh (l.map cw)=true
 |[]=>rfl
 |r :: l=>by simp[eh,qW r,gD l]
def eJ.app{l:List Rw}{r:Rw}(h:eJ l)(hr:nL l.length r):eJ (l++[r]):=λi x hx=>by
 by_cases hi:i<l.length
 ·rw[EW hi] at hx;exact h i x hx
 ·grind
def eJ.take{l:List Rw}(h:eJ l)(n:Nat):eJ (l.take n):=λi x hx=>by
 rw[Wv] at hx;split at hx
 ·exact h i x hx
 ·cases hx
def eJ.nil:eJ []:=λi r h=>by simp at h
def ED(l:List Int):Int:=l.foldl (λb x=>if x>b then x else b) 0
def dep(ds:List Int):Rw->Int
 |.st _ _ j=>ds.getD j.toNat 0+1
 |.nt j=>ds.getD j.toNat 0
 |.jn _ ps=>ED (ps.map λp=>ds.getD p.toNat 0)
def EE:List Int->List Rw->List Int
 |ds,[]=>ds
 |ds,r :: l=>EE (ds++[dep ds r]) l
def deps(l:List Rw):List Int:=EE [] l
theorem uP:∀ (l m:List Rw) (ds:List Int),EE ds (l++m)=EE (EE ds l) m
 |[],_,_=>rfl
 |r :: l,m,ds=>uP l m (ds++[dep ds r])
def Be(l:List Rw)(r:Rw):deps (l++[r])=deps l++[dep (deps l) r]:=by unfold deps;rw[uP];rfl
theorem t_:∀ (l:List Rw) (ds:List Int),(EE ds l).length=ds.length+l.length
 |[],_=>rfl
 |r :: l,ds=>by show(EE (ds++[dep ds r]) l).length=_;rw[t_ l];simp;lia
def jD(l:List Rw):(deps l).length=l.length:=by unfold deps;rw[t_];simp
def depth(l:List Rw):Int:=(deps l).getD (l.length-1) 0
theorem Dm:∀ (l:List Int) (b:Int),0<=b->0<=l.foldl (λb x=>if x>b then x else b) b
 |[],b,h=>h
 |x :: l,b,h=>by simp only[AU];refine Dm l _ ?_;split<;>lia
def JR(l:List Int):0<=ED l:=Dm l 0 (by decide)
def rR{ds:List Int}(h:∀ d∈ds,0<=d)(i:Nat):0<=ds.getD i 0:=by
 rw[AO]
 cases e:ds[i]? with
 |none=>exact AY _
 |some x=>exact h x (pf e)
theorem JT{ds:List Int}(h:∀ d∈ds,0<=d):∀ r:Rw,0<=dep ds r
 |.st _ _ j=>by have:=rR h j.toNat;simp only[dep];lia
 |.nt j=>rR h _
 |.jn _ ps=>JR _
theorem wK:∀ (l:List Rw) (ds:List Int),(∀ d∈ds,0<=d)->∀ d∈EE ds l,0<=d
 |[],_,h=>h
 |r :: l,ds,h=>wK l _ λd hd=>by
  rcases eL.mp hd with hd|hd
  ·exact h d hd
  ·rw[kD.mp hd];exact JT h r
def Fv(l:List Rw):∀ d∈deps l,0<=d:=wK l [] λd hd=>nomatch hd
def Jh{ns:List Int}(h:∀ n∈ns,0<=n):(if ns=[] then 0 else rX ns ns.length)=ED ns:=by
 have go:∀ j,j<ns.length->rX ns (j+1)=ED (ns.take (j+1)):=by
  intro j
  induction j with
  |zero =>
   intro hj
   cases ns with
   |nil=>simp at hj
   |cons n ns =>have:=h n fw;show n=ED [n];simp only[ED,AU,List.foldl_nil];split<;>lia
  |succ j ih =>
   intro hj;rw[xdI hj];simp only[ED,Kk,AU,List.foldl_nil];have e:=ih (by lia);unfold ED at e;rw[<- e];have e2:ns.getD (j+1) 0=ns[j+1]:=by simp[List.getD,hj]
   show(if ns.getD (j+1) 0>rX ns (j+1) then ns.getD (j+1) 0 else rX ns (j+1))=_;rw[e2]
 by_cases h0:ns=[]
 ·subst h0;rfl
 ·rw[if_neg h0];have hl:0<ns.length:=List.length_pos_iff.mpr h0;have:=go (ns.length-1) (by lia);rw[show ns.length-1+1=ns.length by lia,EZ] at this;exact this
def sJ{l:List Rw}{j:Int}(h0:0<=j)(h1:j<l.length):fF ((deps l).map D.int) j=some (.int ((deps l).getD j.toNat 0)):=by
 have hj:j.toNat<(deps l).length:=by rw[jD];lia
 have:=vi (xs:=(deps l).map D.int) (j:=j.toNat) (v:=.int ((deps l).getD j.toNat 0)) (by simp[hj,List.getD]);rwa[mP h0] at this
def BF:∀ {w:Str},(w = "and"\/w = "or")->w ≠ "some"/\w ≠ "all"/\w ≠ "not" := by rintro w (rfl|rfl)<;>decide +kernel
def eK':∀ {w:Str},(w = "some"\/w = "all")->w ≠ "not"/\w ≠ "and"/\w ≠ "or" := by rintro w (rfl|rfl)<;>decide +kernel
def IQ:("not" : Str) ≠ "some"/\("not" : Str) ≠ "all" := by decide +kernel
theorem rw_ok{k:Int}:∀ {r:Rw} (n:Nat),nL k r->fI (n+2) (cw r)=true
 |.st w d j,n,h=>by
  have h1:=h.2.1.ok;have h2:PyData.strOk w=true:=by rcases h.1 with rfl|rfl<;>decide +kernel
  simp[cw,fI,h1,h2]
 |.nt j,n,h=>by
  have h2:PyData.strOk "not" = true:=by decide +kernel
  simp[cw,fI,h2]
 |.jn w ps,n,h=>by
  have h2:PyData.strOk w=true:=by rcases h.1 with rfl|rfl<;>decide +kernel
  simp[cw,fI,h2]
def i_{l:List Rw}(h:eJ l)(n:Nat):fI (n+3) (.list (l.map cw))=true:=by simp only[fI,OU,CY];intro r hr;obtain⟨i,hi⟩:=yT.mp hr;exact rw_ok n (h i r hi)
theorem wQ:∀ l:List Int,rL (l.map D.int)=true
 |[]=>rfl
 |x :: l=>by simp[rL,wQ l,D.nb]
theorem uG:∀ l:List Rw,rL (l.map cw)=true
 |[]=>rfl
 |.st _ _ _ :: l=>by simp[rL,uG l,cw,D.nb]
 |.nt _ :: l=>by simp[rL,uG l,cw,D.nb]
 |.jn _ ps :: l=>by simp[rL,uG l,cw,D.nb,wQ]
def fU(n:Nat):List Int:=(List.range n).map λi=>((i:Nat):Int)
def KH{l:List Int}(h:l.Pairwise (· < ·)):l.Nodup:=h.imp λh=>by lia
def eL'(many:Int)(steps:List iX):Prop:=∀ s∈steps,NW many s
def b8(l:List iX)(s:Int)(d:Str):List Int:=(l.filter λt=>decide (t.1=s) && decide (t.2.1=d)).map (·.2.2)
def u6{l:List iX}{s:Int}{d:Str}{x:Int}:x∈b8 l s d↔(s,d,x)∈l:=by
 unfold b8;rw[fP];constructor
 ·grind
 ·exact λh=>⟨_,E2.mpr ⟨h,by simp⟩,rfl⟩
def Cz(l:List iX)(s:Int)(d:Str):(b8 l s d).length<=l.length:=by unfold b8;rw[dc];exact List.length_filter_le _ _
def EF(l:List iX)(ae:Kn):Prop:=∀ s d,gE ae [.inl s,.inr d]=if b8 l s d=[] then none else some (.list ((b8 l s d).map .int))
def uH(k k':List Key)(x:D):∀ (ae:Kn),gE (oa ae k x) k'=if k'=k then some (match gE ae k with
  |none=>.list [x]
  |some d=>Tx d x) else gE ae k'
 |[]=>by
  rw[oa,bj];by_cases h:k'=k
  ·rw[if_pos h.symm,if_pos h];rfl
  ·grind
 |p :: r=>by
  rw[oa];by_cases e:p.1=k
  ·rw[if_pos e,bj];by_cases h:k'=k
   ·rw[if_pos h,h,bj p r k,if_pos e,if_pos e]
   ·rw[if_neg h,bj p r k',if_neg λz=>h (z.symm.trans e),if_neg λz=>h (z.symm.trans e)]
  ·rw[if_neg e,bj,uH k k' x r];by_cases h:k'=k
   ·rw[if_pos h,h,bj p r k,if_neg e,if_neg e,if_pos rfl]
   ·rw[if_neg h,bj p r k',if_neg h]
theorem yH(k:List Key)(x:D):∀ (ae:Kn),(oa ae k x).length<=ae.length+1
 |[]=>by simp[oa]
 |p :: r=>by have:=yH k x r;rw[oa];split<;>simp only[oi]<;>lia
def EF.nil:EF [] []:=λs d=>rfl
def EF.put{l:List iX}{ae:Kn}(h:EF l ae)(p:Int)(n:Str)(r:Int):EF (l++[(p,n,r)]) (oa ae [.inl p,.inr n] (.int r)):=by
 intro s d;rw[uH];have ee:b8 (l++[(p,n,r)]) s d=b8 l s d++if p=s/\n=d then [r] else []:=by
  unfold b8;congr 1;by_cases e:p=s/\n=d
  ·simp[e.1,e.2]
  ·grind
 by_cases e:p=s/\n=d
 ·rw[if_pos e] at ee;obtain⟨rfl,rfl⟩:=e;rw[ee,if_pos rfl,h p n,if_neg (show ¬ b8 l p n++[r]=[] by simp)];by_cases z:b8 l p n=[]
  ·rw[if_pos z,z];rfl
  ·rw[if_neg z];simp[Tx]
 ·rw[if_neg e,mM] at ee;rw[ee,if_neg λz=>e ?_,h s d];simp only[List.cons.injEq,Sum.inl.injEq,Sum.inr.injEq,and_true] at z;exact⟨z.1.symm,z.2.symm⟩
abbrev Tr:=Int->Bool
def BD(l:List iX)(ts:List Tr):Rw->Tr
 |.st w d j=>λs=>if w = "some" then (b8 l s d).any (ts.getD j.toNat λ_=>false) else (b8 l s d).all (ts.getD j.toNat λ_=>false)
 |.nt j=>λs=>!(ts.getD j.toNat (λ_=>false) s)
 |.jn w ps=>λs=>if w = "and" then ps.all (λp=>ts.getD p.toNat (λ_=>false) s) else ps.any (λp=>ts.getD p.toNat (λ_=>false) s)
def GB(l:List iX):List Tr->List Rw->List Tr
 |ts,[]=>ts
 |ts,r :: rs=>GB l (ts++[BD l ts r]) rs
def oP(l:List iX)(rs:List Rw):List Tr:=GB l [] rs
theorem uE(l:List iX):∀ (a b:List Rw) (ts:List Tr),GB l ts (a++b)=GB l (GB l ts a) b
 |[],_,_=>rfl
 |r :: a,b,ts=>uE l a b (ts++[BD l ts r])
def Dd(l:List iX)(a:List Rw)(r:Rw):oP l (a++[r])=oP l a++[BD l (oP l a) r]:=by unfold oP;rw[uE];rfl
theorem tQ(l:List iX):∀ (rs:List Rw) (ts:List Tr),(GB l ts rs).length=ts.length+rs.length
 |[],ts=>rfl
 |r :: rs,ts=>by rw[GB,tQ l rs,mI,oi,oi,RB];lia
def oF(l:List iX)(rs:List Rw):(oP l rs).length=rs.length:=by unfold oP;rw[tQ];simp
def xA(many:Int)(t:Tr):D:=.list ((fU many.toNat).map λi=>.bl (t i))
def xK{many s:Int}(h0:0<=s)(h1:s<many)(t:Tr):fF ((fU many.toNat).map λi=>D.bl (t i)) s=some (.bl (t s)):=by
 have hs:s.toNat<many.toNat:=by lia
 have:=vi (xs:=(fU many.toNat).map λi=>D.bl (t i)) (by
  rw[ku,fU,ku,Rv hs];show some (D.bl (t s.toNat))=_;rw[mP h0])
 rwa[mP h0] at this
def uQ{many j:Int}{ts:List Tr}(h0:0<=j)(h1:j<ts.length):fF (ts.map (xA many)) j=some (xA many (ts.getD j.toNat λ_=>false)):=by
 have hj:j.toNat<ts.length:=by lia
 have:=vi (v:=xA many (ts.getD j.toNat λ_=>false)) (by
  rw[ku,AO,si hj];rfl)
 rwa[mP h0] at this
def xX{l:List iX}{ae:Kn}(h:EF l ae){s:Int}{d:Str}{n:Md}{Q:Md->D->Prop}(q:∀ m,Q m (.list ((b8 l s d).map .int))):Q5 (gE ae [.inl s,.inr d]) .sh n (.list []) Q:=by
 rw[h s d];by_cases z:b8 l s d=[]
 ·have:=q n;rw[z] at this;rw[if_pos z];exact this
 ·rw[if_neg z];exact q _
def vQ(n:Nat):gF 0 n=(fU n).map D.int:=by unfold gF fU;rw[lP];exact GV λi _=>by simp
def yj(x:Int){m:Int}(h:0<m):0<=x % m/\x % m<m:=⟨w_ _ (by lia),xI _ h⟩
def xO{a b:Int}(h0:-1000<=b)(h1:b<=10000000000):HL a b:=.inr ⟨by lia,by lia⟩
def wy{a b:Int}(h0:-1000<=a)(h1:a<=10000000000):HL a b:=.inl ⟨by lia,by lia⟩
def ren(f:Int->Int):Rw->Rw
 |.st w d j=>.st w d (f j)
 |.nt j=>.nt (f j)
 |.jn w ps=>.jn w (ps.map f)
def ft:Rw->List RI
 |.st w d j=>[.inl (.inr w),.inl (.inr d),.inl (.inl j)]
 |.nt j=>[.inl (.inr "not"),.inl (.inl j)]
 |.jn w ps=>[.inl (.inr w),.inr (ps.map Sum.inl)]
theorem vB:∀ r:Rw,oy (ft r)=cw r
 |.st _ _ _=>rfl
 |.nt _=>rfl
 |.jn _ ps=>by simp[oy,ft,cw,yv,md,Function.comp_def]
theorem HJ:∀ {x y:Rw},ft x=ft y->x=y
 |.st _ _ _,.st _ _ _,h=>by simp[ft] at h;obtain⟨rfl,rfl,rfl⟩:=h;rfl
 |.nt _,.nt _,h=>by simp[ft] at h;rw[h]
 |.jn _ ps,.jn _ qs,h=>by simp[ft] at h;obtain⟨rfl,h⟩:=h;have:ps=qs:=map_inj (λ_ _ z=>Sum.inl.inj z) h;rw[this]
 |.st _ _ _,.nt _,h=>by simp[ft] at h
 |.st _ _ _,.jn _ _,h=>by simp[ft] at h
 |.nt _,.st _ _ _,h=>by simp[ft] at h
 |.nt _,.jn _ _,h=>by simp[ft] at h
 |.jn _ _,.st _ _ _,h=>by simp[ft] at h
 |.jn _ _,.nt _,h=>by simp[ft] at h
theorem dF{k:Int}:∀ {r:Rw},nL k r->∀ j∈qk r,0<=j/\j<k
 |.st _ _ _,h,j,hj=>by rw[kD.mp hj];exact h.2.2
 |.nt _,h,j,hj=>by rw[kD.mp hj];exact h
 |.jn _ _,h,j,hj=>h.2.2 j hj
theorem qz{k k':Int}{f:Int->Int}:∀ {r:Rw},nL k r->(∀ j∈qk r,0<=f j/\f j<k')->nL k' (ren f r)
 |.st _ _ _,h,g=>⟨h.1,h.2.1,g _ (kD.mpr rfl)⟩
 |.nt _,h,g=>g _ (kD.mpr rfl)
 |.jn _ _,h,g=>⟨h.1,by simpa[ren] using h.2.1,λp hp=>by
  obtain⟨j,hj,rfl⟩:=fP.mp hp;exact g j hj⟩
def z9(num:D)(f:Int->Int)(j:Int):Prop:=(∃ ns:List Int,num=.list (ns.map .int)/\0<=j/\ns[j.toNat]? = some (f j))\/∃ ae:List (Key × D),num=.dK ae/\gE ae (Sum.inl j:Key)=some (.int (f j))
def AG(W:List Int)(j:Int):List Int:=if j∈W then W else W++[j]
def lJ(l:List Rw)(W:List Int)(k:Int):List Int:=if k∈W then (match l[k.toNat]? with
 |some r=>(qk r).foldl AG W
 |none=>W) else W
def d7(last:Nat):List Int:=(List.range (last+1)).map λi:Nat=>(last:Int)-(i:Int)
def vN(l:List Rw)(last:Nat):List Int:=(d7 last).foldl (lJ l) [(last:Int)]
def bh(l:List Rw)(last:Nat):List Int:=((List.range (last+1)).map λi:Nat=>(i:Int)).filter λk=>decide (k∈vN l last)
def Ed{W:List Int}{j x:Int}:x∈AG W j↔x∈W\/x=j:=by
 unfold AG;split
 ·grind
 ·simp
theorem dG{x:Int}:∀ (js W:List Int),x∈js.foldl AG W↔x∈W\/x∈js
 |[],W=>by simp
 |j :: js,W=>by rw[AU,dG js,Ed,fm,or_assoc]
def Ju{W:List Int}{j:Int}(h:W.Nodup):(AG W j).Nodup:=by
 unfold AG;split
 ·exact h
 ·grind
theorem rO:∀ (js W:List Int),W.Nodup->(js.foldl AG W).Nodup
 |[],_,h=>h
 |j :: js,W,h=>rO js _ (Ju h)
def zL{W:List Int}(nd:W.Nodup){n:Nat}(h:∀ x∈W,0<=x/\x<n):W.length<=n:=by
 have:(W.map Int.toNat).Nodup:=Rp.mpr (AR.mpr (List.Pairwise.imp_of_mem (λ{a b} ha hb e z=>e (by have:=h a ha;have:=h b hb;lia)) (Rp.mp nd)));have:=this.length_le_of_subset (l₂:=List.range n) λx hx=>by grind
 simpa using this
structure v9(l:List Rw)(last:Nat)(m:Int)(W:List Int):Prop where
 nd:W.Nodup
 lst:(last:Int)∈W
 bd:∀ k∈W,0<=k/\k<=last
 cl:∀ k∈W,m<=k->∀ r,l[k.toNat]? = some r->∀ j∈qk r,j∈W
def v9.step{l:List Rw}{last:Nat}{k:Int}{W:List Int}(sc:eJ l)(k0:0<=k)(h:v9 l last (k+1) W):v9 l last k (lJ l W k):=by
 unfold lJ;by_cases hk:k∈W
 ·rw[if_pos hk]
  cases e:l[k.toNat]? with
  |none =>
   refine⟨h.nd,h.lst,h.bd,λx hx hm r hr j hj=>?_⟩;by_cases z:x=k
   ·grind
   ·grind
  |some r0 =>
   have ok:=sc _ _ e;have dl:=dF ok;refine⟨rO _ _ h.nd,(dG _ _).mpr (.inl h.lst),λx hx=>?_,λx hx hm r hr j hj=>?_⟩
   ·rcases (dG _ _).mp hx with z|z
    ·exact h.bd x z
    ·have:=dl x z;have:=h.bd k hk;lia
   ·rcases (dG _ _).mp hx with z|z
    ·by_cases q:x=k
     ·rw[q,e] at hr;cases hr;exact(dG _ _).mpr (.inr hj)
     ·exact(dG _ _).mpr (.inl (h.cl x z (by lia) r hr j hj))
    ·have:=dl x z;lia
 ·rw[if_neg hk];refine⟨h.nd,h.lst,h.bd,λx hx hm r hr j hj=>?_⟩;by_cases z:x=k
  ·grind
  ·exact h.cl x hx (by lia) r hr j hj
theorem kY{l:List Rw}{last:Nat}(sc:eJ l):∀ i,i<=last+1->v9 l last ((last:Int)+1-i) (((d7 last).take i).foldl (lJ l) [(last:Int)])
 |0,_=>⟨by simp,by simp,λk hk=>by rw[kD.mp hk];lia,λk hk hm=>by rw[kD.mp hk] at hm;lia⟩
 |i+1,hi=>by
  have ih:=kY (last:=last) sc i (by lia);have e:(d7 last).take (i+1)=(d7 last).take i++[(last:Int)-i]:=by rw[AQ];unfold d7;rw[ku,Rv (by lia)];rfl
  rw[e,Kk,AU,List.foldl_nil];have:=v9.step (k:=last-i) sc (by lia) (by rw[show last-i+1=(last:Int)+1-i by lia];exact ih);rw[show last+1-((i+1:Nat):Int)=last-i by lia];exact this
def gU{l:List Rw}{last:Nat}(sc:eJ l):v9 l last 0 (vN l last):=by have:=kY sc (last+1) (de _);rw[OQ (by simp[d7]),show last+1-((last+1:Nat):Int)=0 by lia] at this;exact this
def g8{l:List Rw}{last:Nat}(sc:eJ l){k:Int}:k∈bh l last↔k∈vN l last:=by unfold bh;rw[E2,decide_eq_true_iff];refine⟨λh=>h.2,λh=>⟨?_,h⟩⟩;have:=(gU sc).bd k h;exact fP.mpr ⟨k.toNat,wo.mpr (by lia),by lia⟩
def iK{l:List Rw}{last:Nat}:(bh l last).Pairwise (· < ·):=by refine List.Pairwise.filter _ (AR.mpr ?_);exact List.pairwise_lt_range.imp λh=>by lia
def NX(l:List Rw)(last:Nat)(k:Int):Int:=((bh l last).idxOf k:Nat)
def V5(l:List Rw)(k:Int):Rw:=(l[k.toNat]?).getD (.nt 0)
def oQ(l:List Rw)(last:Nat):List Rw:=(bh l last).map λk=>ren (NX l last) (V5 l k)
def bY{l:List Int}(nd:l.Nodup){i:Nat}{k:Int}(h:l[i]? = some k):l.idxOf k=i:=by grind
def eU(l:List Rw)(last:Nat):(bh l last).Nodup:=(iK).imp λh=>by lia
def gn{l:List Rw}{last:Nat}(sc:eJ l){k:Int}(h:k∈bh l last):0<=k/\k<=last:=(gU sc).bd k ((g8 sc).mp h)
def zc{l:List Rw}{last:Nat}(sc:eJ l){k:Int}(h:k∈bh l last){r:Rw}(hr:l[k.toNat]? = some r):∀ j∈qk r,j∈bh l last:=λj hj=>(g8 sc).mpr ((gU sc).cl k ((g8 sc).mp h) (gn sc h).1 r hr j hj)
def Dq{l:List Int}(pw:l.Pairwise (· < ·)){i:Nat}{j k:Int}(hk:l[i]? = some k)(hj:j∈l)(h:j<k):l.idxOf j<i:=by
 obtain⟨m,hm⟩:=yT.mp hj;have nd:l.Nodup:=pw.imp λh=>by lia
 rw[bY nd hm];by_cases z:m<i
 ·exact z
 ·obtain⟨hi,ei⟩:=kM.mp hk;obtain⟨QF,em⟩:=kM.mp hm;by_cases q:m=i
  ·subst q;lia
  ·have:=Ki.mp pw i m hi QF (by lia);lia
def AH:Rw->Bool
 |.nt _=>true
 |_=>false
def IU (w:Str):Str:=if w = "some" then "all" else if w = "all" then "some" else if w = "and" then "or" else "and"
def opp:Rw->Rw
 |.st w d j=>.st (IU w) d j
 |.nt j=>.nt j
 |.jn w ps=>.jn (IU w) ps
structure Sm(α:Type) where
 H:Rw->(Int->α)->α
 z:α
 ng:α->α
 nn:∀ a,ng (ng a)=a
 cg:∀ {r:Rw} {g g':Int->α},(∀ j∈qk r,g j=g' j)->H r g=H r g'
 rn:∀ (f:Int->Int) (r:Rw) (g:Int->α),H (ren f r) g=H r fun j=>g (f j)
 nt:∀ (j:Int) (g:Int->α),H (.nt j) g=ng (g j)
 op:∀ {k:Int} {r:Rw} (g:Int->α),nL k r->AH r=false->H (opp r) (fun j=>ng (g j))=ng (H r g)
section
variable {α:Type}(S:Sm α)
def Sm.vals(l:List Rw):List α:=l.foldl (λv r=>v++[S.H r λj=>v.getD j.toNat S.z]) []
def Sm.at(l:List Rw)(k:Int):α:=(S.vals l).getD k.toNat S.z
def Bl(l:List Rw)(r:Rw):S.vals (l++[r])=S.vals l++[S.H r (S.at l)]:=by unfold Sm.vals;rw[Kk];rfl
def Bo(l:List Rw):∀ m:List Rw,∃ w,S.vals (l++m)=S.vals l++w:=by
 intro m;unfold Sm.vals;rw[Kk];generalize l.foldl (λv r=>v++[S.H r λj=>v.getD j.toNat S.z]) []=v
 induction m generalizing v with
 |nil=>exact⟨[],by simp⟩
 |cons r m ih =>obtain⟨w,e⟩:=ih (v++[S.H r λj=>v.getD j.toNat S.z]);exact⟨_ :: w,by rw[AU,e,ui];rfl⟩
def nW(l:List Rw):(S.vals l).length=l.length:=by
 unfold Sm.vals;suffices h:∀ (l:List Rw) v,(l.foldl (λv r=>v++[S.H r λj=>v.getD j.toNat S.z]) v).length=v.length+l.length by simpa using h l []
 intro l
 induction l with
 |nil=>intro v;rfl
 |cons r l ih=>intro v;rw[AU,ih];simp;lia
def gO{l m:List Rw}{k:Int}(h:k.toNat<l.length):S.at (l++m) k=S.at l k:=by obtain⟨w,e⟩:=Bo S l m;unfold Sm.at;rw[e,AO,AO,EW (by rw[nW];exact h)]
def pW{l:List Rw}(sc:eJ l){k:Nat}{r:Rw}(h:l[k]? = some r):S.at l k=S.H r (S.at l):=by
 obtain⟨hk,e⟩:=kM.mp h;have el:l=(l.take k++[r])++l.drop (k+1):=by have:=Kb hk;rw[e] at this;rw[ui,List.singleton_append,<- this,Rt]
 have tl:(l.take k).length=k:=by rw[nV];lia
 have e1:S.at l k=S.at (l.take k++[r]) k:=by
  conv=>lhs;rw[el]
  exact gO S (by simp;lia)
 rw[e1];unfold Sm.at;rw[Bl,AO,EV (by rw[nW];simp;lia)];rw[nW,tl];simp only[KG,Nat.sub_self];refine S.cg λj hj=>?_;have:=dF (sc k r h) j hj;conv=>rhs;rw[el,ui]
 exact(gO S (by rw[tl];lia)).symm
end
def qO{l:List Rw}{last:Nat}(sc:eJ l):(last:Int)∈bh l last:=(g8 sc).mpr (gU sc).lst
def H_{l:List Rw}{last i:Nat}{k:Int}(h:(bh l last)[i]? = some k):NX l last k=i:=by unfold NX;rw[bY (eU l last) h]
def y_{l:List Rw}{last:Nat}(sc:eJ l)(hl:last<l.length){i:Nat}{r:Rw}(h:(oQ l last)[i]? = some r):∃ k r0,(bh l last)[i]? = some k/\l[k.toNat]? = some r0/\nL k r0/\r=ren (NX l last) r0/\∀ j∈qk r0,∃ m:Nat,m<i/\(bh l last)[m]? = some j:=by
 unfold oQ at h;rw[ku] at h
 cases e:(bh l last)[i]? with
 |none=>rw[e] at h;cases h
 |some k =>
  rw[e] at h;cases h;have hk:=pf e;obtain⟨k0,k1⟩:=gn sc hk;have IH:k.toNat<l.length:=by lia
  have hr:l[k.toNat]? = some (V5 l k):=by unfold V5;rw[si IH];rfl
  have ok:=sc _ _ hr;rw[mP k0] at ok;refine⟨k,_,rfl,hr,ok,rfl,λj hj=>?_⟩;have TL:=zc sc hk hr j hj;have lt:=Dq iK e TL (dF ok j hj).2;obtain⟨m,hm⟩:=yT.mp TL;rw[bY (eU l last) hm] at lt;exact⟨m,lt,hm⟩
def Dv{l:List Rw}{last:Nat}(sc:eJ l)(hl:last<l.length):eJ (oQ l last):=λi r h=>by obtain⟨k,r0,_,_,ok,rfl,hd⟩:=y_ sc hl h;refine qz ok λj hj=>?_;obtain⟨m,hm,e⟩:=hd j hj;rw[H_ e];lia
def oJ(l:List Rw)(last:Nat):(oQ l last).length=(bh l last).length:=by unfold oQ;rw[dc]
def Gv{α:Type}(S:Sm α){l:List Rw}{last:Nat}(sc:eJ l)(hl:last<l.length):∀ (i:Nat) (k:Int),(bh l last)[i]? = some k->S.at (oQ l last) i=S.at l k:=by
 intro i
 induction i using Nat.strongRecOn with
 |ind i ih =>
  intro k h;have hi:i<(oQ l last).length:=by rw[oJ];exact(kM.mp h).1
  obtain⟨k',r0,e1,e2,ok,er,hd⟩:=y_ sc hl (si hi);rw[h] at e1;cases e1;have k0:=(gn sc (pf h)).1;rw[pW S (Dv sc hl) (si hi),er,S.rn];have:S.at l k=S.H r0 (S.at l):=by have:=pW S sc e2;rwa[mP k0] at this
  rw[this];refine S.cg λj hj=>?_;obtain⟨m,hm,e⟩:=hd j hj;rw[H_ e];exact ih m hm j e
def Ck{l:List Rw}{last:Nat}(sc:eJ l):(bh l last)[(bh l last).length-1]? = some (last:Int):=by
 obtain⟨m,hm⟩:=yT.mp (qO sc);obtain⟨h1,h2⟩:=kM.mp hm;by_cases z:m=(bh l last).length-1
 ·rw[<- z];exact hm
 ·have h3:(bh l last).length-1<(bh l last).length:=by lia
  have:=Ki.mp (iK) m _ h1 h3 (by lia);have:=(gn sc (Ud h3)).2;lia
def Bc{l:List Rw}{last:Nat}(sc:eJ l):1<=(bh l last).length:=T9 (qO sc)
def Ah{α:Type}(S:Sm α){l:List Rw}{last:Nat}(sc:eJ l)(hl:last<l.length):S.at (oQ l last) (((oQ l last).length-1:Nat):Int)=S.at l last:=by have:=Gv S sc hl _ _ (Ck sc);rw[oJ];exact this
def Ct(x y:Rw):Bool:=decide (ft y=ft x)
def putF(rs:List Rw)(x:Rw):List Rw × Int:=if rs.any (Ct x)=true then (rs,(rs.findIdx (Ct x):Nat)) else (rs++[x],(rs.length:Nat))
def tL{rs:List Rw}{x:Rw}:rs.any (Ct x)=true↔ft x∈rs.map ft:=by rw[Ue,fP];exact⟨λ⟨y,hy,e⟩=>⟨y,hy,of_decide_eq_true e⟩,λ⟨y,hy,e⟩=>⟨y,hy,decide_eq_true e⟩⟩
def EG(s:List Rw × List Int × List Int)(r:Rw):List Rw × List Int × List Int:=match r with
 |.nt j=>(s.1,s.2.1++[s.2.2.getD j.toNat 0],s.2.2++[s.2.1.getD j.toNat 0])
 |r =>
  let p := putF s.1 (ren (λj => s.2.1.getD j.toNat 0) r)
  let q := putF p.1 (opp (ren (λj => s.2.2.getD j.toNat 0) r))
  (q.1,s.2.1++[p.2],s.2.2++[q.2])
def lh(l:List Rw):List Rw × List Int × List Int:=l.foldl EG ([],[],[])
def ll(l:List Rw):List Rw:=oQ (lh l).1 ((lh l).2.1.getD (l.length-1) 0).toNat
def tV(l:List Rw)(r:Rw):lh (l++[r])=EG (lh l) r:=by unfold lh;rw[Kk];rfl
def yR{rs:List Rw}{x:Rw}(nd:(rs.map ft).Nodup)(sc:eJ rs)(ok:nL rs.length x):((putF rs x).1.map ft).Nodup/\eJ (putF rs x).1/\(putF rs x).1[(putF rs x).2.toNat]? = some x/\0<=(putF rs x).2/\(putF rs x).2<(putF rs x).1.length/\(∃ m,(putF rs x).1=rs++m/\∀ r∈m,r=x)/\(putF rs x).1.length<=rs.length+1:=by
 unfold putF;by_cases h:rs.any (Ct x)=true
 ·rw[if_pos h];have hl:rs.findIdx (Ct x)<rs.length:=List.findIdx_lt_length.mpr (Ue.mp h);have e:Ct x rs[rs.findIdx (Ct x)]=true:=List.findIdx_getElem;refine⟨nd,sc,?_,Int.natCast_nonneg _,by simpa using hl,⟨[],by simp,λ_ z=>nomatch z⟩,by simp⟩;simp only[KG];rw[si hl,HJ (of_decide_eq_true e)]
 ·rw[if_neg h];refine⟨?_,sc.app ok,by simp,Int.natCast_nonneg _,by simp;lia,⟨[x],rfl,λr z=>kD.mp z⟩,by simp⟩;rw[pz];exact gV.mpr ⟨nd,by simp,λa ha b hb e=>h (tL.mpr (by
   have hb:b=ft x:=by simpa using hb
   rw[<- hb,<- e];exact ha))⟩
def Dk{rs:List Rw}{x:Rw}{eS:List (List RI)}{k:Nat}(nd:(rs.map ft).Nodup)(h:ft x∈rs.map ft/\eS=rs.map ft\/ft x∉rs.map ft/\eS=rs.map ft++[ft x])(hk:eS[k]? = some (ft x)):eS=(putF rs x).1.map ft/\(k:Int)=(putF rs x).2:=by
 unfold putF;rcases h with⟨m,rfl⟩|⟨m,rfl⟩
 ·rw[if_pos (tL.mpr m)];refine⟨rfl,?_⟩;obtain⟨h1,h2⟩:=kM.mp hk;have hl:rs.findIdx (Ct x)<rs.length:=List.findIdx_lt_length.mpr (Ue.mp (tL.mpr m));have e:Ct x rs[rs.findIdx (Ct x)]=true:=List.findIdx_getElem;have e2:(rs.map ft)[rs.findIdx (Ct x)]'(by rw[dc];exact hl)=(rs.map ft)[k]:=by rw[h2,List.getElem_map];exact of_decide_eq_true e
  have:=(Ww nd).mp e2;lia
 ·rw[if_neg (λz=>m (tL.mp z))];refine⟨by simp,?_⟩;by_cases z:k<(rs.map ft).length
  ·grind
  ·grind
theorem Dh{k:Int}:∀ {r:Rw},nL k r->AH r=false->nL k (opp r)/\AH (opp r)=false
 |.st w d j,h,_=>by
  refine⟨⟨?_,h.2⟩,rfl⟩;rcases h.1 with rfl|rfl
  ·exact .inr (by decide +kernel)
  ·exact .inl (by decide +kernel)
 |.jn w ps,h,_=>by
  refine⟨⟨?_,h.2⟩,rfl⟩;rcases h.1 with rfl|rfl
  ·exact .inr (by decide +kernel)
  ·exact .inl (by decide +kernel)
theorem uF(f:Int->Int):∀ r:Rw,AH (ren f r)=AH r
 |.st _ _ _=>rfl
 |.nt _=>rfl
 |.jn _ _=>rfl
structure CB(l rs:List Rw)(sa tu:List Int):Prop where
 nd:(rs.map ft).Nodup
 sc:eJ rs
 nn:∀ r∈rs,AH r=false
 ls:sa.length=l.length
 lt:tu.length=l.length
 bs:∀ i,i<l.length->0<=sa.getD i 0/\sa.getD i 0<rs.length
 bt:∀ i,i<l.length->0<=tu.getD i 0/\tu.getD i 0<rs.length
 len:rs.length<=2*l.length
 va:∀ (α:Type) (S:Sm α) (i:Nat),i<l.length->S.at rs (sa.getD i 0)=S.at l i/\S.at rs (tu.getD i 0)=S.ng (S.at l i)
def jA{α:Type}{l:List α}{x d:α}{i:Nat}(h:i<l.length+1):(l++[x]).getD i d=if i<l.length then l.getD i d else x:=by grind
def CB.step{l rs:List Rw}{sa tu:List Int}{r:Rw}(h:CB l rs sa tu)(sc:eJ (l++[r])):CB (l++[r]) (EG (rs,sa,tu) r).1 (EG (rs,sa,tu) r).2.1 (EG (rs,sa,tu) r).2.2:=by
 have TH:nL l.length r:=sc l.length r (by simp);have dl:=dF TH
 -- what the new row says
 have vr:∀ α (S:Sm α),S.at (l++[r]) l.length=S.H r (S.at l):=λα S=>by have:=pW S sc (k:=l.length) (r:=r) (by simp);rw[this];exact S.cg λj hj=>gO S (by have:=dl j hj;lia)
 have vo:∀ α (S:Sm α) i,i<l.length->S.at (l++[r]) i=S.at l i:=λα S i hi=>gO S (by simpa using hi);have fin:∀ eS (a b:Int),(eS.map ft).Nodup->eJ eS->(∀ r∈eS,AH r=false)->eS.length<=2*(l.length+1)->(∃ m,eS=rs++m)->(0<=a/\a<eS.length)->(0<=b/\b<eS.length) -> (∀ α (S:Sm α),S.at eS a=S.H r (S.at l)/\S.at eS b=S.ng (S.H r (S.at l)))->CB (l++[r]) eS (sa++[a]) (tu++[b]):=by
  rintro eS a b nd' IX nn' nz' ⟨m,rfl⟩ ha hb hv;refine⟨nd',IX,nn',by simp[h.ls],by simp[h.lt],λi hi=>?_,λi hi=>?_,by simpa using nz',λα S i hi=>?_⟩
  ·rw[mI,Kj] at hi;rw[jA (by rw[h.ls];exact hi)];split
   ·rename_i z;have:=h.bs i (by rw[<- h.ls];exact z);rw[mI];lia
   ·exact ha
  ·rw[mI,Kj] at hi;rw[jA (by rw[h.lt];exact hi)];split
   ·rename_i z;have:=h.bt i (by rw[<- h.lt];exact z);rw[mI];lia
   ·exact hb
  ·rw[mI,Kj] at hi;rw[jA (by rw[h.ls];exact hi),jA (by rw[h.lt];exact hi),h.ls,h.lt];by_cases z:i<l.length
   ·rw[if_pos z,if_pos z,vo α S i z];have b1:=h.bs i z;have b2:=h.bt i z;rw[gO S (by lia),gO S (by lia)];exact h.va α S i z
   ·rw[if_neg z,if_neg z,show i=l.length by lia,vr];exact hv α S
 have num:∀ j∈qk r,j.toNat<l.length:=λj hj=>by have:=dl j hj;lia
 have full:AH r=false->CB (l++[r]) (putF (putF rs (ren (λj=>sa.getD j.toNat 0) r)).1 (opp (ren (λj=>tu.getD j.toNat 0) r))).1 (sa++[(putF rs (ren (λj=>sa.getD j.toNat 0) r)).2]) (tu++[(putF (putF rs (ren (λj=>sa.getD j.toNat 0) r)).1 (opp (ren (λj=>tu.getD j.toNat 0) r))).2]):=λhn=>by
  have V6:nL rs.length (ren (λj=>sa.getD j.toNat 0) r):=qz TH λj hj=>h.bs _ (num j hj);obtain⟨p1,p2,p3,p4,p5,⟨m1,p6,p7⟩,p8⟩:=yR h.nd h.sc V6;generalize hp:putF rs (ren (λj=>sa.getD j.toNat 0) r)=P at *
  have V7:nL P.1.length (ren (λj=>tu.getD j.toNat 0) r):=qz TH λj hj=>by have:=h.bt _ (num j hj);rw[p6,mI];lia
  have DU:AH (ren (λj=>tu.getD j.toNat 0) r)=false:=by rw[uF];exact hn
  obtain⟨ok3,hn3⟩:=Dh V7 DU;obtain⟨q1,q2,q3,q4,q5,⟨m2,q6,q7⟩,q8⟩:=yR p1 p2 ok3;generalize hq:putF P.1 (opp (ren (λj=>tu.getD j.toNat 0) r))=R' at *
  refine fin R'.1 P.2 R'.2 q1 q2 (λx hx=>?_) (by have:=h.len;lia) ⟨m1++m2,by rw[q6,p6,ui]⟩ ⟨p4,by rw[q6,mI];lia⟩ ⟨q4,q5⟩ λα S=>⟨?_,?_⟩
  ·rw[q6,p6] at hx;rcases eL.mp hx with z|z
   ·rcases eL.mp z with z|z
    ·exact h.nn x z
    ·rw[p7 x z,uF];exact hn
   ·rw[q7 x z];exact hn3
  ·have e1:=pW S p2 p3;rw[mP p4] at e1;rw[q6,gO S (by lia),e1,S.rn];refine S.cg λj hj=>?_;have b:=h.bs _ (num j hj);rw[p6,gO S (by lia)];have:=(h.va α S _ (num j hj)).1;rw[this,mP (dl j hj).1]
  ·have e1:=pW S q2 q3;rw[mP q4] at e1;rw[e1];have e2:S.H (opp (ren (λj=>tu.getD j.toNat 0) r)) (S.at R'.1)=S.H (opp (ren (λj=>tu.getD j.toNat 0) r)) (λj=>S.ng (S.ng (S.at R'.1 j))):=S.cg λj _=>(S.nn _).symm;rw[e2,S.op (λj=>S.ng (S.at R'.1 j)) V7 DU,S.rn];congr 1;refine S.cg λj hj=>?_;have b:=h.bt _ (num j hj);rw[q6,p6,ui,gO S (by lia)];have:=(h.va α S _ (num j hj)).2;rw[this,S.nn,mP (dl j hj).1]
 cases r with
 |nt j =>
  have hj:=dl j (kD.mpr rfl);have SJ:j.toNat<l.length:=by lia
  refine fin rs _ _ h.nd h.sc h.nn (by have:=h.len;lia) ⟨[],by simp⟩ (h.bt _ SJ) (h.bs _ SJ) λα S=>?_;have:=h.va α S _ SJ;rw[S.nt,S.nn,this.1,this.2,mP hj.1];exact⟨rfl,rfl⟩
 |st w d j=>exact full rfl
 |jn w ps=>exact full rfl
def CB.nil:CB [] [] [] []:=⟨nv,eJ.nil,(λ_ h=>nomatch h),rfl,rfl,(λi h=>nomatch h),(λi h=>nomatch h),fR _,λα S i h=>nomatch h⟩
theorem nQ{l:List Rw}(sc:eJ l):∀ i,i<=l.length->CB (l.take i) (lh (l.take i)).1 (lh (l.take i)).2.1 (lh (l.take i)).2.2
 |0,_=>CB.nil
 |i+1,hi=>by have ih:=nQ sc i (by lia);have e:l.take (i+1)=l.take i++[l[i]]:=xdI (by lia);have IX:=sc.take (i+1);rw[e] at IX ⊢;rw[tV];exact ih.step IX
def Dl{l:List Rw}(sc:eJ l):CB l (lh l).1 (lh l).2.1 (lh l).2.2:=by have:=nQ sc l.length (de _);rwa[EZ] at this
def qU{l:List Rw}(sc:eJ l)(h1:1<=l.length):eJ (ll l)/\(∀ r∈ll l,AH r=false)/\1<=(ll l).length/\(ll l).length<=2*l.length/\∀ (α:Type) (S:Sm α),S.at (ll l) (((ll l).length-1:Nat):Int)=S.at l ((l.length-1:Nat):Int):=by
 have W:=Dl sc;obtain⟨b0,b1⟩:=W.bs (l.length-1) (by lia);have hl:((lh l).2.1.getD (l.length-1) 0).toNat<(lh l).1.length:=by lia
 refine⟨Dv W.sc hl,λr hr=>?_,?_,?_,λα S=>?_⟩
 ·obtain⟨i,hi⟩:=yT.mp hr;obtain⟨k,r0,_,e,_,rfl,_⟩:=y_ W.sc hl hi;rw[uF];exact W.nn r0 (pf e)
 ·unfold ll;rw[oJ];exact Bc W.sc
 ·unfold ll;rw[oJ];refine kL (zL (eU _ _) λx hx=>?_) W.len;have:=gn W.sc hx;lia
 ·unfold ll;rw[Ah S W.sc hl,mP b0];exact(W.va α S (l.length-1) (by lia)).1
def getD_at{l:List Int}{n:Nat}(h:n<l.length):l[n]? = some (l.getD n 0):=by rw[AO,si h];rfl
def TN(f:Int->Bool):D->Bool
 |.int o=>f o
 |_=>false
def jB(f:Int->Bool)(l:List Int):((l.map D.int).filter (TN f)).map id=(l.filter f).map .int:=by rw[List.map_id,List.filter_map];rfl
def xW(f:Int->Bool)(l:List Int):decide ((0:Int)<((l.filter f).length:Nat))=l.any f:=by
 rw[y1,decide_eq_true_iff,Ue];constructor
 ·intro h;obtain⟨x,hx⟩:=List.exists_mem_of_length_pos (l:=l.filter f) (by lia);exact⟨x,(E2.mp hx).1,(E2.mp hx).2⟩
 ·rintro⟨x,hx,e⟩;have:=T9 (E2.mpr ⟨hx,e⟩);lia
def yz(f:Int->Bool)(l:List Int):decide (((l.filter λx=>!f x).length:Nat)=(0:Int))=l.all f:=by
 rw[y1,decide_eq_true_iff,CY];constructor
 ·intro h x hx;have h:(l.filter λx=>!f x).length=0:=by lia
  cases e:f x with
  |true=>rfl
  |false =>have:=T9 (E2 (p:=λx=>!f x).mpr ⟨hx,show(!f x)=true by rw[e];rfl⟩);lia
 ·intro h;have:l.filter (λx=>!f x)=[]:=List.filter_eq_nil_iff.mpr λx hx=>by rw[h x hx];decide
  rw[this];rfl
def jy{b:Bool}{P R:Prop}(h1:b=true->P)(h2:b=false->R):if b=true then P else R:=by cases b<;>simp_all
def zf{w a b:Str}:inD (.str w) [.str a,.str b]=(decide (w=a) || decide (w=b)):=by
 unfold inD;rw[Dx,Dx,List.any_nil,Bool.or_false];have:∀ x:Str,nK (.str x) (.str w)=decide (w=x):=λx=>by rw[y1,nO _ _ rfl rfl,decide_eq_true_iff];exact⟨λz=>by cases z;rfl,λz=>by rw[z]⟩
 rw[this,this]
def eN'{α:Type}{l:List α}{d:α}(f:α->D)(h:1<=l.length):fF (l.map f) (-1)=some (f (l.getD (l.length-1) d)):=by
 have i6:l≠[]:=λz=>by rw[z] at h;simp at h
 have e:l=l.dropLast++[l.getD (l.length-1) d]:=by rw[AO,<- List.getLast?_eq_getElem?,xdS i6];exact(List.dropLast_concat_getLast i6).symm
 conv=>lhs;rw[e]
 rw[pz];exact ck' _ _
def Rc(l:List iX):Sm Tr where
 H:=λr g=>match r with
  |.st w d j=>λs=>if w = "some" then (b8 l s d).any (g j) else (b8 l s d).all (g j)
  |.nt j=>λs=>!(g j s)
  |.jn w ps=>λs=>if w = "and" then ps.all (λp=>g p s) else ps.any (λp=>g p s)
 z:=λ_=>false
 ng:=λt s=>!t s
 nn:=λa=>by funext s;simp
 cg:=λ{r g g'} h=>by
  cases r with
  |st w d j=>simp only[h j (kD.mpr rfl)]
  |nt j=>simp only[h j (kD.mpr rfl)]
  |jn w ps =>
   funext s;have e:∀ p∈ps,g p s=g' p s:=λp hp=>by rw[h p hp]
   simp only;rw[y1];split
   ·grind
   ·grind
 rn:=λf r g=>by
  cases r with
  |st w d j=>rfl
  |nt j=>rfl
  |jn w ps=>funext s;simp[ren,OU,List.any_map,Function.comp_def]
 nt:=λj g=>rfl
 op:=λ{k r} g ok hn=>by
  cases r with
  |nt j=>cases hn
  |st w d j =>
   funext s;have e1:IU "some" = "all" := by decide +kernel
   have e2:IU "all" = "some" := by decide +kernel
   have n1:("all" : Str) ≠ "some" := by decide +kernel
   rcases ok.1 with rfl|rfl
   ·simp only[opp,e1,if_neg n1,if_true];rw[List.all_eq_not_any_not];simp
   ·simp only[opp,e2,if_neg n1,if_true];rw[List.any_eq_not_all_not];simp
  |jn w ps =>
   funext s;have e1:IU "and" = "or" := by decide +kernel
   have e2:IU "or" = "and" := by decide +kernel
   have n1:("or" : Str) ≠ "and" := by decide +kernel
   rcases ok.1 with rfl|rfl
   ·simp only[opp,e1,if_neg n1,if_true];rw[List.any_eq_not_all_not];simp
   ·simp only[opp,e2,if_neg n1,if_true];rw[List.all_eq_not_any_not];simp
def um(l:List iX)(rs:List Rw):(Rc l).vals rs=oP l rs:=by
 suffices h:∀ v:List Tr,rs.foldl (λv r=>v++[(Rc l).H r λj=>v.getD j.toNat (Rc l).z]) v=GB l v rs from h []
 induction rs with
 |nil=>exact λ_=>rfl
 |cons r rs ih =>
  intro v;rw[AU,ih];have:BD l v r=(Rc l).H r λj=>v.getD j.toNat (Rc l).z:=by cases r<;>rfl
  rw[GB,this]
def Rf:Sm Int where
 H:=λr g=>match r with
  |.st _ _ j=>g j+1
  |.nt j=>g j
  |.jn _ ps=>ED (ps.map g)
 z:=0
 ng:=id
 nn:=λ_=>rfl
 cg:=λ{r g g'} h=>by
  cases r with
  |st w d j=>simp only[h j (kD.mpr rfl)]
  |nt j=>simp only[h j (kD.mpr rfl)]
  |jn w ps=>exact congrArg ED (GV h)
 rn:=λf r g=>by
  cases r with
  |st w d j=>rfl
  |nt j=>rfl
  |jn w ps=>simp[ren,Function.comp_def]
 nt:=λj g=>rfl
 op:=λ{k r} g ok hn=>by
  cases r with
  |nt j=>cases hn
  |st w d j=>rfl
  |jn w ps=>rfl
def uN(rs:List Rw):Rf.vals rs=deps rs:=by
 suffices h:∀ v:List Int,rs.foldl (λv r=>v++[Rf.H r λj=>v.getD j.toNat Rf.z]) v=EE v rs from h []
 induction rs with
 |nil=>exact λ_=>rfl
 |cons r rs ih =>
  intro v;rw[AU,ih];have:dep v r=Rf.H r λj=>v.getD j.toNat Rf.z:=by cases r<;>rfl
  rw[EE,this]
def HW{l:List Rw}(sc:eJ l)(h1:1<=l.length)(st:List iX):(oP st (ll l)).getD ((ll l).length-1) (λ_=>false)=(oP st l).getD (l.length-1) λ_=>false:=by have:=(qU sc h1).2.2.2.2 _ (Rc st);unfold Sm.at at this;rw[um,um] at this;simp only[KG] at this;exact this
def Fd{l:List Rw}(sc:eJ l)(h1:1<=l.length):depth (ll l)=depth l:=by have:=(qU sc h1).2.2.2.2 _ Rf;unfold Sm.at at this;rw[uN,uN] at this;exact this
def pI:WS :=
 (c9 (ip (tP (rS (wB (eA (tS "str") (av 0)))) (rS (wB (gR B5 B5 (wC (.int 1)) (eA ki (av 0)) (wC (.int 6))))))
 (gd (wC (.bl false)))
 a_)
 (gd (eA Ti (eE (Bm (av 0)) (gN 0) Bn (aS (D7 false) (av 0) (wC (.str "abcdefghijklmnopqrstuvwxyz"))) 1 []))))
def Eb{c:Nat}:D2 ⟨#[c]⟩ abc=isLet c:=by
 rw[Fp];have:abc.cps.toList=(List.range 26).map (97 + ·):=n8;rw[this];apply y1.mpr;simp only[decide_eq_true_eq,isLet,fP,wo];constructor
 ·grind
 ·intro h;exact⟨c-97,by lia,by lia⟩
def iQ:gp:=λds Q=>∃ x:Str,ds=[.str x]/\Q .sh (.bl (decide (1<=x.length/\x.length<=6) && (sg x).all isLet))
def sS (ds Q) (h:iQ ds Q):ds.length=["thing"].length:=by obtain⟨_,rfl,_⟩:=h;rfl
def zM:∀ ds Q,iQ ds Q->pI { nx:=λ_=>Q .sh .non,rt:=Q } (aM 1 ds):=by
 rintro ds Q ⟨x,rfl,h⟩;unfold pI;walk_at "q";refine R.F rfl ?_;walk_at "q";refine R.D (λh1=>?_) λh1=>?_
 ·walk_at "q";refine R.B (λh2=>?_) λh2=>?_;rotate_left
  ·have h2:x.length<=6:=by simp at h2;lia
   walk_at "q"
   refine bf (λ_=>true) (λd=>match d with
    |.str z=>.bl (D2 z abc)
    |d=>d) (λρ=>∃ o,ρ=[o]) _ _ _ ⟨_,rfl⟩ ?_ ?_
   ·rintro y hy ρ ⟨o,rfl⟩ N1 N2 _ h2;obtain⟨c,hc,rfl⟩:=fP.mp hy;walk_at "q";exact⟨.inl rfl,h2 _ ⟨_,rfl⟩ rfl⟩
   ·rw[iR];refine⟨(sg x).map isLet,?_,?_⟩
    ·unfold ab';rw[lP,lP];refine GV λc _=>?_;show D.bl (D2 ⟨#[c]⟩ abc)=_;rw[Eb];rfl
    ·rw[decide_eq_true (by lia),Bool.true_and] at h;rw[OU];exact h
  ·have h2:¬ x.length<=6:=by simp at h2;lia
   walk_at "q";rw[decide_eq_false (by lia),Bool.false_and] at h;exact h
 ·walk_at "q";rw[decide_eq_false (by lia),Bool.false_and] at h;exact h
def lU:WS :=
 (gd (dZ (eA (tS "int") (av 0)) (zX (eA (tS "bool") (av 0)))))
def gj:gp:=λds Q=>∃ d:D,ds=[d]/\Q .sh (.bl (decide (d.ty = "int")))
def p_ (ds Q) (h:gj ds Q):ds.length=["thing"].length:=by obtain⟨_,rfl,_⟩:=h;rfl
def vL:∀ ds Q,gj ds Q->lU { nx:=λ_=>Q .sh .non,rt:=Q } (aM 1 ds):=by
 rintro ds Q ⟨d,rfl,h⟩;unfold lU;walk_at "q";cases d<;>first
  | (refine R.F rfl ?_;walk_at "q";exact h)
  | (refine R.T rfl ?_;walk_at "q";first|exact h|(refine R.T rfl ?_;walk_at "q";exact h)|(refine R.F rfl ?_;walk_at "q";exact h))
def zQ:WS :=
 (c9 (ip (tP (wB (aS ic (aS dn (av 0) (wC (.int 0))) (wC (.str "some")))) (wB (aS ic (aS dn (av 0) (wC (.int 0))) (wC (.str "all")))))
 (gd (n9 (aq (aS dn (av 0) (wC (.int 2))) dy)))
 a_)
 (c9 (ip (wB (aS ic (aS dn (av 0) (wC (.int 0))) (wC (.str "not"))))
 (gd (n9 (aq (aS dn (av 0) (wC (.int 1))) dy)))
 a_)
 (gd (eA vJ (aS dn (av 0) (wC (.int 1)))))))
def n6:gp:=λds Q=>∃ (r:Rw) (k:Int),ds=[cw r]/\nL k r/\Q (.ow true) (.list ((qk r).map D.int))
def zB (ds Q) (h:n6 ds Q):ds.length=["row"].length:=by obtain⟨_,_,rfl,_⟩:=h;rfl
def Fj:∀ ds Q,n6 ds Q->zQ { nx:=λ_=>Q .sh .non,rt:=Q } (aM 1 ds):=by
 rintro ds Q ⟨r,k,rfl,hr,h⟩;unfold zQ
 cases r with
 |st w d j =>
  obtain⟨hw,_⟩:=hr;walk_at"i";walk_at "q";refine R.D (λe=>?_) λe=>?_
  ·walk_at "q";exact h
  ·walk_at "q";refine R.D (λe=>?_) λe2=>?_
   ·walk_at "q";exact h
   ·grind
 |nt j =>rw[show cw (.nt j)=.tup [.str "not",.int j] from rfl];walk_at "q";refine R.F (decide_eq_false IQ.1) ?_;walk_at "q";refine R.F (decide_eq_false IQ.2) ?_;walk_at "q";exact h
 |jn w ps =>obtain⟨hw,hl,_⟩:=hr;rw[show cw (.jn w ps)=.tup [.str w,.tup (ps.map .int)] from rfl];walk_at "q";refine R.F (decide_eq_false (BF hw).1) ?_;walk_at "q";refine R.F (decide_eq_false (BF hw).2.1) ?_;walk_at "q";refine R.F (decide_eq_false (BF hw).2.2) ?_;walk_at "q";exact .inl ⟨aW ps,h⟩
def jd:WS :=
 (c9 (ip (tP (wB (aS ic (aS dn (av 0) (wC (.int 0))) (wC (.str "some")))) (wB (aS ic (aS dn (av 0) (wC (.int 0))) (wC (.str "all")))))
 (gd (k7 (aq (aS dn (av 0) (wC (.int 0))) (aq (aS dn (av 0) (wC (.int 1))) (aq (aS dn (av 1) (aS dn (av 0) (wC (.int 2)))) dy)))))
 a_)
 (c9 (ip (wB (aS ic (aS dn (av 0) (wC (.int 0))) (wC (.str "not"))))
 (gd (k7 (aq (aS dn (av 0) (wC (.int 0))) (aq (aS dn (av 1) (aS dn (av 0) (wC (.int 1)))) dy))))
 a_)
 (gd (k7 (aq (aS dn (av 0) (wC (.int 0))) (aq (eA uT (eE (pU (aS dn (av 0) (wC (.int 1)))) (gN 0) Bn (aS dn (av 1) (av 0)) 1 [1])) dy))))))
def bx:gp:=λds Q=>∃ (k:Int) (r:Rw) (num:D) (f:Int->Int),ds=[cw r,num]/\nL k r/\(∀ j∈qk r,z9 num f j)/\Q .sh (cw (ren f r))
def lB (ds Q) (h:bx ds Q):ds.length=["row", "numbers"].length:=by obtain⟨_,_,_,_,rfl,_⟩:=h;rfl
def wO{num:D}{f:Int->Int}{j:Int}{m':Md}{Q:Md->D->Prop}(h:z9 num f j)(q:Q .sh (.int (f j))):dn .sh num m' (.int j) Q:=by
 rcases h with⟨ns,rfl,j0,e⟩|⟨ae,rfl,e⟩
 ·have a:fF (ns.map D.int) j=some (.int (f j)):=by have:=vi (xs:=ns.map D.int) (by rw[ku,e];rfl);rwa[mP j0] at this
  exact⟨_,a,q⟩
 ·exact⟨.inl j,.int (f j),rfl,e,q⟩
def V8(f:Int->Int):D->D
 |.int j=>.int (f j)
 |d=>d
def qI:∀ ds Q,bx ds Q->jd { nx:=λ_=>Q .sh .non,rt:=Q } (aM 2 ds):=by
 rintro ds Q ⟨k,r,num,f,rfl,ok,hn,h⟩;unfold jd
 cases r with
 |st w d j =>
  obtain⟨hw,hd,j0,j1⟩:=ok;have fin:∀ Q':Md->D->Prop,Q' .sh (.int (f j))->dn .sh num .sh (.int j) Q':=λQ' q=>wO (hn j (kD.mpr rfl)) q;walk_at"i";walk_at "q";refine R.D (λe=>?_) λe=>?_
  ·walk_at "q";refine fin _ ?_;walk_at "q";exact h
  ·walk_at "q";refine R.D (λe=>?_) λe2=>?_
   ·walk_at "q";refine fin _ ?_;walk_at "q";exact h
   ·grind
 |nt j =>rw[show cw (.nt j)=.tup [.str "not",.int j] from rfl];walk_at "q";refine R.F (decide_eq_false IQ.1) ?_;walk_at "q";refine R.F (decide_eq_false IQ.2) ?_;walk_at "q";refine wO (hn j (kD.mpr rfl)) ?_;walk_at "q";exact h
 |jn w ps =>
  obtain⟨hw,hl,hp⟩:=ok;walk_at"p";walk_at "q";refine R.F (decide_eq_false (BF hw).1) ?_;walk_at "q";refine R.F (decide_eq_false (BF hw).2.1) ?_;walk_at "q";refine R.F (decide_eq_false (BF hw).2.2) ?_;walk_at "q";refine bf (λ_=>true) (V8 f) (λρ=>∃ o,ρ=[o,some (.sh num)]) _ _ _ ⟨_,rfl⟩ ?_ ?_
  ·rintro x hx ρ ⟨o,rfl⟩ N1 N2 h1 h2;obtain⟨j,hj,rfl⟩:=fP.mp hx;walk_at "q";refine wO (hn j hj) ?_;exact⟨.inl rfl,h2 _ ⟨_,rfl⟩ rfl⟩
  ·have e:((ps.map D.int).filter λ_=>true).map (V8 f)=(ps.map f).map D.int:=by rw[Wr.mpr (λ_ _=>rfl),lP,lP];rfl
   rw[e];exact⟨aW _,h⟩
def fQ:WS :=
 (c9 (ip (wB (aS MV (av 1) (eA ki (av 0))))
 (gd (aS dn (av 0) (av 1)))
 a_)
 (gd (wC (.int 0))))
def aO:gp:=λds Q=>∃ (ns:List Int) (k:Int),ds=[.list (ns.map .int),.int k]/\0<=k/\Q .sh (.int (ns.getD k.toNat 0))
def jq (ds Q) (h:aO ds Q):ds.length=["_law_script", "_law_k"].length:=by obtain⟨_,_,rfl,_⟩:=h;rfl
def lN:∀ ds Q,aO ds Q->fQ { nx:=λ_=>Q .sh .non,rt:=Q } (aM 2 ds):=by
 rintro ds Q ⟨ns,k,rfl,hk,h⟩;unfold fQ;walk_at "q";refine R.D (λhl=>?_) λhl=>?_
 ·walk_at "q";have hn:k.toNat<ns.length:=by lia
  refine⟨.int ns[k.toNat],?_,?_⟩
  ·have:=vi (xs:=ns.map D.int) (j:=k.toNat) (v:=.int ns[k.toNat]) (by simp[hn]);rwa[mP hk] at this
  ·show Q .sh _;simpa[List.getD,hn] using h
 ·walk_at "q";have:ns.getD k.toNat 0=0:=by grind
  rwa[this] at h
def jb:WS :=
 (c9 (gI 2 (wC (.str "abcdefghijklmnopqrstuvwxyz")))
 (c9 (gI 3 (aS mG (wC (.int 1)) (aS kH (av 0) (wC (.int 6)))))
 (c9 (gI 0 (aS sL (av 0) (wC (.int 6))))
 (c9 (gI 4 (n9 dy))
 (c9 (sP (d9 (av 3)) (gN 5)
 (c9 (yk (sQ 4) (aS kH (av 0) (wC (.int 26))))
 (gI 0 (aS sL (av 0) (wC (.int 26))))))
 (c9 (gI 6 (tY (wC (.str "")) (eE (lY (av 4)) (gN 0) Bn (aS dn (av 1) (av 0)) 1 [2])))
 (c9 (ip (wB (aS ic (aS kH (aS sL (av 1) (wC (.int 6))) (wC (.int 3))) (wC (.int 1))))
 (gd (eE (tZ (wC (.int 1)) (wC (.int 7))) (gN 0) Bn (z5 (aS Bj (wC (.int 6)) (av 1)) d8 (dB (av 0))) 1 [6]))
 a_)
 (c9 (gI 7 (aS kH (av 1) (av 3)))
 (c9 (gI 8 (n9 dy))
 (c9 (sP (d9 (wC (.int 6))) (gN 5)
 (c9 (gI 9 (aS dn (av 2) (aS kH (aS mG (aS dn (av 4) (av 7)) (aS zS (wC (.int 5)) (av 5))) (wC (.int 26)))))
 (yk (sQ 8) (aS mG (aS mG (z5 (av 6) d8 (dB (av 7))) (av 9)) (z5 (av 6) (dB (aS mG (av 7) (wC (.int 1)))) d8)))))
 (pF 8)))))))))))
def uZ{n d:Nat}{k:Int}(h0:0<=k)(h1:k<=n):HT.dz n d (some k)=k.toNat:=by simp only[HT.dz];rw[if_neg (by lia)];lia
def zV{x:Str}{k:Int}(h0:0<=k)(h1:k<=x.length):(oq x none (some k)).length=k.toNat:=by
 unfold oq Str.length at *
 simp only[jI,nV,GW,AZ];rw[uZ h0 (by simpa using h1)];simp[HT.dz];lia
def Ff{x:Str}{k:Int}(h0:0<=k)(h1:k<=x.length):(oq x (some k) none).length=x.length-k.toNat:=by
 unfold oq Str.length at *
 rw[uZ h0 (by simpa using h1)];simp[HT.dz]
def Ai{n:Int}{z:Str}(h:lets z):lets (AA n z):=λc hc=>by obtain⟨l,hl,pV⟩:=List.mem_flatten.mp hc;rw[List.eq_of_mem_replicate hl] at pV;exact h c pV
theorem mK:∀ (l:List Str),kI (l.map D.str)=some l
 |[]=>rfl
 |x :: l=>by simp[kI,mK l]
def Es{p:Int}(h0:0<=p)(h1:p<26):fF (sg abc) p=some (97+p.toNat):=by
 have:fF (sg abc) p.toNat=some (97+p.toNat):=vi (by
  rw[n8];have:p.toNat<26:=by lia
  simp[this])
 rwa[mP h0] at this
theorem iZ:∀ l:List Nat,sg (Str.join "" (l.map λc=>(⟨#[c]⟩:Str)))=l
 |[]=>by decide +kernel
 |[c]=>rfl
 |c :: d :: l=>by have ih:=iZ (d :: l);show sg ((⟨#[c]⟩:Str) ++ "" ++ Str.join "" ((d :: l).map λc=>(⟨#[c]⟩:Str)))=_;rw[uR,uR,ih,show sg ("" : Str)=[] by decide +kernel];rfl
theorem uV:∀ l:List Nat,(l.map λ_=>1).sum=l.length
 |[]=>rfl
 |x :: l=>by simp[uV l];lia
def dJ:gp:=λds Q=>∃ c t:Int,ds=[.int c,.int t]/\∀ names:List Str,names.length=6->(∀ n∈names,Open n)->Q (.ow true) (.list (names.map .str))
def lE (ds Q) (h:dJ ds Q):ds.length=["_law_cell", "_law_turn"].length:=by obtain⟨_,_,rfl,_⟩:=h;rfl
def qt:∀ ds Q,dJ ds Q->jb { nx:=λ_=>Q .sh .non,rt:=Q } (aM 10 ds):=by
 rintro ds Q ⟨c,t,rfl,h⟩;unfold jb;walk_at "q";have s0:=w_ c (show 6≠0 by decide);generalize hJ:1+c % 6=size at *
 refine⟨by lia,by lia,?_⟩;refine bK _ (λi ρ=>∃ (cc:Int) (ps:List Int) (o:Option Sl),ps.length=i/\(∀ p∈ps,0<=p/\p<26)/\ρ=[some (.sh (.int cc)),some (.sh (.int t)),some (.sh (.str abc)),some (.sh (.int size)),some (.ow true (.list (ps.map .int))),o,none,none,none,none]) ⟨_,[],_,rfl,(λp hp=>nomatch hp),rfl⟩ ?_ ?_
 ·rintro i x ρ hx ⟨cc,ps,o,hl,hp,rfl⟩ N hN;obtain⟨hi,rfl⟩:=fX hx;walk_at "q";refine⟨by lia,?_⟩;rw[ints_app];refine hN _ ⟨_,ps++[cc % 26],_,by simp[hl],λp iF=>?_,rfl⟩;rcases eL.mp iF with h'|h'
  ·exact hp p h'
  ·grind
 rintro ρ ⟨cc,ps,o,hl,hp,rfl⟩;rw[e_] at hl;walk_at "q";have e0:(Str.ofString "").length=0:=by decide
 refine bf (λ_=>true) (λd=>match d with
  |.int p=>.str ⟨#[97+p.toNat]⟩
  |d=>d) (λρ=>∃ o,ρ=[o,some (.sh (.str abc))]) _ _ _ ⟨_,rfl⟩ ?_ ?_
 ·rintro y hy ρ ⟨o,rfl⟩ N1 N2 _ h2;obtain⟨p,iF,rfl⟩:=fP.mp hy;walk_at "q";exact⟨_,Es (hp p iF).1 (hp p iF).2,.inl rfl,h2 _ ⟨_,rfl⟩ rfl⟩
 rw[iR];refine⟨(ps.map λp=>97+p.toNat).map λc=>⟨#[c]⟩,?_,?_,?_⟩
 ·rw[lP,<- mK,lP,lP];rfl
 ·rw[e0,lP,Nat.mul_zero,OX];show((ps.map λp=>97+p.toNat).map λ_=>1).sum<=_;rw[uV,dc];lia
 have hw:=iZ (ps.map λp=>97+p.toNat);generalize Str.join "" ((ps.map λp=>97+p.toNat).map λc=>(⟨#[c]⟩:Str))=word at hw ⊢;have wl:word.length=size.toNat:=by
  have:(sg word).length=size.toNat:=by rw[hw,dc,hl]
  rw[<- this];unfold sg Str.length;simp
 have aN':lets word:=λch hc=>by rw[hw] at hc;obtain⟨p,iF,rfl⟩:=fP.mp hc;have:=hp p iF;simp[isLet];lia
 refine R.D (λ_=>?_) λ_=>?_
 ·walk_at "q"
  refine bf (λ_=>true) (λd=>match d with
   |.int k=>.str (oq (AA 6 word) none (some k))
   |d=>d) (λρ=>∃ o,ρ=[o,some (.sh (.str word))]) _ _ _ ⟨_,rfl⟩ ?_ ?_
  ·rintro y hy ρ ⟨o,rfl⟩ N1 N2 _ h2;obtain⟨i,hi,rfl⟩:=oM hy;walk_at "q";exact⟨by lia,.inl rfl,h2 _ ⟨_,rfl⟩ rfl⟩
  ·rw[iR]
   have e6:(List.map (λd=>match d with
    |.int k=>D.str (oq (AA 6 word) none (some k))
    |d=>d) (gF 1 6))=((List.range 6).map λi=>oq (AA 6 word) none (some (1+(i:Nat):Int))).map D.str:=by
    unfold gF;rw[lP,lP];rfl
   rw[e6];refine h _ (by simp) λn hn=>?_;obtain⟨i,hi,rfl⟩:=fP.mp hn;have hi:i<6:=by simpa using hi
   have l1:(oq (AA 6 word) none (some (1+i:Int))).length=(1+(i:Int)).toNat:=zV (by lia) (by rw[uC,wl];simp;lia);exact⟨by rw[l1];lia,by rw[l1];lia,oG (Ai aN') _ _⟩
 ·walk_at "q";refine⟨by lia,?_⟩;have a0:=w_ t (show size≠0 by lia);have a1:=xI t (show 0<size by lia);generalize t % size=at' at *
  have l1:(oq word none (some at')).length=at'.toNat:=zV a0 (by lia);have l2:(oq word (some (at'+1)) none).length=word.length-(at'+1).toNat:=Ff (by lia) (by lia);refine bK _ (λi ρ=>∃ (names:List Str) (o5 o9:Option Sl),names.length=i/\(∀ n∈names,Open n)/\ρ=[some (.sh (.int cc)),some (.sh (.int t)),some (.sh (.str abc)),some (.sh (.int size)),some (.ow true (.list (ps.map .int))),o5,some (.sh (.str word)),some (.sh (.int at')),some (.ow true (.list (names.map .str))),o9]) ⟨[],_,_,rfl,(λn hn=>nomatch hn),rfl⟩ ?_ ?_
  ·rintro i x ρ hx ⟨names,o5,o9,hn,hd,rfl⟩ N hN;obtain⟨hi,rfl⟩:=fX hx;have hi:i<6:=hi;walk_at "q";have hat:at'.toNat<ps.length:=by lia
   refine⟨.int ps[at'.toNat],?_,?_⟩
   ·have:=vi (xs:=ps.map D.int) (j:=at'.toNat) (v:=.int ps[at'.toNat]) (by simp[hat]);rwa[mP a0] at this
   walk_at "q";obtain⟨ch,ec,lc⟩:=Ey (ps[at'.toNat]+5*(0+i));refine⟨.inl ⟨by lia,by lia⟩,ch,ec,?_⟩;refine⟨by rw[l1,fC];lia,by rw[l1,l2,fC];lia,by lia,?_⟩;rw[Cp];refine hN _ ⟨names++[_],_,_,by simp[hn],λn Fh=>?_,rfl⟩;rcases eL.mp Fh with h'|h'
   ·exact hd n h'
   ·obtain rfl:n=_:=by simpa using h'
    refine⟨?_,?_,tX (tX (oG aN' _ _) (Ak lc)) (oG aN' _ _)⟩
    ·rw[bJ,bJ,l1,l2,fC];lia
    ·rw[bJ,bJ,l1,l2,fC];lia
  ·rintro ρ ⟨names,o5,o9,hn,hd,rfl⟩;rw[e_] at hn;walk_at "q";exact h names hn hd
def jc:WS :=
 (c9 (gI 3 (n9 dy))
 (c9 (sP (d9 (eA ki (av 0))) (gN 4)
 (c9 (gI 5 (aS kH (aS zS (aS mG (aS kH (aS dn (av 0) (av 4)) (wC (.int 2147483647))) (wC (.int 1))) (aS mG (wC (.int 48271)) (aS zS (wC (.int 7)) (av 4)))) (wC (.int 2147483647))))
 (c9 (gI 6 (aS dn (av 2) (aS kH (aS sL (av 5) (av 1)) (eA ki (av 2)))))
 (sM 6 (yk (sQ 3) (k7 (aq (aS kH (av 5) (av 1)) (aq (av 6) (aq (aS kH (aS sL (av 5) (aS zS (av 1) (eA ki (av 2)))) (av 1)) dy)))))))))
 (pF 3)))
def dg:gp:=λds Q=>∃ (cells:List Int) (many:Int) (names:List Str),ds=[.list (cells.map .int),.int many,.list (names.map .str)]/\cells.length<=200/\1<=many/\many<=20/\1<=names.length/\names.length<=20/\(∀ n∈names,BE n)/\∀ l:List iX,(∀ s∈l,NW many s)->l.length=cells.length->Q (.ow true) (.list (l.map wa))
def lD (ds Q) (h:dg ds Q):ds.length=["_law_cells", "_law_many", "_law_deeds_here"].length:=by obtain⟨_,_,_,rfl,_⟩:=h;rfl
def pQ:∀ ds Q,dg ds Q->jc { nx:=λ_=>Q .sh .non,rt:=Q } (aM 7 ds):=by
 rintro ds Q ⟨cells,many,names,rfl,hc,m1,m2,n1,n2,hd,h⟩;unfold jc;walk_at "q";refine⟨by lia,by lia,?_⟩;refine bK _ (λi ρ=>∃ (l:List iX) (o4 o5 o6:Option Sl),(∀ s∈l,NW many s)/\l.length=i/\ρ=[some (.sh (.list (cells.map .int))),some (.sh (.int many)),some (.sh (.list (names.map .str))),some (.ow true (.list (l.map wa))),o4,o5,o6]) ⟨[],_,_,_,(λs hs=>nomatch hs),rfl,rfl⟩ ?_ ?_
 ·rintro i x ρ hx ⟨l,o4,o5,o6,hs,hl,rfl⟩ N hN;obtain⟨hi,rfl⟩:=fX hx;have hi:i<cells.length:=by lia
  walk_at "q";have e0:fF (cells.map D.int) (0+i)=some (.int cells[i]):=by have:=vi (xs:=cells.map D.int) (j:=i) (v:=.int cells[i]) (by simp[hi]);rwa[Int.zero_add]
  refine⟨_,e0,?_⟩;walk_at "q";have c0:=w_ cells[i] (show 2147483647≠0 by decide);have c1:=xI cells[i] (show 0<2147483647 by decide);refine⟨.inl ⟨by lia,by lia⟩,.inl ⟨by lia,by lia⟩,⟨by lia,by lia⟩,by lia,?_⟩;generalize (cells[i] % 2147483647+1)*(48271+7*(0+i)) % 2147483647=num;obtain⟨n,hn,e⟩:=name_mod (num / many) n1;refine⟨.str n,e,?_⟩;walk_at "q";have b1:=w_ num (show many≠0 by lia);have b2:=xI num (show 0<many by lia);have b3:=w_ (num / (many*names.length)) (show many≠0 by lia);have b4:=xI (num / (many*names.length)) (show 0<many by lia);have b5:many*names.length<=20*20:=Int.mul_le_mul m2 (by lia) (by lia) (by lia);have b6:0<many*names.length:=Int.mul_pos (by lia) (by lia);refine⟨by lia,.inl ⟨by lia,by lia⟩,⟨b6,by lia⟩,by lia,by lia,?_⟩;rw[show l.map wa++[D.tup [D.int (num % many),D.str n,D.int (num / (many*names.length) % many)]]=(l++[((num % many,n,num / (many*names.length) % many):iX)]).map wa by simp[wa]];refine hN _ ⟨_,_,_,_,λs iE=>?_,by simp[hl],rfl⟩;rcases eL.mp iE with h'|h'
  ·exact hs s h'
  ·rw[kD.mp h'];exact⟨b1,b2,hd n hn,b3,b4⟩
 ·rintro ρ ⟨l,o4,o5,o6,hs,hl,rfl⟩;rw[e_] at hl;walk_at "q";exact h l hs (by lia)
def dY:WS :=
 (c9 (gI 6 (aS kH (av 3) (wC (.int 8))))
 (c9 (ip (wB (aS MV (av 6) (wC (.int 5))))
 (Cq [.inl (aS dn (n9 (aq (wC (.str "some")) (aq (wC (.str "all")) dy))) (aS sL (av 6) (wC (.int 3)))),.inl (aS dn (av 2) (aS kH (aS sL (av 3) (wC (.int 16))) (eA ki (av 2)))),.inr 5])
 a_)
 (c9 (ip (wB (aS ic (av 6) (wC (.int 5))))
 (Cq [.inl (wC (.str "not")),.inr 5])
 a_)
 (c9 (gI 7 (n9 dy))
 (c9 (sP (d9 (aS kH (aS sL (av 3) (wC (.int 16))) (wC (.int 4)))) (gN 8)
 (c9 (sM 5 (yk (sQ 7) (av 5)))
 (gI 5 (aS kH (aS mG (aS zS (wC (.int 7)) (av 5)) (aS sL (av 4) (aS mG (av 8) (wC (.int 1))))) (av 1)))))
 (gd (k7 (aq (aS dn (n9 (aq (wC (.str "and")) (aq (wC (.str "or")) dy))) (aS IE (av 6) (wC (.int 6)))) (aq (eA uT (av 7)) dy)))))))))
def mR:WS :=
 (c9 (gI 3 (aS kH (aS zS (aS mG (aS kH (av 0) (wC (.int 2147483647))) (wC (.int 1))) (aS mG (wC (.int 48271)) (aS zS (wC (.int 7)) (av 1)))) (wC (.int 2147483647))))
 (c9 (gI 4 (aS kH (aS zS (av 3) (wC (.int 69621))) (wC (.int 2147483629))))
 (c9 (ip (wB (aS ic (av 1) (wC (.int 0))))
 (gd (aS dn (n9 (aq (k7 (aq (wC (.str "and")) (aq (k7 dy) dy))) (aq (k7 (aq (wC (.str "or")) (aq (k7 dy) dy))) dy))) (aS kH (av 3) (wC (.int 2)))))
 a_)
 (c9 (gI 5 (aS kH (av 4) (av 1)))
 (c9 (ip (wB (aS ic (aS kH (aS sL (av 3) (wC (.int 8))) (wC (.int 2))) (wC (.int 1))))
 (gI 5 (aS IE (aS IE (av 1) (wC (.int 1))) (aS kH (av 4) (aS FW (av 1) (wC (.int 3))))))
 a_)
 dY)))))
def fW:gp:=λds Q=>∃ (c k:Int) (names:List Str),ds=[.int c,.int k,.list (names.map .str)]/\0<=k/\k<=1000/\1<=names.length/\names.length<=100/\(∀ n∈names,BE n)/\∀ r:Rw,nL k r->Q .sh (cw r)
def pM (ds Q) (h:fW ds Q):ds.length=["_law_cell", "_law_k", "_law_names"].length:=by obtain⟨_,_,_,rfl,_⟩:=h;rfl
def eO'{Q:Md->D->Prop}{c k num more j:Int}{names:List Str}(k0:0<=k)(k1:k<=1000)(n1:1<=names.length)(n2:names.length<=100)(hd:∀ n∈names,BE n)(h:∀ r:Rw,nL k r->Q .sh (cw r))(h0:0<=j)(h1:j<k) :
  dY { nx:=λ_=>Q .sh .non,rt:=Q } [some (.sh (.int c)),some (.sh (.int k)),some (.sh (.list (names.map .str))),some (.sh (.int num)),some (.sh (.int more)),some (.sh (.int j)),none,none,none]:=by
 unfold dY;walk_at "q";have w0:num % 8 / 3=0\/num % 8 / 3=1\/num % 8 / 3=2:=by lia
 refine R.D (λh5=>?_) λh5=>?_
 ·walk_at "q";obtain⟨w,ew,hw⟩:∃ w:Str,fF [D.str (Str.ofString "some"),D.str (Str.ofString "all")] (num % 8 / 3)=some (.str w)/\(w = "some"\/w = "all"):=by
   rcases w0 with e|e|e
   ·rw[e];exact⟨_,rfl,.inl rfl⟩
   ·rw[e];exact⟨_,rfl,.inr rfl⟩
   ·lia
  refine⟨_,ew,?_⟩;walk_at "q";obtain⟨n,hn,en⟩:=name_mod (num / 16) n1;refine⟨by lia,_,en,?_⟩;walk_at "q";exact h (.st w n j) ⟨hw,hd n hn,h0,h1⟩
 ·walk_at "q";refine R.D (λh6=>?_) λh6=>?_
  ·walk_at "q";exact h (.nt j) ⟨h0,h1⟩
  ·walk_at "q";have f0:=w_ (num / 16) (show 4≠0 by decide);have f1:=xI (num / 16) (show 0<4 by decide);refine⟨by lia,by lia,?_⟩;refine bK _ (λi ρ=>∃ (ps:List Int) (j:Int) (o8:Option Sl),ps.length=i/\(∀ p∈ps,0<=p/\p<k)/\0<=j/\j<k/\ρ=[some (.sh (.int c)),some (.sh (.int k)),some (.sh (.list (names.map .str))),some (.sh (.int num)),some (.sh (.int more)),some (.sh (.int j)),some (.sh (.int (num % 8))),some (.ow true (.list (ps.map .int))),o8]) ⟨[],j,_,rfl,(λp hp=>nomatch hp),h0,h1,rfl⟩ ?_ ?_
   ·rintro i x ρ hx ⟨ps,j,o8,hl,hp,h0,h1,rfl⟩ N hN;obtain⟨hi,rfl⟩:=fX hx;walk_at "q";refine⟨by lia,.inl ⟨by lia,by lia⟩,by lia,by lia,?_⟩;rw[ints_app];refine hN _ ⟨ps++[j],_,_,by simp[hl],λp iF=>?_,w_ _ (by lia),xI _ (by lia),rfl⟩;rcases eL.mp iF with h'|h'
    ·exact hp p h'
    ·rw[kD.mp h'];exact⟨h0,h1⟩
   ·rintro ρ ⟨ps,j,o8,hl,hp,h0,h1,rfl⟩;rw[e_] at hl;walk_at "q";obtain⟨w,ew,hw⟩:∃ w:Str,fF [D.str (Str.ofString "and"),D.str (Str.ofString "or")] (num % 8-6)=some (.str w)/\(w = "and"\/w = "or"):=by
     have:num % 8-6=0\/num % 8-6=1:=by lia
     rcases this with e|e
     ·rw[e];exact⟨_,rfl,.inl rfl⟩
     ·rw[e];exact⟨_,rfl,.inr rfl⟩
    refine⟨_,ew,?_⟩;walk_at "q";refine⟨aW ps,?_⟩;exact h (.jn w ps) ⟨hw,by lia,hp⟩
def vY:∀ ds Q,fW ds Q->mR { nx:=λ_=>Q .sh .non,rt:=Q } (aM 9 ds):=by
 rintro ds Q ⟨c,k,names,rfl,k0,k1,n1,n2,hd,h⟩;unfold mR;walk_at "q";have m0:=w_ c (show(2147483647:Int)≠0 by decide);have m1:=xI c (show(0:Int)<2147483647 by decide);refine⟨.inl ⟨by lia,by lia⟩,.inl ⟨by lia,by lia⟩,.inr ⟨by lia,by lia⟩,?_⟩;generalize rO':(c % 2147483647+1)*(48271+7*k) % 2147483647=num;generalize num*69621 % 2147483629=more;refine R.D (λhk=>?_) λhk=>?_
 ·subst hk;walk_at "q";have z0:=w_ num (show(2:Int)≠0 by decide);have z1:=xI num (show(0:Int)<2 by decide);generalize num % 2=b at *
  have hb:b=0\/b=1:=by lia
  have q1:=h (.jn "and" []) ⟨.inl rfl,by decide,λp hp=>nomatch hp⟩;have q2:=h (.jn "or" []) ⟨.inr rfl,by decide,λp hp=>nomatch hp⟩;rcases hb with rfl|rfl
  ·exact⟨_,rfl,q1⟩
  ·exact⟨_,rfl,q2⟩
 ·walk_at "q";refine⟨by lia,?_⟩;have j0:=w_ more (show k≠0 by lia);have j1:=xI more (show 0<k by lia);have jj:∀ mm:Int,mm=(if (3:Int)<k then 3 else k)->0<mm/\0<=k-1-more % mm/\k-1-more % mm<k:=λmm hm=>by
   have q0:0<mm:=by rw[hm];split<;>lia
   have q1:mm<=k:=by rw[hm];split<;>lia
   have q2:=w_ more (show mm≠0 by lia);have q3:=xI more q0;lia
  refine R.D (λ_=>?_) λ_=>?_
  ·walk_at "q";exact⟨(jj _ rfl).1,eO' k0 k1 n1 n2 hd h (jj _ rfl).2.1 (jj _ rfl).2.2⟩
  ·walk_at "q";exact eO' k0 k1 n1 n2 hd h j0 j1
def fM:WS :=
 (c9 (sM 0 (sP (Am (av 0)) (gN 2)
 (ip (tP (rS (wB (eA (tS "int") (av 2)))) (tP (wB (eA (tS "bool") (av 2))) (rS (wB (gR B5 MV (wC (.int 0)) (av 2) (av 1))))))
 (gd (wC (.bl false)))
 a_)))
 (gd (wC (.bl true))))
def bN:gp:=λds Q=>∃ (ps:List Int) (k:Int),(ds=[.tup (ps.map .int),.int k])/\(∀ p∈ps,0<=p/\p<k)/\Q .sh (.bl true)
def jm (ds Q) (h:bN ds Q):ds.length=["_law_some", "_law_k"].length:=by obtain⟨_,_,rfl,_⟩:=h;rfl
def lH:∀ ds Q,bN ds Q->fM { nx:=λ_=>Q .sh .non,rt:=Q } (aM 3 ds):=by
 rintro ds Q ⟨ps,k,rfl,hp,h⟩;unfold fM;walk_at "q";refine bK _ (λi ρ=>∃ o,ρ=[some (.sh (.tup (ps.map .int))),some (.sh (.int k)),o]) ⟨_,rfl⟩ ?_ ?_
 ·rintro i x ρ hx ⟨o,rfl⟩ N hN;obtain⟨p,hm,rfl⟩:=fP.mp (pf hx);have:=hp p hm;walk_at "q";refine R.F rfl ?_;walk_at "q";refine R.F rfl ?_;walk_at "q";refine R.T (decide_eq_true this.1) ?_;walk_at "q";refine R.F (by rw[decide_eq_true this.2];rfl) ?_;walk_at "q";exact hN _ ⟨_,rfl⟩
 ·rintro ρ ⟨o,rfl⟩;walk_at "q";exact h
def lZ:WS :=
 (c9 (gI 1 wX)
 (c9 (sM 0 (sP (fJ (aS dn (av 0) (wC (.int 1)))) (gT 3 (gC (gN 2) (gC (gN 3) (gC (gN 4) wA))))
 (sM 4 (sM 3 (sM 2 (VW 1 (k7 (aq (av 2) (aq (av 3) dy))) (av 4)))))))
 (pF 1)))
def gh:gp:=λds Q=>∃ (many:Int) (l:List iX),ds=[mD many l]/\l.length<=1000/\∀ ae,EF l ae->Q (.ow true) (.dT ae)
def qN (ds Q) (h:gh ds Q):ds.length=["_law_m"].length:=by obtain⟨_,_,rfl,_⟩:=h;rfl
def v8:∀ ds Q,gh ds Q->lZ { nx:=λ_=>Q .sh .non,rt:=Q } (aM 5 ds):=by
 rintro ds Q ⟨many,l,rfl,hz,h⟩;unfold lZ mD;walk_at "q";refine bK _ (λi ρ=>∃ (ae:Kn) (o2 o3 o4:Option Sl),EF (l.take i) ae/\ae.length<=i/\ρ=[some (.sh (.tup [.int many,.list (l.map wa)])),some (.ow true (.dT ae)),o2,o3,o4]) ⟨[],_,_,_,EF.nil,by simp,rfl⟩ ?_ ?_
 ·rintro i x ρ hx ⟨ae,o2,o3,o4,hw,hk,rfl⟩ N hN;have hi:=(kM.mp hx).1;rw[dc] at hi;obtain⟨p,d,r,rfl,hs,et⟩:=Jd hx;walk_at "q";refine⟨by lia,?_,hN _ ⟨_,_,_,_,by rw[et];exact hw.put p d r,by have:=yH [.inl p,.inr d] (.int r) ae;lia,rfl⟩⟩;rw[hw p d];have:=Cz (l.take i) p d;rw[nV] at this;split
  ·trivial
  ·show List.length _<_;rw[dc];exact Ja (by lia)
 ·rintro ρ ⟨ae,o2,o3,o4,hw,hk,rfl⟩;rw[dc,EZ] at hw;walk_at "q";exact h ae hw
def iV:WS :=
 (c9 (ip (wB (aS ic (aS dn (av 0) (wC (.int 0))) (wC (.str "some"))))
 (sM 1 (gd (aS MX (eA ki (eE (lY (Tw (av 2) (k7 (aq (av 1) (aq (aS dn (av 0) (wC (.int 1))) dy))) (n9 dy))) (gN 0) (Qt (aS dn (aS dn (av 1) (aS dn (av 2) (wC (.int 2)))) (av 0))) (av 0) 1 [3,0])) (wC (.int 0)))))
 a_)
 (c9 (ip (wB (aS ic (aS dn (av 0) (wC (.int 0))) (wC (.str "all"))))
 (sM 1 (gd (aS ic (eA ki (eE (lY (Tw (av 2) (k7 (aq (av 1) (aq (aS dn (av 0) (wC (.int 1))) dy))) (n9 dy))) (gN 0) (rS (Qt (aS dn (aS dn (av 1) (aS dn (av 2) (wC (.int 2)))) (av 0)))) (av 0) 1 [3,0])) (wC (.int 0)))))
 a_)
 (c9 (ip (wB (aS ic (aS dn (av 0) (wC (.int 0))) (wC (.str "not"))))
 (gd (zX (aS dn (aS dn (av 3) (aS dn (av 0) (wC (.int 1)))) (av 1))))
 a_)
 (c9 (ip (wB (aS ic (aS dn (av 0) (wC (.int 0))) (wC (.str "and"))))
 (gd (aS ic (eA ki (eE (pU (aS dn (av 0) (wC (.int 1)))) (gN 0) (rS (Qt (aS dn (aS dn (av 1) (av 0)) (av 2)))) (av 0) 1 [3,1])) (wC (.int 0))))
 a_)
 (gd (aS MX (eA ki (eE (pU (aS dn (av 0) (wC (.int 1)))) (gN 0) (Qt (aS dn (aS dn (av 1) (av 0)) (av 2))) (av 0) 1 [3,1])) (wC (.int 0))))))))
def dM:gp:=λds Q=>∃ (r:Rw) (s many:Int) (l:List iX) (ae:Kn) (ts:List Tr),ds=[cw r,.int s,.dT ae,.list (ts.map (xA many))]/\EF l ae/\eL' many l/\nL ts.length r/\(0<=s/\s<many)/\Q .sh (.bl (BD l ts r s))
def lA (ds Q) (h:dM ds Q):ds.length=["_law_row_here", "_law_p", "_law_out_here", "_law_lists"].length:=by obtain⟨_,_,_,_,_,_,rfl,_⟩:=h;rfl
def pH:∀ ds Q,dM ds Q->iV { nx:=λ_=>Q .sh .non,rt:=Q } (aM 4 ds):=by
 rintro ds Q ⟨r,s,many,l,ae,ts,rfl,hw,mz,ok,hs,h⟩;unfold iV
 cases r with
 |st w d j =>
  obtain⟨ow,od,j0,j1⟩:=ok;walk_at"i";have el:=uQ (many:=many) j0 j1;rcases ow with rfl|rfl
  ·walk_at "q";refine xX hw λm=>?_;walk_at "q";refine bf (TN (λq=>ts.getD j.toNat (λ_=>false) q)) id (λρ=>∃ o,ρ=[o,some (.sh (.list (ts.map (xA many)))),some (.sh (.tup [.str "some",.str d,.int j]))]) _ _ _ ⟨_,rfl⟩ ?_ ?_
   ·rintro y hy ρ ⟨o,rfl⟩ M1 M2 m1 m2;obtain⟨q,hq,rfl⟩:=fP.mp hy;have iq:=(mz _ (u6.mp hq)).2.2.2;have i0:0<=q:=iq.1;have i1:q<many:=iq.2;walk_at "q";refine⟨_,el,?_⟩;refine Exists.intro _ (And.intro (xK i0 i1 _) ?_);walk_at "q";exact jy (λe=>⟨.inl rfl,m2 _ ⟨_,rfl⟩ e⟩) λe=>m1 _ ⟨_,rfl⟩ e
   rw[jB];try rw[dc]
   rw[xW];exact h
  ·walk_at "q";refine R.D (λz=>absurd z (by decide +kernel)) λ_=>?_;walk_at "q";refine xX hw λm=>?_;walk_at "q";refine bf (TN (λq=>!ts.getD j.toNat (λ_=>false) q)) id (λρ=>∃ o,ρ=[o,some (.sh (.list (ts.map (xA many)))),some (.sh (.tup [.str "all",.str d,.int j]))]) _ _ _ ⟨_,rfl⟩ ?_ ?_
   ·rintro y hy ρ ⟨o,rfl⟩ M1 M2 m1 m2;obtain⟨q,hq,rfl⟩:=fP.mp hy;have iq:=(mz _ (u6.mp hq)).2.2.2;have i0:0<=q:=iq.1;have i1:q<many:=iq.2;walk_at "q";refine⟨_,el,?_⟩;refine Exists.intro _ (And.intro (xK i0 i1 _) ?_);walk_at "q";exact jy (λe=>⟨.inl rfl,m2 _ ⟨_,rfl⟩ e⟩) λe=>m1 _ ⟨_,rfl⟩ e
   rw[jB];try rw[dc]
   rw[yz];exact h
 |nt j =>obtain⟨j0,j1⟩:=ok;have el:=uQ (many:=many) j0 j1;rw[show cw (.nt j)=.tup [.str "not",.int j] from rfl];walk_at "q";refine R.D (λz=>absurd z IQ.1) λ_=>?_;walk_at "q";refine R.D (λz=>absurd z IQ.2) λ_=>?_;walk_at "q";refine⟨_,el,?_⟩;exact Exists.intro _ (And.intro (xK hs.1 hs.2 _) h)
 |jn w ps =>
  obtain⟨ow,pl,pj⟩:=ok;have nw:=BF ow;walk_at"p";walk_at "q";refine R.D (λz=>absurd z nw.1) λ_=>?_;walk_at "q";refine R.D (λz=>absurd z nw.2.1) λ_=>?_;walk_at "q";refine R.D (λz=>absurd z nw.2.2) λ_=>?_;walk_at "q";rcases ow with rfl|rfl
  ·refine R.D (λ_=>?_) λz=>absurd rfl z;walk_at "q";refine bf (TN (λp=>!ts.getD p.toNat (λ_=>false) s)) id (λρ=>∃ o,ρ=[o,some (.sh (.list (ts.map (xA many)))),some (.sh (.int s))]) _ _ _ ⟨_,rfl⟩ ?_ ?_
   ·rintro y hy ρ ⟨o,rfl⟩ M1 M2 m1 m2;obtain⟨q,hq,rfl⟩:=fP.mp hy;have iq:=pj q hq;walk_at "q";refine⟨_,uQ iq.1 iq.2,?_⟩;refine Exists.intro _ (And.intro (xK hs.1 hs.2 _) ?_);walk_at "q";exact jy (λe=>⟨.inl rfl,m2 _ ⟨_,rfl⟩ e⟩) λe=>m1 _ ⟨_,rfl⟩ e
   rw[jB];try rw[dc]
   rw[yz];exact h
  ·refine R.D (λz=>absurd z (by decide +kernel)) λ_=>?_;walk_at "q";refine bf (TN (λp=>ts.getD p.toNat (λ_=>false) s)) id (λρ=>∃ o,ρ=[o,some (.sh (.list (ts.map (xA many)))),some (.sh (.int s))]) _ _ _ ⟨_,rfl⟩ ?_ ?_
   ·rintro y hy ρ ⟨o,rfl⟩ M1 M2 m1 m2;obtain⟨q,hq,rfl⟩:=fP.mp hy;have iq:=pj q hq;walk_at "q";refine⟨_,uQ iq.1 iq.2,?_⟩;refine Exists.intro _ (And.intro (xK hs.1 hs.2 _) ?_);walk_at "q";exact jy (λe=>⟨.inl rfl,m2 _ ⟨_,rfl⟩ e⟩) λe=>m1 _ ⟨_,rfl⟩ e
   rw[jB];try rw[dc]
   rw[xW];exact h
def iY:WS :=
 (c9 (gI 1 (n9 dy))
 (c9 (sM 0 (sP (fJ (av 0)) (gN 2)
 (ip (wB (aS (D7 false) (aS dn (av 2) (wC (.int 0))) (k7 (aq (wC (.str "some")) (aq (wC (.str "all")) dy)))))
 (yk (sQ 1) (aS mG (aS dn (av 1) (aS dn (av 2) (wC (.int 2)))) (wC (.int 1))))
 (ip (wB (aS ic (aS dn (av 2) (wC (.int 0))) (wC (.str "not"))))
 (yk (sQ 1) (aS dn (av 1) (aS dn (av 2) (wC (.int 1)))))
 (yk (sQ 1) (aS CT (eE (pU (aS dn (av 2) (wC (.int 1)))) (gN 0) Bn (aS dn (av 1) (av 0)) 1 [1]) (wC (.int 0))))))))
 (gd (aS dn (av 1) (eA FU (wC (.int 1)))))))
def cB:gp:=λds Q=>∃ (rs:List Rw),ds=[.list (rs.map cw)]/\eJ rs/\1<=rs.length/\rs.length<=2000/\Q .sh (.int (depth rs))
def lG (ds Q) (h:cB ds Q):ds.length=["_law_scroll_here"].length:=by obtain⟨_,rfl,_⟩:=h;rfl
def qy:∀ ds Q,cB ds Q->iY { nx:=λ_=>Q .sh .non,rt:=Q } (aM 3 ds):=by
 rintro ds Q ⟨rs,rfl,sc,h1,h2,h⟩;unfold iY;walk_at "q";refine bK _ (λi ρ=>∃ o2:Option Sl,ρ=[some (.sh (.list (rs.map cw))),some (.ow true (.list ((deps (rs.take i)).map D.int))),o2]) ⟨_,rfl⟩ ?_ ?_
 ·rintro i x ρ hx ⟨o2,rfl⟩ N hN;rw[ku] at hx
  cases e:rs[i]? with
  |none=>rw[e] at hx;cases hx
  |some r =>
   rw[e] at hx;cases hx;have hr:=sc i r e;have hi:i<rs.length:=(kM.mp e).1;have hlen:((rs.take i).length:Int)=i:=by rw[nV];lia
   have nn:=Fv (rs.take i);have step:deps (rs.take (i+1))=deps (rs.take i)++[dep (deps (rs.take i)) r]:=by rw[AQ,e];exact Be _ _
   have eR:(deps (rs.take i)).length<16777216:=by rw[jD,nV];lia
   have fin:∀ v:Int,v=dep (deps (rs.take i)) r->∀ o2:Option Sl,N [some (.sh (.list (rs.map cw))),some (.ow true (.list ((deps (rs.take i)).map D.int++[D.int v]))),o2]:=λv hv o2=>by grind
   cases r with
   |st w d j =>
    walk_at"i";walk_at "q";refine⟨rfl,rfl,?_⟩;refine R.T ?_ ?_
    ·rcases hr.1 with rfl|rfl<;>decide +kernel
    walk_at "q";exact⟨_,sJ hr.2.2.1 (by rw[hlen];exact hr.2.2.2),by rw[dc,kB];exact eR,fin _ rfl _⟩
   |nt j =>rw[show cw (.nt j)=.tup [.str "not",.int j] from rfl];walk_at "q";refine⟨rfl,rfl,R.F (by decide +kernel) ?_⟩;walk_at "q";exact⟨_,sJ hr.1 (by rw[hlen];exact hr.2),by rw[dc,kB];exact eR,fin _ rfl _⟩
   |jn w ps =>
    walk_at"p";walk_at "q";refine⟨rfl,rfl,R.F ?_ ?_⟩
    ·rcases hr.1 with rfl|rfl<;>decide +kernel
    walk_at "q";refine R.F (decide_eq_false (BF hr.1).2.2) ?_;walk_at "q";refine bf (λ_=>true) (V8 λp=>(deps (rs.take i)).getD p.toNat 0) (λρ=>∃ o,ρ=[o,some (.sh (.list ((deps (rs.take i)).map D.int)))]) _ _ _ ⟨_,rfl⟩ ?_ ?_
    ·rintro x hx ρ ⟨o,rfl⟩ N1 N2 _ Sw;obtain⟨p,hp,rfl⟩:=fP.mp hx;have iF:=hr.2.2 p hp;walk_at "q";exact⟨_,sJ iF.1 (by rw[hlen];exact iF.2),.inl rfl,Sw _ ⟨_,rfl⟩ rfl⟩
    ·have eo:((ps.map D.int).filter λ_=>true).map (V8 λp=>(deps (rs.take i)).getD p.toNat 0)=(ps.map λp=>(deps (rs.take i)).getD p.toNat 0).map D.int:=by rw[Wr.mpr (λ_ _=>rfl),lP,lP];rfl
     refine⟨_,eo,eR,fin _ ?_ _⟩;exact Jh λn hn=>by obtain⟨p,_,rfl⟩:=fP.mp hn;exact rR nn _
 ·rintro ρ ⟨o2,rfl⟩;rw[dc,EZ];walk_at "q";refine⟨_,eN' (d:=0) D.int (by rw[jD];exact h1),?_⟩;rw[jD];walk_at "q";exact h
def pN:WS :=
 (gd (VC (aU iQ (aq (av 0) dy)) (dZ (eA (tS "str") (av 0)) (aS ic (av 0) (wC (.str "*"))))))
def uD (x:Str):Bool:=(decide (1<=x.length/\x.length<=6) && (sg x).all isLet) || decide (x = "*")
def mO{x:Str}:uD x=true↔BE x:=by
 unfold uD BE Open lets;constructor
 ·grind
 ·grind
def iD:gp:=λds Q=>∃ x:Str,ds=[.str x]/\Q .sh (.bl (uD x))
def rK (ds Q) (h:iD ds Q):ds.length=["thing"].length:=by obtain⟨_,rfl,_⟩:=h;rfl
def xJ:∀ ds Q,iD ds Q->pN { nx:=λ_=>Q .sh .non,rt:=Q } (aM 1 ds):=by
 rintro ds Q ⟨x,rfl,h⟩;unfold pN;walk_at "q";refine⟨_,rfl,?_⟩;unfold uD at h;walk_at "q";refine R.B (λe=>?_) λe=>?_
 ·grind
 ·walk_at "q";refine R.T rfl ?_;walk_at "q";rw[e] at h;exact h
def lR:WS :=
 (gd (dZ (aU gj (aq (av 1) dy)) (gR B5 MV (wC (.int 0)) (av 1) (av 0))))
def cL:gp:=λds Q=>∃ k j:Int,ds=[.int k,.int j]/\Q .sh (.bl (decide (0<=j/\j<k)))
def qF (ds Q) (h:cL ds Q):ds.length=["k", "thing"].length:=by obtain⟨_,_,rfl,_⟩:=h;rfl
def vG:∀ ds Q,cL ds Q->lR { nx:=λ_=>Q .sh .non,rt:=Q } (aM 2 ds):=by
 rintro ds Q ⟨k,j,rfl,h⟩;unfold lR;walk_at "q";refine⟨_,rfl,?_⟩;walk_at "q";refine R.D (λh1=>?_) λh1=>?_
 ·walk_at "q";rwa[show decide (0<=j/\j<k)=decide (j<k) by simp[h1]] at h
 ·grind
def vP:WS :=
 (c9 (gI 2 (aU bx (aq (av 0) (aq (av 1) dy))))
 (gd (aS mG (k7 (aq (V3 [("some", "all"),("all", "some"),("and", "or"),("or", "and")] (aS dn (av 2) (wC (.int 0)))) dy)) (z5 (av 2) (dB (wC (.int 1))) d8))))
def dw:gp:=λds Q=>∃ (k:Int) (r:Rw) (num:D) (f:Int->Int),ds=[cw r,num]/\nL k r/\AH r=false/\(∀ j∈qk r,z9 num f j)/\Q .sh (cw (opp (ren f r)))
def qJ (ds Q) (h:dw ds Q):ds.length=["row", "numbers"].length:=by obtain⟨_,_,_,_,rfl,_⟩:=h;rfl
def vH:∀ ds Q,dw ds Q->vP { nx:=λ_=>Q .sh .non,rt:=Q } (aM 3 ds):=by
 rintro ds Q ⟨k,r,num,f,rfl,ok,hn,hf,h⟩;walk_at "q";refine⟨k,r,num,f,rfl,ok,hf,?_⟩
 cases r with
 |nt j=>cases hn
 |st w d j =>
  rw[show cw (ren f (.st w d j))=.tup [.str w,.str d,.int (f j)] from rfl];walk_at "q";unfold V3;walk_at "q";refine⟨w,IU w,rfl,?_,?_,by decide,by simp,(show 1+2<=16777216 by decide),rfl,h⟩
  ·rcases ok.1 with rfl|rfl<;>decide +kernel
  ·rcases ok.1 with rfl|rfl<;>decide +kernel
 |jn w ps =>
  rw[show cw (ren f (.jn w ps))=.tup [.str w,.tup ((ps.map f).map .int)] from rfl];walk_at "q";rw[aW];walk_at "q";unfold V3;walk_at "q";refine⟨w,IU w,rfl,?_,?_,aW _,by decide,by simp,(show 1+1<=16777216 by decide),?_,h⟩
  ·rcases ok.1 with rfl|rfl<;>decide +kernel
  ·rcases ok.1 with rfl|rfl<;>decide +kernel
  ·exact(show eh [.tup ((ps.map f).map .int)]=true by simp only[eh,D.flat,aW,Bool.and_self])
def iu:WS :=
 (gd (eE (d9 (eA ki (av 0))) (gN 0) Bn (aU fW (aq (aS dn (av 1) (av 0)) (aq (av 0) (aq (av 2) dy)))) 1 [0,1]))
def cR:gp:=λds Q=>∃ (cs:List Int) (names:List Str),ds=[.list (cs.map .int),.list (names.map .str)]/\cs.length<=1000/\1<=names.length/\names.length<=100/\(∀ n∈names,BE n)/\∀ l:List Rw,l.length=cs.length->eJ l->Q (.ow true) (.list (l.map cw))
def jG (ds Q) (h:cR ds Q):ds.length=["_law_cells", "_law_names"].length:=by obtain⟨_,_,rfl,_⟩:=h;rfl
def oR:∀ ds Q,cR ds Q->iu { nx:=λ_=>Q .sh .non,rt:=Q } (aM 2 ds):=by
 rintro ds Q ⟨cs,names,rfl,hc,n1,n2,hd,h⟩;unfold iu;walk_at "q";refine⟨by lia,by lia,?_⟩;refine jK (λi out=>∃ l:List Rw,out=l.map cw/\l.length=i/\eJ l) (λρ=>∃ o,ρ=[o,some (.sh (.list (cs.map .int))),some (.sh (.list (names.map .str)))]) _ 0 [] _ _ ⟨_,rfl⟩ ⟨[],rfl,rfl,eJ.nil⟩ ?_ ?_
 ·rintro i x hx ρ ⟨o,rfl⟩ out ⟨l,rfl,hl,hs⟩ N1 N2 h2;obtain⟨hi,rfl⟩:=fX hx;walk_at "q";refine⟨.int cs[i],?_,?_⟩
  ·have:=vi (xs:=cs.map D.int) (j:=i) (v:=.int cs[i]) (by simp[hi]);rwa[show i=0+(i:Int) by lia] at this
  walk_at "q";refine⟨_,_,_,rfl,by lia,by lia,n1,n2,hd,λr hr=>?_⟩;walk_at "q";refine⟨.inl (qW r),h2 _ _ ⟨_,rfl⟩ ⟨l++[r],by simp,by simp[hl],hs.app ?_⟩⟩;rw[hl];simpa using hr
 ·rintro out ⟨l,e,hl,hs⟩;rw[List.nil_append] at e;subst e;rw[e_] at hl;exact h l (by simpa using hl) hs
def gB:WS :=
 (c9 (ip (tP (rS (wB (eA (tS "tuple") (av 0)))) (tP (wB (aS MV (eA ki (av 0)) (wC (.int 2)))) (rS (wB (eA (tS "str") (aS dn (av 0) (wC (.int 0))))))))
 (gd (wC (.bl false)))
 a_)
 (c9 (ip (wB (aS (D7 false) (aS dn (av 0) (wC (.int 0))) (k7 (aq (wC (.str "and")) (aq (wC (.str "or")) dy)))))
 (gd (dZ (aS ic (eA ki (av 0)) (wC (.int 2))) (dZ (eA (tS "tuple") (aS dn (av 0) (wC (.int 1)))) (dZ (aS B5 (eA ki (aS dn (av 0) (wC (.int 1)))) (wC (.int 200))) (aU bN (aq (aS dn (av 0) (wC (.int 1))) (aq (av 1) dy)))))))
 a_)
 (gd (dZ (aS (D7 false) (aS dn (av 0) (wC (.int 0))) (k7 (aq (wC (.str "some")) (aq (wC (.str "all")) dy)))) (dZ (aS ic (eA ki (av 0)) (wC (.int 3))) (dZ (eA (tS "str") (aS dn (av 0) (wC (.int 1)))) (aU bN (aq (z5 (av 0) (dB (wC (.int 2))) d8) (aq (av 1) dy)))))))))
def cU:gp:=λds Q=>∃ (r:Rw) (k:Int),ds=[cw r,.int k]/\nL k r/\AH r=false/\Q .sh (.bl true)
def jU (ds Q) (h:cU ds Q):ds.length=["_law_row_here", "_law_k"].length:=by obtain⟨_,_,rfl,_⟩:=h;rfl
def oU:∀ ds Q,cU ds Q->gB { nx:=λ_=>Q .sh .non,rt:=Q } (aM 2 ds):=by
 rintro ds Q ⟨r,k,rfl,hr,hn,h⟩;unfold gB
 match r,hr,hn with
 |.st w d j,⟨hw,hd,j0,j1⟩,_ =>obtain⟨n1,n2,n3⟩:=eK' hw;rw[show cw (.st w d j)=.tup [.str w,.str d,.int j] from rfl];walk_at "q";refine R.F rfl ?_;walk_at "q";refine R.F rfl ?_;walk_at "q";refine R.F rfl ?_;walk_at "q";rw[zf,decide_eq_false n2,decide_eq_false n3];refine⟨rfl,rfl,R.F rfl ?_⟩;walk_at "q";rw[zf,show(decide (w = "some") || decide (w = "all"))=true by rcases hw with rfl|rfl<;>simp];refine⟨rfl,rfl,?_⟩;walk_at "q";refine R.T rfl ?_;walk_at "q";refine R.T rfl ?_;walk_at "q";refine⟨by decide,[j],k,rfl,λp hp=>by rw[kD.mp hp];exact⟨j0,j1⟩,?_⟩;walk_at "q";exact h
 |.jn w ps,⟨hw,hl,hp⟩,_ =>rw[show cw (.jn w ps)=.tup [.str w,.tup (ps.map .int)] from rfl];walk_at "q";refine R.F rfl ?_;walk_at "q";refine R.F rfl ?_;walk_at "q";refine R.F rfl ?_;walk_at "q";rw[zf,show(decide (w = "and") || decide (w = "or"))=true by rcases hw with rfl|rfl<;>simp];refine⟨rfl,rfl,R.T rfl ?_⟩;walk_at "q";refine R.T rfl ?_;walk_at "q";refine R.T rfl ?_;walk_at "q";refine R.T (decide_eq_true (by lia)) ?_;walk_at "q";refine⟨ps,k,rfl,hp,?_⟩;walk_at "q";exact h
def oK:WS :=
 (c9 (gI 2 (aU gh (aq (av 0) dy)))
 (c9 (gI 3 (n9 dy))
 (c9 (sM 1 (sP (fJ (av 1)) (gN 4)
 (yk (sQ 3) (eE (d9 (aS dn (av 0) (wC (.int 0)))) (gN 0) Bn (aU dM (aq (av 3) (aq (av 0) (aq (av 2) (aq (av 1) dy))))) 1 [3,2,4]))))
 (uA 3 (eA FU (wC (.int 1)))))))
def bZ:gp:=λds Q=>∃ (many:Int) (l:List iX) (rs:List Rw),ds=[mD many l,.list (rs.map cw)]/\0<=many/\many<=20/\eL' many l/\l.length<=1000/\eJ rs/\1<=rs.length/\rs.length<=2000/\Q (.ow true) (xA many ((oP l rs).getD (rs.length-1) λ_=>false))
def jO (ds Q) (h:bZ ds Q):ds.length=["_law_m", "_law_scroll_here"].length:=by obtain⟨_,_,_,rfl,_⟩:=h;rfl
def nG:∀ ds Q,bZ ds Q->oK { nx:=λ_=>Q .sh .non,rt:=Q } (aM 5 ds):=by
 rintro ds Q ⟨many,l,rs,rfl,m0,m1,mz,hz,hs,h1,hl,h⟩;walk_at "q";refine⟨many,l,rfl,hz,λae hw=>?_⟩;walk_at "q";refine bK _ (λi ρ=>∃ o4:Option Sl,ρ=[some (.sh (.tup [.int many,.list (l.map wa)])),some (.sh (.list (rs.map cw))),some (.ow true (.dT ae)),some (.ow true (.list ((oP l (rs.take i)).map (xA many)))),o4]) ⟨_,rfl⟩ ?_ ?_
 ·rintro i x ρ hx ⟨o4,rfl⟩ N hN;rw[ku] at hx
  cases e:rs[i]? with
  |none=>rw[e] at hx;cases hx
  |some r =>
   rw[e] at hx;cases hx;have hr:=hs i r e;have hi:i<rs.length:=(kM.mp e).1;walk_at "q";have hlen:((oP l (rs.take i)).length:Int)=i:=by rw[oF,nV];lia
   refine⟨by lia,by lia,bf (λ_=>true) (λd=>match d with
    |.int s=>.bl (BD l (oP l (rs.take i)) r s)
    |d=>d) (λρ=>∃ o,ρ=[o,some (.sh (.list ((oP l (rs.take i)).map (xA many)))),some (.sh (.dT ae)),some (.sh (cw r))]) _ _ _ ⟨_,rfl⟩ ?_ ?_⟩
   ·rintro y hy ρ ⟨o,rfl⟩ N1 N2 _ h2;obtain⟨k,hk,rfl⟩:=oM hy;walk_at "q";refine⟨r,_,many,l,ae,oP l (rs.take i),rfl,hw,mz,by rw[hlen];exact hr,⟨by lia,by lia⟩,?_⟩;walk_at "q";exact⟨.inl rfl,h2 _ ⟨_,rfl⟩ rfl⟩
   ·rw[iR]
    have eb:(gF 0 many.toNat).map (λd=>match d with
     |.int s=>D.bl (BD l (oP l (rs.take i)) r s)
     |d=>d)=(fU many.toNat).map λs=>.bl (BD l (oP l (rs.take i)) r s):=by rw[vQ,lP];rfl
    rw[eb];have st:(oP l (rs.take i)).map (xA many)++[D.list ((fU many.toNat).map λs=>.bl (BD l (oP l (rs.take i)) r s))]=(oP l (rs.take (i+1))).map (xA many):=by rw[AQ,e,show(some r).toList=[r] from rfl,Dd,pz];rfl
    rw[st];exact⟨by lia,hN _ ⟨_,rfl⟩⟩
 ·rintro ρ ⟨o4,rfl⟩;rw[dc,EZ];walk_at "q";refine⟨_,eN' (d:=λ_=>false) (xA many) (by rw[oF];exact h1),?_⟩;rw[oF];exact h
def jW:WS :=
 (c9 (ip (tP (rS (wB (eA (tS "tuple") (av 1)))) (wB (aS MX (eA ki (av 1)) (wC (.int 200)))))
 (gd (wC (.bl false)))
 a_)
 (gd (eA Ti (eE (pU (av 1)) (gN 0) Bn (aU cL (aq (av 1) (aq (av 0) dy))) 1 [0]))))
def eF:gp:=λds Q=>∃ (k:Int) (ps:List Int),ds=[.int k,.tup (ps.map .int)]/\ps.length<=200/\Q .sh (.bl (ps.all λp=>decide (0<=p/\p<k)))
def oW (ds Q) (h:eF ds Q):ds.length=["k", "thing"].length:=by obtain⟨_,_,rfl,_⟩:=h;rfl
def rH:∀ ds Q,eF ds Q->jW { nx:=λ_=>Q .sh .non,rt:=Q } (aM 2 ds):=by
 rintro ds Q ⟨k,ps,rfl,hl,h⟩;unfold jW;walk_at "q";refine R.F rfl ?_;walk_at "q";refine R.F (decide_eq_false (by lia)) ?_;walk_at "q"
 refine bf (λ_=>true) (λd=>match d with
  |.int p=>.bl (decide (0<=p/\p<k))
  |d=>d) (λρ=>∃ o,ρ=[o,some (.sh (.int k))]) _ _ _ ⟨_,rfl⟩ ?_ ?_
 ·rintro y hy ρ ⟨o,rfl⟩ N1 N2 _ h2;obtain⟨p,hp,rfl⟩:=fP.mp hy;walk_at "q";exact⟨_,_,rfl,.inl rfl,h2 _ ⟨_,rfl⟩ rfl⟩
 ·rw[iR];refine⟨ps.map λp=>decide (0<=p/\p<k),by rw[lP,lP];rfl,?_⟩;rw[OU];exact h
def bV:WS :=
 (c9 (ip (wB (aS (D7 false) (aS kH (aS sL (av 2) (wC (.int 144))) (wC (.int 16))) (k7 (aq (wC (.int 5)) (aq (wC (.int 7)) dy)))))
 (c9 (gI 5 (eA ki (av 3)))
 (c9 (gI 6 (aS dn (n9 (aq (wC (.int 1000)) (aq (aS mG (wC (.int 1001)) (aS kH (aS sL (av 2) (wC (.int 2304))) (wC (.int 1000)))) dy))) (eA ax' (aS ic (aS kH (aS sL (av 2) (wC (.int 144))) (wC (.int 16))) (wC (.int 7))))))
 (gI 3 (aS mG (av 3) (eE (d9 (aS IE (av 6) (av 5))) (gN 0) Bn (k7 (aq (wC (.str "not")) (aq (aS kH (aS zS (av 0) (av 0)) (av 1)) dy))) 1 [5])))))
 a_)
 (pF 3))
def bW:WS :=
 (c9 (ip (wB (aS ic (aS kH (aS sL (av 2) (wC (.int 36))) (wC (.int 4))) (wC (.int 1))))
 (sP (zJ (wC (.int 1)) (eA ki (av 3)) (wC (.int 2))) (gN 4)
 (Gj (sQ 3) (av 4) (k7 (aq (wC (.str "not")) (aq (aS IE (av 4) (wC (.int 1))) dy)))))
 a_)
 bV)
def ji:WS :=
 (c9 (gI 2 (aU aO (aq (av 0) (aq (wC (.int 0)) dy))))
 (c9 (gI 3 (aU cR (aq (aS mG (z5 (av 0) (dB (wC (.int 30))) (dB (wC (.int 63)))) (n9 (aq (aU aO (aq (av 0) (aq (wC (.int 3)) dy))) dy))) (aq (av 1) dy))))
 bW))
def dN:gp:=λds Q=>∃ (ns:List Int) (names:List Str),ds=[.list (ns.map .int),.list (names.map .str)]/\ns.length<=63/\1<=names.length/\names.length<=100/\(∀ n∈names,BE n)/\∀ rs:List Rw,eJ rs->1<=rs.length->rs.length<=2000->Q (.ow true) (.list (rs.map cw))
def lr (ds Q) (h:dN ds Q):ds.length=["_law_script", "_law_names"].length:=by obtain⟨_,_,rfl,_⟩:=h;rfl
def fL{Q:Md->D->Prop}{x0 x1:D}{first:Int}{rs:List Rw}{o4:Option Sl}(sc:eJ rs)(h1:1<=rs.length)(h2:rs.length<=64)(h:∀ rs:List Rw,eJ rs->1<=rs.length->rs.length<=2000->Q (.ow true) (.list (rs.map cw))) :
  bV { nx:=λ_=>Q .sh .non,rt:=Q } [some (.sh x0),some (.sh x1),some (.sh (.int first)),some (.ow true (.list (rs.map cw))),o4,none,none]:=by
 unfold bV;walk_at "q";refine⟨rfl,rfl,R.B (λ_=>?_) λ_=>?_⟩
 ·walk_at "q";obtain⟨many,em,m0,m1⟩:∃ many:Int,fF [D.int 1000,D.int (1001+first / 2304 % 1000)] (if decide (first / 144 % 16=7)=true then 1 else 0)=some (.int many)/\1000<=many/\many<=2000:=by
   have a:=yj (first / 2304) (show 0<1000 by decide);split
   ·exact⟨_,rfl,by lia,by lia⟩
   ·exact⟨_,rfl,by lia,by lia⟩
  refine⟨_,em,?_⟩;walk_at "q";refine⟨by lia,by lia,?_⟩;refine jK (λn out=>∃ ms:List Rw,out=ms.map cw/\ms.length=n/\∀ r∈ms,∃ j:Int,r=.nt j/\0<=j/\j<rs.length) (λρ=>∃ o,ρ=[o,some (.sh (.int rs.length))]) _ 0 [] _ _ ⟨_,rfl⟩ ⟨[],rfl,rfl,λr hr=>nomatch hr⟩ ?_ ?_
  ·rintro j y hy ρ ⟨o,rfl⟩ out ⟨ms,rfl,hml,TQ⟩ N1 N2 Sw;obtain⟨hj,rfl⟩:=fX hy;walk_at "q";have q0:=w_ ((0+(j:Int))*(0+(j:Int))) (show(rs.length:Int)≠0 by lia);have q1:=xI ((0+(j:Int))*(0+(j:Int))) (show 0<(rs.length:Int) by lia);refine⟨xO (by lia) (by lia),by lia,.inl rfl,Sw _ _ ⟨_,rfl⟩ ⟨ms++[.nt _],by rw[pz];rfl,by simp[hml],λr hr=>?_⟩⟩;rcases eL.mp hr with z|z
   ·exact TQ r z
   ·exact⟨_,kD.mp z,q0,q1⟩
  ·rintro out ⟨ms,e,hml,TQ⟩;simp only[List.nil_append] at e;subst e;rw[e_] at hml;refine⟨by rw[dc];lia,.inl ⟨gD _,gD _,?_⟩⟩;rw[<- pz];refine h (rs++ms) (λi r hi=>?_) (by simp;lia) (by simp;lia);by_cases z:i<rs.length
   ·rw[EW z] at hi;exact sc i r hi
   ·rw[EV (by lia)] at hi;obtain⟨j,rfl,j0,j1⟩:=TQ r (pf hi);exact⟨j0,by lia⟩
 ·walk_at "q";exact h rs sc h1 (by lia)
def lQ{Q:Md->D->Prop}{x0 x1:D}{first:Int}{rs:List Rw}(sc:eJ rs)(h1:1<=rs.length)(h2:rs.length<=64)(h:∀ rs:List Rw,eJ rs->1<=rs.length->rs.length<=2000->Q (.ow true) (.list (rs.map cw))) :
  bW { nx:=λ_=>Q .sh .non,rt:=Q } [some (.sh x0),some (.sh x1),some (.sh (.int first)),some (.ow true (.list (rs.map cw))),none,none,none]:=by
 obtain⟨w3,e3⟩:∃ w3,w3=bV:=⟨_,rfl⟩
 unfold bW;rw[<- e3];walk_at "q";refine R.D (λ_=>?_) λ_=>?_
 ·walk_at "q";have rn:((vT 1 rs.length 2:Nat):Int)=Builtin.Range.rangeSize 1 rs.length 2:=Ik (.inr rfl);have rl:Builtin.Range.rangeSize 1 rs.length 2<=rs.length/\∀ i:Int,i<Builtin.Range.rangeSize 1 rs.length 2->0<=i->1+i*2<rs.length:=by unfold Builtin.Range.rangeSize;split<;>constructor<;>lia
  refine And.intro (.inr rfl) (And.intro ⟨by decide,by decide,by rw[dc];lia,by rw[dc];lia⟩ (And.intro (by rw[dc];lia) ?_));rw[dc];refine bK _ (λi ρ=>∃ (eS:List Rw) (o4:Option Sl),eJ eS/\eS.length=rs.length/\ρ=[some (.sh x0),some (.sh x1),some (.sh (.int first)),some (.ow true (.list (eS.map cw))),o4,none,none]) ⟨rs,_,sc,rfl,rfl⟩ ?_ ?_
  ·rintro i x ρ hx ⟨eS,o4,IX,NM,rfl⟩ N hN;obtain⟨hi,rfl⟩:i<vT 1 rs.length 2/\x=.int (1+i*2):=by
    unfold TK at hx;rw[ku] at hx;by_cases z:i<vT 1 rs.length 2
    ·rw[Rv z] at hx;cases hx;exact⟨z,rfl⟩
    ·rw[GU (by simpa using z)] at hx;cases hx
   have hb:=rl.2 i (by lia) (by lia);walk_at "q";refine⟨by lia,by rw[NM];lia,?_⟩;have es:(eS.map cw).set (1+(i:Int)*2).toNat (.tup [.str "not",.int (1+i*2-1)])=(eS.set (1+(i:Int)*2).toNat (.nt (1+i*2-1))).map cw:=by rw[List.map_set];rfl
   rw[es];refine hN _ ⟨_,_,λk r hk=>?_,by rw[Kx];exact NM,rfl⟩;rw[Rz] at hk;split at hk
   ·rename_i z;split at hk
    ·cases hk;exact⟨by lia,by lia⟩
    ·cases hk
   ·exact IX k r hk
  ·rintro ρ ⟨eS,o4,IX,NM,rfl⟩;rw[e3];exact fL IX (by lia) (by lia) h
 ·walk_at "q";rw[e3];exact fL sc h1 h2 h
def qj:∀ ds Q,dN ds Q->ji { nx:=λ_=>Q .sh .non,rt:=Q } (aM 7 ds):=by
 rintro ds Q ⟨ns,names,rfl,hz,n1,n2,hd,h⟩;obtain⟨w2,e2⟩:∃ w2,w2=bW:=⟨_,rfl⟩
 unfold ji;rw[<- e2];walk_at "q";refine⟨ns,0,rfl,by decide,?_⟩;generalize ns.getD _ 0=first
 walk_at "q";rw[oh];have hc:=dH ns (some 30) (some 63);generalize rV ns (some 30) (some 63)=cells at *
 refine .inl ⟨aW ns,ns,3,rfl,by decide,?_⟩;generalize ns.getD _ 0=c3;walk_at "q";refine⟨by lia,.inl ⟨aW cells,?_⟩⟩;rw[show cells.map D.int++[D.int c3]=(cells++[c3]).map .int by rw[pz];rfl];refine⟨cells++[c3],names,rfl,by simp;lia,n1,n2,hd,λrs hrl sc=>?_⟩;walk_at "q";rw[e2];rw[mI,Kj] at hrl;exact lQ sc (by lia) (by lia) h
def cX(SP:EB):WS :=
 (c9 (gI 2 (wD1 (av 1) (wC (.bl true))))
 (c9 (sP (zJ (av 1) (eA FU (wC (.int 1))) (eA FU (wC (.int 1)))) (gN 3)
 (ip (wB (aS (D7 false) (av 3) (av 2)))
 (sP (fJ (aU n6 (aq (wM SP 0 (av 3)) dy))) (gN 4)
 (CN (sQ 2) (av 4) (wC (.bl true))))
 a_))
 (gd (eA xQ (av 2)))))
def bM:List (List RI)->gp:=λrs ds Q=>∃ (l:List Rw) (last:Nat),rs=l.map ft/\eJ l/\ds=[.int last]/\last<l.length/\l.length<=10000/\Q (.ow true) (.list ((bh l last).map .int))
def gf (rs ds Q) (h:bM rs ds Q):ds.length+1=["self", "last"].length:=by obtain⟨_,_,_,_,rfl,_⟩:=h;rfl
def Fe(last:Nat):TK (last:Int) (-1) (vT (last:Int) (-1) (-1))=(d7 last).map D.int:=by
 have e:vT last (-1) (-1)=last+1:=by unfold vT Builtin.Range.rangeSize;rw[if_neg (by decide),if_pos (by lia),show -(-1:Int)=1 from rfl];lia
 rw[e];unfold TK d7;rw[lP];refine GV λi _=>?_;simp only[Function.comp];congr 1;lia
def wc(W:List Int):List (Key × D):=W.map λj=>(.inl j,.bl true)
def KR(W:List Int)(k:Int):(gE (wc W) (.inl k:Key)).isSome=decide (k∈W):=by
 unfold gE wc
 induction W with
 |nil=>rfl
 |cons x W ih =>
  by_cases z:x=k
  ·subst z;simp
  ·grind
def K_(W:List Int)(j:Int):tN (wc W) (.inl j:Key) (.bl true)=wc (AG W j):=by
 unfold tN AG;have e:((wc W).any λkv=>decide (kv.1=(.inl j:Key)))=decide (j∈W):=by rw[y1];simp[wc]
 rw[e];by_cases h:j∈W
 ·rw[if_pos (decide_eq_true h),if_pos h];unfold wc;rw[lP];refine GV λx _=>?_;simp only[Function.comp];split<;>rfl
 ·rw[if_neg (by simpa using h),if_neg h];simp[wc]
def J3{l:List Rw}{last:Nat}(sc:eJ l){Q:Md->D->Prop}(h:Q (.ow true) (.list ((bh l last).map .int))):xQ .bo (.dK (wc (vN l last))) Q:=by
 have I:=gU (last:=last) sc;refine⟨true,λp hp=>?_,λms pm pw=>?_⟩
 ·obtain⟨j,_,rfl⟩:=fP.mp hp;rfl
 ·have ek:(wc (vN l last)).map (·.1)=(vN l last).map λx=>(Sum.inl x:Key):=by simp[wc,Function.comp_def]
  rw[ek] at pm;have hk:∀ k∈ms,∃ x,k=(Sum.inl x:Key):=λk hk=>by grind
  have TQ:ms=(bh l last).map λx=>(Sum.inl x:Key):=by
   refine List.Perm.eq_of_pairwise (λa b ha hb h1 h2=>?_) pw ?_ (pm.trans ?_)
   ·obtain⟨x,rfl⟩:=hk a ha;obtain⟨y,hy,rfl⟩:=fP.mp hb;simp only[tI,decide_eq_false_iff_not] at h1 h2;congr 1;lia
   ·refine AR.mpr (iK.imp λh=>?_);simp only[tI,decide_eq_false_iff_not];lia
   ·refine List.Perm.map _ ((List.perm_ext_iff_of_nodup I.nd ?_).mpr λx=>(g8 sc).symm);exact iK.imp λh=>by lia
  rw[TQ,lP];exact h
def xV{l:List Rw}{k:Nat}{r:Rw}(h:l[k]? = some r):(l.map ft)[k]? = some (ft r):=by rw[ku,h];rfl
def Ba{last i:Nat}{x:D}(h:((d7 last).map D.int)[i]? = some x):i<=last/\x=.int ((last:Int)-i)/\(d7 last).take (i+1)=(d7 last).take i++[(last:Int)-i]:=by
 rw[ku] at h;have hi:i<last+1:=by
  by_cases z:i<last+1
  ·exact z
  ·rw[GU (by simp[d7];lia)] at h;cases h
 have e:(d7 last)[i]? = some ((last:Int)-i):=by unfold d7;rw[ku,Rv hi];rfl
 rw[e] at h;cases h;exact⟨by lia,rfl,by rw[AQ,e];rfl⟩
def iz(SP:EB):∀ a rs ds Q,bM rs ds Q->cX SP { nx:=λ_=>Q .sh .non,rt:=Q } (ie 5 a (SP false rs) ds):=by
 rintro a rs ds Q ⟨l,last,rfl,sc,rfl,hl,hz,h⟩;unfold cX ie;walk_at "q";refine And.intro (.inl rfl) (And.intro ⟨by lia,by lia,by lia,by lia⟩ (And.intro ?_ ?_))
 ·have:vT last (-1) (-1)=last+1:=by unfold vT Builtin.Range.rangeSize;rw[if_neg (by decide),if_pos (by lia),show -(-1:Int)=1 from rfl];lia
  exact kL (RJ this) (by lia)
 ·show lq _ _ _ (TK last (-1) (vT last (-1) (-1))) _;rw[Fe];refine bK _ (λi ρ=>∃ o3 o4,ρ=[some (.ob a (SP false (l.map ft))),some (.sh (.int last)),some (.ow true (.dK (wc (((d7 last).take i).foldl (lJ l) [last])))),o3,o4]) ⟨_,_,rfl⟩ ?_ ?_
  ·rintro i x ρ hx ⟨o3,o4,rfl⟩ N hN;obtain⟨hi,rfl,et⟩:=Ba hx;have I:=kY (last:=last) sc i (by lia);have nx:∀ o3 o4,N [some (.ob a (SP false (l.map ft))),some (.sh (.int last)),some (.ow true (.dK (wc (lJ l (((d7 last).take i).foldl (lJ l) [last]) (last-i))))),o3,o4]:=λo3 o4=>hN _ ⟨o3,o4,by rw[et,Kk];rfl⟩;generalize ((d7 last).take i).foldl (lJ l) [last]=W at *
   generalize hk:(last:Int)-i=k at *
   walk_at "q"
   have st:lJ l W k=if k∈W then (match l[k.toNat]? with
    |some r=>(qk r).foldl AG W
    |none=>W) else W:=rfl
   rw[KR];refine R.D (λkg=>?_) λkg=>?_
   ·obtain⟨k0,k1⟩:=I.bd k kg;have IH:k.toNat<l.length:=by lia
    obtain⟨r,hr⟩:∃ r,l[k.toNat]? = some r:=⟨_,si IH⟩
    rw[if_pos kg,hr] at st;have ok:=sc _ _ hr;rw[mP k0] at ok;walk_at "q";refine⟨a,false,l.map ft,rfl,k.toNat,ft r,by rw[mP k0],xV hr,?_⟩;rw[vB];refine⟨r,k,rfl,ok,?_⟩;walk_at "q";have dl:=dF ok;refine bK _ (λi ρ=>∃ o4,ρ=[some (.ob a (SP false (l.map ft))),some (.sh (.int last)),some (.ow true (.dK (wc (((qk r).take i).foldl AG W)))),some (.sh (.int k)),o4]) ⟨_,rfl⟩ ?_ ?_
    ·rintro i x ρ hx ⟨o4,rfl⟩ N' hN';rw[ku] at hx
     cases e:(qk r)[i]? with
     |none=>rw[e] at hx;cases hx
     |some j =>
      rw[e] at hx;cases hx;have tk:(qk r).take (i+1)=(qk r).take i++[j]:=by rw[AQ,e];rfl
      have hln:(wc (((qk r).take i).foldl AG W)).length<=10001:=by
       unfold wc;rw[dc];refine kL (zL (rO _ _ I.nd) (n:=last+1) λx hx=>?_) (by lia);rcases (dG _ _).mp hx with z|z
       ·have:=I.bd x z;lia
       ·have:=dl x (Ru z);lia
      walk_at "q";refine⟨by lia,?_⟩;rw[K_];exact hN' _ ⟨_,by rw[tk,Kk];rfl⟩
    ·rintro ρ ⟨o4,rfl⟩;rw[dc,EZ];have st:lJ l W k=(qk r).foldl AG W:=st;rw[<- st];exact nx _ _
   ·rw[if_neg kg] at st;rw[st] at nx;walk_at "q";exact nx _ _
  ·rintro ρ ⟨o3,o4,rfl⟩;rw[dc,EZ];walk_at "q";exact J3 sc h
def vd:WS :=
 (c9 (ip (tP (rS (wB (eA (tS "tuple") (av 1)))) (tP (wB (aS ic (eA ki (av 1)) (wC (.int 0)))) (rS (wB (eA (tS "str") (aS dn (av 1) (wC (.int 0))))))))
 (gd (wC (.bl false)))
 a_)
 (c9 (ip (tP (wB (aS ic (aS dn (av 1) (wC (.int 0))) (wC (.str "some")))) (wB (aS ic (aS dn (av 1) (wC (.int 0))) (wC (.str "all")))))
 (gd (dZ (aS ic (eA ki (av 1)) (wC (.int 3))) (dZ (aU iD (aq (aS dn (av 1) (wC (.int 1))) dy)) (aU cL (aq (av 0) (aq (aS dn (av 1) (wC (.int 2))) dy))))))
 a_)
 (c9 (ip (wB (aS ic (aS dn (av 1) (wC (.int 0))) (wC (.str "not"))))
 (gd (dZ (aS ic (eA ki (av 1)) (wC (.int 2))) (aU cL (aq (av 0) (aq (aS dn (av 1) (wC (.int 1))) dy)))))
 a_)
 (c9 (ip (tP (wB (aS ic (aS dn (av 1) (wC (.int 0))) (wC (.str "and")))) (wB (aS ic (aS dn (av 1) (wC (.int 0))) (wC (.str "or")))))
 (gd (dZ (aS ic (eA ki (av 1)) (wC (.int 2))) (aU eF (aq (av 0) (aq (aS dn (av 1) (wC (.int 1))) dy)))))
 a_)
 (gd (wC (.bl false)))))))
def jX:gp:=λds Q=>∃ (k:Int) (r:Rw),ds=[.int k,cw r]/\nL k r/\Q .sh (.bl true)
def vq (ds Q) (h:jX ds Q):ds.length=["k", "thing"].length:=by obtain⟨_,_,rfl,_⟩:=h;rfl
def Ao:∀ ds Q,jX ds Q->vd { nx:=λ_=>Q .sh .non,rt:=Q } (aM 2 ds):=by
 rintro ds Q ⟨k,r,rfl,hr,h⟩;unfold vd
 cases r with
 |st w d j =>
  obtain⟨hw,hd,h0,h1⟩:=hr;walk_at"i";walk_at "q";refine R.F rfl ?_;walk_at "q";refine R.F rfl ?_;walk_at "q";refine R.F rfl ?_;walk_at "q";refine R.D (λe=>?_) λe=>?_
  ·walk_at "q";refine R.T rfl ?_;walk_at "q";refine⟨_,rfl,?_⟩;walk_at "q";refine R.T (mO.mpr hd) ?_;walk_at "q";refine⟨_,_,rfl,?_⟩;rw[decide_eq_true ⟨h0,h1⟩];exact h
  ·walk_at "q";refine R.T (decide_eq_true (hw.resolve_left e)) ?_;walk_at "q";refine R.T rfl ?_;walk_at "q";refine⟨_,rfl,?_⟩;walk_at "q";refine R.T (mO.mpr hd) ?_;walk_at "q";refine⟨_,_,rfl,?_⟩;rw[decide_eq_true ⟨h0,h1⟩];exact h
 |nt j =>obtain⟨h0,h1⟩:=hr;rw[show cw (.nt j)=.tup [.str "not",.int j] from rfl];walk_at "q";refine R.F rfl ?_;walk_at "q";refine R.F rfl ?_;walk_at "q";refine R.F rfl ?_;walk_at "q";refine R.F (decide_eq_false IQ.1) ?_;walk_at "q";refine R.F (decide_eq_false IQ.2) ?_;walk_at "q";refine R.T rfl ?_;walk_at "q";refine⟨_,_,rfl,?_⟩;rw[decide_eq_true ⟨h0,h1⟩];exact h
 |jn w ps =>
  obtain⟨hw,hl,hp⟩:=hr;walk_at"p";walk_at "q";refine R.F rfl ?_;walk_at "q";refine R.F rfl ?_;walk_at "q";refine R.F rfl ?_;walk_at "q";refine R.F (decide_eq_false (BF hw).1) ?_;walk_at "q";refine R.F (decide_eq_false (BF hw).2.1) ?_;walk_at "q";refine R.F (decide_eq_false (BF hw).2.2) ?_;walk_at "q";have ha:(ps.all λp=>decide (0<=p/\p<k))=true:=CY.mpr λp h=>decide_eq_true (hp p h);refine R.D (λe=>?_) λe=>?_
  ·walk_at "q";refine R.T rfl ?_;walk_at "q";refine⟨_,_,rfl,hl,?_⟩;rw[ha];exact h
  ·walk_at "q";refine R.T (decide_eq_true (hw.resolve_left e)) ?_;walk_at "q";refine R.T rfl ?_;walk_at "q";refine⟨_,_,rfl,hl,?_⟩;rw[ha];exact h
def cV(SP:EB):WS :=
 (c9 (gI 2 yG)
 (c9 (gI 3 (n9 dy))
 (c9 (sP (fJ (xP SP 0 bM (aq (av 1) dy))) (gN 4)
 (c9 (CN (sQ 2) (av 4) (eA ki (av 3)))
 (yk (sQ 3) (aU bx (aq (wM SP 0 (av 4)) (aq (av 2) dy))))))
 (pF 3))))
def bL:List (List RI)->gp:=λrs ds Q=>∃ (l:List Rw) (last:Nat),rs=l.map ft/\eJ l/\ds=[.int last]/\last<l.length/\l.length<=10000/\Q (.ow true) (.list ((oQ l last).map cw))
def gm (rs ds Q) (h:bL rs ds Q):ds.length+1=["self", "last"].length:=by obtain⟨_,_,_,_,rfl,_⟩:=h;rfl
def GH(ks:List Int):List (Key × D):=ks.zipIdx.map λq=>(.inl q.1,.int (q.2:Nat))
def Kg{ks:List Int}(nd:ks.Nodup){j:Int}(h:j∈ks):gE (GH ks) (.inl j:Key)=some (.int (ks.idxOf j:Nat)):=by
 obtain⟨m,hm⟩:=yT.mp h;rw[bY nd hm];unfold gE GH;rw[Uu];have:∃ q,(ks.zipIdx.map λq=>((.inl q.1:Key),D.int q.2)).find? (λkv=>decide (kv.1=(.inl j:Key)))=some q:=by rw[<- Ut,List.find?_isSome];exact⟨(.inl j,.int m),fP.mpr ⟨(j,m),OL.mpr hm,rfl⟩,by simp⟩
 obtain⟨q,hq⟩:=this;refine⟨q,hq,?_⟩;obtain⟨⟨y,n⟩,hn,rfl⟩:=fP.mp (List.mem_of_find?_eq_some hq);have e:y=j:=by have:=List.find?_some hq;simpa using this
 subst e;have Fh:ks[n]? = some y:=OL.mp hn;rw[<- bY nd hm,bY nd Fh]
def J7{ks:List Int}{k:Int}(h:k∉ks):tN (GH ks) (.inl k:Key) (.int (ks.length:Nat))=GH (ks++[k]):=by
 unfold tN;have e:((GH ks).any λkv=>decide (kv.1=(.inl k:Key)))=false:=by rw[List.any_eq_false];intro q hq;obtain⟨⟨y,n⟩,hn,rfl⟩:=fP.mp hq;have Fh:ks[n]? = some y:=OL.mp hn;simp only[decide_eq_true_eq];intro z;exact h (Sum.inl.inj z ▸ pf Fh)
 rw[e];unfold GH;simp[List.zipIdx_append]
def iT(SP:EB):∀ a rs ds Q,bL rs ds Q->cV SP { nx:=λ_=>Q .sh .non,rt:=Q } (ie 5 a (SP false rs) ds):=by
 rintro a rs ds Q ⟨l,last,rfl,sc,rfl,hl,hz,h⟩;unfold cV ie;walk_at "q";refine⟨a,false,l.map ft,rfl,l,last,rfl,sc,rfl,hl,hz,?_⟩;walk_at "q";have rl:(bh l last).length<=10001:=kL (zL (eU l last) (n:=last+1) λx hx=>by have:=gn sc hx;lia) (by lia);refine bK _ (λi ρ=>∃ o4,ρ=[some (.ob a (SP false (l.map ft))),some (.sh (.int last)),some (.ow true (.dK (GH ((bh l last).take i)))),some (.ow true (.list (((oQ l last).take i).map cw))),o4]) ⟨_,rfl⟩ ?_ ?_
 ·rintro i x ρ hx ⟨o4,rfl⟩ N hN;rw[ku] at hx
  cases e:(bh l last)[i]? with
  |none=>rw[e] at hx;cases hx
  |some k =>
   rw[e] at hx;cases hx;have hk:=pf e;obtain⟨k0,k1⟩:=gn sc hk;have hi:=(kM.mp e).1;have IH:k.toNat<l.length:=by lia
   obtain⟨r,hr⟩:∃ r,l[k.toNat]? = some r:=⟨_,si IH⟩
   have ok:=sc _ _ hr;rw[mP k0] at ok;have tk:(bh l last).take (i+1)=(bh l last).take i++[k]:=by rw[AQ,e];rfl
   have ts:(oQ l last).take (i+1)=(oQ l last).take i++[ren (NX l last) r]:=by rw[AQ];unfold oQ;rw[ku,e];simp[V5,hr]
   have sl:(((oQ l last).take i).map cw).length=i:=by rw[dc,nV];unfold oQ;rw[dc];lia
   have tl:((bh l last).take i).length=i:=by rw[nV];lia
   have nk:k∉(bh l last).take i:=λz=>by
    obtain⟨m,hm⟩:=yT.mp z;rw[Wv] at hm;split at hm
    ·have:=bY (eU l last) hm;rw[bY (eU l last) e] at this;lia
    ·cases hm
   have nml:(GH ((bh l last).take i)).length=i:=by unfold GH;rw[dc,List.length_zipIdx,tl]
   walk_at "q";have UB:((oQ l last).take i).length=i:=by rw[dc] at sl;exact sl
   rw[UB];have pe:=J7 nk;rw[tl,<- tk] at pe;rw[pe];refine⟨by lia,a,false,l.map ft,rfl,k.toNat,ft r,by rw[mP k0],xV hr,?_⟩;rw[vB];have ndt:((bh l last).take (i+1)).Nodup:=(List.take_sublist _ _).nodup (eU l last);refine⟨k,r,_,NX l last,rfl,ok,λj hj=>.inr ⟨_,rfl,?_⟩,?_⟩
   ·have TL:=zc sc hk hr j hj;have lt:=Dq iK e TL (dF ok j hj).2;obtain⟨m,hm⟩:=yT.mp TL;have em:=bY (eU l last) hm;have QF:((bh l last).take (i+1))[m]? = some j:=by rw[Wv,if_pos (by lia)];exact hm
    rw[Kg ndt (pf QF),bY ndt QF];unfold NX;rw[em]
   ·walk_at "q";refine⟨by lia,?_⟩;rw[qW];have z:=hN _ ⟨some (.sh (.int k)),rfl⟩;rw[ts,pz] at z;simp only[cond_true,dk];rw[dc,UB,pe];exact z
 ·rintro ρ ⟨o4,rfl⟩;rw[dc];have e:(oQ l last).take (bh l last).length=oQ l last:=OQ (by unfold oQ;rw[dc];exact de _);rw[e];walk_at "q";exact h
def jJ:WS :=
 (c9 (ip (tP (rS (wB (eA (tS "list") (av 0)))) (rS (wB (gR B5 B5 (wC (.int 1)) (eA ki (av 0)) (wC (.int 2000))))))
 (gd (wC (.bl false)))
 a_)
 (gd (eA Ti (eE (vf (av 0)) (gT 2 (gC (gN 0) (gC (gN 1) wA))) Bn (aU jX (aq (av 0) (aq (av 1) dy))) 2 []))))
def eX:gp:=λds Q=>∃ l:List Rw,ds=[.list (l.map cw)]/\eJ l/\1<=l.length/\l.length<=2000/\Q .sh (.bl true)
def nF (ds Q) (h:eX ds Q):ds.length=["thing"].length:=by obtain⟨_,rfl,_⟩:=h;rfl
def q_:∀ ds Q,eX ds Q->jJ { nx:=λ_=>Q .sh .non,rt:=Q } (aM 1 ds):=by
 rintro ds Q ⟨l,rfl,hs,h1,h2,h⟩;unfold jJ;walk_at "q";refine R.F rfl ?_;walk_at "q";refine R.T (decide_eq_true (by lia)) ?_;walk_at "q";refine R.F (by rw[decide_eq_true (by lia)];rfl) ?_;walk_at "q";refine bf (λ_=>true) (λ_=>.bl true) (λρ=>∃ o o',ρ=[o,o']) _ _ _ ⟨_,_,rfl⟩ ?_ ?_
 ·rintro y hy ρ ⟨o,o',rfl⟩ N1 N2 _ h2;obtain⟨i,hi⟩:=yT.mp hy;unfold kZ at hi;rw[List.getElem?_mapIdx,ku] at hi
  cases e:l[i]? with
  |none=>rw[e] at hi;cases hi
  |some r =>rw[e] at hi;cases hi;walk_at "q";exact⟨_,_,rfl,hs i r e,.inl rfl,h2 _ ⟨_,_,rfl⟩ rfl⟩
 ·rw[iR];refine⟨(kZ (l.map cw)).map λ_=>true,by rw[lP];rfl,?_⟩;rw[OU,show(kZ (l.map cw)).all ((λb=>b) ∘ λ_=>true)=true from CY.mpr λ_ _=>rfl];exact h
def lK:WS :=
 (ip (rS (wB (aU eX (aq (av 0) dy))))
 zb
 a_)
def cH:gp:=λds Q=>∃ l:List Rw,ds=[.list (l.map cw)]/\eJ l/\1<=l.length/\l.length<=2000/\Q .sh .non
def ju (ds Q) (h:cH ds Q):ds.length=["thing"].length:=by obtain⟨_,rfl,_⟩:=h;rfl
def lF:∀ ds Q,cH ds Q->lK { nx:=λ_=>Q .sh .non,rt:=Q } (aM 1 ds):=by rintro ds Q ⟨l,rfl,hs,h1,h2,h⟩;walk_at "q";refine⟨l,rfl,hs,h1,h2,?_⟩;walk_at "q";exact h
def gM(SP:EB):WS :=
 (c9 (BV (aU cH (aq (av 0) dy)))
 (c9 (ip (wB (aS MX (eA ki (av 0)) (wC (.int 1000))))
 (wL "TooBig" (wC (.str "too many rows to be told without not")))
 a_)
 (c9 (IV SP 1)
 (c9 (gI 2 (n9 dy))
 (c9 (gI 3 (n9 dy))
 (c9 (sM 0 (sP (fJ (av 0)) (gN 4)
 (ip (wB (aS ic (aS dn (av 4) (wC (.int 0))) (wC (.str "not"))))
 (c9 (yk (sQ 2) (aS dn (av 3) (aS dn (av 4) (wC (.int 1)))))
 (yk (sQ 3) (aS dn (av 2) (aS dn (av 4) (wC (.int 1))))))
 (c9 (wV SP 2 1 (aU bx (aq (av 4) (aq (av 2) dy))))
 (wV SP 3 1 (aU dw (aq (av 4) (aq (av 3) dy))))))))
 (gd (xP SP 1 bL (aq (aS dn (av 2) (eA FU (wC (.int 1)))) dy)))))))))
def aY:gp:=λds Q=>∃ l:List Rw,ds=[.list (l.map cw)]/\eJ l/\1<=l.length/\l.length<=2000/\(1000<l.length->Q (.ow false) (.str "TooBig"))/\(l.length<=1000->Q (.ow true) (.list ((ll l).map cw)))
def j6 (ds Q) (h:aY ds Q):ds.length=["scroll"].length:=by obtain⟨_,rfl,_⟩:=h;rfl
def nu(SP:EB):∀ ds Q,aY ds Q->gM SP { nx:=λ_=>Q .sh .non,rt:=Q } (aM 5 ds):=by
 rintro ds Q ⟨l,rfl,sc,h1,h2,hb,hs⟩;unfold gM;walk_at "q";refine⟨l,rfl,sc,h1,h2,?_⟩;walk_at "q";refine R.D (λhl=>?_) λhl=>?_
 ·walk_at "q";exact hb (by lia)
 ·walk_at "q";intro a;walk_at "q";refine bK _ (λi ρ=>∃ o4,ρ=[some (.sh (.list (l.map cw))),some (.ob a (SP true ((lh (l.take i)).1.map ft))),some (.ow true (.list ((lh (l.take i)).2.1.map .int))),some (.ow true (.list ((lh (l.take i)).2.2.map .int))),o4]) ⟨_,rfl⟩ ?_ ?_
  ·rintro i x ρ hx ⟨o4,rfl⟩ N hN;rw[ku] at hx
   cases e:l[i]? with
   |none=>rw[e] at hx;cases hx
   |some r =>
    rw[e] at hx;cases hx;have hi:=(kM.mp e).1;have I:=nQ sc i (by lia);have tk:l.take (i+1)=l.take i++[r]:=by rw[AQ,e];rfl
    have tl:(l.take i).length=i:=by rw[nV];lia
    have ok:=sc i r e;have nx:∀ o4,N [some (.sh (.list (l.map cw))),some (.ob a (SP true ((EG (lh (l.take i)) r).1.map ft))),some (.ow true (.list ((EG (lh (l.take i)) r).2.1.map .int))),some (.ow true (.list ((EG (lh (l.take i)) r).2.2.map .int))),o4]:=λo4=>hN _ ⟨o4,by rw[tk,tV]⟩;clear hN;generalize lh (l.take i)=W at *
    obtain⟨rs,sa,tu⟩:=W;have I:CB (l.take i) rs sa tu:=I;have dl:=dF ok;have ls:=I.ls;have lt:=I.lt;have ln:=I.len;rw[tl] at ls lt ln;have gs:∀ j∈qk r,z9 (.list (sa.map .int)) (λj=>sa.getD j.toNat 0) j:=λj hj=>by have:=dl j hj;exact .inl ⟨sa,rfl,this.1,getD_at (by lia)⟩
    have gt:∀ j∈qk r,z9 (.list (tu.map .int)) (λj=>tu.getD j.toNat 0) j:=λj hj=>by have:=dl j hj;exact .inl ⟨tu,rfl,this.1,getD_at (by lia)⟩
    have full:AH r=false->∀ E:jt,E.nx=N->c9 (wV SP 2 1 (aU bx (aq (av 4) (aq (av 2) dy)))) (wV SP 3 1 (aU dw (aq (av 4) (aq (av 3) dy)))) E [some (.sh (.list (l.map cw))),some (.ob a (SP true (rs.map ft))),some (.ow true (.list (sa.map .int))),some (.ow true (.list (tu.map .int))),some (.sh (cw r))]:=by
     intro hn E hE;have V6:nL rs.length (ren (λj=>sa.getD j.toNat 0) r):=qz ok λj hj=>I.bs _ (by rw[tl];have:=dl j hj;lia);refine⟨a,rs.map ft,sa.map .int,rfl,rfl,?_,?_,i,r,_,_,rfl,ok,gs,?_⟩
     ·rw[dc,kB];lia
     ·rw[dc,kB];lia
     ·refine Exists.intro (ft (ren (λj=>sa.getD j.toNat 0) r)) (And.intro (vB _).symm (And.intro (by rw[vB];exact rw_ok 10 V6) λeS kk hr hk=>?_));obtain⟨rfl,ek⟩:=Dk I.nd hr hk;obtain⟨p1,p2,p3,p4,p5,⟨m1,p6,p7⟩,p8⟩:=yR I.nd I.sc V6;have V7:nL (putF rs (ren (λj=>sa.getD j.toNat 0) r)).1.length (ren (λj=>tu.getD j.toNat 0) r):=qz ok λj hj=>by have b:=I.bt _ (show j.toNat<(l.take i).length by rw[tl];have:=dl j hj;lia);rw[p6,mI];exact⟨b.1,by have:=b.2;lia⟩
      obtain⟨ok3,hn3⟩:=Dh V7 (by rw[uF];exact hn);refine⟨a,_,tu.map .int,rfl,rfl,?_,?_,i,r,_,_,rfl,ok,hn,gt,?_⟩
      ·rw[dc,kB];lia
      ·rw[dc,kB];lia
      ·refine Exists.intro (ft (opp (ren (λj=>tu.getD j.toNat 0) r))) (And.intro (vB _).symm (And.intro (by rw[vB];exact rw_ok 10 ok3) λrs2 k2 ZZ IA=>?_));obtain⟨rfl,ek2⟩:=Dk p1 ZZ IA;have z:=nx (some (.sh (cw r)));rw[<- hE] at z;have es:EG (rs,sa,tu) r=((putF (putF rs (ren (λj=>sa.getD j.toNat 0) r)).1 (opp (ren (λj=>tu.getD j.toNat 0) r))).1,sa++[(kk:Int)],tu++[(k2:Int)]):=by
        rw[ek,ek2]
        cases r with
        |nt j=>cases hn
        |st _ _ _=>rfl
        |jn _ _=>rfl
       rw[es,pz,pz] at z;exact z
    cases r with
    |nt j =>
     obtain⟨j0,j1⟩:=ok;have Tj:j.toNat<sa.length:=by lia
     have hjt:j.toNat<tu.length:=by lia
     have as:∀ m,fF (sa.map D.int++m) j=some (.int (sa.getD j.toNat 0)):=λm=>by have:=vi (xs:=sa.map D.int++m) (by rw[EW (by rw[dc];exact Tj),ku,getD_at Tj];rfl);rwa[mP j0] at this
     have at_:fF (tu.map D.int) j=some (.int (tu.getD j.toNat 0)):=by have:=vi (xs:=tu.map D.int) (by rw[ku,getD_at hjt];rfl);rwa[mP j0] at this
     rw[show cw (.nt j)=.tup [.str "not",.int j] from rfl];walk_at "q";refine⟨_,at_,?_⟩;walk_at "q";refine⟨by lia,_,as _,?_⟩;walk_at "q";refine⟨by lia,?_⟩;have z:=nx (some (.sh (.tup [.str "not",.int j])));rw[show EG (rs,sa,tu) (.nt j)=(rs,sa++[tu.getD j.toNat 0],tu++[sa.getD j.toNat 0]) from rfl,pz,pz] at z;exact z
    |st w d j =>
     rw[show cw (.st w d j)=.tup [.str w,.str d,.int j] from rfl] at *
     walk_at "q";refine R.F (decide_eq_false (eK' ok.1).1) ?_;exact full rfl _ rfl
    |jn w ps =>
     rw[show cw (.jn w ps)=.tup [.str w,.tup (ps.map .int)] from rfl] at *
     walk_at "q";refine R.F (decide_eq_false (BF ok.1).2.2) ?_;exact full rfl _ rfl
  ·rintro ρ ⟨o4,rfl⟩;rw[dc,EZ];walk_at "q";have W:=Dl sc;obtain⟨b0,b1⟩:=W.bs (l.length-1) (by lia);have ls:=W.ls;have wl:=W.len;refine⟨a,true,(lh l).1.map ft,rfl,?_⟩;walk_at "q";have la:fF ((lh l).2.1.map D.int) (-1)=some (.int ((lh l).2.1.getD (l.length-1) 0)):=by
    have i6:(lh l).2.1≠[]:=λz=>by rw[z] at ls;simp at ls;lia
    have e:(lh l).2.1=(lh l).2.1.dropLast++[(lh l).2.1.getD (l.length-1) 0]:=by rw[AO,<- ls,<- List.getLast?_eq_getElem?,xdS i6];exact(List.dropLast_concat_getLast i6).symm
    conv=>lhs;rw[e]
    rw[pz];exact ck' _ _
   refine⟨_,la,?_⟩;walk_at "q";refine⟨(lh l).1,((lh l).2.1.getD (l.length-1) 0).toNat,rfl,W.sc,by rw[mP b0],by lia,by lia,?_⟩;exact hs (by lia)
def fK:WS :=
 (c9 (gI 1 (k7 dy))
 (c9 (Fi 2 (xZ (zY aY (aq (av 0) dy))) (λa n=>(c9 (gI 3 (QZ 2 a (decide (n = "NoScroll") || (decide (n = "NoState") || (decide (n = "NoText") || false)))))
 (sM 3 (gI 1 (k7 (aq (QZ 2 a (decide (n = "TooBig"))) (aq (QZ 2 a true) (aq (av 3) dy)))))))))
 (gd (aS ic (av 1) (k7 (aq (wC (.bl true)) (aq (wC (.bl true)) (aq (wC (.bl false)) dy))))))))
def cJ:gp:=λds Q=>∃ rs:List Rw,ds=[.list (rs.map cw)]/\eJ rs/\1000<rs.length/\rs.length<=2000/\Q .sh (.bl true)
def jr (ds Q) (h:cJ ds Q):ds.length=["_law_scroll_here"].length:=by obtain⟨_,rfl,_⟩:=h;rfl
def k_:∀ ds Q,cJ ds Q->fK { nx:=λ_=>Q .sh .non,rt:=Q } (aM 4 ds):=by
 rintro ds Q ⟨rs,rfl,sc,h1,h2,h⟩;unfold fK;walk_at "q";refine⟨rs,rfl,sc,by lia,h2,λ_=>?_,λz=>absurd z (by lia)⟩;walk_at "q";intro a;have e:(decide (("TooBig" : Str) = "NoScroll") || (decide (("TooBig" : Str) = "NoState") || (decide (("TooBig" : Str) = "NoText") || false)))=false:=by decide +kernel
 rw[e];refine⟨by decide +kernel,by decide +kernel,?_⟩;rw[show nK (.tup [.bl true,.bl true,.bl false]) (.tup [.bl true,.bl true,.bl false])=true by decide +kernel];exact h
def jE:WS :=
 (gd (aS ic (qw aY (aq (av 3) dy)) (av 10)))
def jC:WS :=
 (c9 (ip (wB (aS MY (av 5) (av 10)))
 (gd (wC (.bl false)))
 a_)
 (c9 (u9 (sQ 5))
 jE))
def jw:WS :=
 (c9 (wH 4 (eA FU (wC (.int 1))) (k7 (aq (wC (.str "and")) (aq (k7 dy) dy))))
 (c9 (BV (qw aY (aq (av 4) dy)))
 jC))
def oY:WS :=
 (c9 (sP (fJ (n9 (aq (k7 (aq (aS mG (wC (.int 1)) (aS kH (av 1) (wC (.int 6)))) (aq (z5 (av 0) (dB (wC (.int 6))) (dB (wC (.int 18)))) dy))) (aq (k7 (aq (aS mG (wC (.int 1)) (aS kH (aS sL (av 1) (wC (.int 6))) (wC (.int 6)))) (aq (z5 (av 0) (dB (wC (.int 18))) (dB (wC (.int 30)))) dy))) dy)))) (gT 2 (gC (gN 7) (gC (gN 8) wA)))
 (c9 (sM 7 (gI 9 (k7 (aq (av 7) (aq (eA gA (aU dg (aq (av 8) (aq (av 7) (aq (aS mG (n9 (aq (wC (.str "*")) dy)) (z5 (av 2) d8 (dB (wC (.int 5))))) dy))))) dy)))))
 (ip (wB (aS MY (aU bZ (aq (av 9) (aq (av 5) dy))) (aU bZ (aq (av 9) (aq (av 3) dy)))))
 (gd (wC (.bl false)))
 a_)))
 (c9 (gI 10 (eA vJ (av 5)))
 jw))
def nM:WS :=
 (c9 (ip (wB (aS MY (aU cB (aq (av 5) dy)) (aU cB (aq (av 3) dy))))
 (gd (wC (.bl false)))
 a_)
 oY)
def nP:WS :=
 (c9 (sP (d9 (eA ki (av 5))) (gN 6)
 (ip (rS (wB (aU cU (aq (aS dn (av 5) (av 6)) (aq (av 6) dy)))))
 (gd (wC (.bl false)))
 a_))
 nM)
def n_:WS :=
 (c9 (ip (tP (rS (wB (eA (tS "list") (av 5)))) (tP (rS (wB (gR B5 B5 (wC (.int 1)) (eA ki (av 5)) (aS zS (wC (.int 2)) (eA ki (av 3)))))) (wB (aS MY (av 4) (av 3)))))
 (gd (wC (.bl false)))
 a_)
 nP)
def yL:WS :=
 (c9 (gI 5 (qw aY (aq (av 4) dy)))
 n_)
def oA:WS :=
 (c9 (ip (wB (aS MX (eA ki (av 3)) (wC (.int 1000))))
 (gd (dZ (aU cJ (aq (av 4) dy)) (aS ic (av 4) (av 3))))
 a_)
 yL)
def Jb:WS :=
 (c9 (gI 1 (aU aO (aq (av 0) (aq (wC (.int 0)) dy))))
 (c9 (gI 2 (aU dJ (aq (aU aO (aq (av 0) (aq (wC (.int 1)) dy))) (aq (aU aO (aq (av 0) (aq (wC (.int 2)) dy))) dy))))
 (c9 (gI 3 (aU dN (aq (av 0) (aq (aS mG (n9 (aq (wC (.str "*")) dy)) (av 2)) dy))))
 (c9 (gI 4 (eA vJ (av 3)))
 oA))))
abbrev TR:gp:=dP'
def Gy (ds Q) (h:TR ds Q):ds.length=["_law_script"].length:=by obtain⟨_,rfl,_⟩:=h;rfl
def uX(rs:List Rw):nK (.list (rs.map cw)) (.list (rs.map cw))=true:=eq_self (uG rs)
def Az{x0 x1 x2 x4 x5 x6 x7 x8 x9:Option Sl}{rs:List Rw}{Q:Md->D->Prop}(sc:eJ rs)(r1:1<=rs.length)(r2:rs.length<=1000)(h:Q .sh (.bl true)) :
  jE { nx:=λ_=>Q .sh .non,rt:=Q } [x0,x1,x2,some (.ow true (.list (rs.map cw))),x4,x5,x6,x7,x8,x9,some (.ow true (.list ((ll rs).map cw)))]:=by
 unfold jE;walk_at "q";refine⟨rs,rfl,sc,r1,by lia,λz=>absurd z (by lia),λ_=>?_⟩;walk_at "q";have TV:=(qU sc r1).1;exact⟨i_ TV 9,i_ TV 9,by rw[uX];exact h⟩
def CG{x0 x1 x2 x4 x6 x7 x8 x9:Option Sl}{rs:List Rw}{Q:Md->D->Prop}(sc:eJ rs)(r1:1<=rs.length)(r2:rs.length<=1000)(h:Q .sh (.bl true)) :
  jC { nx:=λ_=>Q .sh .non,rt:=Q } [x0,x1,x2,some (.ow true (.list (rs.map cw))),x4,some (.ow true (.list ((ll rs).map cw))),x6,x7,x8,x9,some (.ow true (.list ((ll rs).map cw)))]:=by
 obtain⟨w15,e15⟩:∃ w15,w15=jE:=⟨_,rfl⟩
 unfold jC;rw[<- e15];walk_at "q";have TV:=(qU sc r1).1;refine⟨i_ TV 9,i_ TV 9,R.F (by rw[uX];rfl) ?_⟩;walk_at "q";rw[e15];exact Az sc r1 r2 h
def Ag{x0 x1 x2 x6 x7 x8 x9:Option Sl}{rs:List Rw}{Q:Md->D->Prop}(sc:eJ rs)(r1:1<=rs.length)(r2:rs.length<=1000)(h:Q .sh (.bl true)) :
  jw { nx:=λ_=>Q .sh .non,rt:=Q } [x0,x1,x2,some (.ow true (.list (rs.map cw))),some (.ow true (.list (rs.map cw))),some (.ow true (.list ((ll rs).map cw))),x6,x7,x8,x9,some (.ow true (.list ((ll rs).map cw)))]:=by
 obtain⟨w13,e13⟩:∃ w13,w13=jC:=⟨_,rfl⟩
 unfold jw;rw[<- e13];walk_at "q";refine⟨rs.length-1,by unfold qV;rw[if_neg (by decide),if_pos (by lia)];congr 1;lia,.inl rfl,?_⟩;rw[show(rs.map cw).set (rs.length-1) (.tup [.str "and",.tup []])=(rs.set (rs.length-1) (.jn "and" [])).map cw by rw[List.map_set];rfl];refine⟨rs.set (rs.length-1) (.jn "and" []),rfl,?_,by rw[Kx];exact r1,by rw[Kx];lia,λz=>absurd z (by rw[Kx];lia),λ_=>?_⟩
 ·intro k r hk;rw[Rz] at hk;split at hk
  ·split at hk
   ·cases hk;exact⟨.inl rfl,by decide,λp hp=>nomatch hp⟩
   ·cases hk
  ·exact sc k r hk
 ·walk_at "q";rw[e13];exact CG sc r1 r2 h
def lX {pool ns:List Str} (yA:∀ n∈pool,Open n) (h:∀ n∈ns,n∈pool):∀ n∈("*" : Str) :: ns,BE n:=λn hn=>by
 rcases fm.mp hn with rfl|hn
 ·exact .inl rfl
 ·exact .inr (yA n (h n hn))
def Mi(many:Int)(t:Tr):xA many t=.list (((fU many.toNat).map t).map .bl):=by rw[lP];rfl
def DN(l:List Bool):fI 12 (.list (l.map .bl))=true:=by simp[fI]
def Jo(l:List Bool):nK (.list (l.map .bl)) (.list (l.map .bl))=true:=by
 simp only[nK,D.py,PyData.eqv]
 induction l with
 |nil=>simp[tJ,PyData.eqvAll]
 |cons b l ih=>cases b<;>simp[tJ,D.py,PyData.eqv,PyData.eqvAll,ih]
def Ep{x1:Int}{x6 x7 x8 x9 EH:Option Sl}{ns:List Int}{pool:List Str}{rs:List Rw}{Q:Md->D->Prop}(hz:ns.length<=63)(EI:pool.length=6)(yA:∀ n∈pool,Open n)(sc:eJ rs)(r1:1<=rs.length)(r2:rs.length<=1000)(h:Q .sh (.bl true)) :
  oY { nx:=λ_=>Q .sh .non,rt:=Q } [some (.sh (.list (ns.map .int))),some (.sh (.int x1)),some (.ow true (.list (pool.map .str))),some (.ow true (.list (rs.map cw))),some (.ow true (.list (rs.map cw))),some (.ow true (.list ((ll rs).map cw))),x6,x7,x8,x9,EH]:=by
 obtain⟨w11,e11⟩:∃ w11,w11=jw:=⟨_,rfl⟩
 unfold oY;rw[<- e11];generalize hb:c9 (sM 7 _) _=wb;unfold c9 sP;generalize hk:lq _ wb _=kk;generalize QV:z5 (av 0) (dB (wC (.int 6))) (dB (wC (.int 18)))=S1;generalize kF:z5 (av 0) (dB (wC (.int 18))) (dB (wC (.int 30)))=S2;walk_at "q";rw[<- QV];refine .inl ⟨aW ns,?_⟩;rw[oh];have hc1:=dH ns (some 6) (some 18);generalize rV ns (some 6) (some 18)=cs1 at *
 walk_at "q";rw[<- kF];refine .inl ⟨aW ns,?_⟩;rw[oh];have UQ:=dH ns (some 18) (some 30);generalize rV ns (some 18) (some 30)=cs2 at *
 walk_at "q";rw[<- hk];have m1:=yj x1 (show 0<6 by decide);have m2:=yj (x1 / 6) (show 0<6 by decide);obtain⟨Rg,V9,w1,w2,_⟩:=qU sc r1;refine bK _ (λi ρ=>∃ o6 o7 o8 o9 o10,ρ=[some (.sh (.list (ns.map .int))),some (.sh (.int x1)),some (.ow true (.list (pool.map .str))),some (.ow true (.list (rs.map cw))),some (.ow true (.list (rs.map cw))),some (.ow true (.list ((ll rs).map cw))),o6,o7,o8,o9,o10]) ⟨_,_,_,_,_,rfl⟩ ?_ ?_
 ·rintro i y ρ hy ⟨o6,o7,o8,o9,o10,rfl⟩ N hN;obtain⟨many,cs,rfl,mm1,mm2,FC⟩:∃ (many:Int) (cs:List Int),y=.tup [.int many,.list (cs.map .int)]/\1<=many/\many<=20/\cs.length<=63:=by grind
  subst hb;clear hk hy;walk_at "q";rw[oh];have hc:=dH pool none (some 5);have hcm:∀ n∈rV pool none (some 5),n∈pool:=λx hx=>Ub (Ru hx);generalize rV pool none (some 5)=ps at *
  refine .inl ⟨gG pool,by rw[dc];lia,.inl ⟨gG ps,?_⟩⟩;refine⟨cs,many,("*" : Str) :: ps,rfl,by lia,mm1,mm2,by simp,by simp;lia,lX yA hcm,λl hs hl=>?_⟩;walk_at "q";obtain⟨ks,sh,e1,e2,e3',e4⟩:=GQ (λxs=>∃ out,Rb l out/\xs=out.map wa) (by lia) λout M=>⟨out,M,rfl⟩
  refine⟨ks,sh,e1,e2,e3',λms nd mm pw=>?_⟩;obtain⟨out,M,eo⟩:=e4 ms nd mm pw;rw[eo];have My:=M.len;have ho:=M.ok hs;refine⟨many,out,_,rfl,by lia,mm2,ho,by lia,Rg,w1,by lia,?_⟩;walk_at "q";refine⟨many,out,rs,rfl,by lia,mm2,ho,by lia,sc,r1,by lia,?_⟩;walk_at "q";rw[HW sc r1];generalize (oP out rs).getD _ _=t;rw[Mi];generalize (fU many.toNat).map t=bs;walk_at "q";refine⟨DN bs,DN bs,R.F (by rw[Jo];rfl) ?_⟩;walk_at "q";exact hN _ ⟨_,_,_,_,_,rfl⟩
 ·rintro ρ ⟨o6,o7,o8,o9,o10,rfl⟩;walk_at "q";refine .inl ⟨gD _,?_⟩;rw[e11];exact Ag sc r1 r2 h
def G6{x1:Int}{x6 x7 x8 x9 EH:Option Sl}{ns:List Int}{pool:List Str}{rs:List Rw}{Q:Md->D->Prop}(hz:ns.length<=63)(EI:pool.length=6)(yA:∀ n∈pool,Open n)(sc:eJ rs)(r1:1<=rs.length)(r2:rs.length<=1000)(h:Q .sh (.bl true)) :
  nM { nx:=λ_=>Q .sh .non,rt:=Q } [some (.sh (.list (ns.map .int))),some (.sh (.int x1)),some (.ow true (.list (pool.map .str))),some (.ow true (.list (rs.map cw))),some (.ow true (.list (rs.map cw))),some (.ow true (.list ((ll rs).map cw))),x6,x7,x8,x9,EH]:=by
 obtain⟨w9,e9⟩:∃ w9,w9=oY:=⟨_,rfl⟩
 unfold nM;rw[<- e9];walk_at "q";obtain⟨Rg,V9,w1,w2,_⟩:=qU sc r1;refine⟨_,rfl,Rg,w1,by lia,?_⟩;walk_at "q";refine⟨_,rfl,sc,r1,by lia,?_⟩;walk_at "q";rw[Fd sc r1];refine R.F (by simp) ?_;walk_at "q";rw[e9];exact Ep hz EI yA sc r1 r2 h
def Gh{x1:Int}{x6 x7 x8 x9 EH:Option Sl}{ns:List Int}{pool:List Str}{rs:List Rw}{Q:Md->D->Prop}(hz:ns.length<=63)(EI:pool.length=6)(yA:∀ n∈pool,Open n)(sc:eJ rs)(r1:1<=rs.length)(r2:rs.length<=1000)(h:Q .sh (.bl true)) :
  nP { nx:=λ_=>Q .sh .non,rt:=Q } [some (.sh (.list (ns.map .int))),some (.sh (.int x1)),some (.ow true (.list (pool.map .str))),some (.ow true (.list (rs.map cw))),some (.ow true (.list (rs.map cw))),some (.ow true (.list ((ll rs).map cw))),x6,x7,x8,x9,EH]:=by
 obtain⟨w8,e8⟩:∃ w8,w8=nM:=⟨_,rfl⟩
 unfold nP;rw[<- e8];walk_at "q";obtain⟨Rg,V9,w1,w2,_⟩:=qU sc r1;refine⟨by lia,by lia,?_⟩;refine bK _ (λi ρ=>∃ o6,ρ=[some (.sh (.list (ns.map .int))),some (.sh (.int x1)),some (.ow true (.list (pool.map .str))),some (.ow true (.list (rs.map cw))),some (.ow true (.list (rs.map cw))),some (.ow true (.list ((ll rs).map cw))),o6,x7,x8,x9,EH]) ⟨_,rfl⟩ ?_ ?_
 ·rintro i y ρ hy ⟨o6,rfl⟩ N hN;obtain⟨k,hk,rfl⟩:=oM (pf hy);have ZN:k<(ll rs).length:=by lia
  have hg:(ll rs)[k]? = some (ll rs)[k]:=si ZN;walk_at "q";rw[Int.zero_add];refine⟨cw (ll rs)[k],vi (by rw[ku,hg];rfl),?_⟩;refine⟨_,_,rfl,Rg k _ hg,V9 _ (Ud ZN),?_⟩;walk_at "q";exact hN _ ⟨_,rfl⟩
 ·rintro ρ ⟨o6,rfl⟩;rw[e8];exact G6 hz EI yA sc r1 r2 h
def DY{x1:Int}{x6 x7 x8 x9 EH:Option Sl}{ns:List Int}{pool:List Str}{rs:List Rw}{Q:Md->D->Prop}(hz:ns.length<=63)(EI:pool.length=6)(yA:∀ n∈pool,Open n)(sc:eJ rs)(r1:1<=rs.length)(r2:rs.length<=1000)(h:Q .sh (.bl true)) :
  n_ { nx:=λ_=>Q .sh .non,rt:=Q } [some (.sh (.list (ns.map .int))),some (.sh (.int x1)),some (.ow true (.list (pool.map .str))),some (.ow true (.list (rs.map cw))),some (.ow true (.list (rs.map cw))),some (.ow true (.list ((ll rs).map cw))),x6,x7,x8,x9,EH]:=by
 obtain⟨w7,e7⟩:∃ w7,w7=nP:=⟨_,rfl⟩
 unfold n_;rw[<- e7];walk_at "q";obtain⟨Rg,V9,w1,w2,_⟩:=qU sc r1;refine R.F rfl ?_;walk_at "q";refine R.T (decide_eq_true (by lia)) ?_;walk_at "q";refine⟨wy (by decide) (by decide),R.F (by rw[decide_eq_true (by lia)];rfl) ?_⟩;walk_at "q";refine⟨i_ sc 9,i_ sc 9,R.F (by rw[uX];rfl) ?_⟩;walk_at "q";rw[e7];exact Gh hz EI yA sc r1 r2 h
def El{x1:Int}{x5 x6 x7 x8 x9 EH:Option Sl}{ns:List Int}{pool:List Str}{rs:List Rw}{Q:Md->D->Prop}(hz:ns.length<=63)(EI:pool.length=6)(yA:∀ n∈pool,Open n)(sc:eJ rs)(r1:1<=rs.length)(r2:rs.length<=2000)(h:Q .sh (.bl true)) :
  oA { nx:=λ_=>Q .sh .non,rt:=Q } [some (.sh (.list (ns.map .int))),some (.sh (.int x1)),some (.ow true (.list (pool.map .str))),some (.ow true (.list (rs.map cw))),some (.ow true (.list (rs.map cw))),x5,x6,x7,x8,x9,EH]:=by
 obtain⟨w6,e6⟩:∃ w6,w6=n_:=⟨_,rfl⟩
 unfold oA yL;rw[<- e6];walk_at "q";refine R.D (λe=>?_) λe=>?_
 ·walk_at "q";refine⟨rs,rfl,sc,by lia,r2,?_⟩;walk_at "q";exact⟨i_ sc 9,i_ sc 9,by rw[uX];exact h⟩
 ·walk_at "q";refine⟨rs,rfl,sc,r1,r2,λz=>absurd z (by lia),λ_=>?_⟩;walk_at "q";rw[e6];exact DY hz EI yA sc r1 (by lia) h
def K9:∀ ds Q,TR ds Q->Jb { nx:=λ_=>Q .sh .non,rt:=Q } (aM 11 ds):=by
 rintro ds Q ⟨ns,rfl,hn,h⟩;obtain⟨w4,e4⟩:∃ w4,w4=oA:=⟨_,rfl⟩
 unfold Jb;rw[<- e4];walk_at "q";refine⟨ns,0,rfl,by decide,?_⟩;generalize ns.getD _ 0=first
 walk_at "q";refine⟨ns,1,rfl,by decide,?_⟩;generalize ns.getD _ 0=c1;walk_at "q";refine⟨ns,2,rfl,by decide,?_⟩;generalize ns.getD _ 0=c2;walk_at "q";refine⟨c1,c2,rfl,λpool EI yA=>?_⟩;walk_at "q";refine⟨by lia,.inl ⟨gG pool,?_⟩⟩;refine⟨ns,("*" : Str) :: pool,rfl,hn,by simp,by simp;lia,lX yA λ_ z=>z,λrs sc r1 r2=>?_⟩;walk_at "q";refine .inl ⟨gD _,?_⟩;rw[e4];exact El hn EI yA sc r1 r2 (h .sh)
def top(i:Nat):i5:=PySem.Challenge.pw_kinlook_k22_without_not.main.body.getD i (.Pass ⟨0,0,0,0⟩)
def Fl:i5->List i5
 |.ClassDef _ _ _ b .. => b
 |_=>[]
abbrev EJ(i j:Nat):i5:=(Fl (top i)).getD j (.Pass ⟨0,0,0,0⟩)
abbrev j5:i5:=EJ 18 1
abbrev iU:i5:=EJ 18 0
abbrev sO:i5:=top 45
abbrev rn:List Str:=["TooBig"]
structure Txt(w:cK)(K:aI)(mg:Str->Option ag):Prop where
 aR':mg "ValueError" = none
 TX:mg "all" = none
 V_:mg "bool" = none
 aS':mg "enumerate" = none
 TY:mg "int" = none
 qo:mg "isinstance" = none
 kA:mg "len" = none
 N0:mg "list" = none
 aT':mg "max" = none
 aU':mg "min" = none
 AI:mg "range" = none
 aV':mg "set" = none
 Wa:mg "sorted" = none
 N3:mg "str" = none
 IY:mg "tuple" = none
 aW':Vl mg "HIDDEN" "*"
 aX':Vl mg "LETTERS" "abcdefghijklmnopqrstuvwxyz"
 aY':P4 mg "MOST_LETTERS" 6
 aZ':P4 mg "MOST_ROWS" 2000
 ba':P4 mg "MOST_PARTS" 200
 bb':P4 mg "MOST_ROWS_TURNED" 1000
 nI':GlD w K mg "OPPOSITES" [("some", "all"),("all", "some"),("and", "or"),("or", "and")]
 nJ':XCl K mg "TooBig"
 nK':J2 K mg rn "KinError"
 nL':∀ n C,n∈rn->mg n=some (.ref C)->∃ c,mg "NoScroll" = some (.ref c)/\AK K (.ref C) (.ref c)=some (decide (n = "NoScroll"))
 nM':∀ n C,n∈rn->mg n=some (.ref C)->∃ c,mg "NoState" = some (.ref c)/\AK K (.ref C) (.ref c)=some (decide (n = "NoState"))
 nN':∀ n C,n∈rn->mg n=some (.ref C)->∃ c,mg "NoText" = some (.ref c)/\AK K (.ref C) (.ref c)=some (decide (n = "NoText"))
 nO':∀ n C,n∈rn->mg n=some (.ref C)->AK K (.ref C) (.type "ValueError")=some true
 nP':∀ n C,n∈rn->mg n=some (.ref C)->∃ c,mg "TooBig" = some (.ref c)/\AK K (.ref C) (.ref c)=some (decide (n = "TooBig"))
section
variable {P:cv}{w:cK}{K:aI}{mg:Str->Option ag}{base:dr}
structure ShT(P:cv)(w:cK)(K:aI)(mg:Str->Option ag)(base:dr)(C fi fp:ah)(di dp:qB)(N4:ah)(nR':qB)(N9:ah)(nS':qB):Prop where
 gl:mg "Sheet" = some (.ref C)
 mkk:Mk K C fi
 cls:uS K C
 n1:ve K C "rows"
 n2:ve K C "places"
 init:kS P w K mg base kG 1 fi di ["self"] (mZ K P w)
 bi:Binds K di ["self"] []
 eT':Meth K C "put" fp
 put:kS P w K mg base kG 1 fp dp ["self", "row"] (t6 K P w)
 bp:Binds K dp ["self", "row"] []
 nU':Meth K C "rows_read" N4
 nV':Binds K nR' ["self", "last"] []
 nW':Meth K C "scroll_to" N9
 nX':Binds K nS' ["self", "last"] []
def HN:zh ["self", "row"] ["self", "row"] (fe j5):=⟨rfl,rfl,rfl,by decide +kernel,rfl,by decide +kernel,by decide +kernel⟩
def FJ {f:ah} {fd:qB} (F:oC K "put" "Sheet.put" j5 f fd) (hl:mg "len" = none):kS P w K mg base kG 1 f fd ["self", "row"] (t6 K P w) :=
 Eo F HN λdE A outer s H E hr=>HR (by have h:=hr.units;show(A.deeper (kN "Sheet.put" (fe j5) s.heap.objs.size f dE)).units+14<gv;lia) rfl hl (λ_=>R3 rfl (.inl rfl)) (λ_=>R3 rfl (.inl rfl)) (λ_ _=>rfl) rfl (λ_ _ _=>rfl)
def Cy:zh ["self"] ["self"] (fe iU):=⟨rfl,rfl,rfl,by decide +kernel,rfl,by decide +kernel,by decide +kernel⟩
def BL {f:ah} {fd:qB} (F:oC K "__init__" "Sheet.__init__" iU f fd):kS P w K mg base kG 1 f fd ["self"] (mZ K P w) :=
 Bu F Cy λdE A outer s H E hr=>Bf (λ_=>R3 rfl (.inl rfl))
end
def us1{us:List ag}(h:us.length=1):∃ a0,us=[a0]:=by
 cases us with
 |nil=>simp at h
 |cons a0 us =>
 cases us with
 |nil=>exact⟨_,rfl⟩
 |cons b us=>simp at h
def us2{us:List ag}(h:us.length=2):∃ a0 a1,us=[a0,a1]:=by
 cases us with
 |nil=>simp at h
 |cons a0 us =>
 cases us with
 |nil=>simp at h
 |cons a1 us =>
 cases us with
 |nil=>exact⟨_,_,rfl⟩
 |cons b us=>simp at h
abbrev FA(K:aI)(x:Str)(s:i5):Prop:=∃ (f:ah) (oc:ag) (od an:Option ah) (BM:Array (Option ag)) (kV doc pm dE ct:ag),kC K gS x=some (some (.ref f))/\K.lookup f=some ⟨oc,od,.func (sf x x (vj s) (nh s) (fe s) .none kV doc pm an dE ct),BM⟩/\CL K dE x=true/\wd K (.ref f)=true
def b_{K:aI}{h:dr}{mg:Str->Option ag}{x:Str}{s:i5}(X:K.In h)(G:h.Ns gS mg)(a:FA K x s):∃ f fd,mg x=some (.ref f)/\oC K x x s f fd:=by obtain⟨f,_,_,_,_,_,_,_,_,_,a,l,c,k⟩:=a;exact⟨_,_,wm X G a,PY l c k⟩
def Ls{K:aI}{x:Str}{s:i5}{f:ah}{oc:ag}{od an:Option ah}{BM:Array (Option ag)}{kV doc pm dE ct:ag}(a:kC K gS x=some (some (.ref f)))(l:K.lookup f=some ⟨oc,od,.func (sf x x (vj s) (nh s) (fe s) .none kV doc pm an dE ct),BM⟩)(c:CL K dE x=true)(k:wd K (.ref f)=true):FA K x s:=⟨_,_,_,_,_,_,_,_,_,_,a,l,c,k⟩
set_option maxHeartbeats 0 in
def all_mk {l:Wk} {w:cK} {K:aI} {h:dr} {mg:Str->Option ag} {fa:ah} (X:K.In h) (G:h.Ns gS mg) (hfa:mg "law" = some (.ref fa))(a0:FA K "is_open" (top 5))(a1:FA K "is_deed" (top 6))(a2:FA K "is_whole" (top 14))(a3:FA K "drawn" (top 16))(a4:FA K "renumbered" (top 17))(a5:FA K "is_ahead" (top 24))(a6:FA K "are_parts" (top 25))(a7:FA K "is_row" (top 26))(a8:FA K "is_scroll" (top 27))(a9:FA K "check_scroll" (top 28))(a10:FA K "opposite" (top 29))(a11:FA K "without_not" (top 30))(a12:FA K "_law_cell_at" (top 32))(a13:FA K "_law_deeds" (top 33))(a14:FA K "_law_steps" (top 34))(a15:FA K "_law_row" (top 35))(a16:FA K "_law_scroll" (top 36))(a17:FA K "_law_numbers" (top 37))(a18:FA K "_law_is_row" (top 38))(a19:FA K "_law_out" (top 39))(a20:FA K "_law_truth" (top 40))(a21:FA K "_law_truths" (top 41))(a22:FA K "_law_depth" (top 42))(a23:FA K "_law_refused" (top 43))(a24:FA K "_law_drawn" (top 44))(a25:kC K gS "law" = some (some (.ref f25))) (l25:K.lookup f25=some ⟨o25,d25,.func (sf "law" "law" (vj sO) (nh sO) (fe sO) .none v25 j25 p25 e25 r25 u25),t25⟩) (c25:CL K r25 "law" = true) (k25:wd K (.ref f25)=true)(aR':kC K gS "ValueError" = some none)(TX:kC K gS "all" = some none)(V_:kC K gS "bool" = some none)(aS':kC K gS "enumerate" = some none)(TY:kC K gS "int" = some none)(qo:kC K gS "isinstance" = some none)(kA:kC K gS "len" = some none)(N0:kC K gS "list" = some none)(aT':kC K gS "max" = some none)(aU':kC K gS "min" = some none)(AI:kC K gS "range" = some none)(aV':kC K gS "set" = some none)(Wa:kC K gS "sorted" = some none)(N3:kC K gS "str" = some none)(IY:kC K gS "tuple" = some none){oB':Tok} (aW':kC K gS "HIDDEN" = some (some (.str "*" oB'))){oC':Tok} (aX':kC K gS "LETTERS" = some (some (.str "abcdefghijklmnopqrstuvwxyz" oC'))){oD':Tok} (aY':kC K gS "MOST_LETTERS" = some (some (.int 6 oD'))){oE':Tok} (aZ':kC K gS "MOST_ROWS" = some (some (.int 2000 oE'))){oF':Tok} (ba':kC K gS "MOST_PARTS" = some (some (.int 200 oF'))){oG':Tok} (bb':kC K gS "MOST_ROWS_TURNED" = some (some (.int 1000 oG'))){eX' oH':Nat} {eY' eZ' fa' fc' fd' fe' fg' fh':Tok} (oI':kC K gS "OPPOSITES" = some (some (.ref eX'))) (oJ':K.lookup eX'=some { cls:=.type "dict",data:=.dict #[⟨RV w.params "some",.str "some" eY',.str "all" eZ'⟩,⟨RV w.params "all",.str "all" fa',.str "some" fc'⟩,⟨RV w.params "and",.str "and" fd',.str "or" fe'⟩,⟨RV w.params "or",.str "or" fg',.str "and" fh'⟩] oH' }) {C fi fp N4 N9:ah} (sa:kC K gS "Sheet" = some (some (.ref C))) (s1:Wj K C=true) (s4:wd K (.ref C)=true) (s5:Ro K C Str.empty=true) (s6:T5 K C=true) (s7:Wg K C=true) (s8:nS K (.ref C) "__setattr__" = some (some (.builtin "object.__setattr__"))) (s9:nS K (.ref C) "rows" = some none) (s0:nS K (.ref C) "places" = some none) (hi:nS K (.ref C) "__init__" = some (some (.ref fi))) (hli:K.lookup fi=some ⟨hoi,hdi,.func (sf "__init__" "Sheet.__init__" (vj iU) (nh iU) (fe iU) .none hvi hji hqi ZK hyi hui),hti⟩) (hci:CL K hyi "Sheet.__init__" = true) (hki:wd K (.ref fi)=true) (hfi:JY K (.ref fi)=true) (hp:nS K (.ref C) "put" = some (some (.ref fp))) (hlp:K.lookup fp=some ⟨hop,hdp,.func (sf "put" "Sheet.put" (vj j5) (nh j5) (fe j5) .none hvp hjp hqp hep hyp hup),htp⟩) (hcp:CL K hyp "Sheet.put" = true) (hkp:wd K (.ref fp)=true) (hfp:JY K (.ref fp)=true) (hm0:nS K (.ref C) "rows_read" = some (some (.ref N4))) (oR':K.lookup N4=some ⟨sn',so',.func (sf "rows_read" "Sheet.rows_read" (vj (EJ 18 3)) (nh (EJ 18 3)) (fe (EJ 18 3)) .none sp' sq' su' sv' oS' sw'),sx'⟩) (oT':CL K oS' "Sheet.rows_read" = true) (fj':wd K (.ref N4)=true) (oU':JY K (.ref N4)=true) (zC:nS K (.ref C) "scroll_to" = some (some (.ref N9))) (oV':K.lookup N9=some ⟨sy',sz',.func (sf "scroll_to" "Sheet.scroll_to" (vj (EJ 18 4)) (nh (EJ 18 4)) (fe (EJ 18 4)) .none sA' sB' sC' sD' oW' sE'),sF'⟩) (oX':CL K oW' "Sheet.scroll_to" = true) (fk':wd K (.ref N9)=true) (oY':JY K (.ref N9)=true) {IZ:ah} (oZ':kC K gS "KinError" = some (some (.ref IZ))) {fm':ah} (pa':kC K gS "NoScroll" = some (some (.ref fm'))) {fn':ah} (pb':kC K gS "NoState" = some (some (.ref fn'))) {fo':ah} (pc':kC K gS "NoText" = some (some (.ref fo'))) {xB:ah} (pd':kC K gS "TooBig" = some (some (.ref xB))) (pe':PySem.W.excIn K IZ [.type "ValueError",.type "Exception",.type "BaseException",.type "object"] "ValueError.__new__" = true) (pf':nS K (.ref IZ) "__getattr__" = some none) (pg':nS K (.ref IZ) "__getattribute__" = some (some (.builtin "BaseException.__getattribute__"))) (ph':nS K (.ref IZ) "__class__" = some (some (.builtin "object.__class__"))) (pi':T8 K IZ (.type "object")=some true) (pj':PySem.W.excIn K xB [.type "ValueError",.type "Exception",.type "BaseException",.type "object"] "ValueError.__new__" = true) (pk':nS K (.ref xB) "__getattr__" = some none) (pl':nS K (.ref xB) "__getattribute__" = some (some (.builtin "BaseException.__getattribute__"))) (pm':nS K (.ref xB) "__class__" = some (some (.builtin "object.__class__"))) (pn':T8 K xB (.type "object")=some true) (po':T8 K xB (.ref IZ)=some true) (pp':AK K (.ref xB) (.ref fm')=some false) (pq':AK K (.ref xB) (.ref fn')=some false) (pr':AK K (.ref xB) (.ref fo')=some false) (pt':AK K (.ref xB) (.type "ValueError")=some true) (pu':AK K (.ref xB) (.ref xB)=some true)
  : ∃ fd:qB,(∀ (s:ay) (v:ag),BindsTo s fd ⟨[v],[]⟩ [("_law_script",v)])/\∀ base:dr,K.In base->base.Ns gS mg->kS l.prog w K mg base kG 9 fa fd ["_law_script"] (fO K TR):=by
 have e:=hfa.symm.trans (wm X G a25);cases e;have pv':=wm X G oZ';have pw':=wm X G pa';have px':=wm X G pb';have py':=wm X G pc';have bd':=wm X G pd';have pz':qh K IZ:=⟨pe',pf',pg',ph',pi'⟩
 have fp':qh K xB:=⟨pj',pk',pl',pm',pn'⟩
 have each:∀ {G:Str->ah->Prop},G "TooBig" xB->∀ n C,n∈rn->mg n=some (.ref C)->G n C:=by
  intro G pA' n C hn hm;simp only[rn,fm,EX,or_false] at hn;rcases hn with rfl
  ·rw[bd'] at hm;cases hm;exact pA'
 have T:Txt w K mg:=⟨ub X G aR',ub X G TX,ub X G V_,ub X G aS',ub X G TY,ub X G qo,ub X G kA,ub X G N0,ub X G aT',ub X G aU',ub X G AI,ub X G aV',ub X G Wa,ub X G N3,ub X G IY,⟨_,wm X G aW'⟩,⟨_,wm X G aX'⟩,⟨_,wm X G aY'⟩,⟨_,wm X G aZ'⟩,⟨_,wm X G ba'⟩,⟨_,wm X G bb'⟩,⟨_,[("some",eY', "all",eZ'),("all",fa', "some",fc'),("and",fd', "or",fe'),("or",fg', "and",fh')],_,wm X G oI',oJ',rfl⟩,⟨_,bd',fp'⟩,⟨_,pv',pz',each ⟨fp',po'⟩⟩,each ⟨_,pw',pp'⟩,each ⟨_,px',pq'⟩,each ⟨_,py',pr'⟩,each pt',each ⟨_,bd',pu'⟩⟩
 obtain⟨_,_,m0,F0⟩:=b_ X G a0;obtain⟨_,_,m1,F1⟩:=b_ X G a1;obtain⟨_,_,m2,F2⟩:=b_ X G a2;obtain⟨_,_,m3,F3⟩:=b_ X G a3;obtain⟨_,_,m4,F4⟩:=b_ X G a4;obtain⟨_,_,m5,F5⟩:=b_ X G a5;obtain⟨_,_,m6,F6⟩:=b_ X G a6;obtain⟨_,_,m7,F7⟩:=b_ X G a7;obtain⟨_,_,m8,F8⟩:=b_ X G a8;obtain⟨_,_,m9,F9⟩:=b_ X G a9;obtain⟨_,_,m10,F10⟩:=b_ X G a10;obtain⟨_,_,m11,F11⟩:=b_ X G a11;obtain⟨_,_,m12,F12⟩:=b_ X G a12;obtain⟨_,_,m13,F13⟩:=b_ X G a13;obtain⟨_,_,m14,F14⟩:=b_ X G a14;obtain⟨_,_,m15,F15⟩:=b_ X G a15;obtain⟨_,_,m16,F16⟩:=b_ X G a16;obtain⟨_,_,m17,F17⟩:=b_ X G a17;obtain⟨_,_,m18,F18⟩:=b_ X G a18;obtain⟨_,_,m19,F19⟩:=b_ X G a19;obtain⟨_,_,m20,F20⟩:=b_ X G a20;obtain⟨_,_,m21,F21⟩:=b_ X G a21;obtain⟨_,_,m22,F22⟩:=b_ X G a22;obtain⟨_,_,m23,F23⟩:=b_ X G a23;obtain⟨_,_,m24,F24⟩:=b_ X G a24;have F25:=PY (st:=sO) l25 c25 k25;refine⟨sf "law" "law" (vj sO) (nh sO) (fe sO) .none v25 j25 p25 e25 r25 u25,λs v=>.of_eq rfl,λbase _ _=>?_⟩;have Gi:=PY (st:=iU) hli hci hki;have Gp:=PY (st:=j5) hlp hcp hkp;have Gm0:=PY (st:=(EJ 18 3)) oR' oT' fj';have Gm1:=PY (st:=(EJ 18 4)) oV' oX' fk';have Sh:ShT l.prog w K mg base C fi fp _ _ N4 _ N9 _:=⟨wm X G sa,⟨s1,hi,hfi,s4⟩,⟨s5,s6,s7,s8⟩,s9,s0,BL Gi,Gi.binds λ_ _ _ _ _ _ us hl=>by obtain⟨_,rfl⟩:=us1 hl;rfl,⟨hp,hfp,hkp⟩,FJ Gp (ub X G kA),Gp.binds λ_ _ _ _ _ _ us hl=>by obtain⟨_,_,rfl⟩:=us2 hl;rfl,⟨hm0,oU',fj'⟩,Gm0.binds λ_ _ _ _ _ _ us hl=>by obtain⟨_,_,rfl⟩:=us2 hl;rfl,⟨zC,oY',fk'⟩,Gm1.binds λ_ _ _ _ _ _ us hl=>by obtain⟨_,_,rfl⟩:=us2 hl;rfl⟩
 have mk:=@aa'.mk l.prog w K mg base;have mx:=@av'.mk l.prog w K mg base rn;have mo:=@aI'.mk l.prog w K mg base C;obtain C0:=(mk m0 F0 ["thing"] 1 0 sS zM (aj (aV (B4 (f9 (b7 (dR (gk T.qo (qv 0) (fH T.N3 qP)))) (eO (b7 (jz ir ir nU nU ao (aH az aR T.kA aP (qv 0)) (VA T.aY')))))) (ak (aD sF))
   aF)
   (ak (aD (aH ZL wI T.TX ym (cQ (tn:=["sign"]) (cn:=[]) (ix:=[]) (qd (Ia (qv 0))) (aG 0) cT (eV hX wu (qv 0) (dC' T.aX')))))))).1
 obtain C2:=(mk m2 F2 ["thing"] 1 0 p_ vL (ak (aD (gY (gk T.qo (qv 0) (fH T.TY uc)) (lO (Km (gk T.qo (qv 0) (fH T.V_ yu)))))))).1;obtain C3:=(mk m3 F3 ["row"] 1 0 zB Fj (aj (aV (B4 (f9 (aL ja bw (dA (qv 0) ao) aX) (eO (aL ja bw (dA (qv 0) ao) aX)))) (ak (aD (cM (aa (dA (qv 0) ao) au))))
   aF)
   (aj (aV (aL ja bw (dA (qv 0) ao) aX)
   (ak (aD (cM (aa (dA (qv 0) ao) au))))
   aF)
   (ak (aD (fu iG rF T.N0 jV (dA (qv 0) ao))))))).1
 obtain C4:=(mk m4 F4 ["row", "numbers"] 2 0 lB qI (aj (aV (B4 (f9 (aL ja bw (dA (qv 0) ao) aX) (eO (aL ja bw (dA (qv 0) ao) aX)))) (ak (aD (bU (aa (dA (qv 0) ao) (aa (dA (qv 0) ao) (aa (dA (qv 1) (dA (qv 0) ao)) au))))))
   aF)
   (aj (aV (aL ja bw (dA (qv 0) ao) aX)
   (ak (aD (bU (aa (dA (qv 0) ao) (aa (dA (qv 1) (dA (qv 0) ao)) au)))))
   aF)
   (ak (aD (bU (aa (dA (qv 0) ao) (aa (fu DK uW T.IY fj (cQ (tn:=["part"]) (cn:=["numbers"]) (ix:=[1]) (pK (dA (qv 0) ao)) (aG 0) cT (dA (qv 1) (qv 0)))) au)))))))).1
 obtain T1:=(mk m12 F12 ["_law_script", "_law_k"] 2 0 jq lN (aj (aV (aL qL zy (qv 1) (aH az aR T.kA aP (qv 0))) (ak (aD (dA (qv 0) (qv 1))))
   aF)
   (ak (aD ao)))).1
 obtain C13:=(mk m13 F13 ["_law_cell", "_law_turn", "_law_letters", "_law_size", "_law_places", "_law_k", "_law_word", "_law_at", "_law_found", "_law_sign"] 2 0 lE qt (aj (aJ 2 aX) (aj (aJ 3 (cY ao (bO (qv 0) ao))) (aj (aJ 0 (fY (qv 0) ao)) (aj (aJ 4 (cM au)) (aj (cF (dX T.AI (qv 3)) (aG 5) (aj (d_ (bH (pv 4)) (bO (qv 0) ao)) (ak (aJ 0 (fY (qv 0) ao))))) (aj (aJ 6 (Ir aX (cQ (tn:=["_law_k"]) (cn:=["_law_letters"]) (ix:=[2]) (rD (qv 4)) (aG 0) cT (dA (qv 1) (qv 0))))) (aj (aV (aL ja bw (bO (fY (qv 1) ao) ao) ao) (ak (aD (cQ (tn:=["_law_k"]) (cn:=["_law_word"]) (ix:=[6]) (qd (Hl T.AI ao ao)) (aG 0) cT (dq (Kc ao (qv 1)) iC (cj (qv 0))))))
   aF)
   (aj (aJ 7 (bO (qv 1) (qv 3)))
   (aj (aJ 8 (cM au))
   (aj (cF (dX T.AI ao) (aG 5)
   (aj (aJ 9 (dA (qv 2) (bO (cY (dA (qv 4) (qv 7)) (lC ao (qv 5))) ao)))
   (ak (d_ (bH (pv 8)) (cY (cY (dq (qv 6) iC (cj (qv 7))) (qv 9)) (dq (qv 6) (cj (cY (qv 7) ao)) iC))))))
   (ak (jH (pv 8)))))))))))))).1
 obtain C14:=(mk m14 F14 ["_law_cells", "_law_many", "_law_deeds_here", "_law_found", "_law_k", "_law_number", "_law_deed"] 3 0 lD pQ (aj (aJ 3 (cM au)) (aj (cF (dX T.AI (aH az aR T.kA aP (qv 0))) (aG 4) (aj (aJ 5 (bO (lC (cY (bO (dA (qv 0) (qv 4)) ao) ao) (cY ao (lC ao (qv 4)))) ao)) (aj (aJ 6 (dA (qv 2) (bO (fY (qv 5) (qv 1)) (aH az aR T.kA aP (qv 2))))) (ak (cO 6 (d_ (bH (pv 3)) (bU (aa (bO (qv 5) (qv 1)) (aa (qv 6) (aa (bO (fY (qv 5) (lC (qv 1) (aH az aR T.kA aP (qv 2)))) (qv 1)) au)))))))))) (ak (jH (pv 3)))))).1
 obtain C15:=(mk m15 F15 ["_law_cell", "_law_k", "_law_names", "_law_number", "_law_more", "_law_j", "_law_way", "_law_parts", "_law_i"] 3 0 pM vY (aj (aJ 3 (bO (lC (cY (bO (qv 0) ao) ao) (cY ao (lC ao (qv 1)))) ao)) (aj (aJ 4 (bO (lC (qv 3) ao) ao)) (aj (aV (aL ja bw (qv 1) ao) (ak (aD (dA (cM (aa (bU (aa aX (aa (bU au) au))) (aa (bU (aa aX (aa (bU au) au))) au))) (bO (qv 3) ao))))
   aF)
   (aj (aJ 5 (bO (qv 4) (qv 1)))
   (aj (aV (aL ja bw (bO (fY (qv 3) ao) ao) ao)
   (ak (aJ 5 (xU (xU (qv 1) ao) (bO (qv 4) (Hd JS Ew T.aU' Ih (qv 1) ao)))))
   aF)
   (aj (aJ 6 (bO (qv 3) ao))
   (aj (aV (aL qL zy (qv 6) ao)
   (ak (yt (ag' (dA (cM (aa aX (aa aX au))) (fY (qv 6) ao)) (ag' (dA (qv 2) (bO (fY (qv 3) ao) (aH az aR T.kA aP (qv 2)))) (dO' (pv 5) Dw)))))
   aF)
   (aj (aV (aL ja bw (qv 6) ao)
   (ak (yt (ag' aX (dO' (pv 5) Dw))))
   aF)
   (aj (aJ 7 (cM au))
   (aj (cF (dX T.AI (bO (fY (qv 3) ao) ao)) (aG 8)
   (aj (cO 5 (d_ (bH (pv 7)) (qv 5)))
   (ak (aJ 5 (bO (cY (lC ao (qv 5)) (fY (qv 4) (cY (qv 8) ao))) (qv 1))))))
   (ak (aD (bU (aa (dA (cM (aa aX (aa aX au))) (xU (qv 6) ao)) (aa (fu DK uW T.IY fj (qv 7)) au)))))))))))))))).1
 obtain C17:=(mk m17 F17 ["_law_some", "_law_k", "_law_j"] 2 0 jm lH (aj (cO 0 (cF (J0 (qv 0)) (aG 2) (ak (aV (B4 (f9 (b7 (dR (gk T.qo (qv 2) (fH T.TY uc)))) (f9 (dR (gk T.qo (qv 2) (fH T.V_ yu))) (eO (b7 (jz ir qL nU zy ao (qv 2) (qv 1))))))) (ak (aD sF))
   aF))))
   (ak (aD sF)))).1
 obtain C19:=(mk m19 F19 ["_law_m", "_law_found", "_law_p", "_law_deed", "_law_r"] 1 0 qN v8 (aj (aJ 1 Ej) (aj (cO 0 (cF (fV (dA (qv 0) ao)) (yN (dO (aG 2) (dO (aG 3) (dO (aG 4) sU)))) (ak (cO 4 (cO 3 (cO 2 (Mf (pv 1) (bU (aa (qv 2) (aa (qv 3) au))) (qv 4)))))))) (ak (jH (pv 1)))))).1
 obtain C20:=(mk m20 F20 ["_law_row_here", "_law_p", "_law_out_here", "_law_lists"] 4 0 lA pH (aj (aV (aL ja bw (dA (qv 0) ao) aX) (ak (cO 1 (aD (eV qg xg (aH az aR T.kA aP (cQ (tn:=["_law_q"]) (cn:=["_law_lists", "_law_row_here"]) (ix:=[3,0]) (rD (JM (qv 2) (bU (aa (qv 1) (aa (dA (qv 0) ao) au))) (cM au))) (aG 0) (nq (ou (dA (dA (qv 1) (dA (qv 2) ao)) (qv 0)))) (qv 0))) ao))))
   aF)
   (aj (aV (aL ja bw (dA (qv 0) ao) aX)
   (ak (cO 1 (aD (eV ja bw (aH az aR T.kA aP (cQ (tn:=["_law_q"]) (cn:=["_law_lists", "_law_row_here"]) (ix:=[3,0]) (rD (JM (qv 2) (bU (aa (qv 1) (aa (dA (qv 0) ao) au))) (cM au))) (aG 0) (nq (b7 (ou (dA (dA (qv 1) (dA (qv 2) ao)) (qv 0))))) (qv 0))) ao))))
   aF)
   (aj (aV (aL ja bw (dA (qv 0) ao) aX)
   (ak (aD (Km (dA (dA (qv 3) (dA (qv 0) ao)) (qv 1)))))
   aF)
   (aj (aV (aL ja bw (dA (qv 0) ao) aX)
   (ak (aD (eV ja bw (aH az aR T.kA aP (cQ (tn:=["_law_j"]) (cn:=["_law_lists", "_law_p"]) (ix:=[3,1]) (pK (dA (qv 0) ao)) (aG 0) (nq (b7 (ou (dA (dA (qv 1) (qv 0)) (qv 2))))) (qv 0))) ao)))
   aF)
   (ak (aD (eV qg xg (aH az aR T.kA aP (cQ (tn:=["_law_j"]) (cn:=["_law_lists", "_law_p"]) (ix:=[3,1]) (pK (dA (qv 0) ao)) (aG 0) (nq (ou (dA (dA (qv 1) (qv 0)) (qv 2)))) (qv 0))) ao)))))))).1
 obtain C22:=(mk m22 F22 ["_law_scroll_here", "_law_found", "_law_row_here"] 1 0 lG qy (aj (aJ 1 (cM au)) (aj (cO 0 (cF (fV (qv 0)) (aG 2) (ak (aV (aL hX wu (dA (qv 2) ao) (bU (aa aX (aa aX au)))) (ak (d_ (bH (pv 1)) (cY (dA (qv 1) (dA (qv 2) ao)) ao))) (ak (aV (aL ja bw (dA (qv 2) ao) aX) (ak (d_ (bH (pv 1)) (dA (qv 1) (dA (qv 2) ao)))) (ak (d_ (bH (pv 1)) (Kd rfl T.aT' (cQ (tn:=["_law_j"]) (cn:=["_law_found"]) (ix:=[1]) (pK (dA (qv 2) ao)) (aG 0) cT (dA (qv 1) (qv 0))) ao))))))))) (ak (aD (dA (qv 1) (vX ao))))))).1
 obtain C1:=(mk m1 F1 ["thing"] 1 1 rK xJ (ak (aD (kM' (bu C0 (aa (qv 0) au)) (lO (gY (gk T.qo (qv 0) (fH T.N3 qP)) (lO (eV ja bw (qv 0) (dC' T.aW'))))))))).1;obtain C5:=(mk m5 F5 ["k", "thing"] 2 1 qF vG (ak (aD (gY (bu C2 (aa (qv 1) au)) (lO (Ft ir qL nU zy ao (qv 1) (qv 0))))))).1;obtain C10:=(mk m10 F10 ["row", "numbers", "turned"] 2 1 qJ vH (aj (aJ 2 (bu C4 (aa (qv 0) (aa (qv 1) au)))) (ak (aD (cY (bU (aa (nu' T.nI' (dA (qv 2) ao)) au)) (dq (qv 2) (cj ao) iC)))))).1
 obtain C16:=(mk m16 F16 ["_law_cells", "_law_names"] 2 1 jG oR (ak (aD (cQ (tn:=["_law_k"]) (cn:=["_law_cells", "_law_names"]) (ix:=[0,1]) (qd (dX T.AI (aH az aR T.kA aP (qv 0)))) (aG 0) cT (bu C15 (aa (dA (qv 1) (qv 0)) (aa (qv 0) (aa (qv 2) au)))))))).1;obtain C18:=(mk m18 F18 ["_law_row_here", "_law_k"] 2 1 jU oU (aj (aV (B4 (f9 (b7 (dR (gk T.qo (qv 0) (fH T.IY fj)))) (f9 (aL qL zy (aH az aR T.kA aP (qv 0)) ao) (eO (b7 (dR (gk T.qo (dA (qv 0) ao) (fH T.N3 qP)))))))) (ak (aD sF))
   aF)
   (aj (aV (aL hX wu (dA (qv 0) ao) (bU (aa aX (aa aX au))))
   (ak (aD (gY (eV ja bw (aH az aR T.kA aP (qv 0)) ao) (gY (gk T.qo (dA (qv 0) ao) (fH T.IY fj)) (gY (eV ir nU (aH az aR T.kA aP (dA (qv 0) ao)) ao) (lO (bu C17 (aa (dA (qv 0) ao) (aa (qv 1) au)))))))))
   aF)
   (ak (aD (gY (eV hX wu (dA (qv 0) ao) (bU (aa aX (aa aX au)))) (gY (eV ja bw (aH az aR T.kA aP (qv 0)) ao) (gY (gk T.qo (dA (qv 0) ao) (fH T.N3 qP)) (lO (bu C17 (aa (dq (qv 0) (cj ao) iC) (aa (qv 1) au)))))))))))).1
 obtain C21:=(mk m21 F21 ["_law_m", "_law_scroll_here", "_law_out_here", "_law_lists", "_law_row_here"] 2 1 jO nG (aj (aJ 2 (bu C19 (aa (qv 0) au))) (aj (aJ 3 (cM au)) (aj (cO 1 (cF (fV (qv 1)) (aG 4) (ak (d_ (bH (pv 3)) (cQ (tn:=["_law_p"]) (cn:=["_law_lists", "_law_out_here", "_law_row_here"]) (ix:=[3,2,4]) (qd (dX T.AI (dA (qv 0) ao))) (aG 0) cT (bu C20 (aa (qv 3) (aa (qv 0) (aa (qv 2) (aa (qv 1) au)))))))))) (ak (Ar (pv 3) (vX ao))))))).1
 obtain C6:=(mk m6 F6 ["k", "thing"] 2 2 oW rH (aj (aV (B4 (f9 (b7 (dR (gk T.qo (qv 1) (fH T.IY fj)))) (eO (aL qg xg (aH az aR T.kA aP (qv 1)) (VA T.ba'))))) (ak (aD sF))
   aF)
   (ak (aD (aH ZL wI T.TX ym (cQ (tn:=["part"]) (cn:=["k"]) (ix:=[0]) (pK (qv 1)) (aG 0) cT (bu C5 (aa (qv 1) (aa (qv 0) au))))))))).1
 obtain C24:=(mk m24 F24 ["_law_script", "_law_names", "_law_first", "_law_scroll_here", "_law_k", "_law_size", "_law_many"] 2 2 lr qj (aj (aJ 2 (bu T1 (aa (qv 0) (aa ao au)))) (aj (aJ 3 (bu C16 (aa (cY (dq (qv 0) (cj ao) (cj ao)) (cM (aa (bu T1 (aa (qv 0) (aa ao au))) au))) (aa (qv 1) au)))) (aj (aV (aL ja bw (bO (fY (qv 2) ao) ao) ao) (ak (cF (yV T.AI ao (aH az aR T.kA aP (qv 3)) ao) (aG 4) (ak (Ei (bH (pv 3)) (qv 4) (bU (aa aX (aa (xU (qv 4) ao) au)))))))
   aF)
   (aj (aV (aL hX wu (bO (fY (qv 2) ao) ao) (bU (aa ao (aa ao au))))
   (aj (aJ 5 (aH az aR T.kA aP (qv 3)))
   (aj (aJ 6 (dA (cM (aa ao (aa (cY ao (bO (fY (qv 2) ao) ao)) au))) (fu hA' Jl T.TY uc (eV ja bw (bO (fY (qv 2) ao) ao) ao))))
   (ak (aJ 3 (cY (qv 3) (cQ (tn:=["_law_k"]) (cn:=["_law_size"]) (ix:=[5]) (qd (dX T.AI (xU (qv 6) (qv 5)))) (aG 0) cT (bU (aa aX (aa (bO (lC (qv 0) (qv 0)) (qv 1)) au)))))))))
   aF)
   (ak (jH (pv 3)))))))).1
 obtain C26:=mo Gm0 ["self", "last", "wanted", "k", "part"] 2 2 gf (iz (sd K l.prog w C)) (aj (aJ 2 (Hv (qv 1) sF)) (aj (cF (yV T.AI (qv 1) (vX ao) (vX ao)) (aG 3) (ak (aV (aL hX wu (qv 3) (qv 2)) (ak (cF (fV (bu C3 (aa (zj (C:=C) (pv 0) (qv 3)) au))) (aG 4) (ak (yU (bH (pv 2)) (qv 4) sF))))
   aF)))
   (ak (aD (aH Ko Cv T.Wa pG (qv 2))))))
 obtain C7:=(mk m7 F7 ["k", "thing"] 2 3 vq Ao (aj (aV (B4 (f9 (b7 (dR (gk T.qo (qv 1) (fH T.IY fj)))) (f9 (aL ja bw (aH az aR T.kA aP (qv 1)) ao) (eO (b7 (dR (gk T.qo (dA (qv 1) ao) (fH T.N3 qP)))))))) (ak (aD sF))
   aF)
   (aj (aV (B4 (f9 (aL ja bw (dA (qv 1) ao) aX) (eO (aL ja bw (dA (qv 1) ao) aX))))
   (ak (aD (gY (eV ja bw (aH az aR T.kA aP (qv 1)) ao) (gY (bu C1 (aa (dA (qv 1) ao) au)) (lO (bu C5 (aa (qv 0) (aa (dA (qv 1) ao) au))))))))
   aF)
   (aj (aV (aL ja bw (dA (qv 1) ao) aX)
   (ak (aD (gY (eV ja bw (aH az aR T.kA aP (qv 1)) ao) (lO (bu C5 (aa (qv 0) (aa (dA (qv 1) ao) au)))))))
   aF)
   (aj (aV (B4 (f9 (aL ja bw (dA (qv 1) ao) aX) (eO (aL ja bw (dA (qv 1) ao) aX))))
   (ak (aD (gY (eV ja bw (aH az aR T.kA aP (qv 1)) ao) (lO (bu C6 (aa (qv 0) (aa (dA (qv 1) ao) au)))))))
   aF)
   (ak (aD sF))))))).1
 obtain C27:=mo Gm1 ["self", "last", "numbers", "scroll", "k"] 2 3 gm (iT (sd K l.prog w C)) (λ{_ _ _ _ _ _ hr hu nd _}=>(aj (aJ 2 Hw) (aj (aJ 3 (cM au)) (aj (cF (fV (yD (pv 0) Sh.cls Sh.nU' C26 (hr.mono (by decide)) Sh.nV' (aa (qv 1) au))) (aG 4) (aj (yU (bH (pv 2)) (qv 4) (aH az aR T.kA aP (qv 3))) (ak (d_ (bH (pv 3)) (bu C4 (aa (zj (C:=C) (pv 0) (qv 4)) (aa (qv 2) au))))))) (ak (jH (pv 3)))))))
 obtain C8:=(mk m8 F8 ["thing"] 1 4 nF q_ (aj (aV (B4 (f9 (b7 (dR (gk T.qo (qv 0) (fH T.N0 jV)))) (eO (b7 (jz ir ir nU nU ao (aH az aR T.kA aP (qv 0)) (VA T.aZ')))))) (ak (aD sF))
   aF)
   (ak (aD (aH ZL wI T.TX ym (cQ (tn:=["k", "row"]) (cn:=[]) (ix:=[]) (Hu T.aS' (qv 0)) (yN (dO (aG 0) (dO (aG 1) sU))) cT (bu C7 (aa (qv 0) (aa (qv 1) au))))))))).1
 obtain C9:=(mk m9 F9 ["thing"] 1 5 ju lF (ak (aV (b7 (dR (bu C8 (aa (qv 0) au))))
   xM
   aF))).1
 obtain Wb:=mx m11 F11 ["scroll", "sheet", "same", "turned", "row"] 1 6 j6 (nu (sd K l.prog w C)) (λ{_ _ _ _ _ _ hr hu nd _}=>(aj (yw (bu C9 (aa (qv 0) au))) (aj (aV (aL qg xg (aH az aR T.kA aP (qv 0)) (VA T.bb')) (ak (By rfl Jj T.nJ' (.head _) aX))
   aF)
   (aj (Gm (i:=1) Sh.mkk Sh.cls Sh.n1 Sh.n2 Sh.init (hr.mono (by decide)) Sh.gl Sh.bi)
   (aj (aJ 2 (cM au))
   (aj (aJ 3 (cM au))
   (aj (cO 0 (cF (fV (qv 0)) (aG 4)
   (ak (aV (aL ja bw (dA (qv 4) ao) aX)
   (aj (d_ (bH (pv 2)) (dA (qv 3) (dA (qv 4) ao)))
   (ak (d_ (bH (pv 3)) (dA (qv 2) (dA (qv 4) ao)))))
   (aj (yC (pv 2) (pv 1) Sh.cls Sh.eT' Sh.put (hr.mono (by decide)) Sh.bp (bu C4 (aa (qv 4) (aa (qv 2) au))) (by decide))
   (ak (yC (pv 3) (pv 1) Sh.cls Sh.eT' Sh.put (hr.mono (by decide)) Sh.bp (bu C10 (aa (qv 4) (aa (qv 3) au))) (by decide))))))))
   (ak (aD (yD (pv 1) Sh.cls Sh.nW' C27 (hr.mono (by decide)) Sh.nX' (aa (dA (qv 2) (vX ao)) au)))))))))))
 obtain C23:=(mk m23 F23 ["_law_scroll_here", "_law_kinds", "e", "_law_other"] 1 7 jr k_ (λ{_ _ _ _ _ _ hr hu nd _}=>(aj (aJ 1 (bU au)) (aj (EY (j:=2) T.nK' nd rfl rfl rfl rfl (λpn xe E1 t9 hx1=>(GK (G8 Wb (hr.mono (by decide)) hx1 (aa (qv 0) au)))) (λpn a oe n C hn hm xc hp pV=>by
    obtain⟨qt',qu',qv'⟩:=T.nL' n C hn hm;obtain⟨qw',qx',qy'⟩:=T.nM' n C hn hm;obtain⟨qz',qA',qB'⟩:=T.nN' n C hn hm;obtain⟨qC',qD',qE'⟩:=T.nP' n C hn hm;exact(aj (aJ 3 (IK (j:=2) (cs:=[qt',qw',qz']) T.qo hp pV xc (fZ qv' (fZ qy' (fZ qB' vM))) (Nat.le_of_ble_eq_true rfl) (pv 2) (nY (Pt rfl qu' rfl) (nY (Pt rfl qx' rfl) (nY (Pt rfl qA' rfl) Gz)))))
   (ak (cO 3 (aJ 1 (bU (aa (J9 (vc:=.ref qC') (j:=2) T.qo hp pV xc qE' (pv 2) (Pt rfl qD' rfl) (λ_ r=>r)) (aa (J9 (vc:=.ty "ValueError") (j:=2) T.qo hp pV xc (T.nO' n C hn hm) (pv 2) (fH T.aR' oO) (λ_ r=>r)) (aa (qv 3) au))))))))))
   (ak (aD (eV ja bw (qv 1) (bU (aa sF (aa sF (aa sF au))))))))))).1
 exact(mk hfa F25 ["_law_script", "_law_first", "_law_pool", "_law_scroll_here", "_law_handed", "_law_found", "_law_k", "_law_many", "_law_cells", "_law_m", "_law_kept"] 1 8 Gy K9 (λ{_ _ _ _ _ _ hr hu nd _}=>(aj (aJ 1 (bu T1 (aa (qv 0) (aa ao au)))) (aj (aJ 2 (bu C13 (aa (bu T1 (aa (qv 0) (aa ao au))) (aa (bu T1 (aa (qv 0) (aa ao au))) au)))) (aj (aJ 3 (bu C24 (aa (qv 0) (aa (cY (cM (aa aX au)) (qv 2)) au)))) (aj (aJ 4 (fu iG rF T.N0 jV (qv 3))) (aj (aV (aL qg xg (aH az aR T.kA aP (qv 3)) ao) (ak (aD (gY (bu C23 (aa (qv 4) au)) (lO (eV ja bw (qv 4) (qv 3))))))
   aF)
   (aj (aJ 5 (zW Wb (hr.mono (by decide)) (aa (qv 4) au)))
   (aj (aV (B4 (f9 (b7 (dR (gk T.qo (qv 5) (fH T.N0 jV)))) (f9 (b7 (jz ir ir nU nU ao (aH az aR T.kA aP (qv 5)) (lC ao (aH az aR T.kA aP (qv 3))))) (eO (aL Vn Br (qv 4) (qv 3))))))
   (ak (aD sF))
   aF)
   (aj (cF (dX T.AI (aH az aR T.kA aP (qv 5))) (aG 6)
   (ak (aV (b7 (dR (bu C18 (aa (dA (qv 5) (qv 6)) (aa (qv 6) au)))))
   (ak (aD sF))
   aF)))
   (aj (aV (aL Vn Br (bu C22 (aa (qv 5) au)) (bu C22 (aa (qv 3) au)))
   (ak (aD sF))
   aF)
   (aj (cF (fV (cM (aa (bU (aa (cY ao (bO (qv 1) ao)) (aa (dq (qv 0) (cj ao) (cj ao)) au))) (aa (bU (aa (cY ao (bO (fY (qv 1) ao) ao)) (aa (dq (qv 0) (cj ao) (cj ao)) au))) au)))) (yN (dO (aG 7) (dO (aG 8) sU)))
   (aj (cO 7 (aJ 9 (bU (aa (qv 7) (aa (vW T.Wa T.aV' (bu C14 (aa (qv 8) (aa (qv 7) (aa (cY (cM (aa aX au)) (dq (qv 2) iC (cj ao))) au))))) au)))))
   (ak (aV (aL Vn Br (bu C21 (aa (qv 9) (aa (qv 5) au))) (bu C21 (aa (qv 9) (aa (qv 3) au))))
   (ak (aD sF))
   aF))))
   (aj (aJ 10 (fu iG rF T.N0 jV (qv 5)))
   (aj (BR (pv 4) (vX ao) (bU (aa aX (aa (bU au) au))))
   (aj (yw (zW Wb (hr.mono (by decide)) (aa (qv 4) au)))
   (aj (aV (aL Vn Br (qv 5) (qv 10))
   (ak (aD sF))
   aF)
   (aj (CV (bH (pv 5)))
   (ak (aD (eV ja bw (zW Wb (hr.mono (by decide)) (aa (qv 3) au)) (qv 10))))))))))))))))))))).2
def walk{l:Wk}{q:cv}{loose:List Str}{XP:(Str->Option ag)->dr->Prop}{YP:cK->dr->Prop}{d:DefRec}{K:Params->aI}(hn:l.most=some 63)(Ss:d.params.defaults=[])(hY:∀ (w:cK) (h:dr),YP w h->(K w.params).In h)(F:∀ (w:cK) (mg:Str->Option ag) (fa:ah) (h:dr),(K w.params).In h->h.Ns gS mg->mg d.name=some (.ref fa) ->
   ∃ fd:qB,(∀ (s:ay) (u:ag),BindsTo s fd ⟨[u],[]⟩ [("_law_script",u)])/\∀ base:dr,(K w.params).In base->base.Ns gS mg->kS l.prog w (K w.params) mg base kG 9 fa fd ["_law_script"] (fO (K w.params) TR)) :
  PySem.W.WalkO q loose XP YP l.row.toRowW d [] (λf vs=>PySem.call f vs) :=
 L2.jx' (n:=63) (k:=9) (x := "_law_script") (CX:=λ_=>kG) (sp:=λw=>fO (K w.params) TR) hn (by decide) Ss ⟨rfl,by decide,by decide⟩ hY F (λw H a ns hl hO hS=>Ad hl hS) λ_ _ _ _ _ z=>z
end L2.Q.V4
end
open PySem PySem.W PyProof.Rows
namespace PySem.W.Fast
def tw17804787697981008380:=0
def tw5990326201162177131:=0
def tw1973098248881083521:=0
def tw13165940751820364321:=0
def tw3781119902921289876:=0
def tw13637724851874557519:=0
def tw16304132653435155755:=0
def tw5649372723718297266:=0
def tw5521686963123168433:=0
def tw6615761088824407845:=0
def tw4264295221278820861:=0
def tw15549100439929315704:=0
def tw17100044267146290851:=0
def tw14585530132773861344:=0
def tw7120607370457703099:=0
def tw7110875212957051315:=0
def tw11749851953647434306:=0
def tw14258855014801393576:=0
def tw16107064101636085288:=0
def tw2476269714215040358:=0
def tw1124805033937153922:=0
def tw1817269520722266608:=0
def tw11929026792174407368:=0
def tw16924143240513875554:=0
def tw13181134459492604832:=0
def tw3380795114040123399:=0
def tw13058372667777472496:=0
def tw18419130295715848722:=0
def tw8492536308097810833:=0
def tw16792210618983433277:=0
def tw16036771655305910026:=0
def tw14139251122094973048:=0
def tw9262348125772080990:=0
def tw4308760059205172811:=0
def tw18256233805772449937:=0
def tw13434474319101971312:=0
def tw3774183398559946621:=0
def tw11362989973866307223:=0
def tw9743543971582797884:=0
def tw8327499240244908504:=0
def tw13027102695962366202:=0
def tw12881026492148155816:=0
def tw13676071305405735048:=0
def tw11379197799147134769:=0
def tw15310583408518453815:=0
def tw13528071114027629171:=0
def tw10878803535054607217:=0
def tw4401811357219881858:=0
def tw3402879710396618360:=0
def tw5127195869049642432:=0
def tw5406268329341747341:=0
def tw409632703070820555:=0
def tw16807217034546926514:=0
def tw5919787277096377547:=0
def tw16626896614008088985:=0
def tw2763532423459834127:=0
def tw6560099412706371142:=0
def tw12749535246958594142:=0
def tw222069634075133339:=0
def tw4221137076213286151:=0
def tw12499358095346612903:=0
def tw18202827600758998075:=0
def tw8409248280404116127:=0
def tw11099526082713277612:=0
def tw1145729000674154752:=0
def tw5729287066362959293:=0
def tw10786636885831047537:=0
def tw8849047030740654350:=0
def tw1256892365531887574:=0
def tw701199819689151193:=0
def tw17681593503216517266:=0
def tw8953474554805321458:=0
def tw17990590671805014802:=0
def tw1800601298835150778:=0
def tw4123993450581899073:=0
def tw575139916895730366:=0
def tw8943746134738839920:=0
def tw930004572409362823:=0
def tw5602974593772650852:=0
def tw15863589713745481272:=0
def tw3995000939767587080:=0
def tw366838311768402755:=0
def tw15520772358015606880:=0
def tw13344405212361583177:=0
def tw8231975897928358340:=0
def tw23976776698523244:=0
def tw1631221101285540115:=0
def tw13058550546948913352:=0
def tw3112444475788019217:=0
def tw752855675131713443:=0
def tw3787901120194327831:=0
def tw17699815407445047932:=0
def tw13713056307561097002:=0
def tw17557438225793919441:=0
def tw7573119665947932275:=0
def tw2660906575994737556:=0
def tw2891807727318749967:=0
def tw9995482119810405152:=0
def tw14448368223074254137:=0
def tw12563501132354242654:=0
def tw3192637726072678505:=0
def tw14573341956717095011:=0
def tw8872379537911677425:=0
def tw6960271187189593196:=0
def tw12325422365908751517:=0
def tw6758142018918242121:=0
def tw6108338754123946640:=0
def tw8160957298843016900:=0
def tw15075378875931265165:=0
def tw12649386097213819319:=0
def tw13663427240587963639:=0
def tw6594383636524980217:=0
def tw5306234307229907023:=0
def tw12337589060813782052:=0
def tw10071315545440748051:=0
def tw983709591880384023:=0
def tw3788123827120246459:=0
def tw12334049751952014393:=0
def tw8668808156944542589:=0
def tw10384591394199594189:=0
def tw8264356950692162894:=0
def tw2366899188145157532:=0
def tw14349391706251172653:=0
def tw8006011694033726162:=0
def tw16724576304437313168:=0
def tw9014640161984382853:=0
def tw4441324580700660715:=0
def tw9226966327269872937:=0
def tw593087303793910238:=0
def tw16643444010852550224:=0
def tw8231702954195888278:=0
def tw8351333586563150442:=0
def tw7423526207940736715:=0
def tw9787249688311967914:=0
def tw316199488482930033:=0
def tw6693974867416051931:=0
def tw16934364311685400987:=0
def tw5695335204206003685:=0
def tw15253846255155617564:=0
def tw9368182322009019587:=0
def tw623039218088866700:=0
def tw6345266331206929274:=0
def tw8864458024169993332:=0
def tw15385102338816305244:=0
def tw2504417245382325330:=0
def tw730238181014189512:=0
def tw9981634426275420689:=0
def tw2248851880499765117:=0
def tw945274168492460220:=0
def tw7413292758144544899:=0
def tw10381274439610070200:=0
def tw5599616601598696579:=0
def tw12866624880220941815:=0
def tw1722057733067961457:=0
def tw16219008414263532593:=0
def tw1668005877623581900:=0
def tw12877284496365851840:=0
def tw7487797863959136227:=0
def tw11168071063202748191:=0
def tw10544550133259085204:=0
def tw4785224865538503782:=0
def tw15012932157113755862:=0
def tw6337990127647563236:=0
def tw16987684183690416948:=0
def tw18084389058356029701:=0
def tw13278787734869281261:=0
def tw8395420428295060806:=0
def tw7163163184708297442:=0
def tw7917406982094286200:=0
def tw11097354776034176746:=0
def tw3636691311984765641:=0
def tw13855147325399132096:=0
def tw16134142329412626841:=0
def tw6114163766555892274:=0
def tw9899208421363709970:=0
def tw9103250063668810608:=0
def tw17222625080476134285:=0
def tw115633283777699374:=0
def tw5308327007295621105:=0
def tw16031080077569695342:=0
def tw5350394112373257793:=0
def tw17969757682997504108:=0
def tw15164029420868783100:=0
def tw17464077658007159686:=0
def tw1421810836235675427:=0
def tw5977386016797238380:=0
def tw9073854318517274021:=0
def tw2270486027203328271:=0
def tw7484743182123694948:=0
def tw17167196413836544808:=0
def tw8995326941595983306:=0
def tw10024720525575679882:=0
def tw7395458257562850905:=0
def tw9291900302867829393:=0
def tw333498789719379020:=0
def tw1870699102397938454:=0
def tw4293095591986099232:=0
def tw11062875713283693575:=0
def tw6124797179170073465:=0
def tw18254606562644439141:=0
def tw13235983888669154900:=0
def tw731614251409661055:=0
def tw3084700957713699625:=0
end PySem.W.Fast
set_option maxRecDepth 100000 in
set_option maxHeartbeats 0 in
theorem PySem.Challenge.cw_kinlook_k22_without_not_holds : PySem.Challenge.rw_kinlook_k22_without_not.Holds := by
 w_on;o_law;k_head;(case hw=>w_witness2)
 k_fill
 refine L2.Q.V4.walk (l:=PySem.Challenge.rw_kinlook_k22_without_not) rfl rfl (λw h Y=>PySem.W.kIn_of Y) ?F
 case F =>
  intro w mg fa h KX G Sv
  refine' L2.Q.V4.all_mk KX G Sv ..
  all_goals first|k_is|k_exc|kit_is|(refine' L2.Q.V4.Ls ..<;>first|k_is|skip)|skip
