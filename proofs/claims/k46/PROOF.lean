import PyProof.Rows.All
import Wide.All
import OpenK.AllK
import Wide.FinOn
import Lean
import PyProof.EqAt
import PyProof.EqKinds
import PyProof.TupleCall
import PyProof.CompUse
import PyProof.NeData
import PyProof.WalksEnum
import PyProof.EnumMake
import PyProof.ZipIter
import PyProof.Rows.EnumRows
import PyProof.Rows.FactsT2
import KE.KDictList
import PyProof.Rows.SortRuns
import PyProof.Rows.SortWalk
import KE.KSortTup
import PyProof.Rows.SortStr
import PyProof.ListRange
import PyProof.StrOps2
import PyProof.StrBlock2
import PyProof.AutoIntG3
import PyProof.ListMulRight
import PyProof.Rows.ListMulArg
import PyProof.Rows.CallKwBuiltin
import PyProof.Rows.StrMul
import KE.KMinBuiltin
import PyProof.TupleKey
import PyProof.SetKind
import PyProof.Rows.SetFrom
import PyProof.DictWalks
import KE.KRevIter
import PyProof.AutoSeq1
import PyProof.P3Eq
import PyProof.MeetsSeq3
import PyProof.FactsAll.list_2
import PyProof.FactsAll.tuple_2
import PyProof.Rows.RowHeap
import PyProof.FactsAll.list_3
import PySem.Challenge.RW_kinlook_k46_home_is_alike
open PySem renaming wpAny_bind->aw,Value->ae,wpAny_pure->bI,Shared->ay,Addr->ag,sizeLine->bS,model->aE,wpAny->aI,starEach->cc,Program->d4,PyData->dE,compareOp->hJ,Around->fm,World->eB,sizeLine_eq->jI,eval->dr,Heap->dy,cLine->fe,wpAny_newObj_type->sC,mainGlobals->lI,bootBuiltins->mM,wpAny_holding->tJ,sysModules->oB,wpAny_setState_of->AO,assignEach->qB,wpAny_Call_Name_kw->DU,wpAny_call_entry->B1,backTo->k6,foldedSetIterable->DV,binaryOp->oC,codeAny_builtin->B3,wpAny_mono->vx,rawInt->mr,attributeBase->B4,tupleKind_room_in1->Iq,wpAny_truthy_bool->Iy,swapsWith->xA,wpAny_typeNameOfWhole_keyiter->Q0,wpAny_callSpecial?_slot->OD,Keyword->sD,wpAny_rule->AQ,wpAny_setField_rec->L6,wpAny_passesOwn->IA,plainId_quiet->Fc,tupleKind->AR,wpAny_typeNameOf_keyiter->Q5,wpAny_askSetting->L7,NameKind->AU,keywordEach->Fh,wpAny_dictEntries->OG,behindInMarks->L8,sliceBounds->IB
open PySem.W renaming Frag->aC,mg_none_of->DZ,fnOf->zk,nsIn->zo,keepIn->IC,codeIn->L9,kat_kind->OJ,methodObj->TK,OpenLaw->TL
open List renaming mem_cons_of_mem->df,length_map->b5,mem_cons_self->cE,mem_map->cw,mem_append_right->fI,mem_append->eR,mem_cons->eK,getElem?_eq_some_iff->jS,map_map->fo,mem_append_left->i9,getElem?_eq_getElem->mw,map_cons->gE,sublist_append_right->n4,nodup_append->ja,size_toArray->kA,pairwise_map->kH,mem_of_getElem?->om,nodup_cons->k7,length_append->oo,getElem?_map->n5,length_take->mN,drop_eq_getElem_cons->xB,mem_singleton->qE,length_cons->oD,append_nil->pV,nodup_nil->p9,getElem?_append_right->D1,getD_eq_getElem?_getD->D2,pairwise_iff_getElem->D3,take_length->vE,mem_range->sF,getElem?_eq_none->D4,append_assoc->AV,mem_filter->zt,getElem_mem->AW,filter_eq_self->D5,ext_getElem?->B5,map_append->AX,zip_cons_cons->D6,getElem?_append_left->Mb,take_add_one->D7,replicate_succ->Fm,map_congr_left->IE,length_drop->Fn,mem_iff_getElem?->Mk,sublist_append_left->OL,flatten_cons->IG,all_cons->D8,any_cons->D9,map_fst_zip->IH,append_eq_nil_iff->OO,length_singleton->OQ,take_append_drop->OS,nodup_iff_pairwise_ne->Q6,nil_append->II,pairwise_append->OU,filterMap_cons->OV,all_eq_true->My,nil_sublist->MA,length_eq_zero_iff->Q7,find?_cons->MB,take_of_length_le->Q8,length_range->OW,length_filter_le->Q9,getElem?_set_ne->Q_,mem_of_mem_take->Ra,mem_iff_getElem->Rb,drop_length->OX,any_eq_true->OY,extract_eq_drop_take->TN,length_zip->OZ,pairwise_cons->Rc,getElem_idxOf->Rf,getElem?_cons_zero->TQ,getElem?_set_self->TR,length_pos_of_mem->TV,drop_of_length_le->TX,cons_append->Rg,perm_append_comm->TY,countP_cons->Rh,not_mem_nil->Ri,cons_ne_nil->Rj,eq_nil_iff_forall_not_mem->Wx,mem_of_mem_drop->T1,getElem?_mapIdx->T3,length_nil->Rk,mem_filterMap->T4,filterMap_map->T5,lookup_cons->T6,nodup_range->T7,all_map->Rl,any_map->Rm
open PySem.Heap renaming get?_push_of_some->gd,lt_size->fh,get?_push_size->kK,get?_update_self->Fs,get?_update_other->O0,size_update->IJ,get?_push_ne->MD,get?_update_ne->T8
open Nat renaming le_refl->cx,zero_le->fz,ne_of_lt->gi,lt_of_lt_of_le->oq,le_trans->iX,le_of_lt->oI,lt_succ_of_lt->vF,lt_irrefl->vS,zero_add->vT,succ_pos->xC,lt_succ_of_le->Fu,le_add_right->IL,add_sub_of_le->IQ,pow_succ->B6,le_of_not_lt->O1,not_lt_zero->IU,add_assoc->IX,le_of_eq->IY,lt_of_not_le->Rn,mul_assoc->MG,ne_of_gt->ML,add_zero->MQ,lt_or_ge->MR,lt_of_succ_lt->T9,le_of_lt_succ->Ro,one_pos->MS,min_self->O3,sub_lt->MV,mod_lt->MX,lt_of_le_of_lt->xdM,le_succ->O4,le_succ_of_le->T_,lt_trans->Ua,add_comm->Rp,mul_comm->Rq
open PyProof.Rows renaming wpS_bind->ck,arrOf->bq,wpS_pure->dk,Keyed->bX,SortSt->dz,kindOf->fq,pendingOf->kL,wpS_forRange->qS,SortKind->qa,failedOf->qc,seqObj->mP,wpS_mono->tN,elem'->n9,wpS_modify->Ee,size_push'->EA
open Bool renaming false_eq_true->js,false_ne_true->kB,and_eq_true->mS,eq_iff_iff->zv,not_true->Rr,and_true->Rt
open Array renaming getElem?_toList->lP,toList_push->qf,getElem?_eq_getElem->AY,length_toList->xD,getD_eq_getD_getElem?->FC,getElem?_eq_none->FD,getElem?_eq_some_iff->MY,size_extract->IZ,eq_empty_of_size_eq_zero->Ru,toArray_toList->O5,append_assoc->O6,getElem?_extract->Rv,perm_iff_toList_perm->Ub,toList_inj->Rw,toList_extract->Uc,append_empty->Ud
open Int renaming le_refl->sL,le_trans->zC,toNat_of_nonneg->I0,le_of_lt->EB,toNat_natCast->MZ,emod_lt_of_pos->Ue
open Option renaming map_some->O7,isSome_iff_exists->Ug,map_eq_some_iff->Uh,isSome_map->Ui
local macro_rules | `(command| def $i:declId $s:optDeclSig $v:declVal)=>`(command| noncomputable def $i:declId $s:optDeclSig $v:declVal)
local macro_rules | `(command| abbrev $i:declId $s:optDeclSig $v:declVal)=>`(command| noncomputable abbrev $i:declId $s:optDeclSig $v:declVal)
set_option compiler.extract_closed false
local macro_rules | `(tactic| walk_at "l") => `(tactic| first | lia | omega)
local macro_rules | `(tactic| walk_at "s1") => `(tactic| solve_by_elim (maxDepth := 4) [Nat.lt_of_lt_of_le, Nat.lt_of_le_of_lt, Nat.le_trans, Nat.lt_trans, Nat.le_of_lt, Nat.le_of_not_lt])
local macro_rules | `(tactic| walk_at "s2") => `(tactic| solve_by_elim (maxDepth := 5) [Nat.lt_of_lt_of_le, Nat.lt_of_le_of_lt, Nat.le_trans, Nat.le_of_lt, Nat.le_of_not_lt, Nat.lt_of_not_le, Nat.lt_of_succ_lt, Nat.le_of_succ_le])
local macro_rules | `(tactic| walk_at "s3") => `(tactic| solve_by_elim (maxDepth := 5) [Int.lt_of_lt_of_le, Int.lt_of_le_of_lt, Int.le_trans, Int.le_of_lt, Int.not_lt.mp, Int.not_le.mp])
local macro_rules | `(tactic| walk_at "s4") => `(tactic| solve_by_elim (maxDepth := 5) [Nat.le_trans, Nat.lt_of_lt_of_le, Nat.le_of_lt, Nat.le_add_right, Nat.le_add_left, Nat.add_le_add_left, Nat.add_lt_add_left, Nat.succ_le_succ, Nat.sub_le])
set_option hygiene false
local macro_rules
|`(tactic|walk_at"a")=>`(tactic|intro Hs H m x v As n y u Bs Qd Qv w rx ry h f)
|`(tactic|walk_at"b")=>`(tactic|refine⟨Hs,ρ,ah,_,sr,h,λv H1 bE m x As g1 r1 f1 q1=>?_⟩)
|`(tactic|walk_at"c")=>`(tactic|intro pins s σ H x y v u Q I rx ry h)
|`(tactic|walk_at"d")=>`(tactic|intro Hs H m x v As Qd Qv w rx h f)
|`(tactic|walk_at"e")=>`(tactic|obtain⟨n1,n2,n3⟩:=ja.mp n)
|`(tactic|walk_at"f")=>`(tactic|intro pins s σ H xs us Q I r h)
|`(tactic|walk_at"g")=>`(tactic|refine Calls.spliced_cons (cK (he pins s σ H _ I h) λu s1 cS=>L2.gI cS λx H1 I1 r1 q1=>Calls.spliced_nil ?_))
|`(tactic|walk_at"h")=>`(tactic|rw[if_pos (by simpa using z)])
|`(tactic|walk_at"i")=>`(tactic|rw[if_neg (by simpa using z)])
|`(tactic|walk_at"j")=>`(tactic|refine aw (wpAny_attempt (OD (name:=Str.ofString "__next__") ty F.slot_dict_keyiterator_next (B1 F.slot_dict_keyiterator_next ty F.entry_dict_keyiterator_next ?_ (F.args_dict_keyiterator_next_1 _)))))
|`(tactic|walk_at"k")=>`(tactic|refine⟨v,As,B++t,by simpa using a,b,c,d.trans (n4 _ _),λaT H2 fl2 d2 g7 s2 r2 ne2 mG dj st=>?_⟩)
|`(tactic|walk_at"m")=>`(tactic|refine .inr ⟨S.go i aT H2 s2 hU.wf d5,λoS H3=>∃ ax b4 cv,bG bE ax/\eC K ax b4 oS H3 cv/\ie g b E (ds.drop (i+1)) b4,λoS H3 h3=>⟨ds.length-(i+1),by lia,rfl,d5,h3⟩,λx H3 y=>?_⟩)
|`(tactic|walk_at"n")=>`(tactic|rintro x hx ρ ⟨o,rfl⟩ N1 N2 n1 n2)
|`(tactic|walk_at"p")=>`(tactic|refine Calls.call_function_entry kind_sorted plain_sorted entry_sorted (args_sorted1 _) ?_)
|`(tactic|walk_at"r")=>`(tactic|have hS:(s.heap.push { cls:=.type "list",data:=.seq ([]:List ae).toArray }).get? s.heap.objs.size=some { cls:=.type "list",data:=.seq ([]:List ae).toArray }:=kK _ rfl)
|`(tactic|walk_at"s")=>`(tactic|rw[show its.toArray.any (ub x)=its.any (ub x) by simp,Pu r fs])
|`(tactic|walk_at"t")=>`(tactic|refine⟨by lia,by lia,?_⟩)
|`(tactic|walk_at"u")=>`(tactic|refine ck (wpS_lift (AQ ⟨rfl,?_⟩)))
|`(tactic|walk_at"v")=>`(tactic|intro pins s σ H Q I h)
set_option hygiene true
theorem L2.gI{α β:Type _}{A B C:α->β->Prop}{G:Prop}(x:∃ a b,A a b/\B a b/\C a b)(k:∀ a b,A a b->B a b->C a b->G):G :=
 let ⟨a,b,p,q,r⟩:=x
 k a b p q r
set_option Elab.async false
set_option linter.all false
set_option maxRecDepth 100000
namespace L2
open PySem PySem.Spec PyProof.Rows
abbrev Key:=Sum Int Str
def FE:Key->ae->Bool
 |.inl k,v=>Value.isInt k v
 |.inr x,v=>Value.isStrOf x v
def bT'(w:eB):Key->Int
 |.inl k=>hashInt k
 |.inr x=>hashStr w x
theorem zD:∀ {k:Key} {v:ae},FE k v=true->(∃ i t,k=Sum.inl i/\v=Value.int i t)\/(∃ x t,k=Sum.inr x/\v=Value.str x t)
 |.inl i,v,h=>by obtain⟨t,e⟩:=Value.isInt_shape (k:=i) (v:=v) h;exact .inl ⟨i,t,rfl,e⟩
 |.inr x,v,h=>by obtain⟨t,e⟩:=Value.isStrOf_shape (x:=x) (v:=v) h;exact .inr ⟨x,t,rfl,e⟩
theorem Uj(i:Int)(t:Tok):FE (.inl i) (.int i t)=true:=by simp[FE,Value.isInt]
theorem Uk(x:Str)(t:Tok):FE (.inr x) (.str x t)=true:=by simp[FE,Value.isStrOf]
theorem Wy(a b:Int):decide ((Sum.inl a:Key)=Sum.inl b)=(a == b):=by
 by_cases e:a=b
 ·subst e;simp
 ·have h:¬ (Sum.inl a:Key)=Sum.inl b:=λq=>e (Sum.inl.inj q);rw[decide_eq_false h];exact(beq_eq_false_iff_ne.mpr e).symm
theorem Wz(a b:Str):decide ((Sum.inr a:Key)=Sum.inr b)=decide (a=b):=by
 by_cases e:a=b
 ·subst e;simp
 ·have h:¬ (Sum.inr a:Key)=Sum.inr b:=λq=>e (Sum.inr.inj q);rw[decide_eq_false h,decide_eq_false e]
theorem bU'(a:Int)(b:Str):decide ((Sum.inl a:Key)=Sum.inr b)=false:=decide_eq_false (λq=>nomatch q)
theorem bV'(a:Str)(b:Int):decide ((Sum.inr a:Key)=Sum.inl b)=false:=decide_eq_false (λq=>nomatch q)
def iL(prog:d4)(w:eB):PySem.KeyKind prog w Key where
 is:=FE
 hash:=bT' w
 inj:=λv a b ha hb=>by
  rcases zD ha with⟨i,t,rfl,rfl⟩|⟨x,t,rfl,rfl⟩
  ·rcases zD hb with⟨j,u,rfl,e⟩|⟨y,u,rfl,e⟩
   ·injection e with e1 _;rw[e1]
   ·exact nomatch e
  ·rcases zD hb with⟨j,u,rfl,e⟩|⟨y,u,rfl,e⟩
   ·exact nomatch e
   ·injection e with e1 _;rw[e1]
 byValue:=λk v h=>by rcases zD h with⟨i,t,rfl,rfl⟩|⟨x,t,rfl,rfl⟩<;>rfl
 pyHash:=λhv h=>by
  rcases zD hv with⟨i,t,rfl,rfl⟩|⟨x,t,rfl,rfl⟩
  ·exact wpAny_pyHash_int h
  ·exact wpAny_pyHash_str h
 eqBool:=λhu hv h=>by
  rcases zD hu with⟨i,t,rfl,rfl⟩|⟨x,t,rfl,rfl⟩
  ·rcases zD hv with⟨j,u,rfl,rfl⟩|⟨y,u,rfl,rfl⟩
   ·rw[Wy] at h;exact wpAny_eqBool_int h
   ·rw[bU'] at h;exact SeqAt.EqAt.int_str i t y u _ _ _ _ h
  ·rcases zD hv with⟨j,u,rfl,rfl⟩|⟨y,u,rfl,rfl⟩
   ·rw[bV'] at h;exact SeqAt.EqAt.str_int x t j u _ _ _ _ h
   ·rw[Wz] at h;exact wpAny_eqBool_str h
 «strs» := λk x t v h=>by
  rcases zD h with⟨i,u,rfl,e⟩|⟨y,u,rfl,e⟩
  ·exact nomatch e
  ·injection e with e1 _;subst e1;cases v<;>rfl
theorem WB(prog:d4)(w:eB)(k:Key)(v:ae):(iL prog w).is k v=FE k v:=rfl
theorem bW'(prog:d4)(w:eB)(i:Int)(t:Tok):(iL prog w).is (.inl i) (.int i t)=true:=Uj i t
theorem bX'(prog:d4)(w:eB)(x:Str)(t:Tok):(iL prog w).is (.inr x) (.str x t)=true:=Uk x t
inductive V where
 |non|bl (b:Bool)|int (i:Int)|str (x:Str)|tP (b:Array UInt8)|M0 (b:UInt64)|ref (a:ag)|ty (n:String)
 deriving DecidableEq
def RelV:V->ae->Prop
 |.non,u=>u=Value.none
 |.bl b,u=>u=Value.bool b
 |.int i,u=>∃ t,u=Value.int i t
 |.str x,u=>∃ t,u=Value.str x t
 |.tP b,u=>∃ t,u=Value.bytes b t
 |.M0 b,u=>∃ t,u=Value.float b t
 |.ref a,u=>u=Value.ref a
 |.ty n,u=>u=Value.type n
abbrev Vals:List V->List ae->Prop:=Paired RelV
theorem Vals.length(r:Vals xs us):xs.length=us.length:=Paired.length r
theorem Vals.get:∀ {xs:List V} {us:List ae} {i:Nat} {x:V},Vals xs us->xs[i]? = some x->∃ u,us[i]? = some u/\RelV x u
 |_,_,_,_,.nil,e=>by simp at e
 |_,_,0,_,.cons r _,e=>by simp at e;subst e;exact⟨_,rfl,r⟩
 |_,_,i+1,x,.cons _ t,e=>by obtain⟨u,h1,h2⟩:=Vals.get (i:=i) (x:=x) t (by simpa using e);exact⟨u,by simpa using h1,h2⟩
theorem Vals.set(r:RelV x u):∀ {xs:List V} {us:List ae} (i:Nat),Vals xs us->Vals (xs.set i x) (us.set i u)
 |_,_,_,.nil=>.nil
 |_,_,0,.cons _ t=>.cons r t
 |_,_,i+1,.cons q t=>.cons q (Vals.set r i t)
theorem Vals.append:∀ {xs ys:List V} {us ws:List ae},Vals xs us->Vals ys ws->Vals (xs++ys) (us++ws)
 |_,_,_,_,.nil,s=>s
 |_,_,_,_,.cons r t,s=>.cons r (Vals.append t s)
theorem Vals.take:∀ {xs:List V} {us:List ae} (n:Nat),Vals xs us->Vals (xs.take n) (us.take n)
 |_,_,0,_=>.nil
 |_,_,_+1,.nil=>.nil
 |_,_,n+1,.cons r t=>.cons r (Vals.take n t)
theorem Vals.drop:∀ {xs:List V} {us:List ae} (n:Nat),Vals xs us->Vals (xs.drop n) (us.drop n)
 |_,_,0,r=>r
 |_,_,_+1,.nil=>.nil
 |_,_,n+1,.cons _ t=>Vals.drop n t
def xE:Option V->Option ae->Prop
 |some v,some u=>RelV v u
 |none,none=>True
 |_,_=>False
def KV{κ:Type}:List (κ × V)->List (κ × ae)->Prop:=Paired λ(p:κ × V) (q:κ × ae)=>p.1=q.1/\RelV p.2 q.2
def kV:Key->V
 |.inl i=>.int i
 |.inr x=>.str x
inductive HO where
 /-- a list -/
 |lst (xs:List V)
 /-- a tuple (never changes) -/
 |tup (xs:List V)
 /-- a dict whose keys are ints and texts;one whose keys are tuples of ints and texts (the empty one is both) -/
 |dK (kvs:List (Key × V))|dT (kvs:List (List Key × V))
 /-- a set of ints: its members,its size -/
 |set (S:Int->Bool) (n:Nat)
 /-- an instance of the class at C,its dict at dx,its attributes -/
 |ins (C dx:ag) (fs:List (Str × V))
 /-- the dict of the instance at x -/
 |own (x:ag)
 /-- the dict of an exception -/
 |xd (fs:List (Str × V))
 /-- a bound method,f of x -/
 |met (f x:ag)
 /-- a range object lo,lo+1,.. below hi -/
 |FG (lo hi:Int)
 /-- a thing that is known to the object (the script;a dict while a loop walks it): read,never written while it is so -/
 |fN (o:Obj) (u:HO)
 /-- a code object's table -/
 |v3 (ps:Array ae)
 /-- any other thing,by what is true of its one object (a def of kh' own: ki' a S n:=HO.ext fun h=>..) -/
 |ext (φ:dy->Prop)
abbrev Hp:=ag->Option HO
def upd(H:Hp)(a:ag)(o:HO):Hp:=λb=>if b=a then some o else H b
theorem ft:upd H a o a=some o:=by unfold upd;rw[if_pos rfl]
theorem cy(h:b≠a):upd H a o b=H b:=by unfold upd;rw[if_neg h]
theorem WC{H:Hp}{a b:ag}{o u:HO}(h:H a=some o)(h':H b=some u)(d:o≠u):a≠b:=by intro e;subst e;rw[h] at h';exact d (Option.some.inj h')
theorem xI{H:Hp}{a b:ag}{o:HO}(h:H a=some o)(h':H b=none):a≠b:=by intro e;subst e;rw[h] at h';cases h'
section
variable (P:d4)(w:eB)
def gL(H:Hp)(h:dy)(a:ag):HO->Prop
 |.lst xs=>xs.length<=bS/\∃ (its:List ae) (n:Nat),Vals xs its/\h.get? a=some { cls:=.type "list",data:=.seq its.toArray n }
 |.tup xs=>xs.length<=bS/\∃ its:List ae,Vals xs its/\IsTup h a its.toArray
 |.dK kvs=>kvs.length<=bS/\(a == oB)=false/\∃ vs,KV kvs vs/\h.DictOf (iL P w) a vs
 |.dT kvs=>kvs.length<=bS/\(a == oB)=false/\∃ xs:List (List Key × ag × ae),
   Paired (λ(p:List Key × V) (q:List Key × ag × ae)=>p.1=q.1/\H q.2.1=some (.tup (p.1.map kV))/\RelV p.2 q.2.2) kvs xs /\
   ∃ o es ep,h.get? a=some o/\o.ExactDict/\o.data=.dict es ep/\es.toList=xs.map (entryOfKey (AR (iL P w)))/\(xs.map (·.1)).Nodup
 |.set S n=>h.SetOf (intKind P w) a S n
 |.ins C dx fs=>H dx=some (.own a)/\fs.length<=1000/\dx≠a/\h.get? a=some (PySem.W.instObj C dx) /\
   ∃ mA,h.Ns1 dx mA/\(∀ f,xE (fs.lookup f) (mA f))/\PySem.Within mA (fs.map (·.1))
 |.own _=>∃ o,h.get? a=some o
 |.xd fs=>∃ mA,h.Ns1 a mA/\∀ f,xE (fs.lookup f) (mA f)
 |.FG lo hi=>∃ t u v,h.get? a=some { cls:=.type "range",data:=.fields #[.int lo t,.int hi u,.int 1 v] }
 |.fN o u=>h.get? a=some o/\gL H h a u
 |.v3 ps=>h.get? a=some { cls:=.none,data:=.fields ps }
 |.met f x=>h.get? a=some (TK (.ref f) (.ref x))
 |.ext φ=>φ h/\(∃ o,h.get? a=some o)/\∀ h1 h2:dy,φ h1->(∀ o,h1.get? a=some o->h2.get? a=some o)->φ h2
def j3(H:Hp)(h:dy):Prop:=∀ a o,H a=some o->gL P w H h a o
end
section
variable {P:d4}{w:eB}{H H':Hp}{h h':dy}{a:ag}{o:HO}
theorem gL.lt(x:gL P w H h a o):a<h.objs.size:=by
 cases o with
 |lst xs=>obtain⟨_,_,_,_,e⟩:=x;exact fh e
 |tup xs=>obtain⟨_,_,_,p⟩:=x;exact p.lt
 |dK kvs=>obtain⟨_,_,_,_,o,_,_,e,_⟩:=x;exact fh e
 |dT kvs=>obtain⟨_,_,_,_,o,_,_,e,_⟩:=x;exact fh e
 |set S n=>obtain⟨o,_,_,_,e,_⟩:=x;exact fh e
 |ins C dx fs=>obtain⟨_,_,_,e,_⟩:=x;exact fh e
 |own y=>obtain⟨_,e⟩:=x;exact fh e
 |xd fs=>obtain⟨_,⟨_,_,_,e,_⟩,_⟩:=x;exact fh e
 |FG lo hi=>obtain⟨_,_,_,e⟩:=x;exact fh e
 |fN ob u=>obtain⟨e,_⟩:=x;exact fh e
 |v3 ps=>exact fh (show h.get? a=some _ from x)
 |met f y=>exact fh (show h.get? a=some _ from x)
 |ext φ=>obtain⟨_,⟨_,e⟩,_⟩:=x;exact fh e
theorem Paired.Ul{α β:Type}{F G:α->β->Prop}:∀ {WD:List α} {WH:List β},Paired F WD WH->(∀ a b,F a b->G a b)->Paired G WD WH
 |_,_,.nil,_=>.nil
 |_,_,.cons r t,f=>.cons (f _ _ r) (Paired.Ul t f)
theorem gL.fA(x:gL P w H h a o)(k:∀ b u,(b=a\/H b=some (.own a))->h.get? b=some u->h'.get? b=some u)(ho:∀ b,H b=some (.own a)->H' b=some (.own a)) (ht:∀ b xs,H b=some (.tup xs)->H' b=some (.tup xs)):gL P w H' h' a o:=by
 induction o with
 |lst xs=>obtain⟨z,its,n,r,e⟩:=x;exact⟨z,its,n,r,k _ _ (.inl rfl) e⟩
 |tup xs=>obtain⟨z,its,r,ob,e,c⟩:=x;exact⟨z,its,r,ob,k _ _ (.inl rfl) e,c⟩
 |dK kvs=>obtain⟨z,y,vs,r,ob,es,ep,e,c⟩:=x;exact⟨z,y,vs,r,ob,es,ep,k _ _ (.inl rfl) e,c⟩
 |dT kvs =>obtain⟨z,y,xs,r,ob,es,ep,e,c⟩:=x;exact⟨z,y,xs,Paired.Ul r λp q z=>⟨z.1,ht _ _ z.2.1,z.2.2⟩,ob,es,ep,k _ _ (.inl rfl) e,c⟩
 |set S n=>obtain⟨ob,es,ep,t,e,c⟩:=x;exact⟨ob,es,ep,t,k _ _ (.inl rfl) e,c⟩
 |ins C dx fs =>obtain⟨d,z,ne,e,mA,⟨od,es,ep,e2,c⟩,r⟩:=x;exact⟨ho _ d,z,ne,k _ _ (.inl rfl) e,mA,⟨od,es,ep,k _ _ (.inr d) e2,c⟩,r⟩
 |own y=>obtain⟨ob,e⟩:=x;exact⟨ob,k _ _ (.inl rfl) e⟩
 |xd fs=>obtain⟨mA,⟨od,es,ep,e,c⟩,r⟩:=x;exact⟨mA,⟨od,es,ep,k _ _ (.inl rfl) e,c⟩,r⟩
 |FG lo hi=>obtain⟨t,u,v,e⟩:=x;exact⟨t,u,v,k _ _ (.inl rfl) e⟩
 |fN ob u ih=>obtain⟨e,q⟩:=x;exact⟨k _ _ (.inl rfl) e,ih q⟩
 |v3 ps =>have e:h.get? a=some { cls:=.none,data:=.fields ps }:=x;show h'.get? a=some { cls:=.none,data:=.fields ps };exact k a _ (.inl rfl) e
 |met f y =>have e:h.get? a=some (TK (.ref f) (.ref y)):=x;show h'.get? a=some (TK (.ref f) (.ref y));exact k a _ (.inl rfl) e
 |ext φ=>obtain⟨p,⟨o,e⟩,st⟩:=x;exact⟨st _ _ p λo q=>k _ _ (.inl rfl) q,⟨o,k _ _ (.inl rfl) e⟩,st⟩
theorem j3.lt(x:j3 P w H h)(e:H a=some o):a<h.objs.size:=(x a o e).lt
theorem j3.fresh(x:j3 P w H h)(e:h.objs.size<=a):H a=none:=by
 cases q:H a with
 |none=>rfl
 |some u=>exact absurd (oq (x.lt q) e) (vS _)
theorem j3.kept(x:j3 P w H h)(k:∀ b u,h.get? b=some u->h'.get? b=some u):j3 P w H h':=λa o e =>
 (x a o e).fA (λb u _ q=>k b u q) (λ_ q=>q) λ_ _ q=>q
theorem j3.laid(x:j3 P w H h)(k:∀ b u,h.get? b=some u->h'.get? b=some u)(hp:h.objs.size<=a)(new:gL P w (upd H a o) h' a o):j3 P w (upd H a o) h':=λb u e=>by
 have hn:=x.fresh hp;by_cases hb:b=a
 ·subst hb;rw[ft] at e;cases e;exact new
 ·rw[cy hb] at e;exact(x b u e).fA (λc v _ q=>k c v q) (λc q=>by rw[cy (xI q hn)];exact q) λc xs q=>by rw[cy (xI q hn)];exact q
end
def Rd(H:Hp)(a:ag)(u:HO):Prop:=H a=some u\/∃ o,H a=some (.fN o u)
theorem Rd.ok{P:d4}(r:Rd H a u)(x:j3 P w H h):gL P w H h a u:=by
 rcases r with r|⟨o,r⟩
 ·exact x a u r
 ·obtain⟨_,q⟩:=x a _ r;exact q
def O8:Option HO->Prop
 |some (.lst _)=>True
 |some (.dK _)=>True
 |some (.dT _)=>True
 |some (.set _ _)=>True
 |some (.ins _ _ _)=>True
 |some (.ext _)=>True
 |_=>False
section
variable {P:d4}{w:eB}{H:Hp}{h h':dy}{x e:ag}{o':HO}
theorem j3.write(ok:j3 P w H h)(mu:O8 (H x))(he:e=x\/H e=some (.own x))(k:∀ b u,b≠e->h.get? b=some u->h'.get? b=some u)(Nc:∃ u,h'.get? e=some u)(new:gL P w (upd H x o') h' x o'):j3 P w (upd H x o') h':=λb u q=>by
 have WK:∀ c y,H c=some (.own y)->c≠x:=λc y r z=>by subst z;rw[r] at mu;exact mu
 have bY':∀ c xs,H c=some (.tup xs)->c≠x:=λc xs r z=>by subst z;rw[r] at mu;exact mu
 by_cases hb:b=x
 ·subst hb;rw[ft] at q;cases q;exact new
 ·rw[cy hb] at q;by_cases Jn:b=e
  ·have q':H b=some (.own x):=by
    rcases he with z|z
    ·exact absurd (Jn.trans z) hb
    ·rw[Jn];exact z
   rw[q] at q';cases q';obtain⟨v,hv⟩:=Nc;exact⟨v,by rw[Jn];exact hv⟩
  ·refine(ok b u q).fA (λc v hc r=>k c v ?_ r) (λc r=>by rw[cy (WK c b r)];exact r) λc xs r=>by rw[cy (bY' c xs r)];exact r
   rcases hc with rfl|hc
   ·exact Jn
   ·rintro rfl;rcases he with z|z
    ·exact WK c b hc z
    ·rw[hc] at z;cases z;exact hb rfl
end
structure Un(fs ex:List ag)(H H':Hp)(h h':dy):Prop where
 keep:∀ b o,h.get? b=some o->H b=none->b∉fs->b∉ex->h'.get? b=some o
 slot:∀ b o,h.get? b=some o->H b=none->b∈fs->b∉ex->∃ sl,h'.get? b=some { o with slots:=sl }
 free:∀ b o,h.get? b=some o->H b=none->b∉ex->H' b=none
 there:∀ b o,h.get? b=some o->b∉ex->∃ o',h'.get? b=some o'
 i3:∀ b xs,H b=some (.tup xs)->H' b=some (.tup xs)
 wa:∀ b o u,H b=some (.fN o u)->H' b=some (.fN o u)
 xS:∀ b ps,H b=some (.v3 ps)->∃ more,H' b=some (.v3 (ps++more))
section
variable {fs ex:List ag}{H H1 H2:Hp}{h h1 h2 h':dy}{a x e:ag}{o:HO}
theorem Un.any(u:Un fs ex H H1 h h1)(q:h.get? b=some ob)(n:H b=none)(hx:b∉ex):∃ sl,h1.get? b=some { ob with slots:=sl }:=by
 by_cases hb:b∈fs
 ·exact u.slot b ob q n hb hx
 ·exact⟨ob.slots,u.keep b ob q n hb hx⟩
theorem Un.trans(a:Un fs ex H H1 h h1)(b:Un fs ex H1 H2 h1 h2):Un fs ex H H2 h h2 where
 keep:=λc ob q n hc hx=>b.keep c ob (a.keep c ob q n hc hx) (a.free c ob q n hx) hc hx
 slot:=λc ob q n hc hx=>by obtain⟨sl,e1⟩:=a.slot c ob q n hc hx;obtain⟨Um,e2⟩:=b.slot c _ e1 (a.free c ob q n hx) hc hx;exact⟨Um,e2⟩
 free:=λc ob q n hx=>by obtain⟨o',e1⟩:=a.there c ob q hx;exact b.free c o' e1 (a.free c ob q n hx) hx
 there:=λc ob q hx=>by obtain⟨o',e1⟩:=a.there c ob q hx;exact b.there c o' e1 hx
 i3:=λc xs q=>b.i3 c xs (a.i3 c xs q)
 wa:=λc ob xs q=>b.wa c ob xs (a.wa c ob xs q)
 xS:=λc ps q=>by obtain⟨m1,e1⟩:=a.xS c ps q;obtain⟨m2,e2⟩:=b.xS c _ e1;exact⟨m1++m2,by rw[e2,O6]⟩
theorem Un.kept(k:∀ b u,h.get? b=some u->h'.get? b=some u):Un fs ex H H h h' :=
 ⟨λb ob q _ _ _=>k b ob q,λb ob q _ _ _=>⟨ob.slots,k b ob q⟩,λ_ _ _ n _=>n,λb ob q _=>⟨ob,k b ob q⟩,λ_ _ q=>q,λ_ _ _ q=>q,λ_ ps q=>⟨#[],by rw[q];simp⟩⟩
theorem Un.refl:Un fs ex H H h h:=Un.kept λ_ _ q=>q
theorem Un.laid(k:∀ b u,h.get? b=some u->h'.get? b=some u)(hp:h.objs.size<=a)(hn:H a=none):Un fs ex H (upd H a o) h h' where
 keep:=λb u q _ _ _=>k b u q
 slot:=λb u q _ _ _=>⟨u.slots,k b u q⟩
 free:=λb u q n _=>by rw[cy (gi (oq (fh q) hp))];exact n
 there:=λb u q _=>⟨u,k b u q⟩
 i3:=λb xs q=>by rw[cy (xI q hn)];exact q
 wa:=λb u xs q=>by rw[cy (xI q hn)];exact q
 xS:=λb ps q=>⟨#[],by rw[cy (xI q hn),q];simp⟩
theorem Un.write(mu:O8 (H x))(he:e=x\/H e=some (.own x))(k:∀ b u,b≠e->h.get? b=some u->h'.get? b=some u)(Nc:∃ u,h'.get? e=some u):Un fs ex H (upd H x o) h h':=by
 have hx:∀ b,H b=none->b≠x:=λb n z=>by subst z;rw[n] at mu;exact mu
 have hb:∀ b,H b=none->b≠e:=λb n z=>by
  subst z;rcases he with r|r
  ·exact hx b n r
  ·rw[n] at r;cases r
 have hm:∀ b u,H b=some u->¬ O8 (some u)->b≠x:=λb u q nm z=>by subst z;rw[q] at mu;exact nm mu
 refine⟨λb u q n _ _=>k b u (hb b n) q,λb u q n _ _=>⟨u.slots,k b u (hb b n) q⟩,λb u q n _=>by rw[cy (hx b n)];exact n,λb u q _=>?_,
  λb xs q=>by rw[cy (hm b _ q λz=>z)];exact q,λb u xs q=>by rw[cy (hm b _ q λz=>z)];exact q,λb ps q=>⟨#[],by rw[cy (hm b _ q λz=>z),q];simp⟩⟩
 by_cases Jn:b=e
 ·subst Jn;exact Nc
 ·exact⟨u,k b u Jn q⟩
end
def Rx(h:dy)(H:Hp):List ag:=(List.range h.objs.size).filter λa=>(H a).isSome
def EC(h:dy)(H:Hp):dy:=PySem.W.hideAll h (Rx h H)
theorem bZ'(h:dy)(H:Hp):(EC h H).objs.size=h.objs.size:=PySem.W.hideAll_size _ _
theorem ca'(e:h.get? b=some o)(n:H b=none):(EC h H).get? b=some o :=
 PySem.W.hideAll_get _ e λhm=>by have q:(H b).isSome=true:=(zt.mp hm).2;rw[n] at q;simp at q
theorem cb'(e:(EC h H).get? b=some o):h.get? b=some o/\H b=none:=by
 have e':h.get? b=some o:=PySem.W.of_hideAll (Rx h H) e;refine⟨e',?_⟩
 cases q:H b with
 |none=>rfl
 |some x =>have hm:b∈Rx h H:=zt.mpr ⟨sF.mpr (fh e'),by simp[q]⟩;have z:(EC h H).get? b=none:=PySem.W.hideAll_none (Rx h H) hm;rw[z] at e;cases e
def cc'(g h:dy)(L:ag):List (ag × Obj):=(List.range h.objs.size).filterMap λa=>if a=L\/(g.get? a).isSome=true then none else (h.get? a).map λo=>(a,o)
def rest(g h:dy)(L d:ag):List (ag × Obj):=(cc' g h L).filter λp=>decide (p.1≠d)
structure Mod(K:aC)(mg:Str->Option ae)(base:dy):Prop where
 zI:K.In base
 glob:base.Ns lI mg
 blt:∃ mb,base.Ns builtinsNs mb/\∀ x:Str,x ≠ "__name__"->mb x=mM x
 nolimit:base.NoLimit
structure Cx where
 prog:d4
 w:eB
 K:aC
 mg:Str->Option ae
 base:dy
 A:fm
 N:List Str
 k8:ay
 oP:Hp
 env:Env
 outer:List Env
 stack:List Env
 ex:List ag
 fn:Str->Bool
 calm:Bool
 pn:List (ag × Obj)
 xe:ae->ay->Prop
def AZ(l:List Env):List ag:=l.filterMap (·.frame)
abbrev Cx.fs(X:Cx):List ag:=AZ X.outer
def Ry(sc:Scope)(x:Str):Prop:=sc.names.lookup x=some .local\/sc.names.lookup x=some .cell\/sc.names.lookup x=some .free
def Loc(sc:Scope)(x:Str):Prop:=sc.names.lookup x=some .local\/sc.names.lookup x=some .cell
def Look(env:Env)(h:dy)(m:Str->Option ae)(x:Str)(u:ae):Prop :=
 (env.kindOf x=some .local/\m x=some u)\/((env.kindOf x=some .cell\/env.kindOf x=some .free)/\∃ c,env.cells.lookup x=some c/\h.IsCell c (some u))
structure Cx.Ok(X:Cx):Prop where
 mod:Mod X.K X.mg X.base
 kind:X.env.scope.kind=.function
 glob:X.env.globals=lI
 blt:X.env.builtins=builtinsNs
 above:X.k8.heap.objs.size<=X.env.locals
 inj:∀ x y c,X.env.cells.lookup x=some c->X.env.cells.lookup y=some c->x=y
 has:∀ x,(X.env.kindOf x=some .cell\/X.env.kindOf x=some .free)->∃ c,X.env.cells.lookup x=some c
 O9:∀ x c,X.fn x=true->X.env.cells.lookup x=some c->X.k8.heap.objs.size<=c
 hd:X.calm=true->X.A.handled=none
 frames:X.A.frames=some X.stack
 Rz:X.stack=X.outer\/(X.stack=X.env :: X.outer/\X.env.frame=some X.env.locals)
 RA:∀ b∈X.ex,b≠X.env.locals/\∀ x c,X.env.cells.lookup x=some c->c≠b
 bs:∀ b o,X.base.get? b=some o->X.k8.heap.get? b=some o/\X.oP b=none
 FH:X.base.objs.size<=X.k8.heap.objs.size
 O_:∀ b o,X.base.get? b=some o->b∉X.ex
 Pa:∀ b∈X.ex,b∉X.fs
 A3:X.k8.heap.FunFrames X.base X.outer
 Nn:∀ b∈X.fs,X.oP b=none
structure Inv(X:Cx)(pins:List (ag × Obj))(σ:List (Option V))(H:Hp)(s:ay):Prop where
 ok:X.Ok
 os:s.os=X.k8.os
 bare:AllBare s.gens
 base:Un X.fs X.ex X.oP H X.k8.heap s.heap
 loc:∃ m,s.heap.Ns X.env.locals m/\∀ (i:Nat) (x:Str) (v:V),X.N[i]? = some x->σ[i]? = some (some v)->Ry X.env.scope x->∃ u,RelV v u/\Look X.env s.heap m x u
 cell:∀ x c,X.env.cells.lookup x=some c->∃ v,s.heap.IsCell c v
 free:H X.env.locals=none
 x3:∀ x c,X.env.cells.lookup x=some c->H c=none
 pin:∀ p∈X.pn++pins,s.heap.get? p.1=some p.2/\H p.1=none/\p.1≠X.env.locals/\p.1∉X.fs/\∀ v,p.2.data≠.cell v
 b6:j3 X.prog X.w H s.heap
 len:σ.length=X.N.length
section
variable {X:Cx}{pins:List (ag × Obj)}{σ:List (Option V)}{H H':Hp}{s:ay}{h':dy}
theorem Cx.Ok.cd'(ok:X.Ok)(e:X.base.get? b=some o):b∉X.fs:=λhb=>by have:=(ok.A3.mem hb).1;rw[e] at this;cases this
theorem Inv.bs(I:Inv X pins σ H s):∀ b o,X.base.get? b=some o->s.heap.get? b=some o/\H b=none:=λb o e =>
 ⟨I.base.keep b o (I.ok.bs b o e).1 (I.ok.bs b o e).2 (I.ok.cd' e) (I.ok.O_ b o e),I.base.free b o (I.ok.bs b o e).1 (I.ok.bs b o e).2 (I.ok.O_ b o e)⟩
theorem Inv.bk(I:Inv X pins σ H s):∀ b o,X.base.get? b=some o->s.heap.get? b=some o:=λb o e=>(I.bs b o e).1
theorem Inv.mod(I:Inv X pins σ H s):Mod X.K X.mg X.base:=I.ok.mod
theorem Inv.zS(I:Inv X pins σ H s):X.K.In s.heap:=I.ok.mod.zI.keeps I.bk
theorem Inv.lt(I:Inv X pins σ H s):X.env.locals<s.heap.objs.size:=let ⟨_,hn,_⟩:=I.loc;hn.lt
theorem Inv.sz(I:Inv X pins σ H s):X.k8.heap.objs.size<=s.heap.objs.size:=iX I.ok.above (oI I.lt)
theorem Inv.ce'(I:Inv X pins σ H s)(h:s.heap.objs.size<=a):a∉X.fs:=λhb=>by obtain⟨_,o,ho,_⟩:=I.ok.A3.mem hb;exact absurd (oq (fh ho) (iX I.sz h)) (vS _)
theorem Inv.JA(I:Inv X pins σ H s):∀ x c,X.env.cells.lookup x=some c->c≠X.env.locals:=λx c e z=>by obtain⟨v,o,ho,hd⟩:=I.cell x c e;obtain⟨m,⟨o',es,ep,ot,hd',_⟩,_⟩:=I.loc;rw[z,ot] at ho;cases ho;rw[hd'] at hd;cases hd
theorem Inv.A3(I:Inv X pins σ H s):s.heap.FunFrames X.base X.outer:=by
 have all:∀ (l:List Env),(∀ b∈AZ l,b∈X.fs)->X.k8.heap.FunFrames X.base l->s.heap.FunFrames X.base l:=by
  intro l
  induction l with
  |nil=>intro _ _;trivial
  |cons env r ih =>intro hs hl;obtain⟨hk,⟨L,o,hf,hn,ho,hd⟩,hr⟩:=hl;have hL:L∈X.fs:=hs L (by unfold AZ;rw[OV,hf];exact cE);obtain⟨sl,e⟩:=I.base.slot L o ho (I.ok.Nn L hL) hL λz=>I.ok.Pa L z hL;exact⟨hk,⟨L,_,hf,hn,e,hd⟩,ih (λb hb=>hs b (by unfold AZ;rw[OV,hf];exact df _ hb)) hr⟩
 exact all X.outer (λ_ hb=>hb) I.ok.A3
theorem Inv.stack(I:Inv X pins σ H s):s.heap.FunFrames X.base X.stack:=by
 rcases I.ok.Rz with e|⟨e,hf⟩
 ·rw[e];exact I.A3
 ·rw[e];obtain⟨m,hn,_⟩:=I.loc;refine .cons (by rw[I.ok.kind];decide) hf hn ?_ I.A3;exact Heap.get?_none_of_le (iX I.ok.FH I.ok.above)
theorem Inv.Uo(I:Inv X pins σ H s):∀ b∈AZ X.stack,b∈X.env.locals :: X.fs:=λb hb=>by
 rcases I.ok.Rz with e|⟨e,hf⟩
 ·rw[e] at hb;exact df _ hb
 ·rw[e] at hb;unfold AZ at hb;rw[OV,hf] at hb;exact hb
theorem Inv.WL(I:Inv X pins σ H s):∀ b∈AZ X.stack,H b=none:=λb hb=>by
 rcases eK.mp (I.Uo b hb) with e|hb
 ·rw[e];exact I.free
 ·obtain⟨_,o,ho,_⟩:=I.ok.A3.mem hb;exact I.base.free b o ho (I.ok.Nn b hb) λz=>I.ok.Pa b z hb
theorem Inv.step{g':Array GenState}{t':Nat}{d':Drawn}{ch:List ag}(I:Inv X pins σ H s)(z5:∀ b∈ch,(b∈X.ex\/X.k8.heap.objs.size<=b)/\b≠X.env.locals/\(∀ x c,X.env.cells.lookup x=some c->c≠b)/\∀ p∈X.pn++pins,p.1≠b)(keep:∀ b o,b≠X.env.locals->b∉X.fs->b∉ch->s.heap.get? b=some o->H b=none->h'.get? b=some o)(slot:∀ b o,b≠X.env.locals->b∈X.fs->b∉ch->s.heap.get? b=some o->H b=none->∃ sl,h'.get? b=some { o with slots:=sl }) (free:∀ b o,b∉ch->s.heap.get? b=some o->H b=none->H' b=none) (there:∀ b o,b∉ch->s.heap.get? b=some o->∃ o',h'.get? b=some o') (i3:∀ b xs,H b=some (.tup xs)->H' b=some (.tup xs)) (wa:∀ b o u,H b=some (.fN o u)->H' b=some (.fN o u)) (xS:∀ b ps,H b=some (.v3 ps)->∃ more,H' b=some (.v3 (ps++more))) (ns:∀ m,s.heap.Ns X.env.locals m->h'.Ns X.env.locals m) (b6:j3 X.prog X.w H' h') (hg:AllBare g') :
  Inv X pins σ H' { s with heap:=h',gens:=g',drawn:=d',toks:=t' }:=by
 have WM:∀ b o,X.k8.heap.get? b=some o->b≠X.env.locals:=λb o e=>gi (oq (fh e) I.ok.above);have RC:∀ b o,X.k8.heap.get? b=some o->b∉X.ex->b∉ch:=λb o e hx hb=>by
  rcases (z5 b hb).1 with z|z
  ·exact hx z
  ·exact absurd (oq (fh e) z) (vS _)
 have cellK:∀ x c,X.env.cells.lookup x=some c->∀ v,s.heap.IsCell c v->h'.IsCell c v:=λx c e v dQ=>by
  obtain⟨o,ho,hd⟩:=dQ;have Pb:c∉ch:=λz=>(z5 c z).2.2.1 x c e rfl;by_cases hc:c∈X.fs
  ·obtain⟨sl,q⟩:=slot c o (I.JA x c e) hc Pb ho (I.x3 x c e);exact⟨_,q,hd⟩
  ·exact⟨o,keep c o (I.JA x c e) hc Pb ho (I.x3 x c e),hd⟩
 refine⟨I.ok,I.os,hg,⟨λb o e n hb hx=>?_,λb o e n hb hx=>?_,λb o e n hx=>?_,λb o e hx=>?_,λb xs e=>i3 b xs (I.base.i3 b xs e),λb o xs e=>wa b o xs (I.base.wa b o xs e),λb ps e=>?_⟩,?_,λx c e=>?_,?_,λx c e=>?_,λp hp=>?_,b6,I.len⟩
 ·exact keep b o (WM b o e) hb (RC b o e hx) (I.base.keep b o e n hb hx) (I.base.free b o e n hx)
 ·obtain⟨sl,e1⟩:=I.base.slot b o e n hb hx;obtain⟨Um,e2⟩:=slot b _ (WM b o e) hb (RC b o e hx) e1 (I.base.free b o e n hx);exact⟨Um,e2⟩
 ·obtain⟨o',e1⟩:=I.base.there b o e hx;exact free b o' (RC b o e hx) e1 (I.base.free b o e n hx)
 ·obtain⟨o',e1⟩:=I.base.there b o e hx;exact there b o' (RC b o e hx) e1
 ·obtain⟨m1,e1⟩:=I.base.xS b ps e;obtain⟨m2,e2⟩:=xS b _ e1;exact⟨m1++m2,by rw[e2,O6]⟩
 ·obtain⟨m,hn,hl⟩:=I.loc;refine⟨m,ns m hn,λi x v e1 e2 e3=>?_⟩;obtain⟨u,r,l⟩:=hl i x v e1 e2 e3;refine⟨u,r,?_⟩;rcases l with l|⟨k,c,e,z⟩
  ·exact .inl l
  ·exact .inr ⟨k,c,e,cellK x c e _ z⟩
 ·obtain⟨v,z⟩:=I.cell x c e;exact⟨v,cellK x c e v z⟩
 ·obtain⟨m,⟨o,_,_,ho,_⟩,_⟩:=I.loc;exact free _ o (λz=>(z5 _ z).2.1 rfl) ho I.free
 ·obtain⟨v,o,ho,hd⟩:=I.cell x c e;exact free c o (λz=>(z5 c z).2.2.1 x c e rfl) ho (I.x3 x c e)
 ·obtain⟨e,n,ne,nf,d⟩:=I.pin p hp;have Pb:p.1∉ch:=λz=>(z5 p.1 z).2.2.2 p hp rfl;exact⟨keep p.1 p.2 ne nf Pb e n,free p.1 p.2 Pb e n,ne,nf,d⟩
theorem Inv.un{t':Nat}(I:Inv X pins σ H s)(u:Un X.fs [] H H' s.heap h')(b6:j3 X.prog X.w H' h'):Inv X pins σ H' { s with heap:=h',toks:=t' }:=by
 obtain⟨m,⟨o,es,ep,ho,r⟩,_⟩:=id I.loc;obtain⟨sl,hL⟩:=u.any ho I.free (by simp);exact I.step (g':=s.gens) (d':=s.drawn) (ch:=[]) (λ_ z=>nomatch z) (λb o _ hb _ e n=>u.keep b o e n hb (by simp)) (λb o _ hb _ e n=>u.slot b o e n hb (by simp)) (λb o _ e n=>u.free b o e n (by simp)) (λb o _ e=>u.there b o e (by simp)) u.i3 u.wa u.xS (λm' hm=>by
  obtain⟨o',Uq,Pg,ot,r'⟩:=hm;rw[ho] at ot;cases ot;exact⟨_,Uq,Pg,hL,r'⟩) b6 I.bare
theorem Inv.call{g':Array GenState}{t':Nat}{d':Drawn}{ch:List ag}(I:Inv X pins σ H s)(u:Un (AZ X.stack) ch H H' s.heap h')(b6:j3 X.prog X.w H' h')(hg:AllBare g')(z5:∀ b∈ch,(b∈X.ex\/X.k8.heap.objs.size<=b)/\b≠X.env.locals/\(∀ x c,X.env.cells.lookup x=some c->c≠b)/\∀ p∈X.pn++pins,p.1≠b) :
  Inv X pins σ H' { s with heap:=h',gens:=g',drawn:=d',toks:=t' }:=by
 obtain⟨m,⟨o,es,ep,ho,r⟩,_⟩:=id I.loc;obtain⟨sl,hL⟩:=u.any ho I.free λz=>(z5 _ z).2.1 rfl;exact I.step (ch:=ch) z5 (λb o hL hb hc e n=>u.keep b o e n (λz=>(eK.mp (I.Uo b z)).elim hL hb) hc) (λb o _ _ hc e n=>u.any e n hc) (λb o hc e n=>u.free b o e n hc) (λb o hc e=>u.there b o e hc) u.i3 u.wa u.xS (λm' hm=>by
  obtain⟨o',Uq,Pg,ot,r'⟩:=hm;rw[ho] at ot;cases ot;exact⟨_,Uq,Pg,hL,r'⟩) b6 hg
theorem Inv.turned{t':Nat}{it:ag}(I:Inv X pins σ H s)(k:∀ b o,b≠it->s.heap.get? b=some o->h'.get? b=some o)(hn:H it=none)(hL:it≠X.env.locals)(h1:it∈X.ex\/X.k8.heap.objs.size<=it) (h2:∀ x c,X.env.cells.lookup x=some c->c≠it) (h3:∀ p∈X.pn++pins,p.1≠it):Inv X pins σ H { s with heap:=h',toks:=t' }:=by
 have FI:∀ b u,H b=some u->b≠it:=λb u e z=>by rw[z,hn] at e;cases e
 refine I.step (g':=s.gens) (d':=s.drawn) (ch:=[it]) (λb hb=>?_) (λb o _ _ hc e _=>k b o (λz=>hc (by simp[z])) e) (λb o _ _ hc e _=>⟨o.slots,k b o (λz=>hc (by simp[z])) e⟩) (λ_ _ _ _ n=>n) (λb o hc e=>⟨o,k b o (λz=>hc (by simp[z])) e⟩) (λ_ _ e=>e) (λ_ _ _ e=>e) (λb ps e=>⟨#[],by rw[e];simp⟩) (λm hm=>?_) (λb u e=>?_) I.bare
 ·have e:b=it:=by simpa using hb
  subst e;exact⟨h1,hL,h2,h3⟩
 ·obtain⟨o,es,ep,ho,r⟩:=hm;exact⟨o,es,ep,k _ o (Ne.symm hL) ho,r⟩
 ·refine(I.b6 b u e).fA (λc v hc q=>k c v ?_ q) (λ_ q=>q) λ_ _ q=>q;rcases hc with z|z
  ·rw[z];exact FI b u e
  ·exact FI c _ z
theorem Inv.tok(I:Inv X pins σ H s)(t:Nat):Inv X pins σ H { s with toks:=t }:=I.un (h':=s.heap) (t':=t) Un.refl I.b6
theorem Inv.kept(I:Inv X pins σ H s)(k:∀ b u,s.heap.get? b=some u->h'.get? b=some u):Inv X pins σ H { s with heap:=h',toks:=t' }:=I.un (Un.kept k) (I.b6.kept k)
theorem Inv.laid(I:Inv X pins σ H s)(k:∀ b u,s.heap.get? b=some u->h'.get? b=some u)(hp:s.heap.objs.size<=a)(new:gL X.prog X.w (upd H a o) h' a o) :
  Inv X pins σ (upd H a o) { s with heap:=h',toks:=t' }:=I.un (Un.laid k hp (I.b6.fresh hp)) (I.b6.laid k hp new)
theorem Inv.write(I:Inv X pins σ H s)(mu:O8 (H x))(he:e=x\/H e=some (.own x))(k:∀ b u,b≠e->s.heap.get? b=some u->h'.get? b=some u)(Nc:∃ u,h'.get? e=some u)(new:gL X.prog X.w (upd H x o) h' x o):Inv X pins σ (upd H x o) { s with heap:=h',toks:=t' }:=I.un (Un.write mu he k Nc) (I.b6.write mu he k Nc new)
theorem Inv.WN(I:Inv X pins σ H s)(h:∀ p∈cg',s.heap.get? p.1=some p.2/\H p.1=none/\p.1≠X.env.locals/\p.1∉X.fs/\∀ v,p.2.data≠.cell v):Inv X cg' σ H s :=
 ⟨I.ok,I.os,I.bare,I.base,I.loc,I.cell,I.free,I.x3,λp hp=>(eR.mp hp).elim (λz=>I.pin p (i9 _ z)) (h p),I.b6,I.len⟩
theorem WQ{N:List Str}(hN:N.Nodup){i j:Nat}{x:Str}(a:N[i]? = some x)(b:N[j]? = some x):i=j:=by obtain⟨h1,e1⟩:=jS.mp a;obtain⟨h2,e2⟩:=jS.mp b;exact(List.getElem_inj hN).mp (e1.trans e2.symm)
theorem WR{M:Model}{A:fm}{E:ae->ay->Prop}{i:Nat}{x:Str}{v:V}{u:ae}{Q:Unit->ay->Prop}(I:Inv X pins σ H s)(hN:X.N.Nodup)(hi:X.N[i]? = some x)(hx:Loc X.env.scope x)(r:RelV v u)(h:∀ s',Inv X pins (σ.set i (some v)) H s'->(∃ a,Heap.SameBut a s.heap s'.heap/\(a=X.env.locals\/X.env.cells.lookup x=some a))->Q () s') (hf:X.fn x=true\/X.env.scope.names.lookup x=some .local:=by first|exact .inl rfl|exact .inr rfl|assumption):aI M A (storeName X.env x u) Q E s:=by
 obtain⟨m,hn,hl⟩:=id I.loc;have ch':(X.env.scope.kind == .class || (X.env.scope.kind == .module && X.env.locals != X.env.globals))=false:=by rw[I.ok.kind];rfl
 have WU:i<σ.length:=by rw[I.len];exact(jS.mp hi).1
 have JA:=I.JA;have tracked:∀ {a:ag} {h':dy},(∃ o,s.heap.get? a=some o/\H a=none)->Heap.SameBut a s.heap h'->j3 X.prog X.w H h':=λ{a h'} ha hs b ob e=>by
  obtain⟨_,_,WV⟩:=ha;refine(I.b6 b ob e).fA (λc w' hc q=>(hs.2 c ?_).trans q) (λ_ q=>q) λ_ _ q=>q;rintro rfl;rcases hc with rfl|hc
  ·rw[WV] at e;cases e
  ·rw[WV] at hc;cases hc
 rcases hx with hk|hk
 ·refine wpAny_storeName_local hk hn (λh' ED hs=>?_) ch';obtain⟨oL,_,_,An,_⟩:=id hn;refine h _ ⟨I.ok,I.os,I.bare,⟨λb o e n hb hx=>?_,λb o e n hb hx=>?_,I.base.free,λb o e hx=>?_,I.base.i3,I.base.wa,I.base.xS⟩,⟨_,ED,λj y v' e1 e2 e3=>?_⟩,λy c e=>?_,I.free,I.x3,λp hp=>?_,tracked ⟨oL,An,I.free⟩ hs,by simpa using I.len⟩ ⟨_,hs,.inl rfl⟩
  ·exact(hs.2 b (gi (oq (fh e) I.ok.above))).trans (I.base.keep b o e n hb hx)
  ·obtain⟨sl,e1⟩:=I.base.slot b o e n hb hx;exact⟨sl,(hs.2 b (gi (oq (fh e) I.ok.above))).trans e1⟩
  ·obtain⟨o',e1⟩:=I.base.there b o e hx;exact⟨o',(hs.2 b (gi (oq (fh e) I.ok.above))).trans e1⟩
  ·by_cases hj:j=i
   ·subst hj;rw[hi] at e1;cases e1;rw[TR WU] at e2;cases e2;exact⟨u,r,.inl ⟨hk,by simp⟩⟩
   ·rw[Q_ (Ne.symm hj)] at e2;obtain⟨u',r',q⟩:=hl j y v' e1 e2 e3;refine⟨u',r',?_⟩;rcases q with⟨k,e⟩|⟨k,c,e,z⟩
    ·refine .inl ⟨k,?_⟩;have:y≠x:=λe=>hj (WQ hN e1 (e ▸ hi));simp[this,e]
    ·exact .inr ⟨k,c,e,z.sameBut hs (JA y c e)⟩
  ·obtain⟨w',z⟩:=I.cell y c e;exact⟨w',z.sameBut hs (JA y c e)⟩
  ·obtain⟨e,n,ne,nf,d⟩:=I.pin p hp;exact⟨(hs.2 p.1 ne).trans e,n,ne,nf,d⟩
 ·have Ur:X.fn x=true:=by
   rcases hf with z|z
   ·exact z
   ·rw[z] at hk;cases hk
  obtain⟨c,hc⟩:=I.ok.has x (.inl hk);obtain⟨w',z⟩:=I.cell x c hc;refine wpAny_storeName_cell I.ok.kind hk hc z (λh' A4 hs=>?_);obtain⟨oc,RD,ci'⟩:=id z;refine h { s with heap:=h' } ⟨I.ok,I.os,I.bare,⟨λb o e n hb hx=>?_,λb o e n hb hx=>?_,I.base.free,λb o e hx=>?_,I.base.i3,I.base.wa,I.base.xS⟩,⟨m,hn.sameBut hs (Ne.symm (JA x c hc)),λj y v' e1 e2 e3=>?_⟩,λy c' e=>?_,I.free,I.x3,λp hp=>?_,tracked ⟨oc,RD,I.x3 x c hc⟩ hs,by simpa using I.len⟩ ⟨c,hs,.inr hc⟩
  ·exact(hs.2 b (gi (oq (fh e) (I.ok.O9 x c Ur hc)))).trans (I.base.keep b o e n hb hx)
  ·obtain⟨sl,e1⟩:=I.base.slot b o e n hb hx;exact⟨sl,(hs.2 b (gi (oq (fh e) (I.ok.O9 x c Ur hc)))).trans e1⟩
  ·obtain⟨o',e1⟩:=I.base.there b o e hx;exact⟨o',(hs.2 b (gi (oq (fh e) (I.ok.O9 x c Ur hc)))).trans e1⟩
  ·by_cases hj:j=i
   ·subst hj;rw[hi] at e1;cases e1;rw[TR WU] at e2;cases e2;exact⟨u,r,.inr ⟨.inl hk,c,hc,A4⟩⟩
   ·rw[Q_ (Ne.symm hj)] at e2;obtain⟨u',r',q⟩:=hl j y v' e1 e2 e3;refine⟨u',r',?_⟩;rcases q with q|⟨k,c',e,z'⟩
    ·exact .inl q
    ·refine .inr ⟨k,c',e,z'.sameBut hs ?_⟩;rintro rfl;exact hj (WQ hN e1 (I.ok.inj _ _ _ e hc ▸ hi))
  ·by_cases Ph:c'=c
   ·subst Ph;exact⟨_,A4⟩
   ·obtain⟨w2,z2⟩:=I.cell y c' e;exact⟨w2,z2.sameBut hs Ph⟩
  ·obtain⟨e,n,ne,nf,d⟩:=I.pin p hp;refine⟨(hs.2 p.1 ?_).trans e,n,ne,nf,d⟩;intro q;rw[q,RD] at e;have q':oc=p.2:=Option.some.inj e;exact d w' (by rw[<- q'];exact ci')
theorem WW(I:Inv X pins σ H s)(hN:X.N.Nodup)(hi:X.N[i]? = some x)(hx:Loc X.env.scope x)(r:RelV v u)(h:∀ s',Inv X pins (σ.set i (some v)) H s'->Q () s') (hf:X.fn x=true\/X.env.scope.names.lookup x=some .local:=by first|exact .inl rfl|exact .inr rfl|assumption):aI M A (storeName X.env x u) Q E s :=
 WR I hN hi hx r (λs' I' _=>h s' I') hf
theorem Inv.cj'(I:Inv X pins σ H s)(ho:s'.os=s.os)(u:Un (AZ X.stack) ch H H' s.heap s'.heap)(b6:j3 X.prog X.w H' s'.heap)(hg:AllBare s'.gens)(z5:∀ b∈ch,(b∈X.ex\/X.k8.heap.objs.size<=b)/\b≠X.env.locals/\(∀ x c,X.env.cells.lookup x=some c->c≠b)/\∀ p∈X.pn++pins,p.1≠b):Inv X pins σ H' s':=by
 obtain⟨h',g',d',t',o'⟩:=s';have e:o'=s.os:=ho;subst e;exact I.call (g':=g') (t':=t') (d':=d') u b6 hg z5
end
abbrev XK:=ae->Option ag->Hp->Prop
abbrev St:=List (Option V)
abbrev VK:=V->Hp->Prop
abbrev TE:=St->Hp->VK->Prop
abbrev TT:=St->Hp->(Bool->Hp->Prop)->Prop
abbrev TA:=St->Hp->(List V->Hp->Prop)->Prop
structure Ends where
 nx:St->Hp->Prop
 rt:VK
 bk:St->Hp->Prop:=fun _ _=>False
 ct:St->Hp->Prop:=fun _ _=>False
abbrev TS:=Ends->St->Hp->Prop
def EP(X:Cx)(pins:List (ag × Obj))(σ:St)(Q:VK)(u:ae)(s':ay):Prop:=∃ v H',Inv X pins σ H' s'/\RelV v u/\Q v H'
def TP(X:Cx)(pins:List (ag × Obj))(σ:St)(Q:Bool->Hp->Prop)(b:Bool)(s':ay):Prop:=∃ H',Inv X pins σ H' s'/\Q b H'
def AP(X:Cx)(pins:List (ag × Obj))(σ:St)(Q:List V->Hp->Prop)(us:List ae)(s':ay):Prop:=∃ vs H',Inv X pins σ H' s'/\Vals vs us/\Q vs H'
def SP(X:Cx)(pins:List (ag × Obj))(D:Ends)(f:Flow)(s':ay):Prop :=
 match f with
 |.next=>∃ b9 H',Inv X pins b9 H' s'/\D.nx b9 H'
 |.brk=>∃ b9 H',Inv X pins b9 H' s'/\D.bk b9 H'
 |.cont=>∃ b9 H',Inv X pins b9 H' s'/\D.ct b9 H'
 |.ret u=>∃ v b9 H',Inv X pins b9 H' s'/\RelV v u/\D.rt v H'
def PE(X:Cx)(e:Expr)(t:TE):Prop :=
 ∀ (pins:List (ag × Obj)) (s:ay) (σ:St) (H:Hp) (Q:VK),Inv X pins σ H s->t σ H Q->aI (aE X.prog X.w) X.A (dr e X.env) (EP X pins σ Q) X.xe s
def PT(X:Cx)(e:Expr)(t:TT):Prop :=
 ∀ (pins:List (ag × Obj)) (s:ay) (σ:St) (H:Hp) (Q:Bool->Hp->Prop),Inv X pins σ H s->t σ H Q->aI (aE X.prog X.w) X.A (isTrue e X.env (dr e X.env)) (TP X pins σ Q) X.xe s
def PW(X:Cx)(e:Expr)(t:TT):Prop :=
 ∀ (whole:Sem ae) (pins:List (ag × Obj)) (s:ay) (σ:St) (H:Hp) (Q:Bool->Hp->Prop),Inv X pins σ H s->t σ H Q->aI (aE X.prog X.w) X.A (isTrue e X.env whole) (TP X pins σ Q) X.xe s
def PA(X:Cx)(es:List Expr)(t:TA):Prop :=
 ∀ (pos:Pos) (pins:List (ag × Obj)) (s:ay) (σ:St) (H:Hp) (Q:List V->Hp->Prop),Inv X pins σ H s->t σ H Q->aI (aE X.prog X.w) X.A (spliced (k6 pos (cc es X.env))) (AP X pins σ Q) X.xe s
def PS(X:Cx)(st:Stmt)(t:TS):Prop :=
 ∀ (pins:List (ag × Obj)) (s:ay) (σ:St) (H:Hp) (D:Ends),Inv X pins σ H s->t D σ H->aI (aE X.prog X.w) X.A (exec st X.env) (SP X pins D) X.xe s
def ng(X:Cx)(st:List Stmt)(t:TS):Prop :=
 ∀ (pins:List (ag × Obj)) (s:ay) (σ:St) (H:Hp) (D:Ends),Inv X pins σ H s->t D σ H->aI (aE X.prog X.w) X.A (execs st X.env) (SP X pins D) X.xe s
theorem cK{α:Type}{t:Sem α}{Q Q':α->ay->Prop}{M:Model}{A:fm}{E:ae->ay->Prop}{s:ay}(h:aI M A t Q E s)(hQ:∀ a s,Q a s->Q' a s):aI M A t Q' E s:=vx h hQ λ_ _ x=>x
section
variable {X:Cx}
theorem bin{a b:Expr}{ta tb:TE}(ha:PE X a ta)(hb:PE X b tb){pins:List (ag × Obj)}{s:ay}{σ:St}{H:Hp}{R:V->V->Hp->Prop}(I:Inv X pins σ H s)(h:ta σ H λx H1=>tb σ H1 λy H2=>R x y H2){α:Type} {Q:α->ay->Prop} {f:ae->ae->Sem α}(hf:∀ v u s2 x y H2,Inv X pins σ H2 s2->RelV x v->RelV y u->R x y H2->aI (aE X.prog X.w) X.A (f v u) Q X.xe s2) :
  aI (aE X.prog X.w) X.A (dr a X.env) (λv fP=>aI (aE X.prog X.w) X.A (dr b X.env) (λu EE=>aI (aE X.prog X.w) X.A (f v u) Q X.xe EE) X.xe fP) X.xe s:=by
 refine cK (ha pins s σ H _ I h) λv s1 cS=>L2.gI cS λx H1 I1 r1 q1=>?_;refine cK (hb pins s1 σ H1 _ I1 q1) λu s2 cS=>L2.gI cS λy H2 I2 r2 q2=>?_;exact hf v u s2 x y H2 I2 r1 r2 q2
def FK(i:Nat):TE:=λσ H Q=>∃ v,σ[i]? = some (some v)/\Q v H
def tC(v:V):TE:=λ_ H Q=>Q v H
theorem WX (hN:X.N[i]? = some x) (hv:Ry X.env.scope x) (hd:(x == ("__debug__" : Str))=false:=by decide) (tS:(x == ("__classdict__" : Str))=false:=by decide):PE X (.Name x pos) (FK i):=by
 walk_at"v";obtain⟨v,e,h⟩:=h;obtain⟨m,hn,hl⟩:=I.loc;obtain⟨u,r,l⟩:=hl i x v hN e hv;have fin:EP X pins σ Q u s:=⟨v,H,I,r,h⟩
 rcases l with⟨hk,hm⟩|⟨hk,c,hc,WY⟩
 ·exact wpAny_Name (wpAny_loadName_local I.ok.kind hk hn hm fin) hd
 ·rcases hk with hk|hk
  ·exact wpAny_Name (wpAny_loadName_cell I.ok.kind hk hc WY fin) hd
  ·exact wpAny_Name (wpAny_loadName_free I.ok.kind hk hc WY fin tS) hd
theorem ck'{i j pos}:PE X (.Constant (.int i) j pos) (tC (.int i)):=λ_ _ _ H _ I h=>wpAny_Constant_int ⟨.int i,H,I.tok _,⟨_,rfl⟩,h⟩
theorem cl'{b j pos}:PE X (.Constant (.bool b) j pos) (tC (.bl b)):=λ_ _ _ H _ I h=>Constant_bool ⟨.bl b,H,I,rfl,h⟩
theorem cm'{j pos}:PE X (.Constant .none j pos) (tC .non):=λ_ _ _ H _ I h=>Constant_none ⟨.non,H,I,rfl,h⟩
theorem cn'{x j pos}:PE X (.Constant (.str x) j pos) (tC (.str x)):=λ_ _ _ H _ I h=>Calls.Constant_str ⟨.str x,H,I.tok _,⟨_,rfl⟩,h⟩
def Gl(X:Cx)(x:Str):Prop:=X.env.kindOf x=some .globalImplicit
theorem co'(I:Inv X pins σ H s)(hg:Gl X x)(hm:X.mg x=some u)(h:Q u s)(hd:(x == ("__debug__" : Str))=false:=by decide):aI (aE X.prog X.w) X.A (dr (.Name x pos) X.env) Q E s :=
 Calls.Name_function_global I.ok.kind hg (Calls.loadGlobal_global (by rw[I.ok.glob];exact I.mod.glob.keeps I.bk) hm h) hd
theorem B7(I:Inv X pins σ H s)(hg:Gl X x)(hm:X.mg x=none)(hv:mM x=some u)(h:Q u s)(hn:x ≠ "__name__" := by decide) (hd:(x == ("__debug__" : Str))=false:=by decide):aI (aE X.prog X.w) X.A (dr (.Name x pos) X.env) Q E s:=by
 obtain⟨mb,h1,h2⟩:=I.mod.blt;exact Calls.Name_function_global I.ok.kind hg (Calls.loadGlobal_builtin (by rw[I.ok.glob];exact I.mod.glob.keeps I.bk) hm (by rw[I.ok.blt];exact h1.keeps I.bk) ((h2 x hn).trans hv) h) hd
variable {a b:Expr}{ta tb:TE}{pos:Pos}
def tB(t:TE):TT:=λσ H Q=>t σ H λx H1=>∃ c,x=.bl c/\Q c H1
theorem cp'(h:PE X e t)(he:∀ whole,isTrue e X.env whole=(do let v <- whole;standAt e.pos;holding [v] (truthy v)):=by intro _;rfl):PT X e (tB t):=by intro pins s σ H Q I hw;refine isTrue_plain (cK (h pins s σ H _ I hw) λv s1 cS=>L2.gI cS λx H1 I1 r1 q1=>?_) (he _);obtain⟨d,rfl,q⟩:=q1;cases r1;exact Iy ⟨H1,I1,q⟩
variable {tA RG:TT}{rest:List Expr}
def cq'(t u:TT):TT:=λσ H Q=>t σ H λc H1=>if c=true then u σ H1 Q else Q false H1
def tOr(t u:TT):TT:=λσ H Q=>t σ H λc H1=>if c=true then Q true H1 else u σ H1 Q
def ct'(t:TT):TT:=λσ H Q=>t σ H λc H1=>Q (!c) H1
theorem pw_and1(ha:PT X a tA):PW X (.BoolOp .And [a] pos) tA:=by
 intro wh pins s σ H Q I h;refine isTrue_and (cK (ha pins s σ H Q I h) λc s1 e=>?_)
 cases c with
 |true=>exact isTrue_and_nil e
 |false=>exact e
theorem pw_or1(ha:PT X a tA):PW X (.BoolOp .Or [a] pos) tA:=by
 intro wh pins s σ H Q I h;refine isTrue_or (cK (ha pins s σ H Q I h) λc s1 e=>?_)
 cases c with
 |false=>exact isTrue_or_nil e
 |true=>exact e
theorem pw_and(ha:PT X a tA)(hb:PW X (.BoolOp .And (b :: rest) pos) RG):PW X (.BoolOp .And (a :: b :: rest) pos) (cq' tA RG):=by
 intro wh pins s σ H Q I h;refine isTrue_and (cK (ha pins s σ H _ I h) λc s1 dQ=>?_);obtain⟨H1,I1,q1⟩:=dQ
 cases c with
 |true=>exact hb wh pins s1 σ H1 Q I1 q1
 |false=>exact⟨H1,I1,q1⟩
theorem pw_or(ha:PT X a tA)(hb:PW X (.BoolOp .Or (b :: rest) pos) RG):PW X (.BoolOp .Or (a :: b :: rest) pos) (tOr tA RG):=by
 intro wh pins s σ H Q I h;refine isTrue_or (cK (ha pins s σ H _ I h) λc s1 dQ=>?_);obtain⟨H1,I1,q1⟩:=dQ
 cases c with
 |true=>exact⟨H1,I1,q1⟩
 |false=>exact hb wh pins s1 σ H1 Q I1 q1
theorem cu'(ha:PT X a tA):PT X (.UnaryOp .Not a pos) (ct' tA):=by intro pins s σ H Q I h;exact isTrue_not (ha pins s σ H (λc H1=>Q (!c) H1) I h)
def cv'(ta tb:TE):TE:=λσ H Q=>ta σ H λx H1=>∃ c,x=.bl c/\if c=true then tb σ H1 Q else Q (.bl false) H1
theorem cw'{op}(h:PE X a t):PE X (.BoolOp op [a] pos) t:=λpins s σ H Q I hw=>BoolOp_one (h pins s σ H Q I hw)
theorem cx'(ha:PE X a ta)(hb:PE X (.BoolOp .And (b :: rest) pos) tb):PE X (.BoolOp .And (a :: b :: rest) pos) (cv' ta tb):=by
 walk_at"v";refine BoolOp_and (cK (ha pins s σ H _ I h) λv s1 cS=>L2.gI cS λx H1 I1 r1 q1=>?_);obtain⟨c,rfl,q1⟩:=q1;cases r1;refine Iy ?_
 cases c with
 |true=>exact hb pins s1 σ H1 Q I1 q1
 |false=>exact⟨.bl false,H1,I1,rfl,q1⟩
end
def fw(K:aC)(H:Hp)(a:ag)(xs:List V):Prop :=
 Rd H a (.lst xs) \/
  ∃ (o:Obj) (its:Array ae) (n:Nat),K.lookup a=some o/\o.cls=.type "list"/\o.dict=none/\o.data=.seq its n/\its.size<=bS/\Vals xs its.toList
def oQ(K:aC)(H:Hp)(a:ag)(xs:List V):Prop :=
 Rd H a (.tup xs) \/
  ∃ (o:Obj) (its:Array ae) (n:Nat),K.lookup a=some o/\o.cls=.type "tuple"/\o.data=.seq its n/\its.size<=bS/\Vals xs its.toList
def cy':ae->Option V
 |.none=>some .non
 |.bool b=>some (.bl b)
 |.int i _=>some (.int i)
 |.str x _=>some (.str x)
 |.bytes b _=>some (.tP b)
 |.float b _=>some (.M0 b)
 |.ref a=>some (.ref a)
 |.type n=>some (.ty n)
 |_=>none
theorem RelV.abs(r:RelV x u):cy' u=some x:=by
 cases x with
 |non=>cases r;rfl
 |bl _=>cases r;rfl
 |int _=>obtain⟨t,rfl⟩:=r;rfl
 |str _=>obtain⟨t,rfl⟩:=r;rfl
 |tP _=>obtain⟨t,rfl⟩:=r;rfl
 |M0 _=>obtain⟨t,rfl⟩:=r;rfl
 |ref _=>cases r;rfl
 |ty _=>cases r;rfl
theorem RelV.inj(r:RelV x u)(q:RelV y u):x=y:=Option.some.inj (r.abs.symm.trans q.abs)
theorem Vals.inj:∀ {xs ys:List V} {us:List ae},Vals xs us->Vals ys us->xs=ys
 |_,_,_,.nil,.nil=>rfl
 |_,_,_,.cons r t,.cons r' t'=>by rw[r.inj r',Vals.inj t t']
section
variable {X:Cx}{pins:List (ag × Obj)}{σ:St}{H:Hp}{s:ay}{a:ag}{xs ys:List V}
theorem Inv.list(I:Inv X pins σ H s)(h:fw X.K H a xs):∃ its:List ae,Vals xs its/\PlainL s.heap a its.toArray/\xs.length<=bS:=by
 rcases h with h|⟨o,its,n,hk,hc,hd,hs,hz,r⟩
 ·obtain⟨z,its,n,r,e⟩:=h.ok I.b6;exact⟨its,r,⟨_,n,e,rfl,rfl,rfl⟩,z⟩
 ·refine⟨its.toList,r,⟨o,n,I.zS a o hk,hc,hd,by simpa using hs⟩,?_⟩;have e:=r.length;simp only[xD] at e;lia
theorem Inv.tuple(I:Inv X pins σ H s)(h:oQ X.K H a xs):∃ its:List ae,Vals xs its/\IsTup s.heap a its.toArray/\xs.length<=bS:=by
 rcases h with h|⟨o,its,n,hk,hc,hs,hz,r⟩
 ·obtain⟨z,its,r,p⟩:=h.ok I.b6;exact⟨its,r,p,z⟩
 ·refine⟨its.toList,r,⟨o,I.zS a o hk,hc,n,by simpa using hs⟩,?_⟩;have e:=r.length;simp only[xD] at e;lia
theorem Inv.WZ(I:Inv X pins σ H s)(h:fw X.K H a xs)(h':fw X.K H a ys):xs=ys:=by
 obtain⟨its,r,⟨o,n,e,_,_,d⟩,_⟩:=I.list h;obtain⟨its',r',⟨o',n',e',_,_,d'⟩,_⟩:=I.list h';rw[e] at e';cases e';rw[d] at d';injection d' with d1 _;have:its=its':=by simpa using congrArg Array.toList d1
 subst this;exact r.inj r'
end
abbrev Cx.wish(X:Cx)(E:ae->ay->Prop):Cx:={ X with xe:=E }
abbrev Cx.FL(X:Cx):Cx:=X.wish λ_ _=>False
theorem Cx.Ok.wish{X:Cx}(ok:X.Ok)(E:ae->ay->Prop):(X.wish E).Ok :=
 ⟨ok.mod,ok.kind,ok.glob,ok.blt,ok.above,ok.inj,ok.has,ok.O9,ok.hd,ok.frames,ok.Rz,ok.RA,ok.bs,ok.FH,ok.O_,ok.Pa,ok.A3,ok.Nn⟩
theorem Cx.Ok.FP{X:Cx}(ok:(X.wish E).Ok):X.Ok :=
 ⟨ok.mod,ok.kind,ok.glob,ok.blt,ok.above,ok.inj,ok.has,ok.O9,ok.hd,ok.frames,ok.Rz,ok.RA,ok.bs,ok.FH,ok.O_,ok.Pa,ok.A3,ok.Nn⟩
section
variable {X:Cx}{pins:List (ag × Obj)}{σ:St}{H:Hp}{s:ay}{E:ae->ay->Prop}
theorem Inv.wish(I:Inv X pins σ H s)(E:ae->ay->Prop):Inv (X.wish E) pins σ H s:=⟨I.ok.wish E,I.os,I.bare,I.base,I.loc,I.cell,I.free,I.x3,I.pin,I.b6,I.len⟩
theorem Inv.FP(I:Inv (X.wish E) pins σ H s):Inv X pins σ H s:=⟨I.ok.FP,I.os,I.bare,I.base,I.loc,I.cell,I.free,I.x3,I.pin,I.b6,I.len⟩
theorem SP.FP{D:Ends}(h:SP (X.wish E) pins D f s'):SP X pins D f s':=by
 cases f with
 |next=>obtain⟨b9,H',I,q⟩:=h;exact⟨b9,H',I.FP,q⟩
 |brk=>obtain⟨b9,H',I,q⟩:=h;exact⟨b9,H',I.FP,q⟩
 |cont=>obtain⟨b9,H',I,q⟩:=h;exact⟨b9,H',I.FP,q⟩
 |ret u=>obtain⟨v,b9,H',I,r,q⟩:=h;exact⟨v,b9,H',I.FP,r,q⟩
theorem ng.FL{st:List Stmt}(h:ng X.FL st t):ng X st t:=λpins s σ H D I hw =>
 vx (h pins s σ H D (I.wish _) hw) (λ_ _ q=>q.FP) λ_ _ z=>False.elim z
end
section
variable {X:Cx}{st:Stmt}{rest:List Stmt}{t u:TS}{e:Expr}{te:TE}{pos:Pos}
def cz':TS:=λD σ H=>D.nx σ H
def W0(t u:TS):TS:=λD σ H=>t { D with nx:=u D } σ H
theorem cA':ng X [] cz':=λ_ _ σ H _ I h=>wpAny_execs_nil ⟨σ,H,I,h⟩
theorem W3(h1:PS X st t)(h2:ng X rest u):ng X (st :: rest) (W0 t u):=by
 intro pins s σ H D I h;refine wpAny_execs_cons (cK (h1 pins s σ H { D with nx:=u D } I h) λf s1 q=>?_)
 cases f with
 |next =>obtain⟨b9,H',I',q⟩:=q;exact h2 pins s1 b9 H' D I' q
 |ret v=>exact q
 |brk=>exact q
 |cont=>exact q
theorem W4(h1:PS X st t):ng X [st] t:=by
 intro pins s σ H D I h;refine wpAny_execs_cons (cK (h1 pins s σ H D I h) λf s1 q=>?_)
 cases f with
 |next=>exact wpAny_execs_nil q
 |ret v=>exact q
 |brk=>exact q
 |cont=>exact q
theorem Inv.quiet(I:Inv X pins σ H s):interactive X.env=false:=by simp[interactive,I.ok.kind]
def cB'(te:TE):TS:=λD σ H=>te σ H λ_ H1=>D.nx σ H1
theorem RH(he:PE X e te)(hs:xA e none pos.line X.env=pure false:=by rfl):PS X (.Expr e pos) (cB' te):=by intro pins s σ H D I h;exact wpAny_Expr_any (cK (he pins s σ H _ I h) λv s1 cS=>L2.gI cS λx H1 I1 r1 q1=>⟨σ,H1,I1,q1⟩) I.quiet hs
def cC'(te:TE):TS:=λD σ H=>te σ H D.rt
theorem W5(he:PE X e te):PS X (.Return (some e) pos) (cC' te):=by intro pins s σ H D I h;exact wpAny_Return_some (cK (he pins s σ H _ I h) λv s1 cS=>L2.gI cS λx H1 I1 r1 q1=>⟨x,σ,H1,I1,r1,q1⟩)
def cD'(c:TT)(t u:TS):TS:=λD σ H=>c σ H λb H1=>if b=true then t D σ H1 else u D σ H1
theorem cE'(hc:PT X c tc)(ha:ng X a t)(hb:ng X b u):PS X (.If c a b pos) (cD' tc t u):=by
 intro pins s σ H D I h;refine wpAny_If (cK (hc pins s σ H _ I h) λd s1 dQ=>?_);obtain⟨H1,I1,q1⟩:=dQ
 cases d with
 |true=>exact ha pins s1 σ H1 D I1 q1
 |false=>exact hb pins s1 σ H1 D I1 q1
def cF':TS:=λ_ _ _=>False
theorem cG':ng X sts cF':=λ_ _ _ _ _ _ h=>h.elim
end
abbrev TG:=V->St->Hp->(St->Hp->Prop)->Prop
abbrev Nw:=List V->St->Hp->(St->Hp->Prop)->Prop
def PG(X:Cx)(target:Expr)(t:TG):Prop :=
 ∀ (pins:List (ag × Obj)) (s:ay) (σ:St) (H:Hp) (v:V) (u:ae) (Q:St->Hp->Prop),Inv X pins σ H s->RelV v u->t v σ H Q ->
  aI (aE X.prog X.w) X.A (assign target X.env u) (λ_ s'=>∃ b9 H',Inv X pins b9 H' s'/\Q b9 H') X.xe s
def B8(X:Cx)(ts:List Expr)(t:Nw):Prop :=
 ∀ (pins:List (ag × Obj)) (s:ay) (σ:St) (H:Hp) (vs:List V) (us:List ae) (Q:St->Hp->Prop),Inv X pins σ H s->Vals vs us->t vs σ H Q ->
  aI (aE X.prog X.w) X.A (assignInOrder ((qB ts X.env).map (·.2)) us) (λ_ s'=>∃ b9 H',Inv X pins b9 H' s'/\Q b9 H') X.xe s
section
variable {X:Cx}{pos:Pos}
def Us(i:Nat):TG:=λv σ H Q=>Q (σ.set i (some v)) H
theorem Ut(hN:X.N.Nodup)(hi:X.N[i]? = some x)(hx:Loc X.env.scope x)(hf:X.fn x=true\/X.env.scope.names.lookup x=some .local:=by first|exact .inl rfl|exact .inr rfl|assumption):PG X (.Name x pos) (Us i):=by intro pins s σ H v u Q I r h;exact wpAny_assign_Name (WW I hN hi hx r (λs' I'=>⟨_,H,I',h⟩) hf)
def cH':Nw:=λvs σ H Q=>vs=[]/\Q σ H
def cI'(t:TG)(u:Nw):Nw:=λvs σ H Q=>∃ v r,vs=v :: r/\t v σ H λb9 H'=>u r b9 H' Q
theorem W6:B8 X [] cH':=by intro pins s σ H vs us Q I r h;obtain⟨e,h⟩:=h;subst e;cases r;exact assignInOrder_nil ⟨σ,H,I,h⟩
theorem Uu(h1:PG X e t)(h2:B8 X es u)(hs:(qB (e :: es) X.env).map (·.2)=assign e X.env :: (qB es X.env).map (·.2):=by rfl):B8 X (e :: es) (cI' t u):=by
 intro pins s σ H vs us Q I r h;obtain⟨v,vr,e1,h⟩:=h;subst e1
 cases r with
 |cons r rr =>rw[hs];refine assignInOrder_cons (cK (h1 pins s σ H _ _ _ I r h) λ_ s1 dQ=>?_);obtain⟨qh,H1,I1,q1⟩:=dQ;exact h2 pins s1 qh H1 _ _ Q I1 rr q1
def cJ'(K:aC)(n:Nat)(t:Nw):TG:=λv σ H Q=>∃ a xs,v=.ref a/\oQ K H a xs/\xs.length=n/\t xs σ H Q
theorem W7(hc:X.calm=true)(h:B8 X es t)(hn:(qB es X.env).length=n:=by rfl) (nh:(qB es X.env).findIdx? (·.1)=none:=by rfl):PG X (.Tuple es k pos) (cJ' X.K n t):=by
 intro pins s σ H v u Q I r hw;obtain⟨a,xs,e1,hq,hl,hw⟩:=hw;subst e1;cases r;obtain⟨its,rv,ht,hz⟩:=I.tuple hq;refine assign_Tuple_tuple (I.ok.hd hc) ht (by simp[hn,<- hl,rv.length]) nh λh' hx=>?_;have I1:Inv X pins σ H { s with heap:=h' }:=I.kept (t':=s.toks) λb o e=>hx b o (gi (fh e)) e;exact h pins _ σ H xs _ Q I1 (by simpa using rv) hw
def Uv(te:TE)(g:TG):TS:=λD σ H=>te σ H λx H1=>g x σ H1 D.nx
theorem cK'(he:PE X e te)(hg:PG X tg g)(hs:swapsWithSole [tg] e pos.line X.env=pure false:=by rfl)(hw:swappedStores [tg] e X.env=pure none:=by rfl) (h1:(qB [tg] X.env).map (·.2)=[assign tg X.env]:=by rfl):PS X (.Assign [tg] e pos) (Uv te g):=by
 intro pins s σ H D I h;refine wpAny_Assign_stores (cK (he pins s σ H _ I h) λv s1 cS=>L2.gI cS λx H1 I1 r1 q1=>?_) hs hw;rw[h1];exact cK (hg pins s1 σ H1 x v _ I1 r1 q1) λ_ s2 q=>q
theorem Uw(hN:X.N.Nodup)(hi:X.N[i]? = some x)(hx:Loc X.env.scope x)(he:PE X e te)(hs:xA e (some (.Name x pos')) pos.line X.env=pure false:=by rfl)(hf:X.fn x=true\/X.env.scope.names.lookup x=some .local:=by first|exact .inl rfl|exact .inr rfl|assumption) :
  PS X (.Assign [.Name x pos'] e pos) (Uv te (Us i)):=by
 intro pins s σ H D I h;refine wpAny_Assign_Name (cK (he pins s σ H _ I h) λv s1 cS=>L2.gI cS λy H1 I1 r1 q1=>?_) hs;exact WW I1 hN hi hx r1 (λs2 I2=>⟨_,H1,I2,q1⟩) hf
def cL'(c:TT)(tb:TS):TS:=λD σ H=>∃ W:Nat->St->Hp->Prop,(∃ m,W m σ H)/\∀ m σ H,W m σ H ->
 c σ H λb H1=>if b=true then ∃ N:St->Hp->Prop,(∀ b9 H',N b9 H'->∃ m',m'<m/\W m' b9 H')/\tb { D with nx:=N,ct:=N,bk:=D.nx } σ H1 else D.nx σ H1
theorem cM'(hp:PassesOwn (aE X.prog X.w) X.A X.env X.xe)(hc:PT X c tc)(hb:ng X body tb):PS X (.While c body [] pos) (cL' tc tb):=by
 intro pins s σ H D I h;obtain⟨W,⟨m0,w0⟩,turn⟩:=h;refine wpAny_While (codeAny_whileLoop (λn s'=>∃ b9 H',Inv X pins b9 H' s'/\W n b9 H') ?_ m0 ⟨σ,H,I,w0⟩);rintro n s1 ⟨qh,H1,I1,w1⟩;refine IA hp (cK (hc pins s1 qh H1 _ I1 (turn n qh H1 w1)) λb s2 dQ=>?_);obtain⟨H2,I2,q2⟩:=dQ
 cases b with
 |true =>
  obtain⟨N,hN,q2⟩:=q2;rw[if_pos rfl];refine IA hp (cK (hb pins s2 qh H2 _ I2 q2) λf s3 q3=>?_)
  cases f with
  |next =>obtain⟨oS,H3,I3,n3⟩:=q3;obtain⟨m',hm,w3⟩:=hN oS H3 n3;exact⟨m',hm,oS,H3,I3,w3⟩
  |cont =>obtain⟨oS,H3,I3,n3⟩:=q3;obtain⟨m',hm,w3⟩:=hN oS H3 n3;exact⟨m',hm,oS,H3,I3,w3⟩
  |brk=>exact q3
  |ret v=>exact q3
 |false =>rw[if_neg kB];exact wpAny_execs_nil ⟨qh,H2,I2,q2⟩
end
structure It where
 go:Nat->Hp->Prop
 mz:Nat->Hp->V->Hp->Prop
 stop:Nat->Hp->Prop
def Ap(X:Cx)(pins:List (ag × Obj))(H:Hp)(b:ag):Prop :=
 H b=none/\b≠X.env.locals/\b∉X.fs/\(b∈X.ex\/X.k8.heap.objs.size<=b)/\(∀ x c,X.env.cells.lookup x=some c->c≠b)/\∀ p∈X.pn++pins,p.1≠b
theorem Inv.Pj{X:Cx}(I:Inv X pins σ H s)(hb:s.heap.objs.size<=b)(hn:H' b=none):Ap X pins H' b:=by
 refine⟨hn,ML (oq I.lt hb),I.ce' hb,.inr (iX I.sz hb),λx c e z=>?_,λp hp z=>?_⟩
 ·obtain⟨v,q⟩:=I.cell x c e;exact absurd (oq q.lt (by rw[z];exact hb)) (vS _)
 ·exact absurd (oq (fh (I.pin p hp).1) (by rw[z];exact hb)) (vS _)
structure Turn(P:d4)(w:eB)(K:aC)(tg:Expr)(J:It)(fp:List ag)(it:ag)(tn:Nat->dy->Prop):Prop where
 mem:it∈fp
 obj:∀ i h,tn i h->∀ b∈fp,∃ o,h.get? b=some o/\∀ v,o.data≠.cell v
 keep:∀ i h h',tn i h->(∀ b∈fp,∀ o,h.get? b=some o->h'.get? b=some o)->tn i h'
 item:∀ (X:Cx),X.prog=P->X.w=w->X.K=K->X.calm=true->∀ (i:Nat) (pins:List (ag × Obj)) (s:ay) (σ:St) (H:Hp) (E:ae->ay->Prop),Inv X pins σ H s->(∀ b∈fp,Ap X pins H b)->tn i s.heap->J.go i H ->
  aI (aE P w) X.A (pyNext (.ref it)) (fun r s1=>∃ u,r=some u /\
   aI (aE P w) X.A (letOwnedTupleGo tg (.ref it) u) (fun _ s2=>∃ x H',Inv X pins σ H' s2/\RelV x u/\J.mz i H x H'/\tn (i+1) s2.heap/\∀ b∈fp,H' b=none) E s1) E s
 done:∀ (X:Cx),X.prog=P->X.w=w->X.K=K->X.calm=true->∀ (i:Nat) (pins:List (ag × Obj)) (s:ay) (σ:St) (H:Hp) (E:ae->ay->Prop),Inv X pins σ H s->(∀ b∈fp,Ap X pins H b)->tn i s.heap->J.stop i H ->
  aI (aE P w) X.A (pyNext (.ref it)) (fun r s1=>r=none/\Inv X pins σ H s1) E s
 self:∀ (A:fm) (i:Nat) (s:ay) (Q:ae->ay->Prop) (E:ae->ay->Prop),tn i s.heap->Q (.ref it) s->aI (aE P w) A (pyIter (.ref it)) Q E s
abbrev TI:=St->Hp->(It->Hp->Prop)->Prop
def Ux(X:Cx)(pins:List (ag × Obj))(σ:St)(tg:Expr)(R:It->Hp->Prop)(Uy:ae)(s2:ay):Prop :=
 ∃ (it:ag) (fp:List ag) (tn:Nat->dy->Prop) (J:It) (H':Hp),Uy=.ref it/\Inv X pins σ H' s2/\Turn X.prog X.w X.K tg J fp it tn/\tn 0 s2.heap/\(∀ b∈fp,Ap X pins H' b)/\R J H'
def PI(X:Cx)(tg iter:Expr)(wi:TI):Prop :=
 ∀ (pins:List (ag × Obj)) (s:ay) (σ:St) (H:Hp) (R:It->Hp->Prop),Inv X pins σ H s->wi σ H R ->
  aI (aE X.prog X.w) X.A (dr iter X.env) (λv s1=>aI (aE X.prog X.w) X.A (pyIter v) (Ux X pins σ tg R) X.xe s1) X.xe s
theorem Uz(ho:s.heap.get? it=some o)(hc:o.cls=.type n)(hd:o.data=.fields vs)(hn:["enumerate", "zip", "dict_itemiterator", "dict_reverseitemiterator", "odict_iterator", "itertools.zip_longest", "itertools.pairwise"].contains n=false) (hQ:Q () s):aI M A (letOwnedTupleGo tg (.ref it) u) Q E s:=by
 unfold letOwnedTupleGo;cases tg<;>first
  |exact bI hQ
  | (cases u<;>first
     |exact bI hQ
     | (refine aw (wpAny_load ho ?_)
        rw[hc,hd];show aI M A (if (["enumerate", "zip", "dict_itemiterator", "dict_reverseitemiterator", "odict_iterator", "itertools.zip_longest", "itertools.pairwise"].contains n && vs[0]? == some (mr _))=true then _ else _) Q E s;rw[if_neg (by intro h;rw[hn,Bool.false_and] at h;cases h)];exact bI hQ))
def RJ(K:aC)(a:ag):It :=
 ⟨λi H=>∃ xs x,fw K H a xs/\xs[i]? = some x,λi H x H'=>H'=H/\∀ xs,fw K H a xs->xs[i]? = some x,λi H=>∃ xs,fw K H a xs/\xs.length<=i⟩
def NC(lo:Int)(n:Nat):It:=⟨λi _=>i<n,λi H x H'=>H'=H/\x=.int (lo+i),λi _=>n<=i⟩
theorem cN'{P:d4}{K:aC}(a it:ag):Turn P w K tg (RJ K a) [it] it (λi h=>h.IsListIter it a i) where
 mem:=by simp
 obj:=λi h st b hb=>by
  have e:b=it:=by simpa using hb
  subst e;obtain⟨o,e,c,d⟩:=st;exact⟨o,e,λv z=>by rw[d] at z;cases z⟩
 keep:=λi h h' st k=>st.at λo e=>k it (by simp) o e
 item:=by intro X hP hw hK hc i pins s σ H E I hf st hg;subst hP hw hK;obtain⟨xs,x,hq,hx⟩:=hg;obtain⟨its,rv,p,hz⟩:=I.list hq;obtain⟨u,hu,ru⟩:=rv.get hx;obtain⟨f0,f1,f2,f3,f4,f5⟩:=hf it (by simp);refine wpAny_pyNext_list_item st p.isList (x:=u) (by simpa using hu) λh' av sb=>?_;have I1:Inv X pins σ H { s with heap:=h' }:=I.turned (t':=s.toks) (λb o hb e=>(sb.2 b hb).trans e) f0 f1 f3 f4 f5;obtain⟨o,e,c,d⟩:=id av;exact⟨u,rfl,Uz (s:={ s with heap:=h' }) e c d (by decide) ⟨x,H,I1,ru,⟨rfl,λys hy=>by rw[I.WZ hy hq];exact hx⟩,av,λb hb=>(hf b hb).1⟩⟩
 done:=by intro X hP hw hK hc i pins s σ H E I hf st hg;subst hP hw hK;obtain⟨xs,hq,hx⟩:=hg;obtain⟨its,rv,p,hz⟩:=I.list hq;obtain⟨f0,f1,f2,f3,f4,f5⟩:=hf it (by simp);have hl:=rv.length;exact wpAny_pyNext_list_end (I.ok.hd hc) st p.isList (by simp;lia) λh' eb=>⟨rfl,I.turned (t':=s.toks) (λb o hb e=>eb b o hb e) f0 f1 f3 f4 f5⟩
 self:=λ_ _ _ _ _ st h=>wpAny_pyIter_listiter st h
theorem cO'{P:d4}{K:aC}(it:ag)(lo:Int)(n:Nat):Turn P w K tg (NC lo n) [it] it (λi h=>IsRangeIter h it (lo+(i:Nat)*1) ((n:Int)-(i:Nat)) 1) where
 mem:=by simp
 obj:=λi h st b hb=>by
  have e:b=it:=by simpa using hb
  subst e;exact⟨_,st,λv z=>by
   have z':Data.fields _=Data.cell v:=z;cases z'⟩
 keep:=λi h h' st k=>k it (by simp) _ st
 item:=by intro X hP hw hK hc i pins s σ H E I hf st hg;subst hP hw hK;obtain⟨f0,f1,f2,f3,f4,f5⟩:=hf it (by simp);have W:=Walks.range (prog:=X.prog) (w:=X.w) (I.ok.hd hc) it lo 1 n;refine W.item i s _ _ hg st λv h' tk hv av kk=>?_;obtain⟨t,rfl⟩:=hv;have I1:Inv X pins σ H { s with heap:=h',toks:=tk }:=I.turned (λb o hb e=>kk b o (by simpa using hb) e) f0 f1 f3 f4 f5;refine⟨_,rfl,Uz (s:={ s with heap:=h',toks:=tk }) (n := "range_iterator") av rfl rfl (by decide) ⟨.int (lo+i),H,I1,⟨t,?_⟩,⟨rfl,rfl⟩,av,λb hb=>(hf b hb).1⟩⟩;rw[Int.mul_one]
 done:=by intro X hP hw hK hc i pins s σ H E I hf st hg;subst hP hw hK;obtain⟨f0,f1,f2,f3,f4,f5⟩:=hf it (by simp);exact wpAny_pyNext_range_end (I.ok.hd hc) st (by have:n<=i:=hg;lia) λh' eb=>⟨rfl,I.turned (t':=s.toks) (λb o hb e=>eb b o hb e) f0 f1 f3 f4 f5⟩
 self:=λ_ _ _ _ _ st h=>wpAny_pyIter_rangeiter st h
section
variable {X:Cx}{tg:Expr}
def cP'(K:aC)(tl:TE):TI:=λσ H R=>tl σ H λx H1=>∃ a,x=.ref a/\(∃ xs,fw K H1 a xs)/\R (RJ K a) H1
theorem W8(hl:PE X l tl):PI X tg l (cP' X.K tl):=by
 intro pins s σ H R I h;refine cK (hl pins s σ H _ I h) λv s1 cS=>L2.gI cS λx H1 I1 r1 q1=>?_;obtain⟨a,e,⟨xs,hq⟩,q⟩:=q1;subst e;cases r1;obtain⟨its,rv,p,hz⟩:=I1.list hq;refine wpAny_pyIter_list p.isList ?_;refine⟨s1.heap.objs.size,[s1.heap.objs.size],_,_,H1,rfl,I1.kept (t':=s1.toks) λb o e=>gd _ e,cN' a _,⟨_,kK _ rfl,rfl,rfl⟩,λb hb=>?_,q⟩;have e:b=s1.heap.objs.size:=by simpa using hb
 subst e;exact I1.Pj (cx _) (I1.b6.fresh (cx _))
theorem cQ'{R:It->Hp->Prop}{lo hi:Int}(I:Inv X pins σ H s)(h1:-(2 ^ 62)<=lo)(h2:lo<2 ^ 62)(h3:-(2 ^ 62)<=hi)(h4:hi<2 ^ 62)(q:R (NC lo (hi-lo).toNat) H):aI (aE X.prog X.w) X.A (pyIter (.ref s.heap.objs.size)) (Ux X pins σ tg R) E { s with heap:=s.heap.push { cls:=.type "range",data:=.fields #[.int lo t,.int hi u,.int 1 v] },toks:=tk }:=by
 refine wpAny_pyIter_range (IsRange.new ..) (small_one h1 h2 h3 h4) ?_;have I1:Inv X pins σ H { s with heap:=s.heap.push { cls:=.type "range",data:=.fields #[.int lo t,.int hi u,.int 1 v] },toks:=tk }:=I.kept λb o e=>gd _ e;refine⟨(s.heap.push { cls:=.type "range",data:=.fields #[.int lo t,.int hi u,.int 1 v] }).objs.size,[(s.heap.push { cls:=.type "range",data:=.fields #[.int lo t,.int hi u,.int 1 v] }).objs.size],_,_,H,rfl,
  I1.kept (t':=tk) λb o e=>gd _ e,cO' _ lo (hi-lo).toNat,?_,λb hb=>?_,q⟩
 ·have e1:lo+((0:Nat):Int)*1=lo:=by simp
  have e2:(((hi-lo).toNat:Nat):Int)-((0:Nat):Int)=Builtin.Range.rangeSize lo hi 1:=by rw[rangeSize_one];split<;>lia
  show IsRangeIter _ _ (lo+((0:Nat):Int)*1) ((((hi-lo).toNat:Nat):Int)-((0:Nat):Int)) 1;rw[e1,e2];exact kK _ rfl
 ·have e:b=(s.heap.push { cls:=.type "range",data:=.fields #[.int lo t,.int hi u,.int 1 v] }).objs.size:=by simpa using hb
  subst e;exact I1.Pj (cx _) (I1.b6.fresh (cx _))
def cR'(ta:TA):TI:=λσ H R=>ta σ H λvs H1=>∃ j:Int,vs=[.int j]/\-(2 ^ 62)<=j/\j<2 ^ 62/\R (NC 0 j.toNat) H1
theorem cS' (hg:Gl X "range") (hm:X.mg "range" = none) (ha:PA X [a] ta) (hs:cc [a] X.env=[(false,dr a X.env)]:=by rfl):PI X tg (.Call (.Name "range" p) [a] [] pos) (cR' ta):=by
 intro pins s σ H R I h;refine Call_ (B7 I hg hm boot_range (PyProof.Rows.callWith_type1 (cK (ha pos pins s σ H _ I h) λus s1 cS=>L2.gI cS λvs H1 I1 r1 q1=>?_) hs rfl));obtain⟨j,e,q1,q2,q⟩:=q1;subst e
 cases r1 with
 |cons r rr =>cases rr;obtain⟨t,rfl⟩:=r;exact call_range_1 (cQ' I1 (by lia) (by lia) q1 q2 (by simpa using q))
def W9(wi:TI)(g:TG)(tb:TS):TS:=λD σ H=>wi σ H λJ H1=>∃ W:Nat->Nat->St->Hp->Prop,(∃ m,W 0 m σ H1)/\∀ i m σ H,W i m σ H -> (J.stop i H/\D.nx σ H)\/(J.go i H/\∃ N:St->Hp->Prop,(∀ b9 H',N b9 H'->∃ m',m'<m/\W (i+1) m' b9 H')/\∀ x H',J.mz i H x H'->g x σ H' λkM H2=>tb { D with nx:=N,ct:=N,bk:=D.nx } kM H2)
def Pk(fp:List ag)(h:dy):List (ag × Obj):=fp.filterMap λb=>(h.get? b).map λo=>(b,o)
theorem RK(hb:b∈fp)(e:h.get? b=some o):(b,o)∈Pk fp h:=T4.mpr ⟨b,hb,by rw[e];rfl⟩
theorem cT'(hp:p∈Pk fp h):p.1∈fp/\h.get? p.1=some p.2:=by
 obtain⟨b,hb,e⟩:=T4.mp hp
 cases q:h.get? b with
 |none=>rw[q] at e;cases e
 |some o =>rw[q] at e;have e':(b,o)=p:=Option.some.inj e;subst e';exact⟨hb,q⟩
theorem Inv.pinned(I:Inv X pins σ H s)(hf:∀ b∈fp,Ap X pins H b)(ho:∀ b∈fp,∃ o,s.heap.get? b=some o/\∀ v,o.data≠.cell v):Inv X (pins++Pk fp s.heap) σ H s :=
 I.WN λp hp=>(eR.mp hp).elim (λz=>I.pin p (fI _ z)) λz=>by obtain⟨hb,e⟩:=cT' z;obtain⟨f0,f1,f2,_⟩:=hf p.1 hb;obtain⟨o,e',d⟩:=ho p.1 hb;rw[e] at e';cases e';exact⟨e,f0,f1,f2,d⟩
theorem Inv.RL(I:Inv X (pins++pl) σ H s):Inv X pins σ H s:=I.WN λp hp=>I.pin p (fI _ (i9 _ hp))
theorem W_(hp:PassesOwn (aE X.prog X.w) X.A X.env X.xe)(hc:X.calm=true)(hi:PI X tg iter wi)(hg:PG X tg g)(hb:ng X body tb)(hs:∀ x,DV iter X.env x=pure x:=by intro _;rfl):PS X (.For tg iter body [] pos) (W9 wi g tb):=by
 intro pins s σ H D I h;refine wpAny_For (cK (hi pins s σ H _ I h) λv s1 h1=>cK h1 λUy s2 h2=>?_) hs;obtain⟨it,fp,tn,J,H2,e,I2,T,Au,f2,W,⟨m0,w0⟩,turn⟩:=h2;subst e
 -- what stays true of the iterator's objects through the loop
 have stat:∀ {H':Hp},(∀ b∈fp,H' b=none)->∀ b∈fp,Ap X pins H' b:=λhn b hb=>⟨hn b hb,(f2 b hb).2⟩
 refine codeAny_forLoop_any (λn s'=>∃ i b9 H',Inv X pins b9 H' s'/\tn i s'.heap/\(∀ b∈fp,H' b=none)/\W i n b9 H') ?_ m0 ⟨0,σ,H2,I2,Au,λb hb=>(f2 b hb).1,w0⟩;rintro n s3 ⟨i,oS,H3,I3,AA,Za,w3⟩;rcases turn i n oS H3 w3 with⟨stop,qn⟩|⟨go,N,hN,step⟩
 ·refine IA hp (cK (T.done X rfl rfl rfl hc i pins s3 oS H3 X.xe I3 (stat Za) AA stop) λr s4 dQ=>?_);obtain⟨hr,I4⟩:=dQ;subst hr;exact wpAny_execs_nil ⟨oS,H3,I4,qn⟩
 ·refine IA hp (cK (T.item X rfl rfl rfl hc i pins s3 oS H3 X.xe I3 (stat Za) AA go) λr s4 dQ=>?_);obtain⟨u,hr,h4⟩:=dQ;subst hr;refine IA hp (cK h4 λ_ s5 dQ=>?_);obtain⟨x,H5,I5,r5,y5,JJ,RN⟩:=dQ;have I5':=I5.pinned (stat RN) (T.obj _ _ JJ);refine IA hp (cK (hg _ s5 oS H5 x u _ I5' r5 (step x H5 y5)) λ_ s6 dQ=>?_);obtain⟨σ6,H6,I6,q6⟩:=dQ;refine IA hp (cK (hb _ s6 σ6 H6 _ I6 q6) λf s7 q7=>?_);have again:∀ {A5:St} {H7:Hp},Inv X (pins++Pk fp s5.heap) A5 H7 s7->N A5 H7->∃ m,m<n/\∃ i b9 H',Inv X pins b9 H' s7/\tn i s7.heap/\(∀ b∈fp,H' b=none)/\W i m b9 H':=λ{A5 H7} I7 n7=>by obtain⟨m',hm,w7⟩:=hN A5 H7 n7;refine⟨m',hm,i+1,A5,H7,I7.RL,T.keep _ _ _ JJ λb hb o e=>(I7.pin (b,o) (fI _ (fI _ (RK hb e)))).1,λb hb=>?_,w7⟩;obtain⟨o,e,d⟩:=T.obj _ _ JJ b hb;exact(I7.pin (b,o) (fI _ (fI _ (RK hb e)))).2.1
  cases f with
  |next=>obtain⟨A5,H7,I7,n7⟩:=q7;exact again I7 n7
  |cont=>obtain⟨A5,H7,I7,n7⟩:=q7;exact again I7 n7
  |brk=>obtain⟨A5,H7,I7,q7⟩:=q7;exact⟨A5,H7,I7.RL,q7⟩
  |ret v=>obtain⟨x7,A5,H7,I7,r7,q7⟩:=q7;exact⟨x7,A5,H7,I7.RL,r7,q7⟩
end
abbrev R2:=V->V->Hp->VK->Prop
def eI(X:Cx)(f:ae->ae->Sem ae)(r:R2):Prop :=
 ∀ (pins:List (ag × Obj)) (s:ay) (σ:St) (H:Hp) (x y:V) (v u:ae) (Q:VK),Inv X pins σ H s->RelV x v->RelV y u->r x y H Q ->
  aI (aE X.prog X.w) X.A (f v u) (EP X pins σ Q) X.xe s
def RP(X:Cx)(f:ae->Sem ae)(r:V->Hp->VK->Prop):Prop :=
 ∀ (pins:List (ag × Obj)) (s:ay) (σ:St) (H:Hp) (x:V) (v:ae) (Q:VK),Inv X pins σ H s->RelV x v->r x H Q ->
  aI (aE X.prog X.w) X.A (f v) (EP X pins σ Q) X.xe s
def kC(X:Cx)(f:ae)(r:List V->Hp->VK->Prop):Prop :=
 ∀ (pins:List (ag × Obj)) (s:ay) (σ:St) (H:Hp) (xs:List V) (us:List ae) (Q:VK),Inv X pins σ H s->Vals xs us->r xs H Q ->
  aI (aE X.prog X.w) X.A (call f us) (EP X pins σ Q) X.xe s
def cW'(X:Cx)(r:V->Hp->(Bool->Hp->Prop)->Prop):Prop :=
 ∀ (pins:List (ag × Obj)) (s:ay) (σ:St) (H:Hp) (x:V) (v:ae) (Q:Bool->Hp->Prop),Inv X pins σ H s->RelV x v->r x H Q ->
  aI (aE X.prog X.w) X.A (truthy v) (TP X pins σ Q) X.xe s
def Pl(r:R2)(ta tb:TE):TE:=λσ H Q=>ta σ H λx H1=>tb σ H1 λy H2=>r x y H2 Q
def RQ(r:V->Hp->VK->Prop)(ta:TE):TE:=λσ H Q=>ta σ H λx H1=>r x H1 Q
def rI(C:Int->Int->Prop)(g:Int->Int->V):R2:=λx y H Q=>∃ i j,x=.int i/\y=.int j/\C i j/\Q (g i j) H
def JY(g:Int->Int->V):R2:=λx y H Q=>∃ i j,x=.int i/\y=.int j/\Q (g i j) H
def rU(g:Int->V):V->Hp->VK->Prop:=λx H Q=>∃ i,x=.int i/\Q (g i) H
section
variable {X:Cx}{a b:Expr}{ta tb:TE}{pos:Pos}
theorem UA(ha:PE X a ta)(hb:PE X b tb){pins:List (ag × Obj)}{s:ay}{σ:St}{H:Hp}{R:V->V->Hp->Prop}(I:Inv X pins σ H s)(h:ta σ H λx H1=>tb σ H1 λy H2=>R x y H2) {Q:ae->ay->Prop} {f:ae->ae->Sem ae}(hf:∀ v u s2 x y H2,Inv X pins σ H2 s2->RelV x v->RelV y u->R x y H2->aI (aE X.prog X.w) X.A (f v u) Q X.xe s2) :
  aI (aE X.prog X.w) X.A (dr a X.env) (λv fP=>aI (aE X.prog X.w) X.A (dr b X.env) (λu EE=>aI (aE X.prog X.w) X.A (f v u) Q X.xe EE) X.xe fP) X.xe s:=by
 refine cK (ha pins s σ H _ I h) λv s1 cS=>L2.gI cS λx H1 I1 r1 q1=>?_;refine cK (hb pins s1 σ H1 _ I1 q1) λu s2 cS=>L2.gI cS λy H2 I2 r2 q2=>?_;exact hf v u s2 x y H2 I2 r1 r2 q2
theorem cX'{op:Operator}{r:R2}(ho:eI X (oC op) r)(ha:PE X a ta)(hb:PE X b tb):PE X (.BinOp a op b pos) (Pl r ta tb):=by intro pins s σ H Q I h;exact wpAny_BinOp (UA ha hb I h λv u s2 x y H2 I2 rx ry q=>ho pins s2 σ H2 x y v u Q I2 rx ry q)
theorem cY'(ho:RP X (unaryOp op) r)(ha:PE X a ta):PE X (.UnaryOp op a pos) (RQ r ta):=by intro pins s σ H Q I h;exact UnaryOp_ (cK (ha pins s σ H _ I h) λv s1 cS=>L2.gI cS λx H1 I1 r1 q1=>ho pins s1 σ H1 x v Q I1 r1 q1)
theorem UB{f:ae->ae->Sem ae}{C:Int->Int->Prop}{g:Int->Int->Int}(rule:∀ (i j:Int) (t u:Tok) (s:ay) (Q:ae->ay->Prop) (E:ae->ay->Prop),C i j->Q (.int (g i j) s.toks) { s with toks:=s.toks+1 }->aI (aE X.prog X.w) X.A (f (.int i t) (.int j u)) Q E s) :
  eI X f (rI C λi j=>.int (g i j)):=by
 walk_at"c";obtain⟨i,j,rfl,rfl,hc,q⟩:=h;obtain⟨t,rfl⟩:=rx;obtain⟨t',rfl⟩:=ry;exact rule i j t t' s _ _ hc ⟨.int (g i j),H,I.tok _,⟨_,rfl⟩,q⟩
theorem Zb{f:ae->ae->Sem ae}{g:Int->Int->Int}(rule:∀ (i j:Int) (t u:Tok) (s:ay) (Q:ae->ay->Prop) (E:ae->ay->Prop),Q (.int (g i j) s.toks) { s with toks:=s.toks+1 }->aI (aE X.prog X.w) X.A (f (.int i t) (.int j u)) Q E s) :
  eI X f (JY λi j=>.int (g i j)):=by
 walk_at"c";obtain⟨i,j,rfl,rfl,q⟩:=h;obtain⟨t,rfl⟩:=rx;obtain⟨t',rfl⟩:=ry;exact rule i j t t' s _ _ ⟨.int (g i j),H,I.tok _,⟨_,rfl⟩,q⟩
theorem UC{f:ae->ae->Sem ae}{g:Int->Int->Bool}(rule:∀ (i j:Int) (t u:Tok) (s:ay) (Q:ae->ay->Prop) (E:ae->ay->Prop),Q (.bool (g i j)) s->aI (aE X.prog X.w) X.A (f (.int i t) (.int j u)) Q E s) :
  eI X f (JY λi j=>.bl (g i j)):=by
 walk_at"c";obtain⟨i,j,rfl,rfl,q⟩:=h;obtain⟨t,rfl⟩:=rx;obtain⟨t',rfl⟩:=ry;exact rule i j t t' s _ _ ⟨.bl (g i j),H,I,rfl,q⟩
def cZ'(i j:Int):Prop:=0<j/\j<1073741824
def B9(i j:Int):Prop:=(-(2 ^ 64)<i/\i<2 ^ 64)\/(-(2 ^ 64)<j/\j<2 ^ 64)
theorem B9.ok(h:B9 i j):IntMulOk i j:=by
 rcases h with⟨h1,h2⟩|⟨h1,h2⟩
 ·exact .of_left (intBits_le_64 h1 h2)
 ·exact .of_right (intBits_le_64 h1 h2)
theorem da':eI X (oC .Add) (JY λi j=>.int (i+j)):=Zb λ_ _ _ _ _ _ _ q=>add_int q
theorem db':eI X (oC .Sub) (JY λi j=>.int (i-j)):=Zb λ_ _ _ _ _ _ _ q=>sub_int q
theorem dc':eI X (oC .Mult) (rI B9 λi j=>.int (i*j)):=UB λ_ _ _ _ _ _ _ hc q=>mul_int q hc.ok
theorem de':eI X (oC .FloorDiv) (rI cZ' λi j=>.int (i / j)):=UB λi j _ _ _ _ _ hc q=>by have h1:(0:Int)<j:=hc.1;have h2:j<1073741824:=hc.2;exact floordiv_int (by lia) (by rw[Int.fdiv_eq_ediv_of_nonneg i (by exact EB ‹_›)];exact q) (.inl (PyProof.noPylong_small (by lia)))
theorem df':eI X (oC .Mod) (rI (λ_ j=>0<j) λi j=>.int (i % j)):=UB λi j _ _ _ _ _ hc q=>by have h1:(0:Int)<j:=hc;exact mod_int' (by lia) (by rw[Int.fmod_eq_emod_of_nonneg i (by exact EB ‹_›)];exact q)
theorem unI{f:ae->Sem ae}{g:Int->Int}(rule:∀ (i:Int) (t:Tok) (s:ay) (Q:ae->ay->Prop) (E:ae->ay->Prop),Q (.int (g i) s.toks) { s with toks:=s.toks+1 }->aI (aE X.prog X.w) X.A (f (.int i t)) Q E s) :
  RP X f (rU λi=>.int (g i)):=by
 intro pins s σ H x v Q I rx h;obtain⟨i,rfl,q⟩:=h;obtain⟨t,rfl⟩:=rx;exact rule i t s _ _ ⟨.int (g i),H,I.tok _,⟨_,rfl⟩,q⟩
theorem dh':RP X (unaryOp .USub) (rU λi=>.int (-i)):=unI λ_ _ _ _ _ q=>neg_int q
end
def Zc:V->V->Bool
 |.non,.non=>true|.non,.int _=>true|.int _,.non=>true|.non,.bl _=>true|.bl _,.non=>true|.non,.str _=>true|.str _,.non=>true
 |.int _,.int _=>true|.bl _,.bl _=>true|.str _,.str _=>true|.tP _,.tP _=>true
 |.int _,.str _=>true|.str _,.int _=>true|.bl _,.str _=>true|.str _,.bl _=>true
 |_,_=>false
def rEq:R2:=λx y H Q=>Zc x y=true/\Q (.bl (decide (x=y))) H
def rNe:R2:=λx y H Q=>Zc x y=true/\Q (.bl (!decide (x=y))) H
theorem Zd:decide (V.int i=V.int j)=(i == j):=by rw[zv];simp
theorem Ze:decide (V.bl i=V.bl j)=(i == j):=by rw[zv];simp
theorem Zf:decide (V.str i=V.str j)=(i == j):=by rw[zv];simp
theorem Zg:decide (V.tP i=V.tP j)=(i.toList == j.toList):=by rw[zv];cases i;cases j;simp
section
variable {X:Cx}{a b c:Expr}{ta tb tc:TE}{pos:Pos}
theorem iA(I:Inv X pins σ H s)(q:Q (.bl k) H)(e:k=k'):EP X pins σ Q (.bool k') s:=by subst e;exact⟨.bl k,H,I,rfl,q⟩
theorem dl':eI X (hJ .Eq) rEq:=by
 walk_at"c";obtain⟨hs,q⟩:=h
 cases x with
 |non =>
  cases rx
  cases y with
  |non=>cases ry;exact PySem.EqNone.eq_none_none (iA I q (by simp))
  |bl j=>cases ry;exact PySem.EqNone.eq_none_bool (iA I q (by simp))
  |int j=>obtain⟨t',rfl⟩:=ry;exact PySem.EqNone.eq_none_int (iA I q (by simp))
  |str j=>obtain⟨t',rfl⟩:=ry;exact PySem.EqNone.eq_none_str (iA I q (by simp))
  |_=>exact absurd (show false=true from hs) kB
 |bl i =>
  cases rx
  cases y with
  |non=>cases ry;exact PySem.EqNone.eq_bool_none (iA I q (by simp))
  |bl j=>cases ry;exact eq_bool (iA I q Ze)
  |str j=>obtain⟨t',rfl⟩:=ry;exact PySem.EqMixed.eq_bool_str (iA I q (by simp))
  |_=>exact absurd (show false=true from hs) kB
 |int i =>
  obtain⟨t,rfl⟩:=rx
  cases y with
  |non=>cases ry;exact PySem.EqNone.eq_int_none (iA I q (by simp))
  |int j=>obtain⟨t',rfl⟩:=ry;exact eq_int (iA I q Zd)
  |str j=>obtain⟨t',rfl⟩:=ry;exact PySem.EqMixed.eq_int_str (iA I q (by simp))
  |_=>exact absurd (show false=true from hs) kB
 |str i =>
  obtain⟨t,rfl⟩:=rx
  cases y with
  |non=>cases ry;exact PySem.EqNone.eq_str_none (iA I q (by simp))
  |bl j=>cases ry;exact PySem.EqMixed.eq_str_bool (iA I q (by simp))
  |int j=>obtain⟨t',rfl⟩:=ry;exact PySem.EqMixed.eq_str_int (iA I q (by simp))
  |str j=>obtain⟨t',rfl⟩:=ry;exact eq_str (iA I q Zf)
  |_=>exact absurd (show false=true from hs) kB
 |tP i =>
  obtain⟨t,rfl⟩:=rx
  cases y with
  |tP j=>obtain⟨t',rfl⟩:=ry;exact PySem.W.eq_bytes (iA I q Zg)
  |_=>exact absurd (show false=true from hs) kB
 |_=>cases y<;>exact absurd (show false=true from hs) kB
theorem dm':eI X (hJ .NotEq) rNe:=by
 walk_at"c";obtain⟨hs,q⟩:=h
 cases x with
 |non =>
  cases rx
  cases y with
  |non=>cases ry;exact PySem.EqNone.ne_none_none (iA I q (by simp))
  |bl j=>cases ry;exact PySem.EqNone.ne_none_bool (iA I q (by simp))
  |int j=>obtain⟨t',rfl⟩:=ry;exact PySem.EqNone.ne_none_int (iA I q (by simp))
  |str j=>obtain⟨t',rfl⟩:=ry;exact PySem.EqNone.ne_none_str (iA I q (by simp))
  |_=>exact absurd (show false=true from hs) kB
 |bl i =>
  cases rx
  cases y with
  |non=>cases ry;exact PySem.EqNone.ne_bool_none (iA I q (by simp))
  |bl j=>cases ry;exact ne_bool (iA I q (congrArg not Ze))
  |str j=>obtain⟨t',rfl⟩:=ry;exact PySem.EqMixed.ne_bool_str (iA I q (by simp))
  |_=>exact absurd (show false=true from hs) kB
 |int i =>
  obtain⟨t,rfl⟩:=rx
  cases y with
  |non=>cases ry;exact PySem.EqNone.ne_int_none (iA I q (by simp))
  |int j=>obtain⟨t',rfl⟩:=ry;exact ne_int (iA I q (congrArg not Zd))
  |str j=>obtain⟨t',rfl⟩:=ry;exact PySem.EqMixed.ne_int_str (iA I q (by simp))
  |_=>exact absurd (show false=true from hs) kB
 |str i =>
  obtain⟨t,rfl⟩:=rx
  cases y with
  |non=>cases ry;exact PySem.EqNone.ne_str_none (iA I q (by simp))
  |bl j=>cases ry;exact PySem.EqMixed.ne_str_bool (iA I q (by simp))
  |int j=>obtain⟨t',rfl⟩:=ry;exact PySem.EqMixed.ne_str_int (iA I q (by simp))
  |str j=>obtain⟨t',rfl⟩:=ry;exact ne_str (iA I q (congrArg not Zf))
  |_=>exact absurd (show false=true from hs) kB
 |tP i =>
  obtain⟨t,rfl⟩:=rx
  cases y with
  |tP j=>obtain⟨t',rfl⟩:=ry;exact PySem.W.ne_bytes (iA I q (congrArg not Zg))
  |_=>exact absurd (show false=true from hs) kB
 |_=>cases y<;>exact absurd (show false=true from hs) kB
theorem dn':eI X (hJ .Lt) (JY λi j=>.bl (decide (i<j))):=UC λ_ _ _ _ _ _ _ q=>lt_int q
theorem dq':eI X (hJ .LtE) (JY λi j=>.bl (decide (i<=j))):=UC λ_ _ _ _ _ _ _ q=>le_int q
theorem dr':eI X (hJ .Gt) (JY λi j=>.bl (decide (j<i))):=UC λ_ _ _ _ _ _ _ q=>gt_int q
theorem ds':eI X (hJ .Lt) (λx y H Q=>∃ i j,x=.str i/\y=.str j/\Q (.bl (decide (i.cps.toList<j.cps.toList))) H):=by intro pins s σ H x y v u Q I rx ry h;obtain⟨i,j,rfl,rfl,q⟩:=h;obtain⟨t,rfl⟩:=rx;obtain⟨t',rfl⟩:=ry;exact lt_str (iA I q rfl)
theorem dt':eI X (hJ .In) (λx y H Q=>∃ i j,x=.str i/\y=.str j/\Q (.bl (!(Builtin.Str.occurrences j i 0 j.length 1).isEmpty)) H):=by intro pins s σ H x y v u Q I rx ry h;obtain⟨i,j,rfl,rfl,q⟩:=h;obtain⟨t,rfl⟩:=rx;obtain⟨t',rfl⟩:=ry;exact in_str (iA I q rfl)
theorem UD:eI X (hJ .IsNot) (λx y H Q=>y=.non/\Q (.bl (!decide (x=.non))) H):=by
 walk_at"c";obtain⟨rfl,q⟩:=h;cases ry;refine isnot_none_gen (iA I q ?_);cases x<;>first
  | (cases rx;rfl)
  | (obtain⟨t,rfl⟩:=rx;rfl)
theorem du':eI X (hJ .NotIn) (λx y H Q=>∃ i j,x=.str i/\y=.str j/\Q (.bl (!(!(Builtin.Str.occurrences j i 0 j.length 1).isEmpty))) H):=by intro pins s σ H x y v u Q I rx ry h;obtain⟨i,j,rfl,rfl,q⟩:=h;obtain⟨t,rfl⟩:=rx;obtain⟨t',rfl⟩:=ry;exact notIn_str (iA I q rfl)
theorem eI.or(h:eI X f r)(h':eI X f r'):eI X f (λx y H Q=>r x y H Q\/r' x y H Q):=by
 intro pins s σ H x y v u Q I rx ry q;rcases q with q|q
 ·exact h pins s σ H x y v u Q I rx ry q
 ·exact h' pins s σ H x y v u Q I rx ry q
theorem Zh(b:Expr)(h:op≠.In:=by decide)(h2:op≠.NotIn:=by decide):L8 op b=false:=by
 have e1:(op == CmpOp.In)=false:=by cases op<;>first|rfl|exact absurd rfl h
 have e2:(op == CmpOp.NotIn)=false:=by cases op<;>first|rfl|exact absurd rfl h2
 cases b<;>simp[L8,e1,e2]
theorem dv'{op:CmpOp}{r:R2}(ho:eI X (hJ op) r)(ha:PE X a ta)(hb:PE X b tb)(hm:L8 op b=false):PE X (.Compare a [op] [b] pos) (Pl r ta tb):=by intro pins s σ H Q I h;exact wpAny_Compare1 (UA ha hb I h λv u s2 x y H2 I2 rx ry q=>ho pins s2 σ H2 x y v u Q I2 rx ry q) hm
def UE(t:TE):TT:=λσ H Q=>t σ H λx H'=>∃ k,x=.bl k/\Q k H'
theorem dw'(ho:eI X (hJ op) r)(ha:PE X a ta)(hb:PE X b tb)(hm:L8 op b=false):PT X (.Compare a [op] [b] pos) (UE (Pl r ta tb)):=by
 intro pins s σ H Q I h;refine wpAny_isTrue_Compare1 (cK (ha pins s σ H _ I h) λv s1 cS=>L2.gI cS λx H1 I1 r1 q1=>cK (hb pins s1 σ H1 _ I1 q1) λu s2 cS=>L2.gI cS λy H2 I2 r2 q2 =>
  cK (ho pins s2 σ H2 x y v u _ I2 r1 r2 q2) λc s3 ⟨z,H3,I3,r3,k,e,q3⟩=>?_) hm
 subst e;cases r3;exact Iy ⟨H3,I3,q3⟩
def Zi(r r':R2)(ta tb tc:TE):TE:=λσ H Q=>ta σ H λx H1=>tb σ H1 λy H2=>r x y H2 λz H3=>∃ k,z=.bl k /\ (if k=true then tc σ H3 λw' H4=>r' y w' H4 Q else Q (.bl false) H3)
theorem dx'(ho:eI X (hJ op) r)(ot:eI X (hJ op') r')(ha:PE X a ta)(hb:PE X b tb)(hc:PE X c tc)(hm:lastMarks [op,op'] [b,c]=false:=by with_unfolding_all rfl):PT X (.Compare a [op,op'] [b,c] pos) (UE (Zi r r' ta tb tc)):=by
 intro pins s σ H Q I h;refine isTrue_chain (cK (ha pins s σ H _ I h) λv s1 cS=>L2.gI cS λx H1 I1 r1 q1=>test_link (cK (hb pins s1 σ H1 _ I1 q1) λu s2 cS=>L2.gI cS λy H2 I2 r2 q2 =>
  cK (ho pins s2 σ H2 x y v u _ I2 r1 r2 q2) λd s3 ⟨z,H3,I3,r3,k,e,q3⟩=>?_)) hm
 subst e;cases r3;refine Iy ?_
 cases k with
 |false =>obtain⟨k',e',q'⟩:=q3;cases e';exact ite_ff ⟨H3,I3,q'⟩
 |true =>refine ite_tt (test_last (cK (hc pins s3 σ H3 _ I3 q3) λw' s4 ⟨z',H4,I4,r4,q4⟩=>cK (ot pins s4 σ H4 y z' u w' _ I4 r2 r4 q4) λd' s5 dQ=>?_));obtain⟨z2,H5,I5,r5,k2,e2,q5⟩:=dQ;subst e2;cases r5;exact Iy ⟨H5,I5,q5⟩
def UG(K:aC)(x:V)(H:Hp)(k:Bool):Prop :=
 match x with
 |.non=>k=false
 |.bl b=>k=b
 |.int i=>k=(i != 0)
 |.str y=>y.length<=bS/\k=((y.length:Int) != 0)
 |.tP y=>y.size<=bS/\k=((y.size:Int) != 0)
 |.ref p=>(∃ xs,fw K H p xs/\k = !xs.isEmpty)\/(∃ xs,oQ K H p xs/\k = !xs.isEmpty)\/∃ kvs,H p=some (.dK kvs)/\k = !kvs.isEmpty
 |_=>False
theorem dy'{κ:Type}{kvs:List (κ × V)}{vs:List (κ × ae)}(r:KV kvs vs):(!vs.isEmpty) = !kvs.isEmpty:=by cases r<;>rfl
theorem Zj(r:Vals xs its):(!its.toArray.isEmpty) = !xs.isEmpty:=by cases r<;>simp
theorem Pm:(bS:Nat)<2 ^ 63:=by rw[jI];decide
theorem dz':cW' X (λx H Q=>∃ k,UG X.K x H k/\Q k H):=by
 intro pins s σ H x v Q I rx h;obtain⟨k,e,q⟩:=h;have hl:=Pm;have hs:bS=16777216:=jI
 cases x with
 |non =>cases rx;have e':k=false:=e;subst e';exact truthy_none ⟨H,I,q⟩
 |bl b =>cases rx;have e':k=b:=e;subst e';exact Iy ⟨H,I,q⟩
 |int i =>obtain⟨t,rfl⟩:=rx;have e':k=(i != 0):=e;subst e';exact PySem.P.truthy_int ⟨H,I,q⟩
 |str y =>obtain⟨t,rfl⟩:=rx;obtain⟨hy,e'⟩:y.length<=bS/\k=((y.length:Int) != 0):=e;subst e';exact PySem.P.truthy_str (by lia) ⟨H,I.tok _,q⟩
 |tP y =>obtain⟨t,rfl⟩:=rx;obtain⟨hy,e'⟩:y.size<=bS/\k=((y.size:Int) != 0):=e;subst e';exact PySem.W.truthy_bytes (by lia) ⟨H,I.tok _,q⟩
 |ref p =>
  cases rx;have e':(∃ xs,fw X.K H p xs/\k = !xs.isEmpty)\/(∃ xs,oQ X.K H p xs/\k = !xs.isEmpty)\/∃ kvs,H p=some (.dK kvs)/\k = !kvs.isEmpty:=e;rcases e' with⟨xs,hx,e'⟩|⟨xs,hx,e'⟩|⟨kvs,hx,e'⟩
  ·subst e';obtain⟨its,r,pl,hz⟩:=I.list hx;have hlen:=r.length;exact wpAny_truthy_list pl.isList (by simp only[kA];lia) ⟨H,I.tok _,by rw[Zj r];exact q⟩
  ·subst e';obtain⟨its,r,pl,hz⟩:=I.tuple hx;have hlen:=r.length;exact truthy_tuple pl (by simp only[kA];lia) ⟨H,I.tok _,by rw[Zj r];exact q⟩
  ·subst e';obtain⟨hz,hS,vs,r,m⟩:kvs.length<=bS/\(p == oB)=false/\∃ vs,KV kvs vs/\s.heap.DictOf (iL X.prog X.w) p vs:=I.b6 p _ hx;have hlen:kvs.length=vs.length:=Paired.length r;exact wpAny_truthy_dict hS m (by lia) ⟨H,I.tok _,by rw[dy' r];exact q⟩
 |_=>exact(show False from e).elim
theorem dA'(ha:PE X a ta)(he:∀ whole,isTrue a X.env whole=(do let v <- whole;standAt a.pos;holding [v] (truthy v))) :
  PT X a (λσ H Q=>ta σ H λx H'=>∃ k,UG X.K x H' k/\Q k H'):=by
 walk_at"v";exact isTrue_plain (cK (ha pins s σ H _ I h) λv s1 cS=>L2.gI cS λx H1 I1 r1 q1=>dz' pins s1 σ H1 x v Q I1 r1 q1) (he _)
theorem dB':eI X (oC .Add) (λx y H Q=>∃ i j,x=.str i/\y=.str j/\i.length+j.length<=bS/\Q (.str (i++j)) H):=by intro pins s σ H x y v u Q I rx ry h;obtain⟨i,j,rfl,rfl,hz,q⟩:=h;obtain⟨t,rfl⟩:=rx;obtain⟨t',rfl⟩:=ry;exact add_str (λt' tk=>⟨.str (i++j),H,I.tok _,⟨_,rfl⟩,q⟩) hz
theorem vals1(r:Vals [x] us):∃ u,us=[u]/\RelV x u:=by
 cases r with
 |cons r1 r2=>cases r2;exact⟨_,rfl,r1⟩
theorem vals2(r:Vals [x,y] us):∃ u w',us=[u,w']/\RelV x u/\RelV y w':=by
 cases r with
 |cons r1 r2 =>
  cases r2 with
  |cons r3 r4=>cases r4;exact⟨_,_,rfl,r1,r3⟩
theorem dC' (hc:X.calm=true):kC X (.builtin "min") (λxs H Q=>∃ i j,xs=[.int i,.int j]/\Q (.int (if j<i then j else i)) H):=by
 walk_at"f";obtain⟨i,j,rfl,q⟩:=h;obtain⟨u,w',rfl,⟨t,rfl⟩,⟨t',rfl⟩⟩:=vals2 r;refine min_two_ints (I.ok.hd hc) λh' tk k=>⟨_,H,I.kept k,?_,q⟩
 by_cases hj:j<i
 ·rw[if_pos hj,if_pos hj];exact⟨_,rfl⟩
 ·rw[if_neg hj,if_neg hj];exact⟨_,rfl⟩
theorem dD':kC X (.type "int") (λxs H Q=>(∃ i,xs=[.int i]/\Q (.int i) H)\/∃ k,xs=[.bl k]/\Q (.int (if k then 1 else 0)) H):=by
 walk_at"f";rcases h with⟨i,rfl,q⟩|⟨k,rfl,q⟩
 ·obtain⟨u,rfl,t,rfl⟩:=vals1 r;exact call_int_int ⟨.int i,H,I,⟨_,rfl⟩,q⟩
 ·obtain⟨u,rfl,r1⟩:=vals1 r;cases r1;exact call_int_bool ⟨.int (if k then 1 else 0),H,I.tok _,⟨_,rfl⟩,q⟩
def dE'(K:aC)(x:V)(H:Hp)(n:Nat):Prop :=
 match x with
 |.str y=>y.length<=bS/\n=y.length
 |.tP y=>y.size<=bS/\n=y.size
 |.ref p=>(∃ xs,fw K H p xs/\n=xs.length)\/∃ xs,oQ K H p xs/\n=xs.length
 |_=>False
theorem UH:kC X (.builtin "len") (λxs H Q=>∃ x n,xs=[x]/\dE' X.K x H n/\Q (.int n) H):=by
 walk_at"f";obtain⟨x,n,rfl,e,q⟩:=h;obtain⟨u,rfl,rx⟩:=vals1 r;have hl:=Pm;have hs:bS=16777216:=jI
 cases x with
 |str y =>obtain⟨t,rfl⟩:=rx;obtain⟨hy,e'⟩:y.length<=bS/\n=y.length:=e;subst e';exact len_str (by lia) ⟨.int _,H,I.tok _,⟨_,rfl⟩,q⟩
 |tP y =>obtain⟨t,rfl⟩:=rx;obtain⟨hy,e'⟩:y.size<=bS/\n=y.size:=e;subst e';exact PySem.W.len_bytes (by walk_at "s4") ⟨.int _,H,I.tok _,⟨_,rfl⟩,q⟩
 |ref p =>
  cases rx;have e':(∃ xs,fw X.K H p xs/\n=xs.length)\/∃ xs,oQ X.K H p xs/\n=xs.length:=e;rcases e' with⟨xs,hx,e'⟩|⟨xs,hx,e'⟩
  ·subst e';obtain⟨its,r',pl,hz⟩:=I.list hx;have hlen:=r'.length;exact Calls.call_len_list pl.isList (by simp only[kA];lia) ⟨.int xs.length,H,I.tok _,⟨_,by simp only[kA];rw[hlen]⟩,q⟩
  ·subst e';obtain⟨its,r',pl,hz⟩:=I.tuple hx;have hlen:=r'.length;exact len_tuple pl (by simp only[kA];lia) ⟨.int xs.length,H,I.tok _,⟨_,by simp only[kA];rw[hlen]⟩,q⟩
 |_=>exact(show False from e).elim
end
structure dF'(h:dy)(x dx C:ag)(mA:Str->Option ae):Prop where
 obj:h.get? x=some (PySem.W.instObj C dx)
 ns:h.Ns1 dx mA
 ne:dx≠x
theorem xE.some_of(r:xE (some v) o):∃ u,o=some u/\RelV v u:=by
 cases o with
 |none=>exact(show False from r).elim
 |some u=>exact⟨u,rfl,r⟩
section
variable {P:d4}{w:eB}{H:Hp}{h:dy}{a C dx:ag}{fs:List (Str × V)}
theorem UI(b6:j3 P w H h)(e:H a=some (.ins C dx fs)):∃ mA,dF' h a dx C mA/\(∀ f,xE (fs.lookup f) (mA f))/\PySem.Within mA (fs.map (·.1))/\fs.length<=1000/\H dx=some (.own a):=by
 obtain⟨d,z,ne,ob,mA,n,r,q⟩:=(show gL P w H h a (.ins C dx fs) from b6 a _ e)
 exact⟨mA,⟨ob,n,ne⟩,r,q,z,d⟩
end
structure nv(k:Nat)(A:fm):Prop where
 hd:A.handled=none
 dp:A.depth+3*k+5<recursionLimit
 un:A.units+16*k+200<fe
theorem nv.mono(r:nv k A)(h:j<=k):nv j A:=⟨r.hd,by have:=r.dp;lia,by have:=r.un;lia⟩
theorem nv.deeper(r:nv (k+1) A)(env:Env):nv k (A.deeper env) :=
 ⟨r.hd,by have:=r.dp;show A.depth+1+3*k+5<_;lia,by have:=r.un;show A.units+3+16*k+200<_;lia⟩
theorem nv.depth(r:nv k A):A.depth<recursionLimit:=by have:=r.dp;lia
theorem nv.units(r:nv k A):A.units+64<fe:=by have:=r.un;lia
def UJ:TA:=λ_ H Q=>Q [] H
def UK(ta:TE)(tr:TA):TA:=λσ H Q=>ta σ H λx H1=>tr σ H1 λxs H2=>Q (x :: xs) H2
section
variable {X:Cx}{e:Expr}{es:List Expr}{te:TE}{t:TA}{pos:Pos}
theorem x5:PA X [] UJ:=λ_ _ _ _ H Q I h=>Calls.spliced_nil ⟨[],H,I,.nil,h⟩
theorem tT(ha:PE X e te)(hr:PA X es t)(hs:cc (e :: es) X.env=(false,dr e X.env) :: cc es X.env:=by rfl):PA X (e :: es) (UK te t):=by intro pos pins s σ H Q I h;rw[hs];show aI _ _ (spliced ((false,dr e X.env) :: k6 pos (cc es X.env))) _ _ s;refine Calls.spliced_cons (cK (ha pins s σ H _ I h) λu s1 cS=>L2.gI cS λx H1 I1 r1 q1=>?_);exact cK (hr pos pins s1 σ H1 _ I1 q1) λus s2 cS=>L2.gI cS λxs H2 I2 r2 q2=>⟨x :: xs,H2,I2,.cons r1 r2,q2⟩
def dG'(t:TA):TE:=λσ H Q=>t σ H λxs H1=>xs.length<=bS/\∀ p,H1 p=none->Q (.ref p) (upd H1 p (.tup xs))
def dH'(t:TA):TE:=λσ H Q=>t σ H λxs H1=>xs.length<=bS/\∀ p,H1 p=none->Q (.ref p) (upd H1 p (.lst xs))
theorem dI'{x1}(h:PA X es t):PE X (.Tuple es x1 pos) (dG' t):=by intro pins s σ H Q I hq;refine wpAny_Tuple_spliced (cK (h pos pins s σ H _ I hq) λus s1 ⟨xs,H1,I1,r,z,q⟩=>⟨by rw[<- r.length];exact z,?_⟩);have hf:H1 s1.heap.objs.size=none:=I1.b6.fresh (cx _);refine⟨.ref s1.heap.objs.size,upd H1 s1.heap.objs.size (.tup xs),I1.laid (t':=s1.toks) (λb u e=>gd _ e) (cx _) ?_,rfl,q _ hf⟩;exact⟨z,us,r,⟨_,kK _ rfl,rfl,_,rfl⟩⟩
theorem dJ'(h:PA X es t):PE X (.List es pos) (dH' t):=by intro pins s σ H Q I hq;refine wpAny_List_spliced (cK (h pos pins s σ H _ I hq) λus s1 ⟨xs,H1,I1,r,z,q⟩=>⟨by rw[<- r.length];exact z,?_⟩);have hf:H1 s1.heap.objs.size=none:=I1.b6.fresh (cx _);refine⟨.ref s1.heap.objs.size,upd H1 s1.heap.objs.size (.lst xs),I1.laid (t':=s1.toks) (λb u e=>gd _ e) (cx _) ?_,rfl,q _ hf⟩;exact⟨z,us,0,r,kK _ rfl⟩
end
abbrev Sp:=List V->Hp->VK->XK->Prop
abbrev FR:=List Env->Hp->ay->XK->ae->ay->Prop
structure RT(P:d4)(w:eB)(K:aC)(mg:Str->Option ae)(base:dy)(A:fm)(outer:List Env)(s:ay)(H:Hp):Prop where
 frames:A.frames=some outer
 mod:Mod K mg base
 bs:∀ b o,base.get? b=some o->s.heap.get? b=some o/\H b=none
 FH:base.objs.size<=s.heap.objs.size
 A3:s.heap.FunFrames base outer
 Nn:∀ b∈AZ outer,H b=none
 b6:j3 P w H s.heap
 bare:AllBare s.gens
def CE(outer:List Env)(P:d4)(w:eB)(H:Hp)(s:ay)(Q:VK)(u:ae)(s':ay):Prop :=
 ∃ v H',s'.os=s.os/\AllBare s'.gens/\Un (AZ outer) [] H H' s.heap s'.heap/\j3 P w H' s'.heap/\RelV v u/\Q v H'
def CR(CX:FR)(outer:List Env)(P:d4)(w:eB)(H:Hp)(s:ay)(Q:VK)(E:XK)(r:Result)(s':ay):Prop :=
 match r with
 |.ok (.ret u)=>CE outer P w H s Q u s'
 |.ok _=>False
 |.error e=>CX outer H s E e s'
structure AB(P:d4)(w:eB)(K:aC)(mg:Str->Option ae)(base:dy)(CX:FR)(k:Nat)(f:ag)(fd:FuncData)(ps:List Str)(sp:Sp):Prop where
 len:∀ vs H Q E,sp vs H Q E->vs.length=ps.length
 run:∀ (A:fm) (outer:List Env) (s:ay) (H:Hp) (args:Args) (us:List ae) (vs:List V) (Q:VK) (E:XK),nv k A->RT P w K mg base A outer s H->BindsTo s fd args (ps.zip us)->Vals vs us->sp vs H Q E ->
  codeAny (aE P w) A (.call (.ref f) args) (CR CX outer P w H s Q E) s
section
variable {X:Cx}{pins:List (ag × Obj)}{σ:St}{H:Hp}{s s':ay}
theorem Inv.dK'(I:Inv X pins σ H s):RT X.prog X.w X.K X.mg X.base X.A X.stack s H :=
 ⟨I.ok.frames,I.ok.mod,I.bs,iX I.ok.FH I.sz,I.stack,I.WL,I.b6,I.bare⟩
theorem Inv.after(I:Inv X pins σ H s)(h:CE X.stack X.prog X.w H s Q u s'):EP X pins σ Q u s':=by obtain⟨v,H',os,bare,un,b6,r,q⟩:=h;obtain⟨hh,g,d,t,os'⟩:=s';obtain rfl:os'=s.os:=os;exact⟨v,H',I.call (h':=hh) (g':=g) (d':=d) (t':=t) (ch:=[]) un b6 bare (λb z=>absurd z (by simp)),r,q⟩
end
def UL(sp:Sp)(FT:List V)(E:XK)(t:TA):TE:=λσ H Q=>t σ H λvs H1=>sp (vs++FT) H1 Q E
def Binds(K:aC)(fd:FuncData)(ps:List Str)(ds:List ae):Prop :=
 ∀ (s:ay) (us:List ae),K.In s.heap->(us++ds).length=ps.length->BindsTo s fd ⟨us,[]⟩ (ps.zip (us++ds))
theorem Binds.all{K:aC}{ps:List Str}(h:∀ us:List ae,us.length=ps.length->bindArgs fd ⟨us,[]⟩=pure (ps.zip us)):Binds K fd ps []:=λs us _ hl=>by rw[pV] at hl ⊢;exact .of_eq (h us hl)
def Passes(CX:FR)(X:Cx)(E:XK):Prop:=∀ (pins:List (ag × Obj)) (σ:St) (H:Hp) (s:ay) (e:ae) (s':ay),Inv X pins σ H s->CX X.stack H s E e s'->X.xe e s'
section
variable {X:Cx}{CX:FR}{k:Nat}{f:ag}{fd:FuncData}{ps:List Str}{sp:Sp}{FT:List V}{ds:List ae}{E:XK}{x:Str}{p pos:Pos}{e:Expr}{es:List Expr}{t:TA}
theorem dM'(F:AB X.prog X.w X.K X.mg X.base CX k f fd ps sp)(hr:nv k X.A)(hb:Binds X.K fd ps ds)(hd:Vals FT ds)(hx:Passes CX X E)(I:Inv X pins σ H s) (r:Vals vs us) (h:sp (vs++FT) H Q E):aI (aE X.prog X.w) X.A (call (.ref f) us) (EP X pins σ Q) X.xe s:=by
 have r2:Vals (vs++FT) (us++ds):=r.append hd;have hl:(us++ds).length=ps.length:=by rw[<- r2.length];exact F.len _ _ _ _ h
 refine wpAny_call (codeAny_mono (F.run X.A X.stack s H ⟨us,[]⟩ (us++ds) (vs++FT) Q E hr I.dK' (hb s us I.zS hl) r2 h) λr s' hq=>?_)
 cases r with
 |error e=>exact hx pins σ H s e s' I hq
 |ok fl =>
  cases fl with
  |ret u=>exact I.after hq
  |next=>exact False.elim hq
  |brk=>exact False.elim hq
  |cont=>exact False.elim hq
theorem dN'(F:AB X.prog X.w X.K X.mg X.base CX k f fd ps sp)(hr:nv k X.A)(hg:Gl X x)(hm:X.mg x=some (.ref f))(hk:IC X.K (.ref f)=true)(hb:Binds X.K fd ps ds)(hd:Vals FT ds)(hx:Passes CX X E)(ha:PA X (e :: es) t) (t5:(x == ("__debug__" : Str))=false:=by decide) (he:cc (e :: es) X.env=(false,dr e X.env) :: cc es X.env:=by rfl) (pd:(k6 pos (cc es X.env)).any (·.1)=false:=by rfl) :
  PE X (.Call (.Name x p) (e :: es) [] pos) (UL sp FT E t):=by
 walk_at"v";refine DU (co' I hg hm ?_ t5);refine PySem.W.callWith_K (h₀:=X.base) I.ok.mod.zI hk (cK (ha pos pins s σ H _ I h) λus s1 cS=>L2.gI cS λvs H1 I1 r q=>⟨I1.zS,?_⟩) he pd;exact dM' F hr hb hd hx I1 r q
end
structure Pn(N P:List Str)(sc:Scope):Prop where
 kind:sc.kind=.function
 co:sc.isCoroutine=false
 gen:sc.isGenerator=false
 nd:N.Nodup
 pre:N.take P.length=P
 par:∀ x∈P,sc.names.lookup x=some .local\/sc.names.lookup x=some .cell
 dO':∀ y∈sc.names,y.2≠.free
theorem Zk{fq:Str->Option AU}:∀ {binds:List (Str × ae)} {m:Str->Option ae},(∀ v,(x,v)∉binds)->bindL fq binds m x=m x
 |[],_,_=>rfl
 | (n,v) :: r,m,h=>by
  unfold bindL;rw[Zk λw hw=>h w (df _ hw)];split
  ·have:x≠n:=by rintro rfl;exact h v cE
   simp[this]
  ·rfl
theorem Zm{fq:Str->Option AU}:∀ {binds:List (Str × ae)} {m:Str->Option ae},(∀ v,(x,v)∉binds)->bindC fq binds m x=m x
 |[],_,_=>rfl
 | (n,v) :: r,m,h=>by
  unfold bindC;rw[Zm λw hw=>h w (df _ hw)];split
  ·rfl
  ·have:x≠n:=by rintro rfl;exact h v cE
   simp[this]
theorem Zn{fq:Str->Option AU}:∀ {P:List Str} {vs:List ae} {i:Nat} {m:Str->Option ae},P.Nodup->P[i]? = some x->vs[i]? = some v->fq x=some .local ->
  bindL fq (P.zip vs) m x=some v
 |[],_,_,_,_,h,_,_=>by simp at h
 |_ :: _,[],_,_,_,_,h,_=>by simp at h
 |p :: P,w :: vs,0,m,nd,h1,h2,hk=>by simp at h1 h2;subst h1;subst h2;show bindL fq ((p,w) :: P.zip vs) m p=_;unfold bindL;rw[Zk λv hv=>(k7.mp nd).1 (List.of_mem_zip hv).1,if_pos hk];simp
 |p :: P,w :: vs,i+1,m,nd,h1,h2,hk=>by show bindL fq ((p,w) :: P.zip vs) m x=_;unfold bindL;exact Zn (i:=i) (k7.mp nd).2 (by simpa using h1) (by simpa using h2) hk
theorem Zo{fq:Str->Option AU}:∀ {P:List Str} {vs:List ae} {i:Nat} {m:Str->Option ae},P.Nodup->P[i]? = some x->vs[i]? = some v->fq x≠some .local ->
  bindC fq (P.zip vs) m x=some v
 |[],_,_,_,_,h,_,_=>by simp at h
 |_ :: _,[],_,_,_,_,h,_=>by simp at h
 |p :: P,w :: vs,0,m,nd,h1,h2,hk=>by simp at h1 h2;subst h1;subst h2;show bindC fq ((p,w) :: P.zip vs) m p=_;unfold bindC;rw[Zm λv hv=>(k7.mp nd).1 (List.of_mem_zip hv).1,if_neg hk];simp
 |p :: P,w :: vs,i+1,m,nd,h1,h2,hk=>by show bindC fq ((p,w) :: P.zip vs) m x=_;unfold bindC;exact Zo (i:=i) (k7.mp nd).2 (by simpa using h1) (by simpa using h2) hk
def start(N:List Str)(vs:List V):St:=vs.map some++List.replicate (N.length-vs.length) none
def Cb(CX:FR)(P:d4)(w:eB)(K:aC)(mg:Str->Option ae)(base:dy)(N:List Str)(qual:Str)(scope:Scope)(f:ag)(cd:ae)(A:fm)(outer:List Env)(s:ay)(H:Hp)(E:XK):Cx where
 prog:=P
 w:=w
 K:=K
 mg:=mg
 base:=base
 A:=A.deeper (envOfC qual scope s.heap.objs.size f cd)
 N:=N
 k8:=s
 oP:=H
 env:=envOfC qual scope s.heap.objs.size f cd
 outer:=outer
 stack:=envOfC qual scope s.heap.objs.size f cd :: outer
 ex:=[]
 calm:=true
 fn:=λ_=>true
 pn:=[]
 xe:=λe s'=>aI (aE P w) (A.deeper (envOfC qual scope s.heap.objs.size f cd)) (leaving (envOfC qual scope s.heap.objs.size f cd) e) (λ_ FU=>CX outer H s E e FU) (λe' FU=>CX outer H s E e' FU) s'
theorem Zq{sc:Scope}{n:Nat}{x:Str}(h:sc.names.lookup x=some .cell):∃ c,(cellsFrom n sc.names []).lookup x=some c:=by have q:=PySem.W.cellsFrom_some sc.names n [] (.inl h);exact Ug.mp q
theorem dP'{CX:FR}{P:d4}{w:eB}{K:aC}{mg:Str->Option ae}{base:dy}{N ps:List Str}{qual:Str}{scope:Scope}{f:ag}{cd:ae}{A:fm}{outer:List Env}{s s1:ay}{H:Hp}{E:XK}{us:List ae}{vs:List V}(S:Pn N ps scope) (hd:A.handled=none) (e0:RT P w K mg base A outer s H) (hl:vs.length=ps.length) (r:Vals vs us)(x:InCallC s s.heap.objs.size (bindL (envOfC qual scope s.heap.objs.size f cd).kindOf (ps.zip us) λ_=>none) (cellsFrom (s.heap.objs.size+1) scope.names []) (bindC (envOfC qual scope s.heap.objs.size f cd).kindOf (ps.zip us) λ_=>none) s1) :
  Inv (Cb CX P w K mg base N qual scope f cd A outer s H E) [] (start N vs) H s1:=by
 have pd:ps.length<=N.length:=by have:=congrArg List.length S.pre;rw[mN] at this;lia
 obtain⟨h1,tk,rfl,hk⟩:=x.done;have Pp:∀ b:ag,b∉(Cb CX P w K mg base N qual scope f cd A outer s H E).ex:=λb z=>absurd (show b∈([]:List ag) from z) (by simp);refine⟨⟨e0.mod,S.kind,rfl,rfl,cx _,λy z c h1 h2=>?_,λy hy=>?_,λy c _ h=>?_,λ_=>hd,Around.frames_deeper e0.frames,.inr ⟨rfl,rfl⟩,λb z=>absurd z (Pp b),e0.bs,e0.FH,λb _ _=>Pp b,λb z=>absurd z (Pp b),e0.A3,e0.Nn⟩,
  rfl,e0.bare,Un.kept hk,⟨_,x.toInCall.ns,λi y v h1 h2 h3=>?_⟩,λy c h=>⟨_,x.cell y c h⟩,e0.b6.fresh (cx _),λy c h=>?_,λp hp=>absurd (show p∈([]:List (ag × Obj)) from hp) (by simp),e0.b6.kept hk,?_⟩
 ·exact name_of_addr x.apart (PySem.mem_of_lookup h1) (PySem.mem_of_lookup h2)
 ·have hy:scope.names.lookup y=some .cell\/scope.names.lookup y=some .free:=hy;rcases hy with hy|hy
  ·exact Zq hy
  ·exact absurd rfl (S.dO' _ (PySem.mem_of_lookup hy))
 ·exact oI (x.above y c (PySem.mem_of_lookup h))
 ·have hi:i<vs.length:=by
   unfold start at h2;by_cases hi:i<vs.length
   ·exact hi
   ·rw[D1 (by simpa using hi)] at h2;rw[List.getElem?_replicate] at h2;split at h2<;>cases h2
  have ha:vs[i]? = some v:=by
   unfold start at h2;rw[Mb (by simpa using hi),n5] at h2
   cases e:vs[i]? with
   |none=>rw[e] at h2;cases h2
   |some a=>rw[e] at h2;cases h2;rfl
  obtain⟨u,hu,rv⟩:=r.get ha;have hp:ps[i]? = some y:=by rw[<- S.pre,List.getElem?_take_of_lt (by lia)];exact h1
  have Zr:ps.Nodup:=by rw[<- S.pre];exact S.nd.sublist (List.take_sublist _ _)
  refine⟨u,rv,?_⟩;rcases S.par y (om hp) with k|k
  ·exact .inl ⟨k,Zn Zr hp hu k⟩
  ·obtain⟨c,e⟩:=Zq (n:=s.heap.objs.size+1) k;refine .inr ⟨.inl k,c,e,?_⟩;have q:=x.cell y c e;rw[Zo Zr hp hu (by show scope.names.lookup y≠_;rw[k];decide)] at q;exact q
 ·exact e0.b6.fresh (oI (x.above y c (PySem.mem_of_lookup h)))
 ·unfold start;show _=N.length;rw[oo,b5,List.length_replicate];lia
theorem dQ'{P:d4}{K:aC}{dV kV doc pm gp ct oc:ae}{N ps:List Str} (lk:K.lookup f=some ⟨oc,od,.func (zk name qual params body scope dV kV doc pm an gp ct),Ct⟩) (tS:L9 K gp qual=true) (S:Pn N ps scope)(len:∀ vs H Q E,sp vs H Q E->vs.length=ps.length)(Pq:∀ (A:fm) (outer:List Env) (s:ay) (H:Hp) (vs:List V) (Q:VK) (E:XK),nv k (A.deeper (envOfC qual scope s.heap.objs.size f gp))->sp vs H Q E ->
   ∃ t,ng (Cb CX P w K mg base N qual scope f gp A outer s H E) body t/\t { nx:=λ_ H'=>Q .non H',rt:=Q } (start N vs) H) :
  AB P w K mg base CX (k+1) f (zk name qual params body scope dV kV doc pm an gp ct) ps sp:=by
 refine⟨len,λA outer s H args us vs Q E hr e0 hb r FV=>?_⟩;have hl:=len _ _ _ _ FV;have KX:K.In s.heap:=e0.mod.zI.keeps λb o e=>(e0.bs b o e).1;have lim:s.heap.NoLimit:=e0.mod.nolimit.keeps λb o e=>(e0.bs b o e).1;have dR':∀ y∈ps.zip us,scope.names.lookup y.1=some .local\/(scope.names.lookup y.1=some .cell/\((cellsFrom (s.heap.objs.size+1) scope.names []).lookup y.1).isSome=true):=λ⟨n,v⟩ hy=>by
  rcases S.par n (List.of_mem_zip hy).1 with q|q
  ·exact .inl q
  ·exact .inr ⟨q,PySem.W.cellsFrom_some _ _ _ (.inl q)⟩
 refine codeAny_call_function hr.depth (KX _ _ lk) rfl S.co S.gen rfl (PySem.W.codeRec_of KX tS) (hb _ _ _ _ ?_);refine wpAny_newFunctionEnv_cells S.kind dR' λenv he s1 x=>?_;subst he;refine⟨lim.keeps x.toInCall.keep,codeAny_func ?_⟩;obtain⟨t,ht,hq⟩:=Pq A outer s H vs Q E (hr.deeper _) FV;have I:Inv (Cb CX P w K mg base N qual scope f gp A outer s H E) [] (start N vs) H s1:=dP' S hr.hd e0 hl r x;refine vx (ht [] s1 (start N vs) H _ I hq) (λfl s' hs=>?_) λe s' hs=>hs;have fin:∀ {b9:St} {H':Hp} {v:V} {u:ae},Inv (Cb CX P w K mg base N qual scope f gp A outer s H E) [] b9 H' s'->RelV v u->Q v H'->CE outer P w H s Q u s' :=
  λ{b9 H' v u} J rv q=>⟨v,H',J.os,J.bare,J.base,J.b6,rv,q⟩
 cases fl with
 |ret u =>obtain⟨v,b9,H',J,rv,q⟩:=hs;exact fin J rv q
 |next =>obtain⟨b9,H',J,q⟩:=hs;exact fin (v:=V.non) (u:=Value.none) J rfl q
 |brk =>obtain⟨_,_,_,q⟩:=hs;exact False.elim q
 |cont =>obtain⟨_,_,_,q⟩:=hs;exact False.elim q
section
variable {X:Cx}{x:Str}{p pos:Pos}{e:Expr}{es:List Expr}{t:TA}{id T:String}{r:List V->Hp->VK->Prop}
def UM(r:List V->Hp->VK->Prop)(t:TA):TE:=λσ H Q=>t σ H λvs H1=>r vs H1 Q
theorem Zt (hc:kC X (.builtin id) r) (hg:Gl X x) (hm:X.mg x=none) (hv:mM x=some (.builtin id)) (ha:PA X (e :: es) t) (hn:x ≠ "__name__" := by decide) (t5:(x == ("__debug__" : Str))=false:=by decide) (he:cc (e :: es) X.env=(false,dr e X.env) :: cc es X.env:=by rfl) (pd:(k6 pos (cc es X.env)).any (·.1)=false:=by rfl):PE X (.Call (.Name x p) (e :: es) [] pos) (UM r t):=by
 walk_at"v";refine DU (B7 I hg hm hv ?_ hn t5);exact PyProof.Rows.callWith_builtin1 (cK (ha pos pins s σ H _ I h) λus s1 cS=>L2.gI cS λvs H1 I1 r1 q1=>hc pins s1 σ H1 vs us Q I1 r1 q1) he pd
theorem UN (hc:kC X (.type T) r) (hg:Gl X x) (hm:X.mg x=none) (hv:mM x=some (.type T)) (ha:PA X (e :: es) t) (hn:x ≠ "__name__" := by decide) (t5:(x == ("__debug__" : Str))=false:=by decide) (he:cc (e :: es) X.env=(false,dr e X.env) :: cc es X.env:=by rfl) (pd:(k6 pos (cc es X.env)).any (·.1)=false:=by rfl):PE X (.Call (.Name x p) (e :: es) [] pos) (UM r t):=by
 walk_at"v";refine DU (B7 I hg hm hv ?_ hn t5);exact PyProof.Rows.callWith_type1 (cK (ha pos pins s σ H _ I h) λus s1 cS=>L2.gI cS λvs H1 I1 r1 q1=>hc pins s1 σ H1 vs us Q I1 r1 q1) he pd
end
end L2
namespace HT
open PySem PyProof.Rows
section
open PySem.SeqAt
open PySem.AutoSeq1 (wpAny_loadPart')
open PySem.MeetsSeq PySem.MeetsSeq2 PySem.MeetsSeq3
end
section
variable {prog:d4}{w:eB}{A:fm}{E:ae->ay->Prop}{s:ay}
theorem dS'(ht:IsTup s.heap t vs.toArray)(hb:IsTup s.heap b ws.toArray)(hv:vs≠[])(h1:ws=[]->Q (.ref t) s) (h2:ws≠[]->Q (.ref s.heap.objs.size) { s with heap:=s.heap.push { cls:=.type "tuple",data:=.seq (vs++ws).toArray } }) (hsz:vs.length+ws.length<=bS):aI (aE prog w) A (oC .Add (.ref t) (.ref b)) Q E s:=by
 obtain⟨⟨cls,dd,data,sl⟩,ho,hc,n,hd⟩:=id ht;obtain⟨⟨UO,t9,data2,ua⟩,pe,A6,n2,hd2⟩:=id hb;simp only at hc hd A6 hd2;subst hc hd A6 hd2;have e:vs.toArray++ws.toArray=(vs++ws).toArray:=by simp
 by_cases hw:ws=[]
 ·exact concat_meets ⟨_,ho,rfl⟩ ⟨_,pe,rfl⟩ noFill_tuple_add seq_tuple_add PySem.F.slot_tuple_add PySem.F.entry_tuple_add (PySem.F.args_tuple_add_2 _ _) (tuple_addW1 t b vs.toArray ws.toArray n n2 dd t9 sl ua (by simpa using hv) (by simp[hw])) ⟨ho,pe,h1 hw⟩
 ·refine concat_meets ⟨_,ho,rfl⟩ ⟨_,pe,rfl⟩ noFill_tuple_add seq_tuple_add PySem.F.slot_tuple_add PySem.F.entry_tuple_add (PySem.F.args_tuple_add_2 _ _) (tuple_addW2 t b vs.toArray ws.toArray n n2 dd t9 sl ua (by simpa using hv) (by simpa using hw) (by rw[kA,kA];exact hsz)) ⟨ho,pe,?_⟩
  rw[e];exact h2 hw
def cq(n d:Nat):Option Int->Nat
 |none=>d
 |some v=>if v<0 then (v+(n:Int)).toNat else min v.toNat n
theorem dT'(n d:Nat)(hd:d<=n)(o:Option Int):cq n d o<=n:=by
 cases o with
 |none=>exact hd
 |some v =>
  show(if v<0 then (v+(n:Int)).toNat else min v.toNat n)<=n;by_cases hv:v<0
  ·rw[if_pos hv];lia
  ·rw[if_neg hv];exact Nat.min_le_right _ _
theorem Zu(v:Int)(n d:Nat):(if v<0 then max (v+(n:Int)) 0 else min v (n:Int))=((cq n d (some v):Nat):Int):=by
 show(if v<0 then max (v+(n:Int)) 0 else min v (n:Int))=(((if v<0 then (v+(n:Int)).toNat else min v.toNat n):Nat):Int)
 by_cases hv:v<0
 ·simp only[if_pos hv];lia
 ·simp only[if_neg hv];lia
theorem dU'(lo hi:Option Int)(n:Nat):Builtin.Slice.sliceAdjust lo hi 1 (n:Int)=(((cq n 0 lo:Nat):Int),((cq n n hi:Nat):Int)):=by
 have h1:¬ ((1:Int)<0):=by decide
 unfold Builtin.Slice.sliceAdjust;simp only[h1,if_false];refine Prod.ext ?_ ?_
 ·cases lo with
  |none=>rfl
  |some v=>exact Zu v n 0
 ·cases hi with
  |none=>rfl
  |some v=>exact Zu v n n
theorem dV'(i j:Nat):Builtin.Slice.slicePlaces (i:Int) (j:Int) 1=j-i:=by
 unfold Builtin.Slice.slicePlaces;have h1:(1:Int)>0:=by exact sL _
 simp only[h1,if_true,Int.ediv_one];split<;>lia
theorem Zv(p:IsPart v o)(h:Q o s):aI (aE prog w) A (Builtin.Slice.slicePartIndex v) Q E s:=by
 cases p with
 |none=>exact slicePart_none h
 |int i t=>exact slicePart_int h
theorem dW'{sl:ag}{vl vu:ae}{lo hi:Option Int}{n:Nat}{Q:Int × Int × Nat->ay->Prop}(hs:s.heap.IsSliceOf sl vl vu .none)(pl:IsPart vl lo)(pu:IsPart vu hi)(h:Q (((cq n 0 lo:Nat):Int),1,cq n n hi-cq n 0 lo) s):aI (aE prog w) A (Builtin.Slice.sliceApplied (.ref sl) (pure (n:Int))) Q E s:=by
 obtain⟨os,Pt,pf,sM⟩:=id hs;unfold Builtin.Slice.sliceApplied Builtin.Slice.sliceFields;refine aw (aw (wpAny_field Pt sM (x:=vl) rfl (aw (wpAny_field Pt sM (x:=vu) rfl (aw (wpAny_field Pt sM (x:=.none) rfl (bI ?_)))))));refine aw (slicePart_none ?_);show aI _ _ (if ((1:Int) == 0)=true then _ else _) _ _ s;rw[if_neg (by decide)];refine aw (Zv pl (aw (Zv pu (aw (bI ?_)))));show aI _ _ (match Builtin.Slice.sliceAdjust lo hi 1 (n:Int) with|(lo,hi)=>pure (lo,(1:Int),Builtin.Slice.slicePlaces lo hi 1)) _ _ s;rw[dU' lo hi n];show aI _ _ (pure (((cq n 0 lo:Nat):Int),(1:Int),Builtin.Slice.slicePlaces ((cq n 0 lo:Nat):Int) ((cq n n hi:Nat):Int) 1)) _ _ s;rw[dV'];exact bI h
theorem dX'(xs:Array ae)(i k:Nat):((List.range k).filterMap λ(m:Nat)=>xs[((i:Int)+(m:Int)*1).toNat]?).toArray=((xs.toList.drop i).take k).toArray:=by
 have e:(λ(m:Nat)=>xs[((i:Int)+(m:Int)*1).toNat]?)=λm=>xs[i+m]? := by
  funext m;have:((i:Int)+(m:Int)*1).toNat=i+m:=by exact(IX ..).symm
  rw[this]
 rw[e];have:=pick_run xs i k;rw[T5] at this;have e2:((λx=>xs[x]?) ∘ λx=>i+x)=λm=>xs[i+m]? := rfl;rw[e2] at this;rw[this]
theorem dY'{lo hi:Option Int}(ht:IsTup s.heap t items)(hs:s.heap.IsSliceOf sl vl vu .none)(pl:IsPart vl lo)(pu:IsPart vu hi)(hw:¬ (cq items.size 0 lo=0/\cq items.size items.size hi=items.size))(h:Q (.ref s.heap.objs.size) { s with heap:=s.heap.push { cls:=.type "tuple",data:=.seq ((items.toList.drop (cq items.size 0 lo)).take (cq items.size items.size hi-cq items.size 0 lo)).toArray } }) (hsz:items.size<=bS):aI (aE prog w) A (getItem (.ref t) (.ref sl)) Q E s:=by
 have RV:sizeOk (.seq ((items.toList.drop (cq items.size 0 lo)).take (cq items.size items.size hi-cq items.size 0 lo)).toArray):=by show((items.toList.drop (cq items.size 0 lo)).take (cq items.size items.size hi-cq items.size 0 lo)).toArray.size<=bS;rw[kA,mN,Fn,xD];lia
 have hj:cq items.size items.size hi<=items.size:=dT' _ _ (cx _) hi;obtain⟨os,Pt,pf,sM⟩:=id hs;have hTs:s.TypeIs (.ref sl) "slice" := ⟨os,Pt,pf⟩
 unfold getItem;try with_reducible refine tJ ?_
 first|refine aw (bI ?_)|skip
 refine aw (wpAny_sequenceKey ht.typeIs (by decide) ?_);refine aw (OD (name:=Str.ofString "__getitem__") ht.typeIs PyProof.Rows.slot_tuple_getitem (B1 PyProof.Rows.slot_tuple_getitem ht.typeIs entry_tuple_getitem ?_ (args_tuple_getitem _ _)))
 show aI _ _ (Builtin.Tuple.tupleItemsOf (.ref t) >>= _) _ _ s;refine aw (tupleItemsOf_ ht ?_);refine aw (wpAny_typeOf hTs ?_);rw[if_pos (by decide)];refine aw (dW' hs pl pu ?_);have FX:¬ ((((cq items.size 0 lo:Nat):Int) == 0 && (1:Int) == 1 && (cq items.size items.size hi-cq items.size 0 lo) == items.size)=true):=by intro q;rw[mS,mS] at q;have q1:((cq items.size 0 lo:Nat):Int)=0:=eq_of_beq q.1.1;have q2:cq items.size items.size hi-cq items.size 0 lo=items.size:=eq_of_beq q.2;exact hw ⟨by lia,by lia⟩
 show aI _ _ (if (((cq items.size 0 lo:Nat):Int) == 0 && (1:Int) == 1 && (cq items.size items.size hi-cq items.size 0 lo) == items.size)=true then _ else _) _ _ s;rw[if_neg FX,dX'];first
  |exact aw (m:=Builtin.Tuple.tupleExact _) (sC (bI ⟨_,rfl,bI h⟩) RV)
  |exact aw (m:=Builtin.Tuple.tupleExact _) (sC (aw (bI (bI ⟨_,rfl,bI h⟩))) RV)
  |exact aw (aw (m:=Builtin.Tuple.tupleExact _) (sC (bI (bI ⟨_,rfl,bI h⟩)) RV))
  |exact aw (aw (m:=Builtin.Tuple.tupleExact _) (sC (bI ⟨_,rfl,bI h⟩) RV))
end
end HT
namespace L2
open PySem PySem.Spec PyProof.Rows
abbrev TO:=St->Hp->(Option Int->Hp->Prop)->Prop
def PO(X:Cx)(e:Option Expr)(t:TO):Prop :=
 ∀ (pins:List (ag × Obj)) (s:ay) (σ:St) (H:Hp) (Q:Option Int->Hp->Prop),Inv X pins σ H s->t σ H Q ->
  aI (aE X.prog X.w) X.A (evalPart e X.env) (λu s'=>∃ o H',Inv X pins σ H' s'/\IsPart u o/\Q o H') X.xe s
def ea'(t:TE):TO:=λσ H Q=>t σ H λx H1=>∃ i,x=.int i/\Q (some i) H1
section
variable {X:Cx}{e:Expr}{te:TE}{lo hi:Option Expr}{tl th:TO}{pos p2:Pos}
theorem eb'(h:PE X e te):PO X (some e) (ea' te):=by intro pins s σ H Q I hw;rw[evalPart_some];refine cK (h pins s σ H _ I hw) λu s1 cS=>L2.gI cS λx H1 I1 r1 q1=>?_;obtain⟨i,rfl,q⟩:=q1;obtain⟨t,rfl⟩:=r1;exact⟨some i,H1,I1,.int i t,q⟩
def ND(X:Cx)(r:V->Option Int->Option Int->Hp->VK->Prop):Prop :=
 ∀ (pins:List (ag × Obj)) (s:ay) (σ:St) (H:Hp) (x:V) (v vl vu:ae) (lo hi:Option Int) (sl:ag) (Q:VK),Inv X pins σ H s->RelV x v->s.heap.IsSliceOf sl vl vu .none->IsPart vl lo->IsPart vu hi->r x lo hi H Q ->
  ∃ T id,typeLookup (.type T) "__getitem__" = pure (some (.builtin id))/\s.TypeIs v T/\aI (aE X.prog X.w) X.A (getItem v (.ref sl)) (EP X pins σ Q) X.xe s
def tSl(r:V->Option Int->Option Int->Hp->VK->Prop)(te:TE)(tl th:TO):TE:=λσ H Q=>te σ H λx H1=>tl σ H1 λl H2=>th σ H2 λu H3=>r x l u H3 Q
theorem ed'(hr:ND X r)(he:PE X e te)(hl:PO X lo tl)(hu:PO X hi th):PE X (.Subscript e (.Slice lo hi none p2) pos) (tSl r te tl th):=by intro pins s σ H Q I h;refine Subscript_ (cK (he pins s σ H _ I h) λv s1 cS=>L2.gI cS λx H1 I1 r1 q1=>?_);refine wpAny_Slice (cK (hl pins s1 σ H1 _ I1 q1) λvl s2 cS=>L2.gI cS λl H2 I2 pl q2=>cK (hu pins s2 σ H2 _ I2 q2) λvu s3 cS=>L2.gI cS λu H3 I3 pu q3=>?_);rw[evalPart_none];refine bI ?_;have I4:Inv X pins σ H3 { s3 with heap:=s3.heap.push { cls:=.type "slice",data:=.fields #[vl,vu,.none] } }:=I3.kept (t':=s3.toks) λb ob q=>gd _ q;obtain⟨T,id,hT,ht,hg⟩:=hr pins { s3 with heap:=s3.heap.push { cls:=.type "slice",data:=.fields #[vl,vu,.none] } } σ H3 x v vl vu l u s3.heap.objs.size Q I4 r1 (Heap.IsSliceOf.new ..) pl pu q3;show aI (aE X.prog X.w) X.A (subscriptTail e (.Slice lo hi none p2) v (.ref s3.heap.objs.size)) (EP X pins σ Q) X.xe { s3 with heap:=s3.heap.push { cls:=.type "slice",data:=.fields #[vl,vu,.none] } };exact tail_any (ops:=[.ref s3.heap.objs.size,v]) ht hT hg (by with_unfolding_all rfl)
def EF(xs:List V)(lo hi:Option Int):List V:=(xs.drop (HT.cq xs.length 0 lo)).take (HT.cq xs.length xs.length hi-HT.cq xs.length 0 lo)
theorem Zw(xs:List V)(lo hi:Option Int):(EF xs lo hi).length<=xs.length:=by unfold EF;rw[mN,Fn];lia
def Zx(K:aC):V->Option Int->Option Int->Hp->VK->Prop:=λx lo hi H Q=>∃ a xs,x=.ref a/\oQ K H a xs /\
 ¬ (HT.cq xs.length 0 lo=0/\HT.cq xs.length xs.length hi=xs.length)/\∀ p,H p=none->Q (.ref p) (upd H p (.tup (EF xs lo hi)))
theorem ee':ND X (Zx X.K):=by
 intro pins s σ H x v vl vu lo hi sl Q I rx hs pl pu h;obtain⟨a,xs,rfl,hx,hw,q⟩:=h;cases rx;obtain⟨its,r,ht,hz⟩:=I.tuple hx;have hlen:its.toArray.size=xs.length:=by rw[kA];exact r.length.symm
 refine⟨"tuple",_,PyProof.Rows.slot_tuple_getitem.lookup,ht.typeIs,?_⟩;refine HT.dY' ht hs pl pu (by rw[hlen];exact hw) ?_ (by rw[hlen];exact hz);rw[hlen];refine⟨.ref s.heap.objs.size,_,I.laid (t':=s.toks) (o:=.tup (EF xs lo hi)) (λb ob q=>gd _ q) (cx _) ?_,rfl,q _ (I.b6.fresh (cx _))⟩;exact⟨iX (Zw xs lo hi) hz,_,(r.drop (HT.cq xs.length 0 lo)).take (HT.cq xs.length xs.length hi-HT.cq xs.length 0 lo),IsTup.new _ _⟩
def UQ(K:aC):R2:=λx y H Q=>∃ a b xs ys,x=.ref a/\y=.ref b/\oQ K H a xs/\oQ K H b ys/\xs≠[]/\xs.length+ys.length<=bS /\ (ys=[]->Q (.ref a) H)/\(ys≠[]->∀ p,H p=none->Q (.ref p) (upd H p (.tup (xs++ys))))
theorem Vals.UR(r:Vals xs us):us=[]↔xs=[]:=by
 cases r with
 |nil=>simp
 |cons _ _=>simp
theorem ef':eI X (oC .Add) (UQ X.K):=by intro pins s σ H x y v u Q I rx ry h;obtain⟨a,b,xs,ys,rfl,rfl,ha,hb,hx,hz,q1,q2⟩:=h;cases rx;cases ry;obtain⟨its,r1,p1,_⟩:=I.tuple ha;obtain⟨RW,r2,p2,_⟩:=I.tuple hb;refine HT.dS' p1 p2 (λz=>hx (r1.UR.mp z)) (λz=>⟨.ref a,H,I,rfl,q1 (r2.UR.mp z)⟩) (λz=>?_) (by rw[<- r1.length,<- r2.length];exact hz);refine⟨.ref s.heap.objs.size,_,I.laid (t':=s.toks) (o:=.tup (xs++ys)) (λb ob q=>gd _ q) (cx _) ?_,rfl,q2 (λw=>z (r2.UR.mpr w)) _ (I.b6.fresh (cx _))⟩;exact⟨by rw[oo];exact hz,_,r1.append r2,IsTup.new _ _⟩
end
def oa(n:Nat)(i:Int):Option Nat:=if 0<=i then (if i<n then some i.toNat else none) else if -(n:Int)<=i then some (i+n).toNat else none
def gS{α:Type}(xs:List α)(i:Int):Option α:=(oa xs.length i).bind λj=>xs[j]?
theorem eg'(h:oa n i=some j):seqIndex? i n=some j/\j<n/\-(n:Int)<=i/\i<n:=by
 unfold oa at h;by_cases h0:0<=i
 ·rw[if_pos h0] at h;by_cases h1:i<n
  ·rw[if_pos h1] at h;have e:i.toNat=j:=Option.some.inj h;exact⟨by rw[seqIndex_of h0 h1,e],by lia,by lia,h1⟩
  ·rw[if_neg h1] at h;cases h
 ·rw[if_neg h0] at h;by_cases h1:-(n:Int)<=i
  ·rw[if_pos h1] at h;have e:(i+n).toNat=j:=Option.some.inj h;exact⟨by rw[seqIndex_neg (by lia) h1,e],by lia,h1,by lia⟩
  ·rw[if_neg h1] at h;cases h
theorem UT{α:Type}{xs:List α}{i:Int}{v:α}(h:gS xs i=some v):∃ j,seqIndex? i xs.length=some j/\xs[j]? = some v/\j<xs.length/\-(xs.length:Int)<=i/\i<xs.length:=by
 unfold gS at h
 cases e:oa xs.length i with
 |none=>rw[e] at h;cases h
 |some j =>rw[e] at h;obtain⟨h1,h2,h3,h4⟩:=eg' e;exact⟨j,h1,h,h2,h3,h4⟩
theorem NF{α:Type}{xs:List α}{j:Nat}{v:α}(h:xs[j]? = some v):gS xs (j:Int)=some v:=by
 have hj:j<xs.length:=(jS.mp h).1;have e:oa xs.length (j:Int)=some j:=by unfold oa;rw[if_pos (by walk_at "s1"),if_pos (by lia)];simp
 unfold gS;rw[e];exact h
theorem eh'{α:Type}(xs:List α)(v:α):gS (xs++[v]) (-1)=some v:=by
 have hl:(xs++[v]).length=xs.length+1:=by simp
 have e:oa (xs++[v]).length (-1)=some xs.length:=by unfold oa;rw[hl,if_neg (by decide),if_pos (by lia)];congr 1;lia
 unfold gS;rw[e];show(xs++[v])[xs.length]? = some v;simp
def RX(b:Expr):Prop:=∀ o i,subscripted b false o i=operate [o,i] (getItem o i)
def x6(X:Cx)(r:R2):Prop :=
 ∀ (value slice:Expr) (pins:List (ag × Obj)) (s:ay) (σ:St) (H:Hp) (x y:V) (v u:ae) (Q:VK),Inv X pins σ H s->RelV x v->RelV y u->r x y H Q ->
  subscripted slice false v u=operate [v,u] (getItem v u)->aI (aE X.prog X.w) X.A (subscriptTail value slice v u) (EP X pins σ Q) X.xe s
def RZ(X:Cx)(id:String)(r:V->List V->Hp->VK->Prop):Prop :=
 ∀ (pins:List (ag × Obj)) (s:ay) (σ:St) (H:Hp) (x:V) (xs:List V) (v:ae) (us:List ae) (Q:VK),Inv X pins σ H s->RelV x v->Vals xs us->r x xs H Q ->
  aI (aE X.prog X.w) X.A (call (.builtin id) (v :: us)) (EP X pins σ Q) X.xe s
section
variable {X:Cx}{a b:Expr}{ta tb:TE}{pos:Pos}
theorem x6.or(h:x6 X r)(h':x6 X r'):x6 X (λx y H Q=>r x y H Q\/r' x y H Q):=by
 intro value slice pins s σ H x y v u Q I rx ry q hs;rcases q with q|q
 ·exact h value slice pins s σ H x y v u Q I rx ry q hs
 ·exact h' value slice pins s σ H x y v u Q I rx ry q hs
theorem UU{r:R2}(hr:x6 X r)(ha:PE X a ta)(hb:PE X b tb)(hs:RX b):PE X (.Subscript a b pos) (Pl r ta tb):=by intro pins s σ H Q I h;exact Subscript_ (UA ha hb I h λv u s2 x y H2 I2 rx ry q=>hr a b pins s2 σ H2 x y v u Q I2 rx ry q (hs _ _))
def Zy(K:aC):R2:=λx y H Q=>∃ p xs i v,x=.ref p/\y=.int i/\fw K H p xs/\gS xs i=some v/\Q v H
def Zz(K:aC):R2:=λx y H Q=>∃ p xs i v,x=.ref p/\y=.int i/\oQ K H p xs/\gS xs i=some v/\Q v H
def ZC:R2:=λx y H Q=>∃ z i c,x=.str z/\y=.int i/\z.length<=bS/\gS z.cps.toList i=some c/\Q (.str ⟨#[c]⟩) H
theorem ej':x6 X (Zy X.K):=by
 intro value slice pins s σ H x y v u Q I rx ry h hs;obtain⟨p,xs,i,z,rfl,rfl,hq,he,q⟩:=h;cases rx;obtain⟨t,rfl⟩:=ry;obtain⟨its,r,pl,hz⟩:=I.list hq;obtain⟨j,h1,h2,h3,h4,h5⟩:=UT he;obtain⟨w,ew,lS⟩:=r.get h2;have hl:=r.length;have hn:=Pm;have fin:EP X pins σ Q w s:=⟨z,H,I,lS,q⟩
 by_cases h0:0<=i
 ·have hj:i.toNat=j:=by rw[seqIndex_of h0 h5] at h1;exact Option.some.inj h1
  exact item_listR pl.isList h0 (by lia) (by rw[hj];simpa using ew) fin hs
 ·have hj:(i+(its.toArray.size:Int)).toNat=j:=by rw[seqIndex_neg (by exact Int.not_le.mp ‹_›) h4] at h1;rw[kA,<- hl];exact Option.some.inj h1
  exact subscriptTail_builtinR (x:=w) pl.isList.typeIs slot_list_getitem.lookup (wpAny_getItem_list_neg (Q:=λr s'=>r=w/\EP X pins σ Q r s') pl.isList (by exact Int.not_le.mp ‹_›) (by rw[kA]<;>lia) (by lia) (by rw[hj];simpa using ew) ⟨rfl,fin⟩) hs
theorem ek':x6 X (Zz X.K):=by
 intro value slice pins s σ H x y v u Q I rx ry h hs;obtain⟨p,xs,i,z,rfl,rfl,hq,he,q⟩:=h;cases rx;obtain⟨t,rfl⟩:=ry;obtain⟨its,r,pl,hz⟩:=I.tuple hq;obtain⟨j,h1,h2,h3,h4,h5⟩:=UT he;obtain⟨w,ew,lS⟩:=r.get h2;have hl:=r.length;have hn:=Pm;have fin:EP X pins σ Q w s:=⟨z,H,I,lS,q⟩
 exact subscriptTail_builtinR (x:=w) pl.typeIs slot_tuple_getitem.lookup (getItem_tuple (j:=j) (Q:=λr s'=>r=w/\EP X pins σ Q r s') pl (by lia) (by lia) (by rw[kA,<- hl];exact h1) (by simpa using ew) ⟨rfl,fin⟩) hs
theorem el':x6 X ZC:=by
 intro value slice pins s σ H x y v u Q I rx ry h hs;obtain⟨z,i,c,rfl,rfl,hz,he,q⟩:=h;obtain⟨t,rfl⟩:=rx;obtain⟨t',rfl⟩:=ry;obtain⟨j,h1,h2,h3,h4,h5⟩:=UT he;have hl:z.cps.toList.length=z.length:=by simp[Str.length]
 rw[hl] at h1 h4 h5;have hn:=Pm;exact tail_any (typeIs_str s z t) slot_str_getitem.lookup (getItem_str (c:=c) (by
  have e1:decide (i < -(2 ^ 63:Int))=false:=decide_eq_false (by lia);have e2:decide (i >= 2 ^ 63)=false:=decide_eq_false (by lia);rw[e1,e2,Bool.or_false]) (by rw[h1];simpa using h2) ⟨.str ⟨#[c]⟩,H,I.tok _,⟨_,rfl⟩,q⟩) hs
def rIx(K:aC):R2:=λx y H Q=>Zy K x y H Q\/Zz K x y H Q\/ZC x y H Q
theorem en':x6 X (rIx X.K):=ej'.or (ek'.or el')
theorem eo'(lo hi:Option Int)(n:Nat):(IB lo hi none n).1=((HT.cq n 0 lo:Nat):Int)/\(IB lo hi none n).2.1=((HT.cq n n hi:Nat):Int)/\(IB lo hi none n).2.2=1:=by
 refine⟨?_,?_,rfl⟩
 ·cases lo with
  |none=>simp[IB,HT.cq]
  |some i =>
   simp only[IB,HT.cq,Option.getD_none,show(1:Int)>0 by decide,if_true];by_cases h:i<0
   ·simp only[h,if_true]<;>lia
   ·simp only[h,if_false]<;>lia
 ·cases hi with
  |none=>simp[IB,HT.cq]
  |some i =>
   simp only[IB,HT.cq,Option.getD_none,show(1:Int)>0 by decide,if_true];by_cases h:i<0
   ·simp only[h,if_true]<;>lia
   ·simp only[h,if_false]<;>lia
theorem eq'(its:List ae)(lo hi:Option Int):slicePick its.toArray lo hi none=((its.drop (HT.cq its.length 0 lo)).take (HT.cq its.length its.length hi-HT.cq its.length 0 lo)).toArray:=by obtain⟨h1,h2,h3⟩:=eo' lo hi its.toArray.size;unfold slicePick;rw[h1,h2,h3];simp only[sliceRange_one,pick_run,kA]<;>rfl
def er'(K:aC):V->Option Int->Option Int->Hp->VK->Prop:=λx lo hi H Q=>∃ a xs,x=.ref a/\fw K H a xs/\∀ p,H p=none->Q (.ref p) (upd H p (.lst (EF xs lo hi)))
theorem et':ND X (er' X.K):=by intro pins s σ H x v vl vu lo hi sl Q I rx hs pl pu h;obtain⟨a,xs,rfl,hx,q⟩:=h;cases rx;obtain⟨its,r,ht,hz⟩:=I.list hx;have hlen:=r.length;refine⟨"list",_,slot_list_getitem.lookup,ht.isList.typeIs,?_⟩;refine wpAny_getItem_list_slice ht.isList hs pl pu .none (by simp) ?_ (by rw[kA]<;>lia);rw[eq',<- hlen];refine⟨.ref s.heap.objs.size,_,I.laid (t':=s.toks) (o:=.lst (EF xs lo hi)) (λb ob q=>gd _ q) (cx _) ?_,rfl,q _ (I.b6.fresh (cx _))⟩;exact⟨iX (Zw xs lo hi) hz,_,0,(r.drop (HT.cq xs.length 0 lo)).take (HT.cq xs.length xs.length hi-HT.cq xs.length 0 lo),kK _ rfl⟩
def CB:V->Bool
 |.non=>true
 |.bl _=>true
 |.int _=>true
 |.str _=>true
 |_=>false
def EG:V->V->Bool
 |.non,.non=>true
 |.bl a,.bl b=>a == b
 |.bl a,.int b=>(if a then 1 else 0) == b
 |.int a,.bl b=>a == (if b then 1 else 0)
 |.int a,.int b=>a == b
 |.str a,.str b=>a == b
 |_,_=>false
theorem eu'(ry:RelV y u)(rx:RelV x v)(fy:CB y=true)(fx:CB x=true):SeqAt.EqAt A s u v (EG y x):=by
 cases y with
 |non =>
  cases ry
  cases x with
  |non=>cases rx;exact SeqAt.EqAt.same _
  |bl b=>cases rx;exact SeqAt.EqAt.none_bool b
  |int b=>obtain⟨t,rfl⟩:=rx;exact SeqAt.EqAt.none_int b t
  |str b=>obtain⟨t,rfl⟩:=rx;exact SeqAt.EqAt.none_str b t
  |_=>exact absurd (show false=true from fx) kB
 |bl a =>
  cases ry
  cases x with
  |non=>cases rx;exact SeqAt.EqAt.bool_none a
  |bl b=>cases rx;exact SeqAt.EqAt.bool_bool a b
  |int b=>obtain⟨t,rfl⟩:=rx;exact SeqAt.EqAt.bool_int a b t
  |str b=>obtain⟨t,rfl⟩:=rx;exact SeqAt.EqAt.bool_str a b t
  |_=>exact absurd (show false=true from fx) kB
 |int a =>
  obtain⟨t',rfl⟩:=ry
  cases x with
  |non=>cases rx;exact SeqAt.EqAt.int_none a t'
  |bl b=>cases rx;exact SeqAt.EqAt.int_bool a t' b
  |int b=>obtain⟨t,rfl⟩:=rx;exact SeqAt.EqAt.int_int a t' b t
  |str b=>obtain⟨t,rfl⟩:=rx;exact SeqAt.EqAt.int_str a t' b t
  |_=>exact absurd (show false=true from fx) kB
 |str a =>
  obtain⟨t',rfl⟩:=ry
  cases x with
  |non=>cases rx;exact SeqAt.EqAt.str_none a t'
  |bl b=>cases rx;exact SeqAt.EqAt.str_bool a t' b
  |int b=>obtain⟨t,rfl⟩:=rx;exact SeqAt.EqAt.str_int a t' b t
  |str b=>obtain⟨t,rfl⟩:=rx;exact SeqAt.EqAt.str_str a t' b t
  |_=>exact absurd (show false=true from fx) kB
 |_=>exact absurd (show false=true from fy) kB
def ub(x:V)(u:ae):Bool:=match u with
 |.none=>EG .non x
 |.bool b=>EG (.bl b) x
 |.int i _=>EG (.int i) x
 |.str z _=>EG (.str z) x
 |_=>false
theorem ZD(r:RelV y u)(f:CB y=true):ub x u=EG y x:=by
 cases y with
 |non=>cases r;rfl
 |bl b=>cases r;rfl
 |int i=>obtain⟨t,rfl⟩:=r;rfl
 |str z=>obtain⟨t,rfl⟩:=r;rfl
 |_=>exact absurd (show false=true from f) kB
theorem Pu:∀ {xs:List V} {us:List ae},Vals xs us->xs.all CB=true->us.any (ub x)=xs.any λy=>EG y x
 |_,_,.nil,_=>rfl
 |y :: xs,u :: us,.cons r t,f=>by rw[D8,mS] at f;rw[D9,D9,ZD r f.1,Pu t f.2]
theorem Pw(rx:RelV x v)(fx:CB x=true):∀ {xs:List V} {us:List ae},Vals xs us->xs.all CB=true->∀ u∈us,SeqAt.EqAt A s u v (ub x u)
 |_,_,.nil,_=>λu hu=>by cases hu
 |y :: xs,u :: us,.cons r t,f=>λu' hu=>by
  rw[D8,mS] at f;rcases eK.mp hu with rfl|hu
  ·rw[ZD r f.1];exact eu' r rx f.1 fx
  ·exact Pw rx fx t f.2 u' hu
def R0(x:V)(xs:List V):Bool:=xs.any λy=>EG y x
def Px(K:aC)(neg:Bool):R2:=λx y H Q=>∃ p xs,y=.ref p/\(fw K H p xs\/oQ K H p xs)/\CB x=true/\xs.all CB=true/\Q (.bl (if neg then !R0 x xs else R0 x xs)) H
theorem ev':eI X (hJ .In) (Px X.K false):=by
 walk_at"c";obtain⟨p,xs,rfl,hq,fx,fs,q⟩:=h;cases ry;rcases hq with hq|hq
 ·obtain⟨its,r,pl,hz⟩:=I.list hq;refine SeqAt.in_listAt (ub x) pl.isList (λw hw=>Pw rx fx r fs w (by simpa using hw)) ⟨.bl _,H,I,rfl,?_⟩;walk_at"s";exact q
 ·obtain⟨its,r,pl,hz⟩:=I.tuple hq;refine SeqAt.in_tupleAt (ub x) pl (λw hw=>Pw rx fx r fs w (by simpa using hw)) ⟨.bl _,H,I,rfl,?_⟩;walk_at"s";exact q
theorem ew':eI X (hJ .NotIn) (Px X.K true):=by
 walk_at"c";obtain⟨p,xs,rfl,hq,fx,fs,q⟩:=h;cases ry;rcases hq with hq|hq
 ·obtain⟨its,r,pl,hz⟩:=I.list hq;refine SeqAt.notIn_listAt (ub x) pl.isList (λw hw=>Pw rx fx r fs w (by simpa using hw)) ⟨.bl _,H,I,rfl,?_⟩;walk_at"s";exact q
 ·obtain⟨its,r,pl,hz⟩:=I.tuple hq;refine SeqAt.notIn_tupleAt (ub x) pl (λw hw=>Pw rx fx r fs w (by simpa using hw)) ⟨.bl _,H,I,rfl,?_⟩;walk_at"s";exact q
theorem kC.or(h:kC X f r)(h':kC X f r'):kC X f (λxs H Q=>r xs H Q\/r' xs H Q):=by
 intro pins s σ H xs us Q I rs q;rcases q with q|q
 ·exact h pins s σ H xs us Q I rs q
 ·exact h' pins s σ H xs us Q I rs q
theorem ex':kC X (.type "list") (λxs H Q=>∃ p ys,xs=[.ref p]/\(fw X.K H p ys\/oQ X.K H p ys)/\∀ l,H l=none->Q (.ref l) (upd H l (.lst ys))):=by
 walk_at"f";obtain⟨p,ys,rfl,hq,q⟩:=h;obtain⟨u,rfl,rx⟩:=vals1 r;cases rx;have fin:∀ (its:List ae),Vals ys its->ys.length<=bS->∀ (h':dy) (c':Nat),(∀ b o',s.heap.get? b=some o'->h'.get? b=some o') ->
   h'.get? s.heap.objs.size=some { cls:=.type "list",dict:=none,data:=.seq its.toArray c',slots:=#[] }->EP X pins σ Q (.ref s.heap.objs.size) { s with heap:=h' }:=λits r' hz h' c' kp e =>
  ⟨.ref s.heap.objs.size,_,I.laid (t':=s.toks) kp (cx _) (show gL X.prog X.w _ h' _ (.lst ys) from⟨hz,its,c',r',e⟩),rfl,q _ (I.b6.fresh (cx _))⟩
 rcases hq with hq|hq
 ·obtain⟨its,r',pl,hz⟩:=I.list hq;have hlen:=r'.length;obtain⟨o,ho,hc,n,hd⟩:=pl.isList;exact call_list_seq p (.inl rfl) ho hc hd (λh' c' kp e=>fin its r' hz h' c' kp e) (by simp only[kA]<;>lia)
 ·obtain⟨its,r',pl,hz⟩:=I.tuple hq;have hlen:=r'.length;obtain⟨o,ho,hc,n,hd⟩:=pl;exact call_list_seq p (.inr rfl) ho hc hd (λh' c' kp e=>fin its r' hz h' c' kp e) (by simp only[kA]<;>lia)
def R1(K:aC)(T:String)(x:V)(H:Hp):Prop:=match x with
 |.str _=>T = "str"
 |.int _=>T = "int"
 |.ref p=>(T = "list"/\∃ xs,fw K H p xs)\/(T = "tuple"/\∃ o,K.lookup p=some o/\o.cls=.type "tuple"/\o.dict=none) \/
   (T = "dict"/\((∃ kvs,H p=some (.dK kvs))\/∃ kvs,H p=some (.dT kvs)))\/(T = "set"/\∃ S n,H p=some (.set S n))
 |_=>False
theorem ZE{T:String}(I:Inv X pins σ H s)(r:RelV x v)(ty:R1 X.K T x H) :
  s.TypeIs v T/\∀ a,v=.ref a->∃ ob,s.heap.get? a=some ob/\ob.dict=none:=by
 cases x with
 |str z =>obtain⟨t,rfl⟩:=r;cases (show T = "str" from ty);exact⟨typeIs_str s z t,λ_ e=>nomatch e⟩
 |int i =>obtain⟨t,rfl⟩:=r;cases (show T = "int" from ty);exact⟨typeIs_int s i t,λ_ e=>nomatch e⟩
 |ref p =>
  cases r;rcases ty with⟨rfl,xs,hq⟩|⟨rfl,o,hk,hc,hd⟩|⟨rfl,hk⟩|⟨rfl,S,n,hk⟩
  ·obtain⟨its,_,pl,_⟩:=I.list hq;refine⟨pl.isList.typeIs,λa e=>?_⟩;cases e;obtain⟨o,n,e,c,hd,_⟩:=pl;exact⟨o,e,hd⟩
  ·refine⟨⟨o,I.zS p o hk,hc⟩,λa e=>?_⟩;cases e;exact⟨o,I.zS _ o hk,hd⟩
  ·have z:∃ o,s.heap.get? p=some o/\o.ExactDict:=by
    rcases hk with⟨kvs,hk⟩|⟨kvs,hk⟩
    ·obtain⟨_,_,_,_,o,_,_,e,ex,_⟩:=I.b6 p _ hk;exact⟨o,e,ex⟩
    ·obtain⟨_,_,_,_,o,_,_,e,ex,_⟩:=I.b6 p _ hk;exact⟨o,e,ex⟩
   obtain⟨o,e,ex⟩:=z;refine⟨⟨o,e,ex.1⟩,λa e2=>?_⟩;cases e2;exact⟨o,e,ex.2.1⟩
  ·obtain⟨o,_,_,_,e,ex,_⟩:=I.b6 p _ hk;refine⟨⟨o,e,ex.1⟩,λa e2=>?_⟩;cases e2;exact⟨o,e,ex.2.1⟩
 |_=>exact False.elim ty
def ey'(K:aC)(T:String)(r:V->List V->Hp->VK->Prop)(to:TE):TE:=λσ H Q=>to σ H λx H1=>R1 K T x H1/\r x [] H1 Q
def tBM(K:aC)(T:String)(r:V->List V->Hp->VK->Prop)(to:TE)(t:TA):TE:=λσ H Q=>to σ H λx H1=>R1 K T x H1/\t σ H1 λxs H2=>r x xs H2 Q
variable {o e:Expr}{es:List Expr}{to:TE}{t:TA}{name:Str}{apos fE:Pos}{T id:String}{r:V->List V->Hp->VK->Prop}
theorem eA' (pa:PlainAttrs T) (slot:Slot T name id) (UW:typeOf (.builtin id)=pure (.type "method_descriptor")) (hm:RZ X id r) (ho:PE X o to)(x8:B4 o name X.env (dr o X.env)=dr o X.env:=by rfl) (hline:(apos.endLine == fE.line)=true:=by rfl):PE X (.Call (.Attribute o name apos) [] [] fE) (ey' X.K T r to):=by
 walk_at"v";refine wpAny_Call_method0_late x8 hline (cK (ho pins s σ H _ I h) λv s1 dQ=>?_);obtain⟨x,H1,I1,r1,ty,q1⟩:=dQ;obtain⟨h1,h2⟩:=ZE I1 r1 ty;exact⟨T,id,pa,slot,UW,h1,h2,Calls.callWith_builtin rfl (PySem.evalArgs_none (hm pins s1 σ H1 x [] v [] Q I1 r1 .nil q1))⟩
theorem Py (pa:PlainAttrs T) (slot:Slot T name id) (UW:typeOf (.builtin id)=pure (.type "method_descriptor")) (hm:RZ X id r) (ho:PE X o to) (ha:PA X (e :: es) t)(x8:B4 o name X.env (dr o X.env)=dr o X.env:=by rfl) (ya:((k6 fE (cc (e :: es) X.env)).all (λx=>!x.1) && (backToKw fE (Fh [] X.env)).all (λx=>x.1.isSome)
   && decide ((e :: es).length+([]:List sD).length+(if ([]:List sD).isEmpty then 0 else 1)<30))=true:=by rfl)
  (hline:(apos.endLine == fE.line)=true:=by rfl) (hs:cc (e :: es) X.env=(false,dr e X.env) :: cc es X.env:=by rfl) (EH:(k6 fE (cc es X.env)).any (·.1)=false:=by rfl) :
  PE X (.Call (.Attribute o name apos) (e :: es) [] fE) (tBM X.K T r to t):=by
 walk_at"v";refine wpAny_Call_method_late x8 ya hline rfl (cK (ho pins s σ H _ I h) λv s1 dQ=>?_);obtain⟨x,H1,I1,r1,ty,q1⟩:=dQ;obtain⟨h1,h2⟩:=ZE I1 r1 ty;refine⟨T,id,pa,slot,UW,h1,h2,?_⟩;have hA:=ha fE pins s1 σ H1 _ I1 q1;rw[hs] at hA ⊢;refine Calls.callWith_builtin (by show(false || (k6 fE (cc es X.env)).any (·.1))=false;rw[EH]<;>rfl) (Calls.evalArgs_plain ?_);exact cK hA λus s2 cS=>L2.gI cS λvs H2 I2 r2 q2=>hm pins s2 σ H2 x vs v us Q I2 r1 r2 q2
end
def ZF(X:Cx)(id:String)(r:V->List V->Hp->VK->Prop):Prop :=
 ∀ (pins:List (ag × Obj)) (s:ay) (σ:St) (H:Hp) (x:V) (xs:List V) (v:ae) (us:List ae) (Q:VK),Inv X pins σ H s->RelV x v->Vals xs us->r x xs H Q ->
  aI (aE X.prog X.w) X.A (call (.builtin id) (v :: us)) (EP X pins σ Q) X.xe s
theorem Vals.one{x:V}{us:List ae}(h:Vals [x] us):∃ u,us=[u]/\RelV x u:=by cases h;rename_i r h;cases h;exact⟨_,rfl,‹_›⟩
theorem Vals.zero:∀ {us:List ae},Vals [] us->us=[]
 |_,.nil=>rfl
theorem Vals.dropLast(h:Vals xs us):Vals xs.dropLast us.dropLast:=by
 induction h with
 |nil=>exact .nil
 |cons r t ih =>
  cases t with
  |nil=>exact .nil
  |cons q t'=>exact .cons r ih
theorem eB'{α:Type}(l:List α):l.eraseIdx (l.length-1)=l.dropLast:=by
 induction l with
 |nil=>rfl
 |cons a r ih =>
  cases r with
  |nil=>rfl
  |cons b r =>
   have e:(a :: b :: r).length-1=((b :: r).length-1)+1:=by have h1:(a :: b :: r).length=r.length+2:=rfl;have h2:(b :: r).length=r.length+1:=rfl;lia
   rw[e,List.eraseIdx_cons_succ,ih];all_goals rfl
section
variable {X:Cx}{pins:List (ag × Obj)}{σ:St}{H:Hp}{s:ay}{l:ag}{xs ys:List V}
theorem Inv.ZG{its its':List ae}{n:Nat}{f:Array ae->Array ae}{t':Nat}(I:Inv X pins σ H s)(hH:H l=some (.lst xs))(e:s.heap.get? l=some { cls:=.type "list",data:=.seq its.toArray n }) (hf:f its.toArray=its'.toArray) (hv:Vals ys its') (hz:ys.length<=bS) :
  Inv X pins σ (upd H l (.lst ys)) { s with heap:=s.heap.update l (Obj.mapSeq f),toks:=t' }:=by
 have q:=PySem.IsL.update e f;rw[hf] at q;refine I.write (x:=l) (e:=l) (by rw[hH];exact trivial) (.inl rfl) (λb' u hb hu=>(O0 s.heap (Obj.mapSeq f) (Ne.symm hb)).trans hu) ⟨_,q⟩ ?_;exact⟨hz,its',_,hv,q⟩
theorem Inv.UX(I:Inv X pins σ H s)(hv:Vals ys its)(hz:ys.length<=bS) :
  Inv X pins σ (upd H s.heap.objs.size (.lst ys)) { s with heap:=s.heap.push { cls:=.type "list",data:=.seq its.toArray },toks:=t' } :=
 I.laid (λ_ _ q=>gd _ q) (cx _) ⟨hz,its,0,hv,kK _ rfl⟩
theorem Inv.fresh(I:Inv X pins σ H s):H s.heap.objs.size=none:=I.b6.fresh (cx _)
theorem Inv.ZH (I:Inv X pins σ H s) (hH:H l=some (.lst xs)):xs.length<=bS/\∃ (its:List ae) (n:Nat),Vals xs its/\xs.length=its.length/\s.heap.get? l=some { cls:=.type "list",data:=.seq its.toArray n }:=by obtain⟨z,its,n,r,e⟩:=I.b6 l _ hH;exact⟨z,its,n,r,r.length,e⟩
end
section
variable {X:Cx}
def ZI:V->List V->Hp->VK->Prop:=λx vs H Q=>∃ l xs y,x=.ref l/\vs=[y]/\H l=some (.lst xs)/\xs.length<bS/\Q .non (upd H l (.lst (xs++[y])))
theorem R3:ZF X "list.append" ZI:=by intro pins s σ H x vs v us Q I rx rv h;obtain⟨l,xs,y,rfl,rfl,hH,hz,q⟩:=h;cases rx;obtain⟨u,rfl,ru⟩:=rv.one;obtain⟨z,its,n,r,hl,e⟩:=I.ZH hH;refine call_meets F.slot_list_append ⟨_,e,rfl⟩ F.entry_list_append (F.args_list_append_2 _ _) (PySem.list_append l its.toArray n u (by rw[kA];lia)) ⟨e,?_⟩;refine⟨.non,_,I.ZG (its':=its++[u]) hH e (by simp) (r.append (.cons ru .nil)) ?_,rfl,q⟩;rw[oo,OQ];assumption
def eC':V->List V->Hp->VK->Prop:=λx vs H Q=>∃ l xs y,x=.ref l/\vs=[]/\H l=some (.lst xs)/\xs[xs.length-1]? = some y/\Q y (upd H l (.lst xs.dropLast))
theorem eD':ZF X "list.pop" eC':=by
 intro pins s σ H x vs v us Q I rx rv h;obtain⟨l,xs,y,rfl,rfl,hH,hy,q⟩:=h;cases rx;have hus:=rv.zero;subst hus;obtain⟨z,its,n,r,hl,e⟩:=I.ZH hH;obtain⟨u,hu,ru⟩:=r.get hy;have UY:its.toArray[its.toArray.size-1]? = some u:=by show its.toArray[its.length-1]? = some u;rw[<- lP,<- hl];exact hu
 refine call_meets F.slot_list_pop ⟨_,e,rfl⟩ F.entry_list_pop (F.args_list_pop_1 _) (MeetsSeq.list_pop_last l its.toArray n u UY (by rw[kA];lia)) ⟨e,?_⟩;refine⟨y,_,I.ZG (its':=its.dropLast) hH e ?_ r.dropLast ?_,ru,q⟩
 ·show its.toArray.eraseIdxIfInBounds (its.toArray.size-1)=its.dropLast.toArray;rw[kA,List.eraseIdxIfInBounds_toArray,eB']
 ·rw[List.length_dropLast];lia
end
section
set_option maxRecDepth 100000 in
end
section
variable {κ:Type}[DecidableEq κ]
def hV(kvs:List (κ × V))(k:κ):Option V:=(kvs.find? λkv=>decide (kv.1=k)).map (·.2)
def putK(kvs:List (κ × V))(k:κ)(v:V):List (κ × V) :=
 if (kvs.any λkv=>decide (kv.1=k))=true then kvs.map (λkv=>if kv.1=k then (kv.1,v) else kv) else kvs++[(k,v)]
def ZJ(kvs:List (κ × V))(k:κ):List (κ × V):=kvs.filter λkv=>decide (kv.1≠k)
theorem yb{p:κ × V}{r:List (κ × V)}{k:κ}(e:p.1=k):hV (p :: r) k=some p.2:=by simp[hV,MB,e]
theorem yi{p:κ × V}{r:List (κ × V)}{k:κ}(e:¬ p.1=k):hV (p :: r) k=hV r k:=by simp[hV,MB,e]
theorem Pz(k:κ):∀ kvs:List (κ × V),(kvs.any λkv=>decide (kv.1=k))=(hV kvs k).isSome
 |[]=>rfl
 |p :: r=>by
  rw[D9];by_cases e:p.1=k
  ·simp only[yb e,decide_eq_true e,Bool.true_or,Option.isSome_some]
  ·rw[yi e,decide_eq_false e,Bool.false_or];exact Pz k r
theorem ZK(k j:κ)(y:V):∀ kvs:List (κ × V),hV (kvs.map λkv=>if kv.1=k then (kv.1,y) else kv) j=(hV kvs j).map λx=>if j=k then y else x
 |[]=>rfl
 |p :: r=>by
  have ih:=ZK k j y r;rw[gE];by_cases h:p.1=k
  ·rw[if_pos h];by_cases e:p.1=j
   ·rw[yb (p:=(p.1,y)) e,yb e,O7,if_pos (e.symm.trans h)]
   ·rw[yi (p:=(p.1,y)) e,yi e,ih]
  ·rw[if_neg h];by_cases e:p.1=j
   ·rw[yb (p:=p) e,yb e,O7,if_neg (λz=>h (e.trans z))]
   ·rw[yi (p:=p) e,yi e,ih]
theorem ZL(k j:κ)(y:V):∀ kvs:List (κ × V),hV kvs k=none->hV (kvs++[(k,y)]) j=if j=k then some y else hV kvs j
 |[],_=>by
  by_cases e:k=j
  ·rw[if_pos e.symm];exact yb (p:=(k,y)) e
  ·rw[if_neg (λz=>e z.symm)];exact yi (p:=(k,y)) e
 |p :: r,hn=>by
  rw[Rg];have hk:¬ p.1=k:=λz=>by rw[yb z] at hn;cases hn
  rw[yi hk] at hn;have ih:=ZL k j y r hn;by_cases e:p.1=j
  ·rw[yb e,yb e,if_neg (λz=>hk (e.trans z))]
  ·rw[yi e,yi e,ih]
theorem eF'(kvs:List (κ × V))(k j:κ)(y:V):hV (putK kvs k y) j=if j=k then some y else hV kvs j:=by
 unfold putK;by_cases a:(kvs.any λkv=>decide (kv.1=k))=true
 ·rw[if_pos a,ZK];rw[Pz] at a;by_cases e:j=k
  ·obtain⟨x,hx⟩:=Ug.mp a;rw[if_pos e,e,hx,O7,if_pos rfl]
  ·rw[if_neg e]
   cases hV kvs j with
   |none=>rfl
   |some x=>rw[O7,if_neg e]
 ·rw[if_neg a];refine ZL k j y kvs ?_;rw[Pz] at a
  cases q:hV kvs k with
  |none=>rfl
  |some x=>rw[q] at a;exact(a rfl).elim
theorem R4(kvs:List (κ × V))(k:κ)(v:V):(putK kvs k v).length<=kvs.length+1:=by
 unfold putK;split
 ·rw[b5];exact IL _ _
 ·rw[oo,oD,Rk];exact cx _
theorem xE.PB(r:xE o u):o.isSome=u.isSome:=by
 cases o with
 |none=>cases u with
  |none=>rfl
  |some _=>exact(show False from r).elim
 |some _=>cases u with
  |none=>exact(show False from r).elim
  |some _=>rfl
theorem xE.getD(r:xE o u)(rd:RelV d d'):RelV (o.getD d) (u.getD d'):=by
 cases o with
 |none=>cases u with
  |none=>exact rd
  |some _=>exact(show False from r).elim
 |some _=>cases u with
  |none=>exact(show False from r).elim
  |some _=>exact r
theorem KV.val{kvs:List (κ × V)}{vs:List (κ × ae)}(r:KV kvs vs)(k:κ):xE (hV kvs k) (valueAt vs k):=by
 unfold KV at r
 induction r with
 |nil=>exact True.intro
 |@cons p q ps qs h t ih =>
  obtain⟨h1,h2⟩:=h;by_cases e:p.1=k
  ·have e':q.1=k:=h1.symm.trans e;have b:valueAt (q :: qs) k=some q.2:=by simp[valueAt,MB,e']
   rw[yb e,b];exact h2
  ·have e':¬ q.1=k:=λz=>e (h1.trans z);have b:valueAt (q :: qs) k=valueAt qs k:=by simp[valueAt,MB,e']
   rw[yi e,b];exact ih
theorem KV.any(r:KV kvs vs)(k:κ):(kvs.any λkv=>decide (kv.1=k))=vs.any λkv=>decide (kv.1=k):=by
 unfold KV at r
 induction r with
 |nil=>rfl
 |cons h t ih=>rw[D9,D9,ih,h.1]
theorem KV.repl(r:KV kvs vs)(k:κ)(ry:RelV y u) :
  KV (kvs.map λkv=>if kv.1=k then (kv.1,y) else kv) (vs.map λkv=>if kv.1=k then (kv.1,u) else kv):=by
 unfold KV at r ⊢
 induction r with
 |nil=>exact .nil
 |@cons p q ps qs h t ih =>
  rw[gE,gE];refine .cons ?_ ih;obtain⟨h1,h2⟩:=h;by_cases e:p.1=k
  ·rw[if_pos e,if_pos (h1.symm.trans e)];exact⟨h1,ry⟩
  ·rw[if_neg e,if_neg (λz=>e (h1.trans z))];exact⟨h1,h2⟩
theorem KV.put(r:KV kvs vs)(k:κ)(ry:RelV y u):KV (putK kvs k y) (stored vs k u):=by
 unfold putK stored;rw[r.any k];by_cases e:(vs.any λkv=>decide (kv.1=k))=true
 ·rw[if_pos e,if_pos e];exact r.repl k ry
 ·rw[if_neg e,if_neg e];exact Paired.snoc r ⟨rfl,ry⟩
theorem KV.drop(r:KV kvs vs)(k:κ):KV (ZJ kvs k) (without vs k):=by
 unfold KV at r ⊢;unfold ZJ without
 induction r with
 |nil=>exact .nil
 |@cons p q ps qs h t ih =>
  obtain⟨h1,h2⟩:=h;rw[List.filter_cons,List.filter_cons];by_cases e:p.1=k
  ·have a:¬ decide (p.1≠k)=true:=by simp[e]
   have b:¬ decide (q.1≠k)=true:=by simp[h1.symm.trans e]
   rw[if_neg a,if_neg b];exact ih
  ·have e':¬ q.1=k:=λz=>e (h1.trans z);have a:decide (p.1≠k)=true:=by simp[e]
   have b:decide (q.1≠k)=true:=by simp[e']
   rw[if_pos a,if_pos b];exact .cons ⟨h1,h2⟩ ih
theorem KV.length(r:KV kvs vs):kvs.length=vs.length:=Paired.length r
end
theorem FY{P:d4}(r:RelV (kV k) u):(iL P w).is k u=true:=by
 cases k with
 |inl i=>obtain⟨t,e⟩:=(show ∃ t,u=Value.int i t from r);subst e;exact bW' P w i t
 |inr x=>obtain⟨t,e⟩:=(show ∃ t,u=Value.str x t from r);subst e;exact bX' P w x t
theorem UZ{P:d4}:∀ {ks:List Key} {us:List ae},Vals (ks.map kV) us->ItemsAre (iL P w) ks us
 |[],_,r=>by rw[List.map_nil] at r;cases r;exact .nil
 |k :: ks,_,r=>by
  rw[gE] at r
  cases r with
  |cons h t=>exact .cons (FY h) (UZ t)
abbrev KT(H:Hp):List (List Key × V)->List (List Key × ag × ae)->Prop:=Paired λp q=>p.1=q.1/\H q.2.1=some (.tup (p.1.map kV))/\RelV p.2 q.2.2
theorem KT.val{H:Hp}{kvs:List (List Key × V)}{xs:List (List Key × ag × ae)}(r:KT H kvs xs)(k:List Key):xE (hV kvs k) ((atKey xs k).map (·.2)):=by
 induction r with
 |nil=>exact True.intro
 |@cons p q ps qs h t ih =>
  obtain⟨h1,_,h2⟩:=h;by_cases e:p.1=k
  ·have e':q.1=k:=h1.symm.trans e;have b:atKey (q :: qs) k=some q.2:=by simp[atKey,MB,e']
   rw[yb e,b];exact h2
  ·have e':¬ q.1=k:=λz=>e (h1.trans z);have b:atKey (q :: qs) k=atKey qs k:=by simp[atKey,MB,e']
   rw[yi e,b];exact ih
theorem KT.repl(r:KT H kvs xs)(k:List Key)(ry:RelV y u) :
  KT H (kvs.map λkv=>if kv.1=k then (kv.1,y) else kv) (xs.map (putAt k u)):=by
 induction r with
 |nil=>exact .nil
 |@cons p q ps qs h t ih =>
  rw[gE,gE];refine .cons ?_ ih;obtain⟨h1,h2,h3⟩:=h;unfold putAt;by_cases e:p.1=k
  ·rw[if_pos e,if_pos (h1.symm.trans e)];exact⟨h1,h2,ry⟩
  ·rw[if_neg e,if_neg (λz=>e (h1.trans z))];exact⟨h1,h2,h3⟩
theorem KT.put(r:KT H kvs xs)(k:List Key)(hb:H b=some (.tup (k.map kV)))(ry:RelV y u) :
  KT H (putK kvs k y) (storedH xs k b u):=by
 have e:(kvs.any λkv=>decide (kv.1=k))=(atKey xs k).isSome:=by rw[Pz,(r.val k).PB,Ui]
 unfold putK storedH;rw[e];by_cases q:(atKey xs k).isSome=true
 ·rw[if_pos q,if_pos q];exact r.repl k ry
 ·rw[if_neg q,if_neg q];exact Paired.snoc r ⟨rfl,hb,ry⟩
theorem KT.keeps(r:KT H kvs xs)(ht:∀ b ys,H b=some (.tup ys)->H' b=some (.tup ys)):KT H' kvs xs :=
 Paired.Ul r λ_ _ z=>⟨z.1,ht _ _ z.2.1,z.2.2⟩
section
variable {P:d4}{w:eB}{H:Hp}{h:dy}{a:ag}
theorem ZM(ok:j3 P w H h)(e:Rd H a u):gL P w H h a u:=e.ok ok
theorem EI(ok:j3 P w H h)(e:Rd H a (.dK kvs)):kvs.length<=bS/\(a == oB)=false/\∃ vs,KV kvs vs/\h.DictOf (iL P w) a vs :=
 show gL P w H h a (.dK kvs) from ZM ok e
theorem ZN(ok:j3 P w H h)(e:H a=some (.dK kvs)):kvs.length<=bS/\(a == oB)=false/\∃ vs,KV kvs vs/\h.DictOf (iL P w) a vs:=EI ok (.inl e)
theorem GA(ok:j3 P w H h)(e:H a=some (.tup (ks.map kV))):(AR (iL P w)).is h ks a:=by
 obtain⟨_,its,r,o,h1,h2,n,h3⟩:=(show gL P w H h a (.tup (ks.map kV)) from ok a _ e)
 exact⟨o,its.toArray,n,h1,h2,h3,by simpa using UZ r⟩
theorem GB(ok:j3 P w H h)(e:Rd H a (.dT kvs)):kvs.length<=bS/\(a == oB)=false /\
  ∃ xs,KT H kvs xs/\h.DictOfH (AR (iL P w)) a xs:=by
 obtain⟨z,y,xs,r,o,es,ep,h1,h2,h3,h4,h5⟩:=(show gL P w H h a (.dT kvs) from ZM ok e)
 refine⟨z,y,xs,r,o,es,ep,h1,h2,h3,h4,λx hx=>?_,h5⟩;have all:∀ {l:List (List Key × V)} {m:List (List Key × ag × ae)},KT H l m->∀ x∈m,(AR (iL P w)).is h x.1 x.2.1:=by
  intro l m q
  induction q with
  |nil=>intro x hx;exact nomatch hx
  |@cons p q ps qs hq t ih =>
   intro x hx;rcases eK.mp hx with e|hx
   ·subst e;exact GA ok (by rw[<- hq.1];exact hq.2.1)
   ·exact ih x hx
 exact all r x hx
theorem ZO(ok:j3 P w H h)(e:H a=some (.dT kvs)):kvs.length<=bS/\(a == oB)=false /\
  ∃ xs,KT H kvs xs/\h.DictOfH (AR (iL P w)) a xs:=GB ok (.inl e)
end
def lh(H:Hp)(a:ag)(y:V)(r:Option V):Prop :=
 (∃ kvs k,Rd H a (.dK kvs)/\y=kV k/\r=hV kvs k)\/∃ kvs k b,Rd H a (.dT kvs)/\y=.ref b/\H b=some (.tup (k.map kV))/\r=hV kvs k
def GH(H:Hp)(a:ag)(y v:V)(H':Hp):Prop :=
 (∃ kvs k,H a=some (.dK kvs)/\y=kV k/\kvs.length<bS/\H'=upd H a (.dK (putK kvs k v))) \/
 ∃ kvs k b,H a=some (.dT kvs)/\y=.ref b/\H b=some (.tup (k.map kV))/\kvs.length<bS/\H'=upd H a (.dT (putK kvs k v))
theorem lh.k{H:Hp}{a:ag}{kvs:List (Key × V)}{k:Key}(e:H a=some (.dK kvs)):lh H a (kV k) (hV kvs k):=.inl ⟨kvs,k,.inl e,rfl,rfl⟩
theorem lh.t{H:Hp}{a b:ag}{kvs:List (List Key × V)}{k:List Key}(e:H a=some (.dT kvs))(eb:H b=some (.tup (k.map kV))):lh H a (.ref b) (hV kvs k):=.inr ⟨kvs,k,b,.inl e,rfl,eb,rfl⟩
theorem GH.k{H:Hp}{a:ag}{kvs:List (Key × V)}{k:Key}{v:V}(e:H a=some (.dK kvs))(hl:kvs.length<bS):GH H a (kV k) v (upd H a (.dK (putK kvs k v))):=.inl ⟨kvs,k,e,rfl,hl,rfl⟩
theorem GH.t{H:Hp}{a b:ag}{kvs:List (List Key × V)}{k:List Key}{v:V}(e:H a=some (.dT kvs))(eb:H b=some (.tup (k.map kV)))(hl:kvs.length<bS) :
  GH H a (.ref b) v (upd H a (.dT (putK kvs k v))):=.inr ⟨kvs,k,b,e,rfl,eb,hl,rfl⟩
section
variable {X:Cx}{pins:List (ag × Obj)}{σ:St}{H:Hp}{s:ay}{a:ag}{y v:V}{u r:ae}{o:Option V}{A:fm}{E:ae->ay->Prop}
theorem Inv.big(I:Inv X pins σ H s):oB<s.heap.objs.size:=by have h:lI<s.heap.objs.size:=(I.mod.glob.keeps I.bk).lt;exact Ua (by decide) h
theorem eG'(hu:A.units+1<fe)(I:Inv X pins σ H s)(g:lh H a y (some v))(ry:RelV y u)(h:∀ w' s',Inv X pins σ H s'->RelV v w'->Q w' s') :
  aI (aE X.prog X.w) A (getItem (.ref a) u) Q E s:=by
 rcases g with⟨kvs,k,e,ey,l⟩|⟨kvs,k,b,e,ey,eb,l⟩
 ·subst ey;obtain⟨z,hd,vs,rel,dd⟩:=EI I.b6 e;obtain⟨w',hw,lS⟩:=xE.some_of (v:=v) (o:=valueAt vs k) (by rw[l];exact rel.val k);exact wpAny_getItem_of (FY ry) dd.mapOf hw (h w' _ (I.tok _) lS)
 ·subst ey;cases (show u=Value.ref b from ry);obtain⟨z,hd,xs,rel,dd⟩:=GB I.b6 e;obtain⟨w',hw,lS⟩:=xE.some_of (v:=v) (o:=(atKey xs k).map (·.2)) (by rw[l];exact rel.val k);obtain⟨p,hp,hp2⟩:=Uh.mp hw;refine wpAny_getItem_heap (Iq hu) (GA I.b6 eb) dd hp ?_;rw[hp2];exact h w' _ (I.tok _) lS
theorem eI'(hu:A.units+1<fe)(I:Inv X pins σ H s)(g:lh H a y o)(ry:RelV y u)(h:∀ s',Inv X pins σ H s'->Q (.bool o.isSome) s') :
  aI (aE X.prog X.w) A (hJ .In u (.ref a)) Q E s:=by
 rcases g with⟨kvs,k,e,ey,l⟩|⟨kvs,k,b,e,ey,eb,l⟩
 ·subst ey;obtain⟨z,hd,vs,rel,dd⟩:=EI I.b6 e;refine wpAny_in_of (FY ry) hd dd.mapOf ?_;rw[<- (rel.val k).PB,<- l];exact h _ (I.tok _)
 ·subst ey;cases (show u=Value.ref b from ry);obtain⟨z,hd,xs,rel,dd⟩:=GB I.b6 e;refine wpAny_in_heap (Iq hu) (GA I.b6 eb) hd dd ?_;have q:=(rel.val k).PB;rw[Ui] at q;rw[<- q,<- l];exact h _ (I.tok _)
theorem eJ'(hu:A.units+1<fe)(I:Inv X pins σ H s)(g:lh H a y o)(ry:RelV y u)(h:∀ s',Inv X pins σ H s'->Q (.bool (!o.isSome)) s') :
  aI (aE X.prog X.w) A (hJ .NotIn u (.ref a)) Q E s:=by
 rcases g with⟨kvs,k,e,ey,l⟩|⟨kvs,k,b,e,ey,eb,l⟩
 ·subst ey;obtain⟨z,hd,vs,rel,dd⟩:=EI I.b6 e;refine wpAny_notIn_of (FY ry) hd dd.mapOf ?_;rw[<- (rel.val k).PB,<- l];exact h _ (I.tok _)
 ·subst ey;cases (show u=Value.ref b from ry);obtain⟨z,hd,xs,rel,dd⟩:=GB I.b6 e;refine wpAny_notIn_heap (Iq hu) (GA I.b6 eb) hd dd ?_;have q:=(rel.val k).PB;rw[Ui] at q;rw[<- q,<- l];exact h _ (I.tok _)
theorem R5(I:Inv X pins σ H s)(mu:O8 (H a))(hs:Heap.SameBut a s.heap h')(he:∃ q,h'.get? a=some q)(new:gL X.prog X.w (upd H a ob) h' a ob) :
  Inv X pins σ (upd H a ob) { s with heap:=h',toks:=t' } :=
 I.write (x:=a) (e:=a) mu (.inl rfl) (λb q hb z=>(hs.2 b hb).trans z) he new
theorem ZP{P:d4}(z:kvs.length<=bS)(hd:(a == oB)=false)(rel:KV kvs vs)(dd:h'.DictOf (iL P w) a vs) :
  gL P w H' h' a (.dK kvs):=⟨z,hd,vs,rel,dd⟩
theorem eK'(hu:A.units+1<fe)(I:Inv X pins σ H s)(g:GH H a y v H')(ry:RelV y u)(rv:RelV v r)(h:∀ s',Inv X pins σ H' s'->Q () s') :
  aI (aE X.prog X.w) A (setItem (.ref a) u r) Q E s:=by
 rcases g with⟨kvs,k,e,ey,l,eH⟩|⟨kvs,k,b,e,ey,eb,l,eH⟩
 ·subst ey eH;obtain⟨z,hd,vs,rel,dd⟩:=ZN I.b6 e;have hz:vs.length<=bS:=by rw[<- rel.length];exact z
  have hl:(putK kvs k v).length<=bS:=by have:=R4 kvs k v;lia
  refine wpAny_setItem_pairs (hsz:=hz) (FY ry) dd λh' EJ hs=>h _ ?_;have he:∃ q,h'.get? a=some q:=let ⟨q,_,_,hq,_⟩:=EJ;⟨q,hq⟩
  exact R5 I (by rw[e];exact True.intro) hs he (ZP hl hd (rel.put k rv) EJ)
 ·subst ey eH;cases (show u=Value.ref b from ry);obtain⟨z,hd,xs,rel,dd⟩:=ZO I.b6 e;have hz:xs.length<=bS:=by rw[<- Paired.length rel];exact z
  have hl:(putK kvs k v).length<=bS:=by have:=R4 kvs k v;lia
  refine wpAny_setItem_heap (hsz:=hz) (Iq hu) (GA I.b6 eb) dd λh' EJ hs=>h _ ?_;obtain⟨q,es,ep,hq,h2,h3,h4,_,h5⟩:=EJ;refine R5 I (by rw[e];exact True.intro) hs ⟨q,hq⟩ ⟨hl,hd,_,(rel.put k eb rv).keeps λc ys ec=>?_,q,es,ep,hq,h2,h3,h4,h5⟩;rw[cy (WC ec e (λz=>nomatch z))];exact ec
end
section
variable {X:Cx}{pins:List (ag × Obj)}{σ:St}{H:Hp}{s:ay}{a:ag}{kvs:List (Key × V)}{A:fm}{E:ae->ay->Prop}
theorem eL' (I:Inv X pins σ H s) (e:Rd H a (.dK kvs)) (h:∀ t s',Inv X pins σ H s'->Q (.int kvs.length t) s'):aI (aE X.prog X.w) A (call (.builtin "len") [.ref a]) Q E s:=by obtain⟨z,hd,vs,rel,dd⟩:=EI I.b6 e;refine call_len_dict hd dd (by rw[<- rel.length];rw[jI] at z;lia) ?_;rw[<- rel.length];exact h _ _ (I.tok _)
end
theorem eM' {X:Cx} (I:Inv X pins σ H s) (g:lh H a y o):s.TypeIs (.ref a) "dict" := by
 rcases g with⟨kvs,k,e,_,_⟩|⟨kvs,k,b,e,_,_,_⟩
 ·obtain⟨_,_,vs,_,dd⟩:=EI I.b6 e;exact dd.typeIs
 ·obtain⟨_,_,xs,_,dd⟩:=GB I.b6 e;exact dd.typeIs
def eN'(td ty tv:TE):TS:=λD σ H=>tv σ H λv H1=>td σ H1 λx H2=>ty σ H2 λy H3=>∃ a H4,x=.ref a/\GH H3 a y v H4/\D.nx σ H4
section
variable {X:Cx}{o i value:Expr}{pos pos':Pos}{td ty tv:TE}
theorem eO'(hu:X.A.units+1<fe)(ho:PE X o td)(hi:PE X i ty)(hv:PE X value tv)(hs:xA value (some (.Subscript o i pos')) pos.line X.env=pure false) :
  PS X (.Assign [.Subscript o i pos'] value pos) (eN' td ty tv):=by
 intro pins s σ H D I h;refine wpAny_Assign_Subscript (cK (hv pins s σ H _ I h) λr s1 cS=>L2.gI cS λv H1 I1 rv q1=>cK (ho pins s1 σ H1 _ I1 q1) λu s2 cS=>L2.gI cS λx H2 I2 rx q2=>cK (hi pins s2 σ H2 _ I2 q2) λiv s3 dQ=>?_) hs;obtain⟨y,H3,I3,ry,a,H4,ex,g,q3⟩:=dQ;subst ex;obtain rfl:u=Value.ref a:=rx;exact eK' hu I3 g ry rv λs4 I4=>⟨σ,H4,I4,q3⟩
end
theorem eP' {P:d4} (h:dy) (hb:oB<h.objs.size):gL P w H (h.push { cls:=.type "dict",data:=.dict #[] }) h.objs.size (.dK []) :=
 ⟨fz _,beq_eq_false_iff_ne.mpr (Ne.symm (gi hb)),[],.nil,Heap.DictOf.new h⟩
theorem eQ' {P:d4} (h:dy) (hb:oB<h.objs.size):gL P w H (h.push { cls:=.type "dict",data:=.dict #[] }) h.objs.size (.dT []) :=
 ⟨fz _,beq_eq_false_iff_ne.mpr (Ne.symm (gi hb)),[],.nil,_,#[],0,kK _ rfl,⟨rfl,rfl,rfl⟩,rfl,rfl,p9⟩
def eR':TE:=λ_ H Q=>∀ p,H p=none->Q (.ref p) (upd H p (.dT []))
section
variable {X:Cx}{pos:Pos}
theorem eS':PE X (.Dict [] [] pos) eR':=λpins s σ H Q I h =>
 wpAny_Dict_empty ⟨.ref s.heap.objs.size,_,I.laid (a:=s.heap.objs.size) (o:=.dT []) (t':=s.toks) (λ_ _ q=>gd _ q) (cx _) (eQ' s.heap I.big),rfl,h _ (I.b6.fresh (cx _))⟩
end
def U0:List (TE × TE)->St->Hp->(List (V × V)->Hp->Prop)->Prop
 |[],_,H,Q=>Q [] H
 | (tk,tv) :: r,σ,H,Q=>tk σ H λx H1=>tv σ H1 λy H2=>U0 r σ H2 λps H3=>Q ((x,y) :: ps) H3
abbrev VV:List (V × V)->List (ae × ae)->Prop:=Paired λp q=>RelV p.1 q.1/\RelV p.2 q.2
def R6(X:Cx)(pos:Pos)(keys:List (Option Expr))(values:List Expr)(Kb:List (TE × TE)):Prop :=
 ∀ (pins:List (ag × Obj)) (s:ay) (σ:St) (H:Hp) (Q:List (V × V)->Hp->Prop),Inv X pins σ H s->U0 Kb σ H Q ->
  aI (aE X.prog X.w) X.A (evalPairs (pairTrees keys values X.env pos)) (λvs s'=>∃ ps H',Inv X pins σ H' s'/\VV ps vs/\Q ps H') X.xe s
theorem eT'{X:Cx}:R6 X pos [] [] []:=λpins s σ H Q I h=>pairTrees_nil_walk ⟨[],H,I,.nil,h⟩
theorem eU'{X:Cx}(hk:PE X k tk)(hv:PE X v tv)(hr:R6 X pos ks vs Kb) :
  R6 X pos (some k :: ks) (v :: vs) ((tk,tv) :: Kb):=λpins s σ H Q I h =>
 pairTrees_cons_walk (cK (hk pins s σ H _ I h) λu s1 cS=>L2.gI cS λx H1 I1 rx q1=>cK (hv pins s1 σ H1 _ I1 q1) λw2 s2 cS=>L2.gI cS λy H2 I2 ry q2 =>
  cK (hr pins s2 σ H2 _ I2 q2) λws s3 cS=>L2.gI cS λps H3 I3 rel q3=>⟨(x,y) :: ps,H3,I3,.cons ⟨rx,ry⟩ rel,q3⟩)
def PC(kvs more:List (Key × V)):List (Key × V):=more.foldl (λacc kv=>putK acc kv.1 kv.2) kvs
theorem KV.merge:∀ {more:List (Key × V)} {rs:List (Key × ae)} {kvs:List (Key × V)} {vs:List (Key × ae)},KV more rs->KV kvs vs->KV (PC kvs more) (merged vs rs):=by
 intro more rs kvs vs r;unfold KV at r
 induction r generalizing kvs vs with
 |nil=>intro q;exact q
 |@cons p q ps qs h t ih =>
  intro r0;have e:KV (putK kvs p.1 p.2) (stored vs q.1 q.2):=by have:=r0.put p.1 h.2;rw[<- h.1];exact this
  exact ih e
theorem ZQ:∀ (more kvs:List (Key × V)),(PC kvs more).length<=kvs.length+more.length
 |[],kvs=>by show kvs.length<=kvs.length+0;lia
 |p :: r,kvs=>by have h1:=ZQ r (putK kvs p.1 p.2);have h2:=R4 kvs p.1 p.2;show(PC (putK kvs p.1 p.2) r).length<=_;rw[oD];lia
theorem ZR{P:d4}:∀ {kvs:List (Key × V)} {ws:List (ae × ae)},VV (kvs.map λkv=>(kV kv.1,kv.2)) ws->∃ rs,Carries (iL P w) ws rs/\KV kvs rs
 |[],_,r=>by rw[List.map_nil] at r;cases r;exact⟨[],True.intro,.nil⟩
 |p :: kvs,_,r=>by
  rw[gE] at r
  cases r with
  |@cons a b as bs h t =>obtain⟨rs,c,q⟩:=ZR (P:=P) (w:=w) t;obtain⟨b1,b2⟩:=b;exact⟨(p.1,b2) :: rs,⟨FY h.1,rfl,c⟩,.cons ⟨rfl,h.2⟩ q⟩
def eV'(Kb:List (TE × TE)):TE:=λσ H Q=>∀ p,H p=none->U0 Kb σ (upd H p (.dK [])) λps H2=>H2 p=some (.dK [])/\∃ kvs:List (Key × V),ps=kvs.map (λkv=>(kV kv.1,kv.2))/\kvs.length<=15/\Q (.ref p) (upd H2 p (.dK (PC [] kvs)))
theorem eW'{X:Cx}(h:R6 X pos keys values Kb)(pg:keys.all (·.isSome)=true)(hl:keys.length=values.length)(h0:keys≠[])(h15:keys.length<=15):PE X (.Dict keys values pos) (eV' Kb):=by
 intro pins s σ H Q I q;have hn:=I.b6.fresh (cx s.heap.objs.size);have I1:=I.laid (a:=s.heap.objs.size) (o:=.dK []) (h':=s.heap.push { cls:=.type "dict",data:=.dict #[] }) (t':=s.toks) (λ_ _ q=>gd _ q) (cx _) (eP' s.heap I.big);refine wpAny_Dict_walk (knd:=iL X.prog X.w) pg hl h0 h15 (cK (h pins _ σ _ _ I1 (q _ hn)) λws s2 dQ=>?_);obtain⟨ps,H2,I2,rel,e,kvs,ep,lk,q2⟩:=dQ;subst ep;obtain⟨rs,c,rk⟩:=ZR (P:=X.prog) (w:=X.w) rel;obtain⟨z,hd,vs0,r0,dd⟩:=ZN I2.b6 e;cases r0;refine⟨rs,c,dd,λh' EJ hs=>⟨.ref s.heap.objs.size,_,?_,rfl,q2⟩⟩;have hz:(PC [] kvs).length<=bS:=by have h1:=ZQ kvs [];rw[Rk] at h1;rw[jI];lia
 have he:∃ q,h'.get? s.heap.objs.size=some q:=let ⟨q,_,_,hq,_⟩:=EJ;⟨q,hq⟩
 exact R5 I2 (by rw[e];exact True.intro) hs he (ZP hz hd (rk.merge .nil) EJ)
structure M1(X:Cx)(o:Expr)(m:Str)(apos:Pos)(e:Expr)(fE:Pos):Prop where
 base:B4 o m X.env (dr o X.env)=dr o X.env
 few:((k6 fE (cc [e] X.env)).all (fun x=>!x.1) && (backToKw fE (Fh [] X.env)).all (fun x=>x.1.isSome)
  && decide (([e]:List Expr).length+([]:List sD).length+(if ([]:List sD).isEmpty then 0 else 1)<30))=true
 line:(apos.endLine == fE.line)=true
 trees:k6 fE (cc [e] X.env)=[(false,dr e X.env)]
structure M2(X:Cx)(o:Expr)(m:Str)(apos:Pos)(e f:Expr)(fE:Pos):Prop where
 base:B4 o m X.env (dr o X.env)=dr o X.env
 few:((k6 fE (cc [e,f] X.env)).all (fun x=>!x.1) && (backToKw fE (Fh [] X.env)).all (fun x=>x.1.isSome)
  && decide (([e,f]:List Expr).length+([]:List sD).length+(if ([]:List sD).isEmpty then 0 else 1)<30))=true
 line:(apos.endLine == fE.line)=true
 trees:k6 fE (cc [e,f] X.env)=[(false,dr e X.env),(false,dr f X.env)]
def PD(H:Hp)(a:ag):Prop:=(∃ kvs,Rd H a (.dK kvs))\/∃ kvs,Rd H a (.dT kvs)
theorem U4{X:Cx}(I:Inv X pins σ H s)(d:PD H a) :
  s.TypeIs (.ref a) "dict"/\(∀ b,Value.ref a=.ref b->∃ ob,s.heap.get? b=some ob/\ob.dict=none)/\(a == oB)=false:=by
 rcases d with⟨kvs,e⟩|⟨kvs,e⟩
 ·obtain⟨_,hd,vs,_,dd⟩:=EI I.b6 e;refine⟨dd.typeIs,λb q=>?_,hd⟩;cases q;obtain⟨ob,_,_,h1,h2,_⟩:=dd;exact⟨ob,h1,h2.2.1⟩
 ·obtain⟨_,hd,xs,_,dd⟩:=GB I.b6 e;refine⟨dd.typeIs,λb q=>?_,hd⟩;cases q;obtain⟨ob,_,_,h1,h2,_⟩:=dd;exact⟨ob,h1,h2.2.1⟩
section
variable {X:Cx}{pins:List (ag × Obj)}{σ:St}{H:Hp}{s:ay}{a:ag}{y d:V}{u r:ae}{o:Option V}{A:fm}{E:ae->ay->Prop}
theorem eZ'(hu:A.units+1<fe)(I:Inv X pins σ H s)(g:lh H a y o)(ry:RelV y u)(h:∀ w' s',Inv X pins σ H s'->RelV (o.getD .non) w'->Q w' s') :
  aI (aE X.prog X.w) A (call (.builtin "dict.get") [.ref a,u]) Q E s:=by
 rcases g with⟨kvs,k,e,ey,l⟩|⟨kvs,k,b,e,ey,eb,l⟩
 ·subst ey;obtain⟨z,hd,vs,rel,dd⟩:=EI I.b6 e;refine call_meetsIn PySem.F.slot_dict_get dd.typeIs PySem.F.entry_dict_get (PySem.F.args_dict_get_2 _ _) (meets_dict_get (iL X.prog X.w) a (FY ry) hd) ⟨_,dd.mapOf,h _ _ (I.tok _) ?_⟩;rw[l];exact(rel.val k).getD rfl
 ·subst ey;cases (show u=Value.ref b from ry);obtain⟨z,hd,xs,rel,dd⟩:=GB I.b6 e;refine call_meetsIn PySem.F.slot_dict_get dd.typeIs PySem.F.entry_dict_get (PySem.F.args_dict_get_2 _ _) (meetsH_dict_get (AR (iL X.prog X.w)) a b hd) ⟨Iq hu,k,xs,GA I.b6 eb,dd,h _ _ (I.tok _) ?_⟩;rw[l];exact(rel.val k).getD rfl
theorem fa'(hu:A.units+1<fe)(I:Inv X pins σ H s)(g:lh H a y o)(ry:RelV y u)(rd:RelV d r)(h:∀ w' s',Inv X pins σ H s'->RelV (o.getD d) w'->Q w' s') :
  aI (aE X.prog X.w) A (call (.builtin "dict.get") [.ref a,u,r]) Q E s:=by
 rcases g with⟨kvs,k,e,ey,l⟩|⟨kvs,k,b,e,ey,eb,l⟩
 ·subst ey;obtain⟨z,hd,vs,rel,dd⟩:=EI I.b6 e;refine call_meetsIn PySem.F.slot_dict_get dd.typeIs PySem.F.entry_dict_get (PySem.F.args_dict_get_3 _ _ _) (meets_dict_get_default (iL X.prog X.w) a (FY ry) hd r) ⟨_,dd.mapOf,h _ _ (I.tok _) ?_⟩;rw[l];exact(rel.val k).getD rd
 ·subst ey;cases (show u=Value.ref b from ry);obtain⟨z,hd,xs,rel,dd⟩:=GB I.b6 e;refine call_meetsIn PySem.F.slot_dict_get dd.typeIs PySem.F.entry_dict_get (PySem.F.args_dict_get_3 _ _ _) (meetsH_dict_get_default (AR (iL X.prog X.w)) a b hd r) ⟨Iq hu,k,xs,GA I.b6 eb,dd,h _ _ (I.tok _) ?_⟩;rw[l];exact(rel.val k).getD rd
end
def fc'(td ty:TE):TE:=λσ H Q=>td σ H λx H1=>∃ a,x=.ref a/\PD H1 a/\ty σ H1 λy H2=>∃ o,lh H2 a y o/\Q (o.getD .non) H2
def ZS(td ty tx:TE):TE:=λσ H Q=>td σ H λx H1=>∃ a,x=.ref a/\PD H1 a/\ty σ H1 λy H2=>tx σ H2 λz H3=>∃ o,lh H3 a y o/\Q (o.getD z) H3
section
variable {X:Cx}{o e f:Expr}{apos fE:Pos}{td ty tx:TE}
theorem fd' (hu:X.A.units+1<fe) (ho:PE X o td) (he:PE X e ty) (m:M1 X o "get" apos e fE):PE X (.Call (.Attribute o "get" apos) [e] [] fE) (fc' td ty):=by intro pins s σ H Q I h;refine wpAny_Call_method m.base m.few m.line PySem.F.plainAttrs_dict PySem.F.slot_dict_get PySem.F.type_dict_get (cK (ho pins s σ H _ I h) λu s1 dQ=>?_);obtain⟨x,H1,I1,rx,a,ex,d,q1⟩:=dQ;subst ex;obtain rfl:u=Value.ref a:=rx;obtain⟨t1,t2,_⟩:=U4 I1 d;refine⟨t1,t2,?_⟩;rw[m.trees];refine Calls.callWith_builtin rfl (Calls.evalArgs_plain (Calls.spliced_cons (cK (he pins s1 σ H1 _ I1 q1) λiv s2 ⟨y,H2,I2,ry,ov,g,q2⟩=>Calls.spliced_nil ?_)));exact eZ' hu I2 g ry λw' s3 I3 lS=>⟨_,H2,I3,lS,q2⟩
theorem fe' (hu:X.A.units+1<fe) (ho:PE X o td) (he:PE X e ty) (hf:PE X f tx) (m:M2 X o "get" apos e f fE):PE X (.Call (.Attribute o "get" apos) [e,f] [] fE) (ZS td ty tx):=by
 intro pins s σ H Q I h;refine wpAny_Call_method m.base m.few m.line PySem.F.plainAttrs_dict PySem.F.slot_dict_get PySem.F.type_dict_get (cK (ho pins s σ H _ I h) λu s1 dQ=>?_);obtain⟨x,H1,I1,rx,a,ex,d,q1⟩:=dQ;subst ex;obtain rfl:u=Value.ref a:=rx;obtain⟨t1,t2,_⟩:=U4 I1 d;refine⟨t1,t2,?_⟩;rw[m.trees];refine Calls.callWith_builtin rfl (Calls.evalArgs_plain (Calls.spliced_cons (cK (he pins s1 σ H1 _ I1 q1) λiv s2 cS=>L2.gI cS λy H2 I2 ry q2 =>
  Calls.spliced_cons (cK (hf pins s2 σ H2 _ I2 q2) λfv s3 ⟨z,H3,I3,rz,ov,g,q3⟩=>Calls.spliced_nil ?_))))
 exact fa' hu I3 g ry rz λw' s4 I4 lS=>⟨_,H3,I4,lS,q3⟩
end
end L2
namespace ZT
open PySem PySem.W PySem.Calls PyProof.Rows
theorem ff'{P:Params}:∀ (ns:List Int) (vs:List ae),WellAll P h vs (ns.map WData.int)->IntsAre vs ns:=by
 intro ns
 induction ns with
 |nil =>intro vs w;rw[List.map_nil] at w;cases w;exact .nil
 |cons n ns ih =>
  intro vs w;rw[gE] at w
  cases w with
  |cons a b =>cases a;exact .cons _ _ (ih _ b)
theorem fg'{l:OpenLaw}{n:Nat}(hn:l.most=some n){P:Params}{h:dy}{args:List WData}{vals:List ae}(GL:l.row.toRowW.claim.pre args=true) (EK:WellAll P h vals args) :
  ∃ a vs ns,vals=[Value.ref a]/\args=[WData.list (ns.map WData.int)]/\h.get? a=some { cls:=.type "list",data:=.seq vs.toArray }/\IntsAre vs ns/\ns.length<=n:=by
 have ui:WShape.hasAll [] args [.list .int]=true:=(pre_splitW GL).1;have hc:l.pre.holds [] { args:=args }=true:=(pre_splitW GL).2;obtain⟨d,r,rfl,h1,h2⟩:=hasAllW_cons ui;obtain rfl:=hasAllW_nil h2;obtain⟨xs,rfl,h3⟩:=hasW_list h1;obtain⟨ns,rfl⟩:=items_int h3;have hlen:ns.length<=n:=by
  unfold OpenLaw.pre at hc;have h4:(WTm.not (.lt (.lit (.int (n:Int))) (.len (.arg 0)))).holds [] { args:=[.list (ns.map .int)] }=true:=by have h4:=(holds_andW hc).1;rw[hn] at h4;exact h4
  have h5:=condW_of h4 (w_not (w_lt w_lit (w_len_list (w_arg rfl))));rw[b5] at h5;refine O1 λq=>?_;have q':(n:Int)<((ns.length:Nat):Int):=by lia
  first
   | (rw[decide_eq_true q'] at h5;exact absurd h5 (by decide))
   | (simp at h5;lia)
 cases EK with
 |cons w1 w2 =>
  cases w2
  cases w1 with
  |list ho pg=>exact⟨_,_,ns,rfl,rfl,ho,ff' ns _ pg,hlen⟩
theorem fh'(l:OpenLaw)(args:List WData):l.row.toRowW.claim.post args (.bool true) args=true :=
 postW_of (r:=l.row.toRowW) (X:=(true == true)) (show WShape.has [] (.bool true) .bool=true by first|rfl|decide|simp[WShape.has,WShape.arms,WShape.armsAll]) (show(WTm.eq .res (.lit (.bool true))).value [] { args:=args,res:=some (.bool true),after:=args }=some (.bool (true == true)) from w_eq_bool (w_res rfl) w_lit) rfl
theorem fi'{l:OpenLaw}{n:Nat}{q:d4}{loose:List Str}{XP:(Str->Option ae)->dy->Prop}{YP:eB->dy->Prop}{d:DefRec}(hn:l.most=some n) (PF:d.params.defaults=[])(call:∀ (w:eB) (k8 fP:ay) (mg mb:Str->Option ae) (fa:ag) (o:Obj) (pm cd doc:ae) (a:ag) (vs:List ae) (ns:List Int),
   Ground q loose [] XP w k8 mg mb fP.heap->YP w fP.heap ->
   fP.heap.get? fa=some o->o.data=.func (docDef d.name d.params d.body d.scope pm cd doc)->fP.heap.CodeRec cd d.name->mg d.name=some (.ref fa) ->
   fP.heap.get? a=some { cls:=.type "list",data:=.seq vs.toArray }->IntsAre vs ns->ns.length<=n->fP.gens = #[] ->
   codeAny (aE l.prog w) callerA (.call (.ref fa) ⟨[.ref a],[]⟩) (λr s'=>r=.ok (.ret (.bool true))/\OldK fP.heap s'.heap/\s'.os=fP.os/\AllBare s'.gens) fP) :
  WalkO q loose XP YP l.row.toRowW d [] (λf vs=>PySem.call f vs):=by
 intro w k8 fP mg mb G Y fa o pm cd doc dV kV ho hd tS hD PH hg args vals as GL hlay hrd EK GN;obtain rfl:dV=.none:=Dflts.none hD PF;obtain rfl:kV=.none:=Dflts.noKw hD;obtain⟨a,vs,ns,rfl,rfl,U5,hints,hlen⟩:=fg' hn GL EK;refine enter_call (codeAny_mono (call w k8 fP mg mb fa o pm cd doc a vs ns G Y ho (fd_plain hd) tS PH U5 hints hlen hg) λr s' hq=>?_);obtain⟨rfl,h2,h3,h4⟩:=hq;exact⟨.inl ⟨.bool true,.bool true,[],rfl,λ_=>rfl,.bool true,fh' l _,λ_=>⟨List.Pairwise.nil,λ_ hm=>(nomatch hm)⟩⟩,h2,h3,h4⟩
end ZT
namespace L2
open PySem PySem.Spec PyProof.Rows
theorem ZU:∀ {vs:List ae} {ns:List Int},IntsAre vs ns->Vals (ns.map V.int) vs
 |_,_,.nil=>.nil
 |_,_,.cons n t h=>.cons ⟨t,rfl⟩ (ZU h)
def Only(H:Hp):Prop:=∀ b,H b=none\/∃ o xs,H b=some (.fN o (.lst xs))
theorem fj'{P:d4}{K:aC}(KX:K.In fP.heap) (ZV:fP.heap.Ns lI mg) (hb:fP.heap.Ns builtinsNs mb) (CC:∀ x:Str,x ≠ "__name__"->mb x=mM x) (fk':fP.heap.NoLimit) (hg:fP.gens = #[])(ha:fP.heap.get? a=some { cls:=.type "list",data:=.seq vs.toArray }) (hi:IntsAre vs ns) (hl:ns.length<=bS) (hr:nv k callerA) (F:∀ base:dy,K.In base->base.Ns lI mg->AB P w K mg base CX k fa fd [x] sp) (fm':∀ (s:ay) (u:ae),BindsTo s fd ⟨[u],[]⟩ [(x,u)]) (FV:∀ H:Hp,Only H->fw K H a (ns.map V.int)->sp [.ref a] H (λv _=>v=.bl true) λ_ _ _=>False) (U6:∀ H e s',CX [] H fP (λ_ _ _=>False) e s'->False) :
  codeAny (aE P w) callerA (.call (.ref fa) ⟨[.ref a],[]⟩) (λr s'=>r=.ok (.ret (.bool true))/\OldK fP.heap s'.heap/\s'.os=fP.os/\AllBare s'.gens) fP:=by
 have rv:=ZU hi;have fn':=hi.length
 -- from an abstract heap in which nothing but the script may be tracked
 have core:∀ H:Hp,Only H->fw K H a (ns.map V.int)->j3 P w H fP.heap->(∀ b,H b≠none->b=a)->(H a≠none->K.lookup a=none) ->
   codeAny (aE P w) callerA (.call (.ref fa) ⟨[.ref a],[]⟩) (λr s'=>r=.ok (.ret (.bool true))/\OldK fP.heap s'.heap/\s'.os=fP.os/\AllBare s'.gens) fP:=by
  intro H hO hS b6 hA hK;have ZW:∀ {b:ag} {o:Obj},fP.heap.get? b=some o->H b=none->(EC fP.heap H).get? b=some o:=λe n=>ca' e n;have Pp:∀ {b:ag} {o:Obj} {es:Array DictEntry} {ep:Nat},fP.heap.get? b=some o->o.data=.dict es ep->H b=none:=λ{b o es ep} e d=>by
   cases q:H b with
   |none=>rfl
   |some u =>have e':b=a:=hA b (by rw[q];simp);subst e';rw[ha] at e;cases e;have d':Data.seq vs.toArray _=Data.dict es ep:=d;cases d'
  have R7:∀ {b:ag} {m:Str->Option ae},fP.heap.Ns b m->(EC fP.heap H).Ns b m:=λ{b m} ⟨o,es,ep,e,d,r⟩=>⟨o,es,ep,ZW e (Pp e d),d,r⟩
  have ZX:K.In (EC fP.heap H):=λb o e=>ZW (KX b o e) (by
   cases q:H b with
   |none=>rfl
   |some u =>
    have e':b=a:=hA b (by rw[q];simp);subst e';rw[hK (by rw[q];simp)] at e;cases e)
  have hM:Mod K mg (EC fP.heap H):=⟨ZX,R7 ZV,⟨mb,R7 hb,CC⟩,let ⟨mc,h1,h2⟩:=fk';⟨mc,R7 h1,h2⟩⟩
  have e0:RT P w K mg (EC fP.heap H) callerA [] fP H:=⟨rfl,hM,λb o e=>cb' e,IY (bZ' _ _),trivial,λb hb=>absurd (show b∈([]:List ag) from hb) (by simp),b6,.of_eq hg⟩
  refine codeAny_mono ((F _ ZX (R7 ZV)).run callerA [] fP H ⟨[.ref a],[]⟩ [.ref a] [.ref a] _ _ hr e0 (fm' fP (.ref a)) (.cons rfl .nil) (FV H hO hS)) λr s' h=>?_
  cases r with
  |error e=>exact(U6 H e s' h).elim
  |ok fl =>
   cases fl with
   |next=>exact False.elim h
   |brk=>exact False.elim h
   |cont=>exact False.elim h
   |ret u =>
    obtain⟨v,H',os,bare,un,fo',r',q⟩:=h;have q':v=.bl true:=q;subst q';obtain rfl:u=Value.bool true:=r';refine⟨rfl,OldK.of_keep λb o e=>?_,os,bare⟩
    cases q:H b with
    |none=>exact un.keep b o e q (by intro z;exact absurd (show b∈([]:List ag) from z) (by simp)) (by simp)
    |some u =>
     rcases hO b with z|⟨ob,xs,z⟩
     ·rw[q] at z;cases z
     ·have z2:=un.wa b ob _ z;obtain⟨e1,_⟩:=b6 b _ z;obtain⟨e2,_⟩:=fo' b _ z2;rw[e] at e1;cases e1;exact e2
 cases hk:K.lookup a with
 |some o =>
  -- the script is one of the module's own objects
  have e:=KX a o hk;rw[ha] at e;cases e;refine core (λ_=>none) (λ_=>.inl rfl) (.inr ⟨_,vs.toArray,_,hk,rfl,rfl,rfl,by rw[kA,fn'];exact hl,by simpa using rv⟩) (λb u z=>by have z':(none:Option HO)=some u:=z;cases z') (λb z=>absurd rfl z) λz=>absurd rfl z
 |none =>
  refine core (λb=>if b=a then some (.fN { cls:=.type "list",data:=.seq vs.toArray } (.lst (ns.map V.int))) else none) (λb=>?_) (.inl (.inr ⟨{ cls:=.type "list",data:=.seq vs.toArray },if_pos rfl⟩)) (λb u z=>?_) (λb z=>?_) λ_=>hk
  ·by_cases hb:b=a
   ·exact .inr ⟨_,_,if_pos hb⟩
   ·exact .inl (if_neg hb)
  ·by_cases hb:b=a
   ·have z':=(if_pos hb).symm.trans z;cases z';subst hb;exact⟨ha,by rw[b5];exact hl,vs,_,rv,ha⟩
   ·have z':=(if_neg hb).symm.trans z;cases z'
  ·by_cases hb:b=a
   ·exact hb
   ·exact absurd (if_neg hb) z
theorem fp'{l:TL}{n k:Nat}{q:d4}{loose:List Str}{XP:(Str->Option ae)->dy->Prop}{YP:eB->dy->Prop}{d:DefRec}{K:Params->aC}{CX:eB->FR}{sp:eB->Sp}{x:Str}(hn:l.most=some n) (Ki:n<=bS) (PF:d.params.defaults=[]) (hr:nv k callerA)(hY:∀ (w:eB) (h:dy),YP w h->(K w.params).In h)(F:∀ (w:eB) (mg:Str->Option ae) (fa:ag) (h:dy),(K w.params).In h->h.Ns lI mg->mg d.name=some (.ref fa) ->
   ∃ fd:FuncData,(∀ (s:ay) (u:ae),BindsTo s fd ⟨[u],[]⟩ [(x,u)]) /\
    ∀ base:dy,(K w.params).In base->base.Ns lI mg->AB l.prog w (K w.params) mg base (CX w) k fa fd [x] (sp w))
  (FV:∀ (w:eB) (H:Hp) (a:ag) (ns:List Int),ns.length<=n->Only H->fw (K w.params) H a (ns.map V.int)->sp w [.ref a] H (λv _=>v=.bl true) λ_ _ _=>False)
  (U6:∀ (w:eB) (H:Hp) (s:ay) (e:ae) (s':ay),CX w [] H s (λ_ _ _=>False) e s'->False) :
  PySem.W.WalkO q loose XP YP l.row.toRowW d [] (λf vs=>PySem.call f vs):=by
 refine ZT.fi' hn PF λw k8 fP mg mb fa o pm cd doc a vs ns G Y ho hd tS PH U5 hints hlen hg=>?_;have KX:=hY w _ Y;obtain⟨fd,hb,hF⟩:=F w mg fa _ KX G.T.g PH;exact fj' KX G.T.g G.T.b G.T.builtins G.T.nolimit hg U5 hints (iX hlen Ki) hr hF hb (λH hO hS=>FV w H a ns hlen hO hS) λH e s'=>U6 w H fP e s'
def CD(s:Stmt):Arguments:=match s with
 |.FunctionDef _ a _ _ _ _ _ _ _ _=>a
 |_=>{ posonlyargs:=[],args:=[],vararg:=none,kwonlyargs:=[],kw_defaults:=[],kwarg:=none,defaults:=[] }
def yk(s:Stmt):List Stmt:=match s with
 |.FunctionDef _ _ b _ _ _ _ _ _ _=>b
 |_=>[]
def mB(s:Stmt):Scope:=match s with
 |.FunctionDef _ _ _ _ _ _ sc _ _ _=>sc
 |_=>{ kind:=.function,names:=[],isGenerator:=false,isCoroutine:=false }
abbrev wc:FR:=λ_ _ _ _ _ _=>False
abbrev E0:XK:=λ_ _ _=>False
theorem fq'{X:Cx}:Passes wc X E0:=λ_ _ _ _ _ _ _ h=>h.elim
structure CF(K:aC)(x qual:Str)(st:Stmt)(f:ag)(fd:FuncData):Prop where
 ex:∃ (oc:ae) (od:Option ag) (kV doc pm:ae) (an:Option ag) (gp ct:ae) (Ct:Array (Option ae)),
  fd=zk x qual (CD st) (yk st) (mB st) .none kV doc pm an gp ct/\K.lookup f=some ⟨oc,od,.func fd,Ct⟩/\L9 K gp qual=true
 kp:IC K (.ref f)=true
section
variable {P:d4}{w:eB}{K:aC}{mg:Str->Option ae}{base:dy}
theorem CF.ok{st:Stmt}{N ps:List Str}(F:CF K x qual st f fd)(S:Pn N ps (mB st))(len:∀ vs H Q E,sp vs H Q E->vs.length=ps.length)(Pq:∀ (gp:ae) (A:fm) (outer:List Env) (s:ay) (H:Hp) (vs:List V) (Q:VK) (E:XK),nv k (A.deeper (envOfC qual (mB st) s.heap.objs.size f gp))->sp vs H Q E ->
   ∃ t,ng (Cb wc P w K mg base N qual (mB st) f gp A outer s H E).FL (yk st) t/\t { nx:=λ_ H'=>Q .non H',rt:=Q } (start N vs) H):AB P w K mg base wc (k+1) f fd ps sp:=by
 obtain⟨oc,od,kV,doc,pm,an,gp,ct,Ct,rfl,lk,tS⟩:=F.ex;refine dQ' lk tS S len λA outer s H vs Q E hr FV=>?_;obtain⟨t,h,q⟩:=Pq gp A outer s H vs Q E hr FV;exact⟨t,h.FL,q⟩
theorem CF.binds{st:Stmt}{ps:List Str}(F:CF K x qual st f fd)(h:∀ (kV doc pm:ae) (an:Option ag) (gp ct:ae) (us:List ae),us.length=ps.length->bindArgs (zk x qual (CD st) (yk st) (mB st) .none kV doc pm an gp ct) ⟨us,[]⟩=pure (ps.zip us)):Binds K fd ps []:=by
 obtain⟨oc,od,kV,doc,pm,an,gp,ct,Ct,rfl,lk,tS⟩:=F.ex;exact .all (h kV doc pm an gp ct)
theorem ZY{st:Stmt}{kV doc pm gp ct:ae}(l:K.lookup f=some ⟨oc,od,.func (zk x qual (CD st) (yk st) (mB st) .none kV doc pm an gp ct),Ct⟩)(c:L9 K gp qual=true) (k:IC K (.ref f)=true):CF K x qual st f (zk x qual (CD st) (yk st) (mB st) .none kV doc pm an gp ct):=⟨⟨oc,od,kV,doc,pm,an,gp,ct,Ct,rfl,l,c⟩,k⟩
end
section
variable {X:Cx}
theorem pv (i:Nat) (hN:X.N[i]? = some x:=by rfl) (hv:Ry X.env.scope x:=by first|exact Or.inl rfl|exact Or.inr (Or.inl rfl)|exact Or.inr (Or.inr rfl)) (hd:(x == ("__debug__" : Str))=false:=by decide) (tS:(x == ("__classdict__" : Str))=false:=by decide):PE X (.Name x pos) (FK i):=WX hN hv hd tS
end
def bG(H H':Hp):Prop:=∀ b o,H b=some o->H' b=some o
theorem bG.refl(H:Hp):bG H H:=λ_ _ h=>h
theorem bG.trans(a:bG H H1)(b:bG H1 H2):bG H H2:=λc o h=>b c o (a c o h)
theorem bG.free(e:bG H H')(h:H' l=Option.none):H l=Option.none:=by
 cases q:H l with
 |none=>rfl
 |some o =>rw[e l o q] at h;cases h
theorem bG.seq{K:aC}(e:bG H H')(h:fw K H a xs):fw K H' a xs:=by
 rcases h with(h|⟨o,h⟩)|h
 ·exact .inl (.inl (e _ _ h))
 ·exact .inl (.inr ⟨o,e _ _ h⟩)
 ·exact .inr h
end L2
set_option maxHeartbeats 4000000
namespace L2
open PySem PySem.Spec PyProof.Rows
def uj(env:Env):List (Str × AU)->List (Str × ag)->List (Str × ag)
 |[],cs=>cs
 | (n,k) :: r,cs=>uj env r (if k == NameKind.free then (n,(env.cells.lookup n).getD 0) :: cs else cs)
theorem gm(env:Env):∀ (names:List (Str × AU)) (cs:List (Str × ag)),(∀ y∈names,y.2=.free->∃ c,env.cells.lookup y.1=some c) -> (forIn names cs λx r=>match x with
   | (name,kind)=>if (kind == NameKind.free)=true then do let a <- cellOf env name;pure (ForInStep.yield ((name,a) :: r)) else pure (ForInStep.yield r):Sem (List (Str × ag)))=pure (uj env names cs)
 |[],cs,_=>rfl
 | (n,k) :: r,cs,h=>by
  rw[List.forIn_cons];have ih:=gm env r;by_cases hk:k=.free
  ·subst hk;obtain⟨c,e⟩:=h (n,.free) cE rfl;have e:env.cells.lookup n=some c:=e;have e2:cellOf env n=pure c:=by unfold cellOf;rw[e]
   have e3:uj env ((n,.free) :: r) cs=uj env r ((n,c) :: cs):=by show uj env r (if (NameKind.free == NameKind.free)=true then (n,(env.cells.lookup n).getD 0) :: cs else cs)=_;rw[e];rfl
   rw[e3,<- ih ((n,c) :: cs) λy hy=>h y (df _ hy)];simp only[beq_self_eq_true,if_true,e2];rfl
  ·have hb:(k == NameKind.free)=false:=by simpa using hk
   have e3:uj env ((n,k) :: r) cs=uj env r cs:=by show uj env r (if (k == NameKind.free)=true then _ else cs)=_;rw[hb];rfl
   rw[e3,<- ih cs λy hy=>h y (df _ hy)];simp only[hb,js,if_false];rfl
theorem n_(h:∀ y∈scope.names,y.2=.free->∃ c,env.cells.lookup y.1=some c):closureFor scope env=pure (uj env scope.names []):=by have:=gm env scope.names [] h;unfold closureFor;rw[<- bind_pure (forIn scope.names [] _)] at this;exact this
theorem mY:∀ {names:List (Str × AU)} {cs:List (Str × ag)},(∀ y∈names,y.2=.free->∃ c,env.cells.lookup y.1=some c)->(∀ y d,cs.lookup y=some d->env.cells.lookup y=some d) -> (uj env names cs).lookup x=some c->env.cells.lookup x=some c
 |[],cs,_,h,e=>h x c e
 | (n,k) :: r,cs,hf,h,e=>by
  refine mY (names:=r) (λy hy=>hf y (df _ hy)) ?_ e;intro y d hd;by_cases hk:k=.free
  ·subst hk;obtain⟨c',e'⟩:=hf (n,.free) cE rfl;have e':env.cells.lookup n=some c':=e';simp only[beq_self_eq_true,if_true,e',Option.getD_some,T6] at hd
   cases hb:y == n with
   |true=>rw[hb] at hd;have:y=n:=eq_of_beq hb;subst this;rw[e'];exact hd
   |false=>rw[hb] at hd;exact h y d hd
  ·have hb:(k == NameKind.free)=false:=by simpa using hk
   simp only[hb,js,if_false] at hd;exact h y d hd
theorem jh:∀ {names:List (Str × AU)} {cs:List (Str × ag)},((x,NameKind.free)∈names\/∃ c,cs.lookup x=some c)->∃ c,(uj env names cs).lookup x=some c
 |[],cs,h=>by
  rcases h with h|h
  ·exact nomatch h
  ·exact h
 | (n,k) :: r,cs,h=>by
  refine jh (names:=r) ?_;rcases h with h|⟨c,h⟩
  ·rcases eK.mp h with e|h
   ·cases e;refine .inr ⟨(env.cells.lookup x).getD 0,?_⟩;simp only[beq_self_eq_true,if_true,T6]
   ·exact .inl h
  ·refine .inr ?_;by_cases hk:(k == NameKind.free)=true
   ·simp only[hk,if_true,T6]
    cases hb:x == n with
    |true=>exact⟨_,rfl⟩
    |false=>exact⟨c,h⟩
   ·simp only[hk,if_false];exact⟨c,h⟩
def aQ(X:Cx)(scope:Scope)(C:ag)(N:List Str)(fp:List ag)(g9:ay)(hX:Hp):Cx :=
 { X with N:=N,k8:=g9,oP:=hX,env:=compEnvC scope (uj X.env scope.names []) C X.env,outer:=X.stack,stack:=X.stack,ex:=fp,fn:=λ_=>false,pn:=[],xe:=λ_ _=>False }
def CH(X:Cx)(ifs:List Expr)(t:TT):Prop :=
 ∀ (pins:List (ag × Obj)) (s:ay) (σ:St) (H:Hp) (Q:Bool->Hp->Prop),Inv X pins σ H s->t σ H Q ->
  aI (aE X.prog X.w) X.A (forIn ifs true λc r=>if r=true then do let ok <- isTrue c X.env (dr c X.env);pure (ForInStep.yield ok) else pure (ForInStep.yield r)) (TP X pins σ Q) X.xe s
def fr':TT:=λ_ H Q=>Q true H
theorem Dt{X:Cx}:CH X [] fr':=λ_ _ _ H _ I h=>wpAny_tests_nil ⟨H,I,h⟩
theorem Dc{X:Cx}(h:PT X c t):CH X [c] t:=λpins s σ H Q I hw=>wpAny_tests_one (h pins s σ H Q I hw)
theorem fH{R:Result->ay->Prop}(I:Nat->ay->Prop)(E:ae->ay->Prop)(turn:∀ n s,I n s->aI (aE prog w) A (pyNext it) (λr fP=>match r with
   |none=>R (.ok .next) fP
   |some v=>aI (aE prog w) A (letOwnedTupleGo target it v) (λ_ k8=>aI (aE prog w) A (assign target env v) (λ_ EE =>
     aI (aE prog w) A (forIn ifs true λc r=>if r=true then do let ok <- isTrue c env (dr c env);pure (ForInStep.yield ok) else pure (ForInStep.yield r)) (λok g9 =>
      if ok=true then aI (aE prog w) A (dr elt env) (λx ZZ =>
       aI (aE prog w) A (call (.builtin "list.append") [acc,x]) (λ_ Z0=>∃ m,m<n/\I m Z0) E ZZ) E g9
      else ∃ m,m<n/\I m g9) E EE) E k8) E fP) E s)
  (hE:∀ e s',E e s'->notedBy (aE prog w) A env (λe s'=>R (.error e) s') e s')
  (n:Nat) (h:I n s) :
  codeAny (aE prog w) A (.compLoop (.ListComp elt [⟨target,iter,ifs,0⟩] scope pos) 0 it acc env) R s:=by
 refine codeAny_loop rfl I (λn s hI=>?_) n h;show aI _ A ((compTurn (.ListComp elt [⟨target,iter,ifs,0⟩] scope pos) 0 it acc env).onRaise (λx=>do noteFrame x env;theTreesLotGoes x)) _ _ s;refine wpAny_noted ?_;rw[compTurn_list];refine vx (Q:=_) (E:=E) ?_ (λ_ _ q=>q) hE;refine aw (wpAny_standAt (aw (vx (turn n s hI) (λr fP PJ=>?_) λ_ _ h'=>h')))
 cases r with
 |none=>exact bI PJ
 |some v =>
  refine aw (vx PJ (λ_ k8 h₀=>?_) λ_ _ h'=>h');refine aw (vx h₀ (λ_ EE fs'=>aw (vx fs' (λok g9 Z1=>?_) λ_ _ h'=>h')) λ_ _ h'=>h')
  cases ok with
  |false=>exact bI ⟨rfl,Z1⟩
  |true =>exact aw (aw (vx Z1 (λx ZZ ft'=>aw (vx ft' (λ_ Z0 fu'=>bI (bI ⟨rfl,fu'⟩)) λ_ _ h'=>h')) λ_ _ h'=>h'))
def jC(tn:Nat)(ix:List Nat)(σ:St):St:=List.replicate tn none++ix.map λj=>(σ[j]?).join
def vR(wi:TI)(g:TG)(tc:TT)(te:TE)(tn:Nat)(ix:List Nat):TE:=λσ H Q=>wi σ H λJ H1=>∀ D,H1 D=none ->
 ∃ W:Nat->Nat->St->Hp->Prop,(∃ m,W 0 m (jC tn ix σ) (upd H1 D (.lst [])))/\∀ i m τ H,W i m τ H -> (J.stop i H/\Q (.ref D) H)\/(J.go i H/\∃ (N1:St->V->Hp->Prop) (N2:St->Hp->Prop), (∀ i5 v H4,N1 i5 v H4->∃ ys m',H4 D=some (.lst ys)/\ys.length<bS/\m'<m/\W (i+1) m' i5 (upd H4 D (.lst (ys++[v])))) /\ (∀ i5 H3,N2 i5 H3->∃ m',m'<m/\W (i+1) m' i5 H3) /\
   ∀ x H',J.mz i H x H'->g x τ H' λi5 H2=>tc i5 H2 λb H3=>if b=true then te i5 H3 (N1 i5) else N2 i5 H3)
section
variable {X:Cx}{tg iter elt:Expr}{ifs:List Expr}{scope:Scope}{pos:Pos}{wi:TI}{g:TG}{tc:TT}{te:TE}{tn cn:List Str}{ix:List Nat}
structure dg(X:Cx)(scope:Scope)(tn cn:List Str)(ix:List Nat):Prop where
 kind:scope.kind=.function
 fv':∀ y∈scope.names,y.2≠.cell
 free:∀ y∈scope.names,y.2=.free->X.env.scope.names.lookup y.1=some .cell\/X.env.scope.names.lookup y.1=some .free
 names:∀ y∈scope.names,y.2=.local->scope.names.lookup y.1=some .local
 len:ix.length=cn.length
 cap:∀ (k j:Nat),ix[k]? = some j->∃ y,cn[k]? = some y/\X.N[j]? = some y/\(X.env.scope.names.lookup y=some .cell\/X.env.scope.names.lookup y=some .free)/\(y,NameKind.free)∈scope.names /\
  ((relabel scope X.env).names.lookup y=some .cell\/(relabel scope X.env).names.lookup y=some .free)
 all:∀ x,(relabel scope X.env).names.lookup x=some .cell\/(relabel scope X.env).names.lookup x=some .free->(x,NameKind.free)∈scope.names
theorem ym(O:dg X scope tn cn ix)(I:Inv X pins σ H s)(hf:∀ b∈fp,Ap X pins H b)(U7:∀ b∈fp,b<s.heap.objs.size)(hC:s.heap.objs.size<=C) : (aQ X scope C (tn++cn) fp s H).Ok:=by
 have sN:∀ y∈scope.names,y.2=.free->∃ c,X.env.cells.lookup y.1=some c:=λy hy hk=>I.ok.has y.1 (O.free y hy hk);have sub:∀ x c,(uj X.env scope.names []).lookup x=some c->X.env.cells.lookup x=some c:=λx c e=>mY sN (λy d h=>by simp at h) e;refine⟨I.ok.mod,O.kind,I.ok.glob,I.ok.blt,hC,λx y c h1 h2=>I.ok.inj x y c (sub x c h1) (sub y c h2),λx hx=>jh (.inl (O.all x hx)),(λx c h _=>nomatch h),I.ok.hd,I.ok.frames,.inl rfl,λb hb=>⟨?_,λx c e=>?_⟩,
  I.bs,iX I.ok.FH I.sz,λb o e hb=>?_,λb hb=>?_,I.stack,I.WL⟩
 ·exact gi (oq (U7 b hb) hC)
 ·exact(hf b hb).2.2.2.2.1 x c (sub x c e)
 ·rcases (hf b hb).2.2.2.1 with z|z
  ·exact I.ok.O_ b o e z
  ·exact absurd (oq (fh e) (iX I.ok.FH z)) (vS _)
 ·intro hz;rcases eK.mp (I.Uo b hz) with e|e
  ·exact(hf b hb).2.1 e
  ·exact(hf b hb).2.2.1 e
theorem tE{P:ae->ay->Prop}(hc:X.calm=true)(hi:PI X tg iter wi)(O:dg X scope tn cn ix)(hg:∀ C fp g9 hX,PG (aQ X scope C (tn++cn) fp g9 hX) tg g) (pf:∀ C fp g9 hX,CH (aQ X scope C (tn++cn) fp g9 hX) ifs tc) (he:∀ C fp g9 hX,PE (aQ X scope C (tn++cn) fp g9 hX) elt te)(hs:∀ x,DV iter X.env x=pure x) (I:Inv X pins σ H s) (h:vR wi g tc te tn.length ix σ H Q)(fin:∀ (C D:ag) (m:Str->Option ae) (H5:Hp) (s6:ay) (r:Flow),Inv X pins σ H5 s6->s6.heap.Ns C m->H5 C=none->Ap X pins H5 C->Q (.ref D) H5->compPost (aE X.prog X.w) X.A X.xe use P (.ref D) C (.ok r) s6) :
  aI (aE X.prog X.w) X.A (comprehension (.ListComp elt [⟨tg,iter,ifs,0⟩] scope pos) scope X.env kl' (newList []) false (dr iter X.env) use) P X.xe s:=by
 have sN:∀ y∈scope.names,y.2=.free->∃ c,X.env.cells.lookup y.1=some c:=λy hy hk=>I.ok.has y.1 (O.free y hy hk);have sub:∀ x c,(uj X.env scope.names []).lookup x=some c->X.env.cells.lookup x=some c:=λx c e=>mY sN (λy d h=>by simp at h) e;refine wpAny_comprehension_free (use:=use) rfl hs (n_ sN) O.kind O.names (cK (hi pins s σ H _ I h) λv s1 h1=>cK h1 λUy s2 h2=>?_);obtain⟨it,fp,R8,J,H2,e,I2,T,Au,f2,h2⟩:=h2;subst e;obtain⟨W,⟨m0,w0⟩,turn⟩:=h2 s2.heap.objs.size (I2.b6.fresh (cx _));refine sC ?_;have I3:Inv X pins σ (upd H2 s2.heap.objs.size (.lst [])) { s2 with heap:=s2.heap.push { cls:=.type "list",data:=.seq ([]:List ae).toArray } }:=I2.UX (its:=[]) (t':=s2.toks) .nil (fz _);generalize hD:s2.heap.objs.size=D at *
 generalize R9:({ s2 with heap:=s2.heap.push { cls:=.type "list",data:=.seq ([]:List ae).toArray } }:ay)=s3 at *
 have k23:∀ b o,s2.heap.get? b=some o->s3.heap.get? b=some o:=λb o e=>by rw[<- R9];exact gd _ e
 have sz3:s3.heap.objs.size=D+1:=by rw[<- R9,<- hD];exact Heap.size_push ..
 have f3:∀ b∈fp,Ap X pins (upd H2 D (.lst [])) b:=λb hb=>by obtain⟨f0,fr⟩:=f2 b hb;obtain⟨o,ho,_⟩:=T.obj _ _ Au b hb;refine⟨?_,fr⟩;rw[cy (gi (by rw[<- hD];exact fh ho))];exact f0
 have AA:R8 0 s3.heap:=T.keep _ _ _ Au λb hb o e=>k23 b o e;have lt3:∀ b∈fp,b<s3.heap.objs.size:=λb hb=>by obtain⟨o,ho,_⟩:=T.obj _ _ AA b hb;exact fh ho
 refine wpAny_newFunctionEnv O.fv' (by intro y hy;simp at hy) (λPJ fy' fz'=>?_) O.kind;have Kj:∀ b o,s3.heap.get? b=some o->PJ.get? b=some o:=λb o e=>fz'.extBut b o (gi (fh e)) (gd _ e)
 -- the block's context
 have R_:=ym (C:=s3.heap.objs.size) O I3 f3 lt3 (cx _);have I4:Inv (aQ X scope s3.heap.objs.size (tn++cn) fp s3 (upd H2 D (.lst []))) [] (jC tn.length ix σ) (upd H2 D (.lst [])) { s3 with heap:=PJ,toks:=s3.toks+([]:List (Str × ae)).length }:=by
  refine⟨R_,rfl,I3.bare,Un.kept Kj,⟨_,fy',λi x v e1 e2 e3=>?_⟩,λx c e=>?_,I3.b6.fresh (cx _),λx c e=>I3.x3 x c (sub x c e),λp hp=>absurd hp (by simp[aQ]),I3.b6.kept Kj,?_⟩
  ·have iP:tn.length<=i:=by
    by_cases q:i<tn.length
    ·unfold jC at e2;rw[Mb (by simpa using q),List.getElem?_replicate] at e2;simp[q] at e2
    ·lia
   unfold jC at e2;rw[D1 (by simpa using iP),List.length_replicate,n5] at e2;have e1:(tn++cn)[i]? = some x:=e1;rw[D1 iP] at e1
   cases q:ix[i-tn.length]? with
   |none=>rw[q] at e2;cases e2
   |some j =>
    rw[q] at e2;obtain⟨y,c1,c2,c3,c4,c5⟩:=O.cap _ _ q;rw[c1] at e1;cases e1;have e2:σ[j]?.join=some v:=Option.some.inj e2;have ej:σ[j]? = some (some v):=by
     cases z:σ[j]? with
     |none=>rw[z] at e2;cases e2
     |some o=>rw[z] at e2;exact congrArg some e2
    obtain⟨m,hn,hl⟩:=I3.loc;obtain⟨u,r,l⟩:=hl j x v c2 ej (c3.elim (λz=>.inr (.inl z)) λz=>.inr (.inr z));refine⟨u,r,.inr ⟨c5,?_⟩⟩;rcases l with⟨hk,_⟩|⟨hk,c,Ph,hce⟩
    ·have hk:X.env.scope.names.lookup x=some .local:=hk;rcases c3 with z|z
     ·rw[z] at hk;cases hk
     ·rw[z] at hk;cases hk
    ·obtain⟨c',A4⟩:=jh (env:=X.env) (cs:=[]) (Or.inl c4);have:=sub x c' A4;rw[Ph] at this;cases this;obtain⟨o,ho,hd⟩:=hce;exact⟨c,A4,o,Kj _ _ ho,hd⟩
  ·obtain⟨v,o,ho,hd⟩:=I3.cell x c (sub x c e);exact⟨v,o,Kj _ _ ho,hd⟩
  ·show(jC tn.length ix σ).length=(tn++cn).length;unfold jC;simp[O.len]
 -- from the block back to the body
 have back:∀ {τ:St} {H':Hp} {s':ay},Inv (aQ X scope s3.heap.objs.size (tn++cn) fp s3 (upd H2 D (.lst []))) [] τ H' s'->Inv X pins σ H' s':=λ{τ H' s'} I' =>
  Inv.cj' (ch:=fp) I3 I'.os I'.base I'.b6 I'.bare λb hb=>by obtain⟨_,f1,_,f3',f4,f5⟩:=f3 b hb;exact⟨f3',f1,f4,f5⟩
 have U8:∀ {H':Hp},(∀ b∈fp,H' b=none)->∀ b∈fp,Ap (aQ X scope s3.heap.objs.size (tn++cn) fp s3 (upd H2 D (.lst []))) [] H' b:=λhn b hb =>
  ⟨hn b hb,(R_.RA b hb).1,R_.Pa b hb,.inl hb,(R_.RA b hb).2,λp hp=>absurd hp (by simp[aQ])⟩
 have loop:∀ s4:ay,Inv (aQ X scope s3.heap.objs.size (tn++cn) fp s3 (upd H2 D (.lst []))) [] (jC tn.length ix σ) (upd H2 D (.lst [])) s4->R8 0 s4.heap ->
   codeAny (aE X.prog X.w) X.A (.compLoop (.ListComp elt [⟨tg,iter,ifs,0⟩] scope pos) 0 (.ref it) (.ref D) (compEnvC scope (uj X.env scope.names []) s3.heap.objs.size X.env)) (compPost (aE X.prog X.w) X.A X.xe use P (.ref D) s3.heap.objs.size) s4:=by
  intro s4 I4 yn;refine fH (λn s'=>∃ i τ H',Inv (aQ X scope s3.heap.objs.size (tn++cn) fp s3 (upd H2 D (.lst []))) [] τ H' s'/\R8 i s'.heap/\(∀ b∈fp,H' b=none)/\W i n τ H') (λ_ _=>False) ?_ (λ_ _ z=>z.elim) m0 ⟨0,_,_,I4,yn,λb hb=>(f3 b hb).1,w0⟩
  rintro n s5 ⟨i,τ,H5,I5,JJ,RN,w5⟩;rcases turn i n τ H5 w5 with⟨stop,qn⟩|⟨go,N1,N2,hN1,uk,step⟩
  ·refine cK (T.done (aQ X scope s3.heap.objs.size (tn++cn) fp s3 (upd H2 D (.lst []))) rfl rfl rfl hc i [] s5 τ H5 (λ_ _=>False) I5 (U8 RN) JJ stop) λr s6 dQ=>?_;obtain⟨hr,I6⟩:=dQ;subst hr;have J6:=back I6;obtain⟨m,hn,_⟩:=I6.loc;exact fin _ D m H5 s6 _ J6 hn I6.free (I3.Pj (b:=s3.heap.objs.size) (H':=H5) (cx _) I6.free) qn
  ·refine cK (T.item (aQ X scope s3.heap.objs.size (tn++cn) fp s3 (upd H2 D (.lst []))) rfl rfl rfl hc i [] s5 τ H5 (λ_ _=>False) I5 (U8 RN) JJ go) λr s6 dQ=>?_;obtain⟨u,hr,h6⟩:=dQ;subst hr;refine cK h6 λ_ s7 dQ=>?_;obtain⟨x,H7,I7,r7,y7,U9,fr7⟩:=dQ;have I7':=I7.pinned (U8 fr7) (T.obj _ _ U9);refine cK (hg _ _ _ _ _ s7 τ H7 x u _ I7' r7 (step x H7 y7)) λ_ s8 dQ=>?_;obtain⟨NH,H8,I8,q8⟩:=dQ;refine cK (pf _ _ _ _ _ s8 NH H8 _ I8 q8) λok s9 dQ=>?_;obtain⟨H9,I9,q9⟩:=dQ;have again:∀ {s':ay} {H':Hp} {m':Nat},Inv (aQ X scope s3.heap.objs.size (tn++cn) fp s3 (upd H2 D (.lst []))) ([]++Pk fp s7.heap) NH H' s'->m'<n->W (i+1) m' NH H' ->
     ∃ m,m<n/\∃ i τ H',Inv (aQ X scope s3.heap.objs.size (tn++cn) fp s3 (upd H2 D (.lst []))) [] τ H' s'/\R8 i s'.heap/\(∀ b∈fp,H' b=none)/\W i m τ H':=λ{s' H' m'} J hm w'=>by
    refine⟨m',hm,i+1,NH,H',J.RL,T.keep _ _ _ U9 λb hb o e=>(J.pin (b,o) (fI _ (fI _ (RK hb e)))).1,λb hb=>?_,w'⟩;obtain⟨o,e,d⟩:=T.obj _ _ U9 b hb;exact(J.pin (b,o) (fI _ (fI _ (RK hb e)))).2.1
   cases ok with
   |false =>rw[if_neg kB] at q9 ⊢;obtain⟨m',hm,w'⟩:=uk _ _ q9;exact again I9 hm w'
   |true =>rw[if_pos rfl] at q9 ⊢;refine cK (he _ _ _ _ _ s9 NH H9 _ I9 q9) λx9 s10 cS=>L2.gI cS λv10 Z2 I10 r10 q10=>?_;obtain⟨ys,m',hH,hz,hm,w'⟩:=hN1 _ _ _ q10;refine cK (R3 _ s10 NH Z2 (.ref D) [v10] (.ref D) [x9] (λ_ H'=>H'=upd Z2 D (.lst (ys++[v10]))) I10 rfl (.cons r10 .nil) ⟨D,ys,v10,rfl,rfl,hH,hz,rfl⟩) λ_ s11 cS=>L2.gI cS λ_ H11 I11 _ q11=>?_;subst q11;exact again I11 hm w'
 exact codeAny_compStart_list (loop _ I4 (T.keep _ _ _ AA λb hb o e=>Kj b o e)) (T.self _ 0 _ _ _ (T.keep _ _ _ AA λb hb o e=>Kj b o e) (loop _ I4 (T.keep _ _ _ AA λb hb o e=>Kj b o e)))
theorem wz(hc:X.calm=true)(hi:PI X tg iter wi)(O:dg X scope tn cn ix)(hg:∀ C fp g9 hX,PG (aQ X scope C (tn++cn) fp g9 hX) tg g) (pf:∀ C fp g9 hX,CH (aQ X scope C (tn++cn) fp g9 hX) ifs tc) (he:∀ C fp g9 hX,PE (aQ X scope C (tn++cn) fp g9 hX) elt te)(hs:∀ x,DV iter X.env x=pure x:=by intro _;rfl):PE X (.ListComp elt [⟨tg,iter,ifs,0⟩] scope pos) (vR wi g tc te tn.length ix):=by
 walk_at"v";rw[eval_ListComp];refine tE (use:=none) (P:=EP X pins σ Q) hc hi O hg pf he hs I h λC D m H5 s6 r J6 hn hf ⟨_,g1,_,g3,g4,g5⟩ qn=>⟨m,hn,λh' Sb=>⟨.ref D,H5,?_,rfl,qn⟩⟩
 exact J6.turned (t':=s6.toks) (λb o hb e=>Sb.extBut b o hb e) hf g1 g3 g4 g5
theorem vp(hN:X.N.Nodup)(A7:X.N[i]? = some x)(hx:Loc X.env.scope x)(hc:X.calm=true)(hi:PI X tg iter wi)(O:dg X scope tn cn ix)(hg:∀ C fp g9 hX,PG (aQ X scope C (tn++cn) fp g9 hX) tg g) (pf:∀ C fp g9 hX,CH (aQ X scope C (tn++cn) fp g9 hX) ifs tc) (he:∀ C fp g9 hX,PE (aQ X scope C (tn++cn) fp g9 hX) elt te)(U_:xA (.ListComp elt [⟨tg,iter,ifs,0⟩] scope pos) (some (.Name x pos')) Va.line X.env=pure true)(hs:∀ x,DV iter X.env x=pure x:=by intro _;rfl) (hf:X.fn x=true\/X.env.scope.names.lookup x=some .local:=by first|exact .inl rfl|exact .inr rfl|assumption) :
  PS X (.Assign [.Name x pos'] (.ListComp elt [⟨tg,iter,ifs,0⟩] scope pos) Va) (Uv (vR wi g tc te tn.length ix) (Us i)):=by
 intro pins s σ H D0 I h;rw[exec_Assign_Name_used _ _ _ _ U_];refine aw (wpAny_standAt (aw ?_));show aI _ _ (do let _ <- comprehension (.ListComp elt [⟨tg,iter,ifs,0⟩] scope pos) scope X.env _ (newList []) false (dr iter X.env) (some (assign (.Name x pos') X.env))) _ _ s;refine aw (vx (tE (use:=some (assign (.Name x pos') X.env)) (P:=λ_ s'=>SP X pins D0 .next s') hc hi O hg pf he hs I h λC D m H5 s6 r J6 hn GO ⟨_,g1,_,g3,g4,g5⟩ qn=>?_) (λ_ s' hq=>bI (bI hq)) λ_ _ e=>e);refine(show aI _ _ (assign (.Name x pos') X.env (.ref D)) _ _ s6 from wpAny_assign_Name (WR J6 hN A7 hx (v:=.ref D) rfl (λs7 I7 dQ=>?_) hf));obtain⟨a,sb,ha⟩:=dQ;have hCa:C≠a:=by
  rcases ha with rfl|ha
  ·exact g1
  ·exact Ne.symm (g4 _ a ha)
 refine⟨m,hn.sameBut sb hCa,λh' Sb=>⟨_,H5,?_,qn⟩⟩;exact I7.turned (t':=s7.toks) (λb o hb e=>Sb.extBut b o hb e) GO g1 g3 g4 g5
end
section
variable {X:Cx}
theorem eI.imp(h:eI X f r)(hi:∀ x y H Q,r' x y H Q->r x y H Q):eI X f r' :=
 λpins s σ H x y v u Q I rx ry q=>h pins s σ H x y v u Q I rx ry (hi x y H Q q)
def IV(K:aC):R2:=λx y H Q=>∃ l b xs zs,x=.ref l/\y=.ref b/\fw K H l xs/\fw K H b zs/\xs.length+zs.length<=bS/\∀ p,H p=none->Q (.ref p) (upd H p (.lst (xs++zs)))
theorem Cy:eI X (oC .Add) (IV X.K):=by
 walk_at"c";obtain⟨l,b,xs,zs,rfl,rfl,hH,hB,hz,q⟩:=h;cases rx;cases ry;obtain⟨its,r,pl,z⟩:=I.list hH;obtain⟨RW,r2,pl2,z2⟩:=I.list hB;have hl:=r.length;have AF:=r2.length;obtain⟨⟨cls,dd,data,sl⟩,ho,hc,n,hd⟩:=id pl.isList;obtain⟨⟨UO,t9,data2,ua⟩,pe,A6,n2,hd2⟩:=id pl2.isList;simp only at hc hd A6 hd2;subst hc hd A6 hd2;have ea:its.toArray++RW.toArray=(its++RW).toArray:=by simp
 refine concat_meets ⟨_,ho,rfl⟩ ⟨_,pe,rfl⟩ noFill_list_add seq_list_add PySem.F.slot_list_add PySem.F.entry_list_add (PySem.F.args_list_add_2 _ _) (list_addW l b its.toArray RW.toArray n n2 dd t9 sl ua (by simp only[kA];lia)) ⟨ho,pe,?_⟩;rw[ea];exact⟨.ref _,_,I.UX (t':=s.toks) (r.append r2) (by rw[oo];lia),rfl,q _ I.fresh⟩
def zB(K:aC):R2:=λx y H Q=>match x,y with
 |.int i,.int j=>Q (.int (i+j)) H
 |.str i,.str j=>i.length+j.length<=bS/\Q (.str (i++j)) H
 |.ref a,.ref b=>∃ xs zs,fw K H a xs/\fw K H b zs/\xs.length+zs.length<=bS/\∀ p,H p=none->Q (.ref p) (upd H p (.lst (xs++zs)))
 |_,_=>False
theorem E_:eI X (oC .Add) (zB X.K):=by
 refine(da'.or (dB'.or Cy)).imp λx y H Q h=>?_;unfold zB at h;split at h
 ·exact .inl ⟨_,_,rfl,rfl,h⟩
 ·exact .inr (.inl ⟨_,_,rfl,rfl,h.1,h.2⟩)
 ·obtain⟨xs,zs,h1,h2,h3,h4⟩:=h;exact .inr (.inr ⟨_,_,xs,zs,rfl,rfl,h1,h2,h3,h4⟩)
 ·exact h.elim
def Ea:R2:=λx y H Q=>match x,y with
 |.int i,.int j=>Q (.int (i-j)) H
 |_,_=>False
theorem Ek:eI X (oC .Sub) Ea:=db'.imp λx y H Q h=>by
 unfold Ea at h;split at h
 ·exact⟨_,_,rfl,rfl,h⟩
 ·exact h.elim
def Ej:R2:=λx y H Q=>match x,y with
 |.int i,.int j=>B9 i j/\Q (.int (i*j)) H
 |_,_=>False
theorem Ci:eI X (oC .Mult) Ej:=dc'.imp λx y H Q h=>by
 unfold Ej at h;split at h
 ·exact⟨_,_,rfl,rfl,h.1,h.2⟩
 ·exact h.elim
def Eg:R2:=λx y H Q=>match x,y with
 |.int i,.int j=>(0<j/\j<1073741824)/\Q (.int (i / j)) H
 |_,_=>False
theorem Fd:eI X (oC .FloorDiv) Eg:=de'.imp λx y H Q h=>by
 unfold Eg at h;split at h
 ·exact⟨_,_,rfl,rfl,h.1,h.2⟩
 ·exact h.elim
def DN:R2:=λx y H Q=>match x,y with
 |.int i,.int j=>0<j/\Q (.int (i % j)) H
 |_,_=>False
theorem Fb:eI X (oC .Mod) DN:=df'.imp λx y H Q h=>by
 unfold DN at h;split at h
 ·exact⟨_,_,rfl,rfl,h.1,h.2⟩
 ·exact h.elim
def qV(x y:Str):Bool:=decide (x.cps.toList<y.cps.toList)
def Vb:R2:=λx y H Q=>match x,y with
 |.int i,.int j=>Q (.bl (decide (i<j))) H
 |.str i,.str j=>Q (.bl (qV i j)) H
 |_,_=>False
theorem Br:eI X (hJ .Lt) Vb:=(dn'.or ds').imp λx y H Q h=>by
 unfold Vb at h;split at h
 ·exact .inl ⟨_,_,rfl,rfl,h⟩
 ·exact .inr ⟨_,_,rfl,rfl,h⟩
 ·exact h.elim
theorem vW:eI X (hJ .LtE) (λx y H Q=>∃ i j,x=.str i/\y=.str j/\Q (.bl (!qV j i)) H):=by intro pins s σ H x y v u Q I rx ry h;obtain⟨i,j,rfl,rfl,q⟩:=h;obtain⟨t,rfl⟩:=rx;obtain⟨t',rfl⟩:=ry;exact PySem.P.le_str ⟨.bl _,H,I,rfl,q⟩
def Vc:R2:=λx y H Q=>match x,y with
 |.int i,.int j=>Q (.bl (decide (i<=j))) H
 |.str i,.str j=>Q (.bl (!qV j i)) H
 |_,_=>False
theorem G3:eI X (hJ .LtE) Vc:=(dq'.or vW).imp λx y H Q h=>by
 unfold Vc at h;split at h
 ·exact .inl ⟨_,_,rfl,rfl,h⟩
 ·exact .inr ⟨_,_,rfl,rfl,h⟩
 ·exact h.elim
def Vd:R2:=λx y H Q=>match x,y with
 |.int i,.int j=>Q (.bl (decide (j<i))) H
 |_,_=>False
theorem Bj:eI X (hJ .Gt) Vd:=dr'.imp λx y H Q h=>by
 unfold Vd at h;split at h
 ·exact⟨_,_,rfl,rfl,h⟩
 ·exact h.elim
theorem Inv.rd(I:Inv X pins σ H s)(e:Rd H a u):gL X.prog X.w H s.heap a u:=e.elim (I.b6 a _) λ⟨o,e⟩=>(show gL X.prog X.w H s.heap a (.fN o u) from I.b6 a _ e).2
def Sd(K:aC):List V->Hp->VK->Prop:=λxs H Q=>match xs with
 |[.str y]=>y.length<=bS/\Q (.int y.length) H
 |[.ref p]=>(∃ ys,fw K H p ys/\Q (.int ys.length) H)\/(∃ ys,oQ K H p ys/\Q (.int ys.length) H)\/∃ kvs,Rd H p (.dK kvs)/\Q (.int kvs.length) H
 |_=>False
theorem yE:kC X (.builtin "len") (Sd X.K):=by
 walk_at"f";unfold Sd at h;split at h
 ·exact UH pins s σ H _ us Q I r ⟨_,_,rfl,⟨h.1,rfl⟩,h.2⟩
 ·rcases h with⟨ys,h1,h2⟩|⟨ys,h1,h2⟩|⟨kvs,h1,h2⟩
  ·exact UH pins s σ H _ us Q I r ⟨_,_,rfl,.inl ⟨ys,h1,rfl⟩,h2⟩
  ·exact UH pins s σ H _ us Q I r ⟨_,_,rfl,.inr ⟨ys,h1,rfl⟩,h2⟩
  ·obtain⟨u,rfl,ru⟩:=vals1 r;cases ru;exact eL' I h1 λt s' I'=>⟨.int kvs.length,H,I',⟨t,rfl⟩,h2⟩
 ·exact h.elim
def Se(K:aC):R2:=λx y H Q=>match x,y with
 |.ref p,.int i=>(∃ xs v,fw K H p xs/\gS xs i=some v/\Q v H)\/∃ xs v,oQ K H p xs/\gS xs i=some v/\Q v H
 |.str z,.int i=>z.length<=bS/\∃ c,gS z.cps.toList i=some c/\Q (.str ⟨#[c]⟩) H
 |_,_=>False
theorem Bk:x6 X (Se X.K):=by
 intro value slice pins s σ H x y v u Q I rx ry h hs;refine en' value slice pins s σ H x y v u Q I rx ry ?_ hs;unfold Se at h;split at h
 ·rcases h with⟨xs,w,h1,h2,h3⟩|⟨xs,w,h1,h2,h3⟩
  ·exact .inl ⟨_,xs,_,w,rfl,rfl,h1,h2,h3⟩
  ·exact .inr (.inl ⟨_,xs,_,w,rfl,rfl,h1,h2,h3⟩)
 ·obtain⟨h1,c,h2,h3⟩:=h;exact .inr (.inr ⟨_,_,c,rfl,rfl,h1,h2,h3⟩)
 ·exact h.elim
def A8(z:Str)(lo hi:Option Int):Str:=⟨((z.cps.toList.drop (HT.cq z.length 0 lo)).take (HT.cq z.length z.length hi-HT.cq z.length 0 lo)).toArray⟩
end
theorem yw(l:List Nat)(lo hi:Option Int)(h:((l.drop (HT.cq l.length 0 lo)).take (HT.cq l.length l.length hi-HT.cq l.length 0 lo)).length=l.length) : (l.drop (HT.cq l.length 0 lo)).take (HT.cq l.length l.length hi-HT.cq l.length 0 lo)=l:=by
 generalize HT.cq l.length 0 lo=a at *
 generalize HT.cq l.length l.length hi=b at *
 by_cases hl:l.length=0
 ·have:l=[]:=Q7.mp hl;subst this;simp
 ·rw[mN,Fn] at h;have h1:a=0:=by lia
  subst h1;rw[List.drop_zero];exact Q8 (by lia)
theorem yu(lo hi:Option Int)(n:Nat):Builtin.Str.strSliceIndices lo hi 1 n=(List.range (HT.cq n n hi-HT.cq n 0 lo)).map (HT.cq n 0 lo + ·):=by
 unfold Builtin.Str.strSliceIndices;have e1:(match lo with|none=>(0:Int)|some i=>max 0 (min (if i<0 then i+n else i) n))=((HT.cq n 0 lo:Nat):Int):=by
  cases lo with
  |none=>simp[HT.cq]
  |some i =>
   simp only[HT.cq];by_cases h:i<0
   ·simp only[h,if_true]<;>lia
   ·simp only[h,if_false]<;>lia
 have e2:(match hi with|none=>(n:Int)|some i=>max 0 (min (if i<0 then i+n else i) n))=((HT.cq n n hi:Nat):Int):=by
  cases hi with
  |none=>simp[HT.cq]
  |some i =>
   simp only[HT.cq];by_cases h:i<0
   ·simp only[h,if_true]<;>lia
   ·simp only[h,if_false]<;>lia
 rw[<- sliceRange_one,<- e1,<- e2];simp only[show(1:Int)>0 by decide,if_true];cases lo<;>cases hi<;>rfl
section
variable {X:Cx}
theorem part_of(h:IsPart v o):∃ p:Option (Int × Tok),v=partValue p/\p.map (·.1)=o:=by
 cases h with
 |none=>exact⟨none,rfl,rfl⟩
 |int i t=>exact⟨some (i,t),rfl,rfl⟩
def Ve(K:aC):V->Option Int->Option Int->Hp->VK->Prop:=λx lo hi H Q=>match x with
 |.str z=>z.length<=bS/\Q (.str (A8 z lo hi)) H
 |.ref a=>∃ xs,fw K H a xs/\∀ p,H p=none->Q (.ref p) (upd H p (.lst (EF xs lo hi)))
 |_=>False
theorem Ig:ND X (λx lo hi H Q=>∃ z,x=.str z/\z.length<=bS/\Q (.str (A8 z lo hi)) H):=by
 intro pins s σ H x v vl vu lo hi sl Q I rx hs pl pu h;obtain⟨z,rfl,hz,q⟩:=h;obtain⟨t,rfl⟩:=rx;obtain⟨p1,rfl,e1⟩:=part_of pl;obtain⟨p2,rfl,e2⟩:=part_of pu;refine⟨"str",_,F.slot_str_getitem.lookup,typeIs_str s z t,wpAny_getItem_str_slice (l:=p1) (u:=p2) (st:=none) hs rfl ?_⟩;have hl:z.cps.toList.length=z.length:=by simp[Str.length]
 have ep:slicePicked z p1 p2 none=(List.range (HT.cq z.length z.length hi-HT.cq z.length 0 lo)).map (HT.cq z.length 0 lo + ·):=by unfold slicePicked;rw[e1,e2];exact yu lo hi z.length
 have ef:(slicePicked z p1 p2 none).filterMap (z.cps[·]?)=(z.cps.toList.drop (HT.cq z.length 0 lo)).take (HT.cq z.length z.length hi-HT.cq z.length 0 lo):=by rw[ep];exact pick_run z.cps _ _
 unfold sliceMade;split
 ·rename_i hc;have hw:(slicePicked z p1 p2 none).length=z.length:=by simpa using hc
  have:A8 z lo hi=z:=by
   unfold A8;have e3:((z.cps.toList.drop (HT.cq z.cps.toList.length 0 lo)).take (HT.cq z.cps.toList.length z.cps.toList.length hi-HT.cq z.cps.toList.length 0 lo)).length=z.cps.toList.length:=by
    rw[hl,mN,Fn,hl];rw[ep,b5,OW] at hw;have h0:HT.cq z.length 0 lo<=z.length:=by
     cases lo with
     |none=>simp[HT.cq]
     |some i=>simp only[HT.cq];split<;>lia
    have h1:HT.cq z.length z.length hi<=z.length:=by
     cases hi with
     |none=>simp[HT.cq]
     |some i=>simp only[HT.cq];split<;>lia
    lia
   have:=yw z.cps.toList lo hi e3;rw[hl] at this;rw[this]
  rw[this] at q;exact⟨.str z,H,I,⟨t,rfl⟩,q⟩
 ·rw[ef];exact⟨by
   show(A8 z lo hi).length<=bS;unfold A8 Str.length;simp only[kA,mN,Fn,hl];have:z.cps.toList.length=z.length:=hl;lia,⟨.str (A8 z lo hi),H,I.tok _,⟨_,rfl⟩,q⟩⟩
theorem Hy:ND X (Ve X.K):=by
 intro pins s σ H x v vl vu lo hi sl Q I rx hs pl pu h;unfold Ve at h;split at h
 ·exact Ig pins s σ H _ v vl vu lo hi sl Q I rx hs pl pu ⟨_,rfl,h.1,h.2⟩
 ·obtain⟨xs,h1,h2⟩:=h;exact et' pins s σ H _ v vl vu lo hi sl Q I rx hs pl pu ⟨_,xs,rfl,h1,h2⟩
 ·exact h.elim
end
structure o_(J:It)(its:List V)(cond:Hp->Prop):Prop where
 go:∀ i H,cond H->i<its.length->J.go i H
 mz:∀ i H x H',cond H->i<its.length->J.mz i H x H'->H'=H/\its[i]? = some x
 stop:∀ H,cond H->J.stop its.length H
theorem Ar(K:aC)(a:ag)(xs:List V):o_ (RJ K a) xs (λH=>fw K H a xs) where
 go:=λi H h hi=>⟨xs,xs[i],h,by simp[hi]⟩
 mz:=λi H x H' h _ y=>⟨y.1,y.2 xs h⟩
 stop:=λH h=>⟨xs,h,cx _⟩
def wA(lo:Int)(n:Nat):List V:=(List.range n).map λi=>.int (lo+(i:Nat))
theorem Dq(lo:Int)(n:Nat):o_ (NC lo n) (wA lo n) (λ_=>True) where
 go:=λi H _ h=>by simpa[wA,NC] using h
 mz:=λi H x H' _ hi h=>by
  have hi:i<n:=by simpa[wA] using hi
  obtain⟨rfl,rfl⟩:=h;refine⟨rfl,?_⟩;simp[wA,hi]
 stop:=λH _=>by simp[wA,NC]
def Sf(J:It)(g:TG)(tb:TS)(D:Ends)(σ:St)(H:Hp):Prop :=
 ∃ W:Nat->Nat->St->Hp->Prop,(∃ m,W 0 m σ H)/\∀ i m σ H,W i m σ H -> (J.stop i H/\D.nx σ H)\/(J.go i H/\∃ N:St->Hp->Prop,(∀ b9 H',N b9 H'->∃ m',m'<m/\W (i+1) m' b9 H')/\∀ x H',J.mz i H x H'->g x σ H' λkM H2=>tb { D with nx:=N,ct:=N,bk:=D.nx } kM H2)
theorem xf(wi:TI)(g:TG)(tb:TS)(D:Ends)(σ:St)(H:Hp):W9 wi g tb D σ H=wi σ H λJ H1=>Sf J g tb D σ H1:=rfl
def JH(J:It)(g:TG)(tc:TT)(te:TE)(τ0:St)(H1:Hp)(D:ag)(Q:VK):Prop :=
 ∃ W:Nat->Nat->St->Hp->Prop,(∃ m,W 0 m τ0 (upd H1 D (.lst [])))/\∀ i m τ H,W i m τ H -> (J.stop i H/\Q (.ref D) H)\/(J.go i H/\∃ (N1:St->V->Hp->Prop) (N2:St->Hp->Prop), (∀ i5 v H4,N1 i5 v H4->∃ ys m',H4 D=some (.lst ys)/\ys.length<bS/\m'<m/\W (i+1) m' i5 (upd H4 D (.lst (ys++[v])))) /\ (∀ i5 H3,N2 i5 H3->∃ m',m'<m/\W (i+1) m' i5 H3) /\
   ∀ x H',J.mz i H x H'->g x τ H' λi5 H2=>tc i5 H2 λb H3=>if b=true then te i5 H3 (N1 i5) else N2 i5 H3)
theorem um(wi:TI)(g:TG)(tc:TT)(te:TE)(tn:Nat)(ix:List Nat)(σ:St)(H:Hp)(Q:VK):vR wi g tc te tn ix σ H Q=wi σ H λJ H1=>∀ D,H1 D=none->JH J g tc te (jC tn ix σ) H1 D Q:=rfl
mutual
inductive Rep(K:aC)(H:Hp):dE->V->Prop
 |none:Rep K H .none .non
 |bool (b:Bool):Rep K H (.bool b) (.bl b)
 |int (i:Int):Rep K H (.int i) (.int i)
 |str (x:Str):Rep K H (.str x) (.str x)
 |list {a:ag} {vs:List V} {ds:List dE}:fw K H a vs->bT K H ds vs->Rep K H (.list ds) (.ref a)
 |tuple {a:ag} {vs:List V} {ds:List dE}:oQ K H a vs->bT K H ds vs->Rep K H (.tuple ds) (.ref a)
inductive bT(K:aC)(H:Hp):List dE->List V->Prop
 |nil:bT K H [] []
 |cons {d:dE} {v:V} {ds:List dE} {vs:List V}:Rep K H d v->bT K H ds vs->bT K H (d :: ds) (v :: vs)
end
section
variable {X:Cx}{pins:List (ag × Obj)}{σ:St}{H:Hp}{s:ay}
mutual
theorem Rep.reads(I:Inv X pins σ H s):∀ {d:dE} {v:V} {u:ae},Rep X.K H d v->RelV v u->∃ as,Reads s.heap u d as
 |_,_,_,.none,r=>by cases (show _=Value.none from r);exact⟨_,.none⟩
 |_,_,_,.bool b,r=>by cases (show _=Value.bool b from r);exact⟨_,.bool b⟩
 |_,_,_,.int i,r=>by obtain⟨t,e⟩:=r;subst e;exact⟨_,.int i t⟩
 |_,_,_,.str x,r=>by obtain⟨t,e⟩:=r;subst e;exact⟨_,.str x t⟩
 |_,_,_,.list h hs,r=>by cases r;obtain⟨its,rv,pl,_⟩:=I.list h;obtain⟨o,e,c,n,d⟩:=pl.isList;obtain⟨as,q⟩:=bT.reads I hs rv;exact⟨_,.list e c d q⟩
 |_,_,_,.tuple h hs,r=>by cases r;obtain⟨its,rv,⟨o,e,c,n,d⟩,_⟩:=I.tuple h;obtain⟨as,q⟩:=bT.reads I hs rv;exact⟨_,.tuple e c d q⟩
theorem bT.reads(I:Inv X pins σ H s):∀ {ds:List dE} {vs:List V} {us:List ae},bT X.K H ds vs->Vals vs us->∃ as,ReadsAll s.heap us ds as
 |_,_,_,.nil,.nil=>⟨_,.nil⟩
 |_,_,_,.cons h hs,.cons r rs=>by obtain⟨as,q⟩:=Rep.reads I h r;obtain⟨bs,q'⟩:=bT.reads I hs rs;exact⟨_,.cons q q'⟩
end
def Vf(K:aC):R2:=λx y H Q=>∃ d e,Rep K H d x/\Rep K H e y/\d.canLay0=true/\e.canLay0=true/\d.depth<=60/\Q (.bl (PyData.eqv d e)) H
def Vg(K:aC):R2:=λx y H Q=>∃ d e,Rep K H d x/\Rep K H e y/\d.canLay0=true/\e.canLay0=true/\d.depth<=60/\Q (.bl (!PyData.eqv d e)) H
theorem HJ(hu:X.A.units+64<fe):eI X (hJ .Eq) (Vf X.K):=by intro pins s σ H x y v u Q I rx ry h;obtain⟨d,e,h1,h2,h3,h4,h5,q⟩:=h;obtain⟨as,r1⟩:=h1.reads I rx;obtain⟨bs,r2⟩:=h2.reads I ry;exact PySem.SeqAt.rcAt_reads r1 r2 h3 h4 (by lia) X.prog X.w X.xe _ ⟨.bl _,H,I,rfl,q⟩
theorem Hl(hu:X.A.units+64<fe):eI X (hJ .NotEq) (Vg X.K):=by intro pins s σ H x y v u Q I rx ry h;obtain⟨d,e,h1,h2,h3,h4,h5,q⟩:=h;obtain⟨as,r1⟩:=h1.reads I rx;obtain⟨bs,r2⟩:=h2.reads I ry;exact PySem.SeqAt.rcNeAt_reads r1 r2 h3 h4 (by lia) X.prog X.w X.xe _ ⟨.bl _,H,I,rfl,q⟩
def Sg(K:aC):R2:=λx y H Q=>match x,y with
 |.int i,.int j=>Q (.bl (decide (i=j))) H
 |.str i,.str j=>Q (.bl (decide (i=j))) H
 |.bl i,.bl j=>Q (.bl (decide (i=j))) H
 |_,_=>Vf K x y H Q
theorem Hw(hu:X.A.units+64<fe):eI X (hJ .Eq) (Sg X.K):=(dl'.or (HJ hu)).imp λx y H Q h=>by
 unfold Sg at h;split at h
 ·refine .inl ⟨rfl,?_⟩;simpa using h
 ·refine .inl ⟨rfl,?_⟩;simpa using h
 ·refine .inl ⟨rfl,?_⟩;simpa using h
 ·exact .inr h
def Sh(K:aC):R2:=λx y H Q=>match x,y with
 |.int i,.int j=>Q (.bl (!decide (i=j))) H
 |.str i,.str j=>Q (.bl (!decide (i=j))) H
 |.bl i,.bl j=>Q (.bl (!decide (i=j))) H
 |_,_=>Vg K x y H Q
theorem Ih(hu:X.A.units+64<fe):eI X (hJ .NotEq) (Sh X.K):=(dm'.or (Hl hu)).imp λx y H Q h=>by
 unfold Sh at h;split at h
 ·refine .inl ⟨rfl,?_⟩;simpa using h
 ·refine .inl ⟨rfl,?_⟩;simpa using h
 ·refine .inl ⟨rfl,?_⟩;simpa using h
 ·exact .inr h
end
end L2
namespace L2
open PySem PySem.Spec PyProof.Rows
section
variable {X:Cx}{pins:List (ag × Obj)}{σ:St}{H:Hp}{s:ay}{h':dy}
theorem Inv.Jk{t':Nat}{fp:List ag}(I:Inv X pins σ H s)(hf:∀ b∈fp,Ap X pins H b)(k:∀ b o,b∉fp->s.heap.get? b=some o->h'.get? b=some o):Inv X pins σ H { s with heap:=h',toks:=t' }:=by
 have FI:∀ b u,H b=some u->b∉fp:=λb u e z=>by rw[(hf b z).1] at e;cases e
 refine I.step (g':=s.gens) (d':=s.drawn) (ch:=fp) (λb hb=>?_) (λb o _ _ hc e _=>k b o hc e) (λb o _ _ hc e _=>⟨o.slots,k b o hc e⟩) (λ_ _ _ _ n=>n) (λb o hc e=>⟨o,k b o hc e⟩) (λ_ _ e=>e) (λ_ _ _ e=>e) (λb ps e=>⟨#[],by rw[e];simp⟩) (λm hm=>?_) (λb u e=>?_) I.bare
 ·obtain⟨f0,f1,f2,f3,f4,f5⟩:=hf b hb;exact⟨f3,f1,f4,f5⟩
 ·obtain⟨o,es,ep,ho,r⟩:=hm;exact⟨o,es,ep,k _ o (λz=>(hf _ z).2.1 rfl) ho,r⟩
 ·refine(I.b6 b u e).fA (λc v hc q=>k c v ?_ q) (λ_ q=>q) λ_ _ q=>q;rcases hc with z|z
  ·rw[z];exact FI b u e
  ·exact FI c _ z
theorem Inv.fO'{t':Nat}{fp:List ag}{p:ag}{xs:List V}(I:Inv X pins σ H s)(hf:∀ b∈fp,Ap X pins H b)(k:∀ b o,b∉fp->s.heap.get? b=some o->h'.get? b=some o)(hp:s.heap.objs.size<=p)(new:gL X.prog X.w (upd H p (.tup xs)) h' p (.tup xs)):Inv X pins σ (upd H p (.tup xs)) { s with heap:=h',toks:=t' }:=by
 have hn:=I.b6.fresh hp;have FI:∀ b u,H b=some u->b∉fp:=λb u e z=>by rw[(hf b z).1] at e;cases e
 have lt:∀ b o,s.heap.get? b=some o->b≠p:=λb o e=>gi (oq (fh e) hp);refine I.step (g':=s.gens) (d':=s.drawn) (ch:=fp) (λb hb=>?_) (λb o _ _ hc e _=>k b o hc e) (λb o _ _ hc e _=>⟨o.slots,k b o hc e⟩) (λb o _ e n=>by rw[cy (lt b o e)];exact n) (λb o hc e=>⟨o,k b o hc e⟩) (λ_ _ e=>by rw[cy (xI e hn)];exact e) (λ_ _ _ e=>by rw[cy (xI e hn)];exact e) (λb ps e=>⟨#[],by rw[cy (xI e hn),e];simp⟩) (λm hm=>?_) (λb u e=>?_) I.bare
 ·obtain⟨f0,f1,f2,f3,f4,f5⟩:=hf b hb;exact⟨f3,f1,f4,f5⟩
 ·obtain⟨o,es,ep,ho,r⟩:=hm;exact⟨o,es,ep,k _ o (λz=>(hf _ z).2.1 rfl) ho,r⟩
 ·by_cases hb:b=p
  ·subst hb;rw[ft] at e;cases e;exact new
  ·rw[cy hb] at e;refine(I.b6 b u e).fA (λc v hc q=>k c v ?_ q) (λc q=>by rw[cy (xI q hn)];exact q) λc xs q=>by rw[cy (xI q hn)];exact q
   rcases hc with z|z
   ·rw[z];exact FI b u e
   ·exact FI c _ z
end
def Vh(K:aC)(a:ag):It :=
 ⟨λi H=>∃ xs x,fw K H a xs/\xs[i]? = some x,λi H x H'=>∃ p v,x=.ref p/\H p=none/\H'=upd H p (.tup [.int i,v])/\∀ xs,fw K H a xs->xs[i]? = some v,λi H=>∃ xs,fw K H a xs/\xs.length<=i⟩
theorem Ca:(2:Nat)<=bS:=by rw[jI];decide
theorem v7{P:d4}{w:eB}{K:aC}{elts:List Expr}{k:Nat}{pos:Pos}(a e it:ag)(Z3:e≠it):Turn P w K (.Tuple elts k pos) (Vh K a) [e,it] e (λi h=>(∃ old,IsEnum h e it i old)/\h.IsListIter it a i) where
 mem:=by simp
 obj:=λi h ⟨⟨old,he⟩,st⟩ b hb=>by
  rcases eK.mp hb with rfl|hb
  ·exact⟨_,he,λv z=>nomatch z⟩
  ·have e:b=it:=by simpa using hb
   subst e;obtain⟨o,e,c,d⟩:=st;exact⟨o,e,λv z=>by rw[d] at z;cases z⟩
 keep:=λi h h' ⟨⟨old,he⟩,st⟩ k=>⟨⟨old,k e (by simp) _ he⟩,st.at λo e=>k it (by simp) o e⟩
 item:=by
  intro X hP hw hK hc i pins s σ H E I hf st hg;subst hP hw hK;obtain⟨xs,x,hq,hx⟩:=hg;obtain⟨its,rv,p,hz⟩:=I.list hq;obtain⟨u,hu,ru⟩:=rv.get hx;obtain⟨⟨old,he⟩,hit⟩:=st;refine wpAny_pyNext_enum_item he hit p.isList (x:=u) (by simpa using hu) Z3 λh1 ho fP' hT hsz hk=>⟨_,rfl,?_⟩
  refine wpAny_letOwnedTupleGo_enum (s:={ s with heap:=h1,toks:=s.toks+1 }) ho λh2 PK kc=>?_;have ke:∀ b o,b∉[e,it]->s.heap.get? b=some o->h2.get? b=some o:=λb o hb q=>(kc.2 b λz=>hb (by simp[z])).trans (hk b o (λz=>hb (by simp[z])) (λz=>hb (by simp[z])) q);have d5:e<s.heap.objs.size:=fh he;have hT2:h2.get? s.heap.objs.size=some { cls:=.type "tuple",data:=.seq #[.int i s.toks,u] }:=(kc.2 _ (ML d5)).trans hT;have I1:Inv X pins σ (upd H s.heap.objs.size (.tup [.int i,x])) { s with heap:=h2,toks:=s.toks+1 } :=
   I.fO' hf ke (cx _) ⟨Ca,[.int i s.toks,u],.cons ⟨s.toks,rfl⟩ (.cons ru .nil),_,hT2,rfl,_,rfl⟩
  refine⟨.ref s.heap.objs.size,_,I1,rfl,⟨_,x,rfl,I.fresh,rfl,λys hy=>by rw[I.WZ hy hq];exact hx⟩,⟨⟨u,by simpa using PK⟩,fP'.at λo q=>(kc.2 it Z3.symm).trans q⟩,λb hb=>?_⟩;rw[cy]
  ·exact(hf b hb).1
  ·rcases eK.mp hb with rfl|hb
   ·exact gi d5
   ·have e:b=it:=by simpa using hb
    subst e;obtain⟨o,q,_⟩:=hit;exact gi (fh q)
 done:=by intro X hP hw hK hc i pins s σ H E I hf st hg;subst hP hw hK;obtain⟨xs,hq,hx⟩:=hg;obtain⟨its,rv,p,hz⟩:=I.list hq;obtain⟨⟨old,he⟩,hit⟩:=st;have hl:=rv.length;exact wpAny_pyNext_enum_end (I.ok.hd hc) he hit p.isList (by simp;lia) λh' eb=>⟨rfl,I.Jk (t':=s.toks) hf λb o hb q=>eb b o (λz=>hb (by simp[z])) q⟩
 self:=λ_ _ _ _ _ ⟨⟨old,he⟩,_⟩ h=>wpAny_pyIter_enum he h
theorem Hm(h:b∈[n+1,n]):n<=b:=by simp at h;lia
section
variable {X:Cx}
def JX(K:aC)(ta:TA):TI:=λσ H R=>ta σ H λvs H1=>∃ a,vs=[.ref a]/\(∃ xs,fw K H1 a xs)/\R (Vh K a) H1
theorem Di (hg:Gl X "enumerate") (hm:X.mg "enumerate" = none) (ha:PA X [a] ta) (hs:cc [a] X.env=[(false,dr a X.env)]:=by rfl) :
  PI X (.Tuple elts k tp) (.Call (.Name "enumerate" p) [a] [] pos) (JX X.K ta):=by
 intro pins s σ H R I h;refine Call_ (B7 I hg hm boot_enumerate (PyProof.Rows.callWith_type1 (cK (ha pos pins s σ H _ I h) λus s1 cS=>L2.gI cS λvs H1 I1 r1 q1=>?_) hs rfl));obtain⟨l,e,⟨xs,hq⟩,q⟩:=q1;subst e
 cases r1 with
 |cons r rr =>cases rr;cases r;obtain⟨its,rv,pl,hz⟩:=I1.list hq;refine call_enumerate_list pl.isList λh2 he hit hsz hk=>?_;refine wpAny_pyIter_enum (s:={ s1 with heap:=h2 }) he ?_;refine⟨s1.heap.objs.size+1,[s1.heap.objs.size+1,s1.heap.objs.size],_,_,H1,rfl,I1.kept (t':=s1.toks) hk,v7 l _ _ (Nat.succ_ne_self _),⟨⟨_,he⟩,hit⟩,λb hb=>?_,q⟩;have e:s1.heap.objs.size<=b:=Hm hb;exact I1.Pj e (I1.b6.fresh e)
end
def PL(sc:Scope)(names:List (Str × AU)):List (Str × AU):=names.map λy=>if (y.2 == NameKind.free && sc.kind == .function && sc.names.lookup y.1 == some .cell)=true then (y.1,NameKind.cell) else (y.1,y.2)
def PN(o:Option AU):Bool:=o == some .cell || o == some .free
def En(sc scope:Scope)(N cn:List Str)(ix:List Nat):Bool :=
 scope.kind == .function && scope.names.all (λy=>y.2 != .cell) && scope.names.all (λy=>y.2 != .free || PN (sc.names.lookup y.1)) && scope.names.all (λy=>y.2 != .local || scope.names.lookup y.1 == some .local) &&
 ix.length == cn.length && (List.range ix.length).all (λk=>match ix[k]?,cn[k]? with
  |some j,some y=>N[j]? == some y && PN (sc.names.lookup y) && scope.names.contains (y,NameKind.free) && PN ((PL sc scope.names).lookup y)
  |_,_=>false) &&
 (PL sc scope.names).all (λy=>!(y.2 == .cell || y.2 == .free) || scope.names.contains (y.1,NameKind.free))
theorem qL(h:PN o=true):o=some .cell\/o=some .free:=by unfold PN at h;simpa using h
theorem dg.of{X:Cx}(uS:X.env.scope=sc)(hN:X.N=N)(h:En sc scope N cn ix=true):dg X scope tn cn ix:=by
 unfold En at h;simp only[mS] at h;obtain⟨⟨⟨⟨⟨⟨h1,h2⟩,h3⟩,h4⟩,h5⟩,h6⟩,h7⟩:=h;rw[My] at h2 h3 h4 h6 h7;have Z4:(relabel scope X.env).names=PL sc scope.names:=by unfold relabel PL;rw[<- uS];rfl
 refine⟨by simpa using h1,λy hy=>by simpa using h2 y hy,λy hy hk=>?_,λy hy hk=>?_,by simpa using h5,λk j hk=>?_,λx hx=>?_⟩
 ·have:=h3 y hy;rw[hk] at this;rw[uS];exact qL (by simpa using this)
 ·have:=h4 y hy;rw[hk] at this;simpa using this
 ·have ox:k<ix.length:=(jS.mp hk).1;have:=h6 k (sF.mpr ox);rw[hk] at this
  cases e:cn[k]? with
  |none=>rw[e] at this;cases this
  |some y =>rw[e] at this;simp only[mS] at this;obtain⟨⟨⟨a1,a2⟩,a3⟩,a4⟩:=this;refine⟨y,rfl,by rw[hN];simpa using a1,by rw[uS];exact qL a2,by simpa using a3,by rw[Z4];exact qL a4⟩
 ·rw[Z4] at hx;have mem:∃ k,(x,k)∈PL sc scope.names/\(k=.cell\/k=.free):=by
   rcases hx with hx|hx
   ·exact⟨_,PySem.mem_of_lookup hx,.inl rfl⟩
   ·exact⟨_,PySem.mem_of_lookup hx,.inr rfl⟩
  obtain⟨k,hm,hk⟩:=mem;have:=h7 _ hm;rcases hk with rfl|rfl<;>simpa using this
theorem dg.by{X:Cx}(c:X.env.scope=sc/\X.N=N)(h:En sc scope N cn ix=true):dg X scope tn cn ix:=.of c.1 c.2 h
structure Si(P:d4)(w:eB)(K:aC)(mg:Str->Option ae)(base:dy)(k:Nat)(x:Str)(ps:List Str)(sp:Sp):Prop where
 ex:∃ (g:ag) (fd:FuncData),mg x=some (.ref g)/\IC K (.ref g)=true/\Binds K fd ps []/\AB P w K mg base wc k g fd ps sp
section
variable {X:Cx}{k:Nat}{x:Str}{ps:List Str}{sp:Sp}{p pos:Pos}{e:Expr}{es:List Expr}{t:TA}
theorem HH (C:Si X.prog X.w X.K X.mg X.base k x ps sp) (hr:nv k X.A) (ha:PA X (e :: es) t) (hg:Gl X x:=by rfl) (t5:(x == ("__debug__" : Str))=false:=by decide) (he:cc (e :: es) X.env=(false,dr e X.env) :: cc es X.env:=by rfl) (pd:(k6 pos (cc es X.env)).any (·.1)=false:=by rfl):PE X (.Call (.Name x p) (e :: es) [] pos) (UL sp [] E0 t):=by
 obtain⟨g,fd,hm,hk,hb,F⟩:=C.ex;exact dN' F hr hg hm hk hb .nil fq' ha t5 he pd
end
theorem CF.cal{P:d4}{K:aC}{st:Stmt}{ps:List Str}(F:CF K x qual st f fd)(hm:mg x=some (.ref f))(G:AB P w K mg base wc k f fd ps sp)(h:∀ (kV doc pm:ae) (an:Option ag) (gp ct:ae) (us:List ae),us.length=ps.length->bindArgs (zk x qual (CD st) (yk st) (mB st) .none kV doc pm an gp ct) ⟨us,[]⟩=pure (ps.zip us)):Si P w K mg base k x ps sp :=
 ⟨f,fd,hm,F.kp,F.binds h,G⟩
theorem BJ:mM "int" = some (.type "int"):=by decide +kernel
theorem wG:mM "list" = some (.type "list"):=by decide +kernel
theorem lM:mM "len" = some (.builtin "len"):=by decide +kernel
def NJ(i j:Str):Bool:=!(Builtin.Str.occurrences j i 0 j.length 1).isEmpty
def Kk(K:aC)(neg:Bool):R2:=λx y H Q=>match x,y with
 |.str i,.str j=>Q (.bl (if neg then !NJ i j else NJ i j)) H
 |_,.ref p=>(∃ o,lh H p x o/\Q (.bl (if neg then !o.isSome else o.isSome)) H)\/Px K neg x y H Q
 |_,_=>False
theorem GC{X:Cx}(hu:X.A.units+64<fe):eI X (hJ .In) (Kk X.K false):=by
 walk_at"c";unfold Kk at h;split at h
 ·exact dt' pins s σ H _ _ v u Q I rx ry ⟨_,_,rfl,rfl,h⟩
 ·rcases h with⟨o,g,q⟩|h
  ·cases ry;exact eI' (by lia) I g rx λs3 I3=>⟨.bl o.isSome,H,I3,rfl,q⟩
  ·exact ev' pins s σ H _ _ v u Q I rx ry h
 ·exact h.elim
theorem vH{X:Cx}(hu:X.A.units+64<fe):eI X (hJ .NotIn) (Kk X.K true):=by
 walk_at"c";unfold Kk at h;split at h
 ·exact du' pins s σ H _ _ v u Q I rx ry ⟨_,_,rfl,rfl,h⟩
 ·rcases h with⟨o,g,q⟩|h
  ·cases ry;exact eJ' (by lia) I g rx λs3 I3=>⟨.bl (!o.isSome),H,I3,rfl,q⟩
  ·exact ew' pins s σ H _ _ v u Q I rx ry h
 ·exact h.elim
theorem bG.upd(h:bG H H')(hp:H' p=none):bG H (upd H' p o):=λb u e=>by have e':=h b u e;rw[cy (xI e' hp)];exact e'
theorem bG.lst{K:aC}(e:bG H H')(h:fw K H a xs):fw K H' a xs:=e.seq h
theorem bG.tup{K:aC}(e:bG H H')(h:oQ K H a xs):oQ K H' a xs:=by
 rcases h with(h|⟨o,h⟩)|h
 ·exact .inl (.inl (e _ _ h))
 ·exact .inl (.inr ⟨o,e _ _ h⟩)
 ·exact .inr h
mutual
theorem Rep.same{K:aC}(s:bG H H'):∀ {d:dE} {v:V},Rep K H d v->Rep K H' d v
 |_,_,.none=>.none
 |_,_,.bool b=>.bool b
 |_,_,.int i=>.int i
 |_,_,.str x=>.str x
 |_,_,.list h hs=>.list (s.lst h) (bT.same s hs)
 |_,_,.tuple h hs=>.tuple (s.tup h) (bT.same s hs)
theorem bT.same{K:aC}(s:bG H H'):∀ {ds:List dE} {vs:List V},bT K H ds vs->bT K H' ds vs
 |_,_,.nil=>.nil
 |_,_,.cons h hs=>.cons (Rep.same s h) (bT.same s hs)
end
section
variable {X:Cx}{K:aC}
theorem kIx(hK:X.K=K:=by rfl):x6 X (Se K):=by subst hK;exact Bk
theorem wd(hK:X.K=K:=by rfl)(hu:X.A.units+64<fe:=by assumption):eI X (hJ .Eq) (Sg K):=by subst hK;exact Hw hu
theorem Vi(hK:X.K=K:=by rfl)(hu:X.A.units+64<fe:=by assumption):eI X (hJ .NotEq) (Sh K):=by subst hK;exact Ih hu
theorem zS(hK:X.K=K:=by rfl)(hu:X.A.units+64<fe:=by assumption):eI X (hJ .In) (Kk K false):=by subst hK;exact GC hu
theorem wy(hK:X.K=K:=by rfl)(hu:X.A.units+64<fe:=by assumption):eI X (hJ .NotIn) (Kk K true):=by subst hK;exact vH hu
end
theorem Mx{α:Type}{a:α}{p:α->Prop}:(∃ v,a=v/\p v)↔p a:=⟨λ⟨_,e,h⟩=>e ▸ h,λh=>⟨a,rfl,h⟩⟩
end L2
namespace L2
open PySem PySem.Spec PyProof.Rows
abbrev Sj:=Array DictEntry
def wm(h:dy)(d:ag)(es:Sj)(ep:Nat):Prop:=∃ o,h.get? d=some o/\o.ExactDict/\o.data=.dict es ep
theorem wm.typ {s:ay} {d:ag} {es:Sj} {ep:Nat} (x:wm s.heap d es ep):s.TypeIs (.ref d) "dict" := let ⟨o,e,c,_⟩:=x;⟨o,e,c.1⟩
section
variable {prog:d4}{w:eB}{A:fm}{E:ae->ay->Prop}{s:ay}{d it:ag}{es:Sj}{ep i:Nat}
theorem sZ{Q:ae->ay->Prop}(lo:(d == oB)=false)(x:wm s.heap d es ep)(q:Q (.ref s.heap.objs.size) { s with heap:=s.heap.push { cls:=.type "dict_keyiterator",data:=.fields #[.ref d,.int 0 0,.int es.size 0,.int ep 0] } }):aI (aE prog w) A (pyIter (.ref d)) Q E s:=by
 obtain⟨o,ho,hc,Sn⟩:=id x;refine wpAny_pyIter_slot x.typ F.slot_dict_iter (B1 F.slot_dict_iter x.typ F.entry_dict_iter ?_ (F.args_dict_iter_1 _));unfold Builtin.«dict.__iter__»;refine aw ?_;unfold Builtin.Dict.dictSlotNone;refine aw (wpAny_notOrdered_dict x.typ ?_);refine(show aI _ _ (pure (Value.ref d)) _ _ s from bI ?_);refine(show aI _ _ (Builtin.Dict.showsAll d >>= _) _ _ s from ?_);unfold Builtin.Dict.showsAll;rw[if_neg (by rw[lo];decide)];refine aw (bI (aw (OG ho Sn (aw (wpAny_dictEpoch ho Sn (aw (sC (bI ⟨_,rfl, "dict_keyiterator",_,⟨_,kK _ rfl,rfl⟩,F.slot_dict_keyiterator_next.lookup,?_⟩))))))));simpa[mr] using q
theorem uz(hit:s.heap.IsKeyIter it d i es.size ep)(x:wm s.heap d es ep)(hx:i<es.size)(q:∀ h',h'.IsKeyIter it d (i+1) es.size ep->Heap.SameBut it s.heap h'->Q (some es[i].key) { s with heap:=h' }):aI (aE prog w) A (pyNext (.ref it)) Q E s:=by
 obtain⟨o,ho,hc,hd⟩:=id hit;obtain⟨od,Kx,tS,PQ⟩:=id x;have ty:=hit.typeIs;unfold pyNext;walk_at"j";refine aw (bI (aw (aw ?_)));first|refine aw (Q0 ty (bI ?_))|refine aw (Q5 ty (bI ?_))
 refine aw (wpAny_fieldsOf ho hd ?_);simp only[show Builtin.Dict_items.ownsTuple "dict_keyiterator" = false by decide,js,if_false];refine(show aI _ _ (if (Value.ref d == Value.none)=true then _ else _) _ _ s from ?_);rw[if_neg (show ¬ ((Value.ref d == Value.none)=true) by intro h;cases h)];refine aw (bI (aw (OG Kx PQ ?_)));rw[if_neg (by intro h;simp at h)];refine aw (bI (aw (wpAny_dictEpoch Kx PQ ?_)));rw[if_neg (by intro h;simp at h)];refine bI ?_;simp only[show ¬ ((i:Int)<0) by lia,if_false,MZ,AY hx];refine aw ?_;first|refine aw (Q0 ty (bI ?_))|refine aw (Q5 ty (bI ?_))
 refine aw (wpAny_isOneOf_keyiter ty ?_);refine(show aI _ _ (setField (.ref it) 1 (mr ((i:Int)+1)) >>= _) _ _ s from aw (wpAny_setField ho hd (by simp) ?_));have Z5:(s.heap.update it (Obj.mapFields (·.setIfInBounds 1 (mr ((i:Int)+1))))).IsKeyIter it d (i+1) es.size ep :=
  ⟨_,Fs _ ho (Obj.isFreed_of_fields (Obj.data_mapFields hd _)),(Obj.cls_mapFields ..).trans hc,by rw[Obj.data_mapFields hd];simp[mr]⟩
 refine aw (tJ (aw (wpAny_isOneOf_keyiter (s:={ s with heap:=s.heap.update it (Obj.mapFields (·.setIfInBounds 1 (mr ((i:Int)+1)))) }) Z5.typeIs ?_)));refine(show aI _ _ (pure es[i].key) _ _ _ from bI (bI ⟨_,rfl,bI (q _ Z5 (Heap.SameBut.update ..))⟩))
theorem tH(hh:A.handled=none)(hit:s.heap.IsKeyIter it d es.size es.size ep)(x:wm s.heap d es ep)(q:∀ h',Heap.ExtBut it s.heap h'->Q none { s with heap:=h' }) :
  aI (aE prog w) A (pyNext (.ref it)) Q E s:=by
 obtain⟨o,ho,hc,hd⟩:=id hit;obtain⟨od,Kx,tS,PQ⟩:=id x;have ty:=hit.typeIs;unfold pyNext;walk_at"j";refine aw (bI (aw (aw ?_)));first|refine aw (Q0 ty (bI ?_))|refine aw (Q5 ty (bI ?_))
 refine aw (wpAny_fieldsOf ho hd ?_);simp only[show Builtin.Dict_items.ownsTuple "dict_keyiterator" = false by decide,js,if_false];refine(show aI _ _ (if (Value.ref d == Value.none)=true then _ else _) _ _ s from ?_);rw[if_neg (show ¬ ((Value.ref d == Value.none)=true) by intro h;cases h)];refine aw (bI (aw (OG Kx PQ ?_)));rw[if_neg (by intro h;simp at h)];refine aw (bI (aw (wpAny_dictEpoch Kx PQ ?_)));rw[if_neg (by intro h;simp at h)];refine bI ?_;simp only[show ¬ ((es.size:Int)<0) by lia,if_false,MZ,FD (cx es.size)];refine aw ?_;first|refine aw (Q0 ty (bI ?_))|refine aw (Q5 ty (bI ?_))
 refine(show aI _ _ (setField (.ref it) 0 .none >>= _) _ _ s from aw (wpAny_setField ho hd (by simp) ?_));refine(show aI _ _ (newExc (.type "StopIteration") [] >>= _) _ _ _ from aw ?_);simp only[newExc,newTuple];refine aw (sC ?_ (by size_fits));refine aw (m:=firstArgMember _ _) (wpAny_of_eq (a:=Value.none) (by first|rfl|(simp only[firstArgMember];rfl)) (sC ?_ (by size_fits)));simp only[raiseNew];refine aw (wpAny_handled ?_);rw[show A.in1.handled=none from hh];refine aw (bI (wpAny_throw ?_));refine aw (wpAny_isInstance (b:=true) (T := "StopIteration") ⟨_,kK _ rfl,rfl⟩ isSubtype_stop ?_);exact bI (q _ (((Heap.SameBut.update ..).extBut.push _).push _))
theorem wm.at(x:wm h d es ep)(e:∀ o,h.get? d=some o->h'.get? d=some o):wm h' d es ep:=let ⟨o,ho,r⟩:=x;⟨o,e o ho,r⟩
theorem wm.lt(x:wm h d es ep):d<h.objs.size:=let ⟨_,e,_⟩:=x;fh e
theorem wM(hh:A.handled=none)(I:ag)(kf:d≠I):Walks prog w A I [I,d] [I] es.size (λi v=>∃ e,es[i]? = some e/\v=e.key) (λi h=>h.IsKeyIter I d i es.size ep/\wm h d es ep) where
 sub:=λb hb=>by simp at hb;simp[hb]
 frame:=λ_ _ _ st hk=>⟨st.1.at λo e=>hk I (by simp) o e,st.2.at λo e=>hk d (by simp) o e⟩
 item:=λi s Q E hi st hQ=>uz st.1 st.2 hi λh' a b=>hQ _ h' s.toks ⟨es[i],by simp[hi],rfl⟩ ⟨a,st.2.at λo e=>b.extBut d o kf e⟩ λc o hb e=>b.extBut c o (λh=>hb (by simp[h])) e
 done:=λs Q E st hQ=>tH hh st.1 st.2 λh' NM=>hQ h' s.toks λb o hb e=>NM b o (λh=>hb (by simp[h])) e
 self:=λ_ _ _ _ st hQ=>wpAny_pyIter_keyiter st.1 hQ
theorem yH (lo:(d == oB)=false):PySem.W.KdlSrc prog w "dict" d d es.size (λi v=>∃ e,es[i]? = some e/\v=e.key) (λh=>wm h d es ep) where
 type:=λ_ x=>x.typ
 there:=λ_ x=>⟨x.lt,x.lt⟩
 keep:=λ_ _ x hk=>x.at λo e=>hk d (.inl rfl) o e
 notList:=by decide
 notTuple:=by decide
 hint:=λ_ _ _ _ x hq=>PySem.W.kdl_hint_dict x.typ hq
 iter:=λ_ _ hh x=>⟨_,_,(λ_ _ hq=>sZ lo x hq),wM hh _ (gi x.lt),⟨⟨_,kK _ rfl,rfl,rfl⟩,x.at λo e=>gd _ e⟩⟩
end
theorem Paired.n0{α β:Type}{R:α->β->Prop}{bs:List β}(h:Paired R [] bs):bs=[]:=by cases h;rfl
theorem Paired.c{α β:Type}{R:α->β->Prop}{a:α}{as:List α}{bs:List β}(h:Paired R (a :: as) bs):∃ b cs,bs=b :: cs/\R a b/\Paired R as cs:=by
 cases h with
 |cons r t=>exact⟨_,_,rfl,r,t⟩
def bR(H:Hp)(ys:List V)(ks:List (List Key)):Prop:=Paired (λ(v:V) (k:List Key)=>∃ b,v=.ref b/\H b=some (.tup (k.map kV))) ys ks
section
variable {X:Cx}
def tG:List V->Hp->VK->Prop:=λxs H Q=>match xs with
 |[.ref p]=>∃ kvs,Rd H p (.dT kvs)/\∀ ys l,bR H ys (kvs.map (·.1))->H l=none->Q (.ref l) (upd H l (.lst ys))
 |_=>False
theorem qQ (h:Paired (λ(p:List Key × V) (q:List Key × ag × ae)=>p.1=q.1/\H q.2.1=some (.tup (p.1.map kV))/\RelV p.2 q.2.2) kvs xs) :
  bR H (xs.map λq=>.ref q.2.1) (kvs.map (·.1))/\Vals (xs.map λq=>.ref q.2.1) ((xs.map (entryOfKey (AR (iL prog w)))).map (·.key)):=by
 induction h with
 |nil=>exact⟨.nil,.nil⟩
 |cons r t ih=>exact⟨.cons ⟨_,rfl,r.2.1⟩ ih.1,.cons rfl ih.2⟩
theorem vD (hc:X.calm=true):kC X (.type "list") tG:=by
 walk_at"f";unfold tG at h;split at h
 ·rename_i p;obtain⟨kvs,e,q⟩:=h;obtain⟨u,rfl,ru⟩:=Vals.one r;cases ru;obtain⟨z,y,ps,rel,o,es,ep,h1,h2,h3,h4,h5⟩:=(show gL X.prog X.w H s.heap p (.dT kvs) from I.rd e)
  obtain⟨ta,va⟩:=qQ (prog:=X.prog) (w:=X.w) rel;have hlen:es.size=kvs.length:=by have:=congrArg List.length h4;rw[xD,b5] at this;rw[this];exact rel.length.symm
  refine PySem.W.kdl_call (yH (es:=es) (ep:=ep) y) (I.ok.hd hc) ⟨o,h1,h2,h3⟩ (by lia) λh' tk acc c kp eo u0=>?_;have hv:acc.toList=(ps.map (entryOfKey (AR (iL X.prog X.w)))).map (·.key):=by
   apply B5;intro i;by_cases hi:i<es.size
   ·have kP:i<acc.size:=by rw[u0.1];exact hi
    obtain⟨en,e1,e2⟩:=u0.2 i acc[i] (by simp[kP]);rw[<- h4,n5,lP,lP,e1];simp[kP,e2]
   ·rw[<- h4,n5,lP,lP,FD (by rw[u0.1];lia),FD (by lia)];rfl
  refine⟨.ref s.heap.objs.size,_,I.laid (t':=tk) kp (cx _) (show gL X.prog X.w _ h' _ (.lst (ps.map λq=>.ref q.2.1)) from⟨?_,acc.toList,c,?_,?_⟩),rfl,q _ _ ta (I.b6.fresh (cx _))⟩
  ·rw[b5,<- rel.length];exact z
  ·rw[hv];exact va
  ·rw[O5];exact eo
 ·exact h.elim
end
end L2
namespace ve
open PySem PyProof.Rows
def R(r:ae->Int)(xs:Array bX)(i:Nat):Int:=match xs[i]? with
 |some p=>r p.1
 |none=>0
theorem cW(h:xs[i]? = ys[j]?):R r xs i=R r ys j:=by unfold R;rw[h]
def ny(prog:d4)(w:eB)(A:fm)(s:ay)(κ:qa)(r:ae->Int)(P:ae->Prop):Prop :=
 ∀ x y,P x->P y->∀ (Q:Bool->ay->Prop) (E:ae->ay->Prop),Q (decide (r x<r y)) s->aI (aE prog w) A (keyLt' κ x y) Q E s
def AllP(P:ae->Prop)(xs:Array bX):Prop:=∀ p∈xs.toList,P p.1
theorem AllP.perm{P:ae->Prop}(h:AllP P xs)(hp:ys.Perm xs):AllP P ys:=λp hm=>h p ((Ub.mp hp).mem_iff.mp hm)
theorem AllP.at{P:ae->Prop}{xs:Array bX}(h:AllP P xs){i:Nat}{p:bX}(e:xs[i]? = some p):P p.1:=h p (by
 obtain⟨hi,rfl⟩:=MY.mp e;simp)
structure nE(lo hi:Nat)(st av:dz):Prop where
 kind:fq av=fq st
 failed:qc av=qc st
 pend:kL av=kL st
 perm:(bq av).Perm (bq st)
 out:∀ k,k<lo\/hi<=k->(bq av)[k]? = (bq st)[k]?
theorem nE.refl(lo hi:Nat)(st:dz):nE lo hi st st:=⟨rfl,rfl,rfl,Array.Perm.refl _,λ_ _=>rfl⟩
theorem nE.trans{lo hi:Nat}{a b c:dz}(h:nE lo hi a b)(g:nE lo hi b c):nE lo hi a c :=
 ⟨g.kind.trans h.kind,g.failed.trans h.failed,g.pend.trans h.pend,g.perm.trans h.perm,λk hk=>(g.out k hk).trans (h.out k hk)⟩
theorem nE.mono{lo hi KG iP:Nat}{a b:dz}(h:nE lo hi a b)(h1:KG<=lo)(h2:hi<=iP):nE KG iP a b :=
 ⟨h.kind,h.failed,h.pend,h.perm,λk hk=>h.out k (by lia)⟩
theorem nE.size{lo hi:Nat}{a b:dz}(h:nE lo hi a b):(bq b).size=(bq a).size:=h.perm.size_eq
def Up(r:ae->Int)(xs:Array bX)(lo hi:Nat):Prop:=∀ i j,lo<=i->i<=j->j<hi->R r xs i<=R r xs j
def Down(r:ae->Int)(xs:Array bX)(lo hi:Nat):Prop:=∀ i j,lo<=i->i<=j->j<hi->R r xs j<=R r xs i
theorem ur(hs:src<xs.size)(hd:d<=src)(k:Nat) :
  R r (bubble xs src d) k=if k=src-d then R r xs src else if src-d<k/\k<=src then R r xs (k-1) else R r xs k:=by
 have e:=getElem?_bubble hs d hd k;by_cases h1:k=src-d
 ·rw[if_pos h1] at e ⊢;exact cW e
 ·rw[if_neg h1] at e ⊢;by_cases h2:src-d<k/\k<=src
  ·rw[if_pos h2] at e ⊢;exact cW e
  ·rw[if_neg h2] at e ⊢;exact cW e
theorem oh(hj:j<=xs.size)(k:Nat) :
  R r (mirror xs i j ((j-i) / 2)) k=if i<=k/\k<j then R r xs (i+j-1-k) else R r xs k:=by
 have e:=getElem?_mirror_all (i:=i) hj k;by_cases h1:i<=k/\k<j
 ·rw[if_pos h1] at e ⊢;exact cW e
 ·rw[if_neg h1] at e ⊢;exact cW e
theorem bB(hj:j<=xs.size)(heq:∀ k,i<=k->k<j->R r xs k=R r xs (j-1))(k:Nat) :
  R r (mirror xs i j ((j-i) / 2)) k=R r xs k:=by
 rw[oh hj];split
 ·rw[heq _ (by lia) (by lia),heq k (by lia) (by lia)]
 ·rfl
section
variable {prog:d4}{w:eB}{A:fm}{E:ae->ay->Prop}{s:ay}{κ:qa}{r:ae->Int}{P:ae->Prop}
theorem pW{st:dz}{x y:bX}{Q:Option Bool->dz->Prop}(C:ny prog w A s κ r P)(hk:fq st=κ)(hx:P x.1)(hy:P y.1)(h:Q (some (decide (r x.1<r y.1))) st) :
  wpS (aE prog w) A E s (lt' x y) Q st:=by
 rw[lt'_eq];refine ck (wpS_get ?_);rw[hk];refine ck (wpS_lift (wpAny_attempt (C x.1 y.1 hx hy _ _ ⟨rfl,?_⟩)));exact dk h
theorem aH{xs:Array bX}{i:Nat}{Q:bX->dz->Prop}{st:dz}(hi:i<xs.size)(h:∀ p,xs[i]? = some p->Q p st):wpS (aE prog w) A E s (n9 xs i) Q st:=by rw[elem'_eq,getElem?_pos xs i hi];exact dk (h _ (getElem?_pos xs i hi))
theorem jK{st:dz}{i j:Nat}{Q:Option Bool->dz->Prop}(C:ny prog w A s κ r P)(hk:fq st=κ)(hP:AllP P (bq st))(hi:i<(bq st).size)(hj:j<(bq st).size)(h:Q (some (decide (R r (bq st) i<R r (bq st) j))) st):wpS (aE prog w) A E s (ltAt' i j) Q st:=by
 rw[ltAt'_eq];refine ck (wpS_get ?_);show wpS _ _ _ _ (do let x <- n9 (bq st) i;let y <- n9 (bq st) j;lt' x y) Q st;refine ck (aH hi λp ep=>ck (aH hj λq eq=>pW C hk (hP.at ep) (hP.at eq) ?_));have e1:R r (bq st) i=r p.1:=by unfold R;rw[ep]
 have e2:R r (bq st) j=r q.1:=by unfold R;rw[eq]
 rw[<- e1,<- e2];exact h
theorem cZ{st:dz}{i j:Nat}{Q:Unit->dz->Prop}(h:Q () (setArr st (mirror (bq st) i j ((j-i) / 2)))) :
  wpS (aE prog w) A E s (reverseSlice' i j) Q st:=by
 rw[reverseSlice'_eq];exact Ee h
theorem fG{st:dz}{i j:Nat}(hj:j<=(bq st).size):nE i j st (setArr st (mirror (bq st) i j ((j-i) / 2))) :=
 ⟨rfl,rfl,rfl,mirror_perm _ _ _ _,λk hk=>by
  have e:=getElem?_mirror_all (i:=i) hj k;rw[if_neg (by lia)] at e;exact e⟩
theorem vh{st:dz}{lo src d:Nat}(hs:src<(bq st).size)(hd:lo+d<=src):nE lo (src+1) st (setArr st (bubble (bq st) src d)) :=
 ⟨rfl,rfl,rfl,bubble_perm _ _ _,λk hk=>by
  have e:=getElem?_bubble hs d (by walk_at "s4") k;rw[if_neg (by lia),if_neg (by lia)] at e;exact e⟩
theorem wpS_binarySort{st:dz}{lo n ok:Nat}{Q:Bool->dz->Prop}(C:ny prog w A s κ r P)(hk:fq st=κ)(hP:AllP P (bq st))(hn:lo+n<=(bq st).size)(b6:ok<=n)(hs:Up r (bq st) lo (lo+ok))(h:∀ av,nE lo (lo+n) st av->Up r (bq av) lo (lo+n)->Q true av):wpS (aE prog w) A E s (binarySort' lo n ok) Q st:=by
 rw[binarySort'_eq];refine ck (tN (qS (I:=λk c av=>c=(none,())/\nE lo (lo+n) st av/\Up r (bq av) lo (lo+min k n)) (Q:=λc av=>c=(none,())/\nE lo (lo+n) st av/\Up r (bq av) lo (lo+n)) ?step ?fin ?init) ?post)
 case post =>
  rintro c av ⟨rfl,kD,h9⟩;exact dk (h av kD h9)
 case init =>
  refine⟨rfl,.refl _ _ _,λi j hl kQ hj=>?_⟩;by_cases h1:ok=0
  ·have:i=j:=by lia
   subst this;exact sL _
  ·exact hs i j hl kQ (by lia)
 case fin =>
  rintro c av ⟨hc,kD,h9⟩;refine⟨hc,kD,?_⟩;rwa[show min (max (max ok 1) n) n=n by lia] at h9
 case step =>
  rintro k c av hak hkn ⟨rfl,kD,h9⟩;rw[show min k n=k by lia] at h9;have hsz:=kD.size;have ox:fq av=κ:=kD.kind.trans hk;have sP:=hP.perm kD.perm;refine ck (tN (qS (I:=λx c A9=>A9=av/\∃ l r',c=(none,l,r')/\l<=r'/\r'<=k/\r'-l<=k-x /\ (∀ i,lo<=i->i<lo+l->R r (bq av) i<=R r (bq av) (lo+k))/\(∀ i,lo+r'<=i->i<lo+k->R r (bq av) (lo+k)<R r (bq av) i)) (Q:=λc A9=>A9=av/\∃ l r',c=(none,l,r')/\l<=k /\ (∀ i,lo<=i->i<lo+l->R r (bq av) i<=R r (bq av) (lo+k))/\(∀ i,lo+l<=i->i<lo+k->R r (bq av) (lo+k)<R r (bq av) i)) ?fT' ?fU' ?fV') ?fW')
  case fV'=>exact⟨rfl,0,k,rfl,by exact fz _,by exact cx _,by exact Nat.sub_le _ _,λi _ hi=>by lia,λi h1 h2=>by lia⟩
  case fU' =>
   rintro c A9 ⟨rfl,l,r',rfl,hlr,KL,hm,GN,CL⟩;have:l=r':=by lia
   subst this;exact⟨rfl,l,l,rfl,KL,GN,CL⟩
  case fT' =>
   rintro x c A9 _ hxk ⟨rfl,l,r',rfl,hlr,KL,hm,GN,CL⟩;dsimp only;by_cases rg:l >= r'
   ·rw[if_pos rg];have:l=r':=by exact Nat.le_antisymm ‹_› ‹_›
    subst this;exact dk ⟨rfl,l,l,rfl,KL,GN,CL⟩
   ·rw[if_neg rg];refine ck (jK C ox sP (by lia) (by lia) ?_);by_cases yv:R r (bq A9) (lo+k)<R r (bq A9) (lo+(l+r') / 2)
    ·simp only[yv,decide_true,if_true];refine dk ⟨rfl,l,(l+r') / 2,rfl,by lia,by lia,by lia,GN,λi h1 h2=>?_⟩;exact Int.lt_of_lt_of_le yv (h9 _ _ (by exact IL _ _) h1 h2)
    ·simp only[yv,decide_false,js,if_false];refine dk ⟨rfl,(l+r') / 2+1,r',rfl,by lia,by lia,by lia,λi h0 h1=>?_,CL⟩;exact zC (h9 i (lo+(l+r') / 2) h0 (by lia) (by lia)) (Int.not_lt.mp yv)
  case fW' =>
   rintro c A9 ⟨rfl,l,r',rfl,hlk,GN,CL⟩;show wpS _ _ _ _ (do moveDown' (lo+k) (lo+l);pure (ForInStep.yield (none,()))) _ _;rw[moveDown'_eq];have KP:lo+k<(bq A9).size:=by lia
   refine ck (Ee (dk ⟨rfl,kD.trans ((vh (lo:=lo) KP (by lia)).mono (cx _) (by lia)),?_⟩));rw[show min (k+1) n=k+1 by exact Nat.min_eq_left ‹_›];intro i j hl kQ hj;show R r (bubble (bq A9) (lo+k) (lo+k-(lo+l))) i<=R r (bubble (bq A9) (lo+k) (lo+k-(lo+l))) j;rw[ur KP (by exact Nat.sub_le _ _),ur KP (by exact Nat.sub_le _ _),show lo+k-(lo+k-(lo+l))=lo+l by lia]
   repeat' split
   all_goals first
    | (exfalso;lia)
    |exact sL _
    |exact GN _ (by lia) (by lia)
    |exact EB (CL _ (by lia) (by lia))
    |exact h9 _ _ (by lia) (by lia) (by lia)
end
def ascL(lo a nrem:Nat):StateT dz Sem AscSt :=
 forIn [a:nrem] ((none,a):AscSt) λ_ __s=>do
  let __x ← ltAt' (lo + __s.snd) (lo + __s.snd - 1)
  match __x with
  |some smaller=>if smaller=true then pure (ForInStep.done (none,__s.snd)) else pure (ForInStep.yield (none,__s.snd+1))
  |_=>pure (ForInStep.done (some none,__s.snd))
def qu(lo n nrem:Nat):StateT dz Sem (Option Nat):=do
 reverseSlice' lo (lo+n)
 let __s ← ascL lo n nrem
 match __s.fst with
 |some r=>pure r
 |none=>pure (some __s.snd)
def Aq(lo n nrem:Nat):StateT dz Sem DescSt :=
 forIn [n:nrem] ((none,n,0):DescSt) λ_ __s=>do
  let __x ← ltAt' (lo + __s.snd.fst) (lo + __s.snd.fst - 1)
  match __x with
  |some smaller =>
   if smaller=true then
    if __s.snd.snd>0 then do
     reverseSlice' (lo+__s.snd.fst-(__s.snd.snd+1)) (lo+__s.snd.fst)
     pure (ForInStep.yield (none,__s.snd.fst+1,0))
    else pure (ForInStep.yield (none,__s.snd.fst+1,0))
   else do
    let __x ← ltAt' (lo+__s.snd.fst - 1) (lo+__s.snd.fst)
    match __x with
    |some larger =>
     if larger=true then pure (ForInStep.done (none,__s.snd.fst,__s.snd.snd))
     else pure (ForInStep.yield (none,__s.snd.fst+1,__s.snd.snd+1))
    |_=>pure (ForInStep.done (some none,__s.snd.fst,__s.snd.snd))
  |_=>pure (ForInStep.done (some none,__s.snd.fst,__s.snd.snd))
def eG(lo n nrem:Nat):StateT dz Sem (Option Nat):=do
 liftM (rule "list.sort.descending-run")
 let __s ← Aq lo (n+1) nrem
 match __s.fst with
 |some r=>pure r
 |none =>
  if __s.snd.snd>0 then do
   reverseSlice' (lo+__s.snd.fst-(__s.snd.snd+1)) (lo+__s.snd.fst)
   qu lo __s.snd.fst nrem
  else qu lo __s.snd.fst nrem
theorem pH(lo nrem:Nat):countRun' lo nrem=(do
  let __s ← ascL lo 1 nrem
  match __s.fst with
  |some r=>pure r
  |none =>
   if (__s.snd == nrem)=true then pure (some __s.snd)
   else if __s.snd>1 then do
    let __x ← ltAt' lo (lo+__s.snd - 1)
    match __x with
    |some Z6=>if Z6=true then pure (some __s.snd) else do
      reverseSlice' lo (lo+__s.snd)
      eG lo __s.snd nrem
    |_=>pure none
   else eG lo __s.snd nrem):=by
 rw[countRun'_eq];dsimp only;unfold eG qu Aq ascL;congr 1;funext __s;obtain⟨r,n⟩:=__s
 cases r with
 |some r=>rfl
 |none =>
  dsimp only;split
  ·rfl
  ·split
   ·congr 1;funext x
    cases x with
    |none=>rfl
    |some Z6 =>
     dsimp only;split
     ·rfl
     ·congr 1;funext _r
      (congr 1;funext _u;congr 1;congr 1;funext s2;obtain⟨r2,n2,q2⟩:=s2;cases r2 with
       |some r2=>rfl
       |none=>(dsimp only;split;(congr 1;funext _v;(congr 1;funext _w;congr 1;(funext s3;obtain⟨r3,n3⟩:=s3;cases r3<;>rfl)));(congr 1;funext _w;congr 1;(funext s3;obtain⟨r3,n3⟩:=s3;cases r3<;>rfl))))
   ·(congr 1;funext _u;congr 1;congr 1;funext s2;obtain⟨r2,n2,q2⟩:=s2;cases r2 with
     |some r2=>rfl
     |none=>(dsimp only;split;(congr 1;funext _v;(congr 1;funext _w;congr 1;(funext s3;obtain⟨r3,n3⟩:=s3;cases r3<;>rfl)));(congr 1;funext _w;congr 1;(funext s3;obtain⟨r3,n3⟩:=s3;cases r3<;>rfl))))
section
variable {prog:d4}{w:eB}{A:fm}{E:ae->ay->Prop}{s:ay}{κ:qa}{r:ae->Int}{P:ae->Prop}
theorem tR{st:dz}{lo a nrem:Nat}{Q:AscSt->dz->Prop}(C:ny prog w A s κ r P)(hk:fq st=κ)(hP:AllP P (bq st))(hn:lo+nrem<=(bq st).size)(ha:1<=a)(han:a<=nrem)(hs:Up r (bq st) lo (lo+a))(h:∀ n,a<=n->n<=nrem->Up r (bq st) lo (lo+n)->(n=nrem\/R r (bq st) (lo+n)<R r (bq st) (lo+n-1))->Q (none,n) st) :
  wpS (aE prog w) A E s (ascL lo a nrem) Q st:=by
 unfold ascL;refine qS (I:=λx c av=>av=st/\c=(none,x)/\Up r (bq st) lo (lo+x)) ?step ?fin ⟨rfl,rfl,hs⟩;case fin =>
  rintro c av ⟨rfl,rfl,h9⟩;rw[show max a nrem=nrem by lia] at h9 ⊢;exact h nrem han (cx _) h9 (.inl rfl)
 case step =>
  rintro x c av Vj hxn ⟨rfl,rfl,h9⟩;dsimp only;refine ck (jK C hk hP (by lia) (by lia) ?_);by_cases yv:R r (bq av) (lo+x)<R r (bq av) (lo+x-1)
  ·simp only[yv,decide_true,if_true];exact dk (h x Vj (by exact oI ‹_›) h9 (.inr yv))
  ·simp only[yv,decide_false,js,if_false];refine dk ⟨rfl,rfl,λi j hl kQ hj=>?_⟩;by_cases PR:j<lo+x
   ·exact h9 i j hl kQ PR
   ·have rh:j=lo+x:=by lia
    subst rh;by_cases iP:i=lo+x
    ·subst iP;exact sL _
    ·exact zC (h9 i (lo+x-1) hl (by lia) (by lia)) (Int.not_lt.mp yv)
theorem lV{st:dz}{lo n nrem:Nat}{Q:Option Nat->dz->Prop}(C:ny prog w A s κ r P)(hk:fq st=κ)(hP:AllP P (bq st))(hn:lo+nrem<=(bq st).size)(h1:1<=n)(CM:n<=nrem)(hs:Down r (bq st) lo (lo+n)) (h:∀ m av,nE lo (lo+nrem) st av->1<=m->m<=nrem->Up r (bq av) lo (lo+m)->Q (some m) av) :
  wpS (aE prog w) A E s (qu lo n nrem) Q st:=by
 unfold qu;have hsz:lo+n<=(bq st).size:=by lia
 refine ck (cZ ?_);have kD:=fG (i:=lo) hsz;refine ck (tR C (kD.kind.trans hk) (hP.perm kD.perm) (by rw[kD.size];exact hn) h1 CM ?_ λm wo i6 EL _=>dk (h m _ (kD.mono (cx _) (by lia)) (by walk_at "s1") i6 EL));intro i j hl kQ hj;show R r (mirror (bq st) lo (lo+n) ((lo+n-lo) / 2)) i<=R r (mirror (bq st) lo (lo+n) ((lo+n-lo) / 2)) j;rw[oh hsz,oh hsz,if_pos (by lia),if_pos (by lia)];exact hs _ _ (by lia) (by lia) (by lia)
theorem yo{st:dz}{lo n nrem:Nat}{Q:DescSt->dz->Prop}(C:ny prog w A s κ r P)(hk:fq st=κ)(hP:AllP P (bq st))(hn:lo+nrem<=(bq st).size)(h1:1<=n)(CM:n<=nrem)(hs:Down r (bq st) lo (lo+n))(h:∀ m sQ av,nE lo (lo+nrem) st av->n<=m->m<=nrem->Down r (bq av) lo (lo+m)->sQ+1<=m->(∀ i,lo+m-(sQ+1)<=i->i<lo+m->R r (bq av) i=R r (bq av) (lo+m-1))->Q (none,m,sQ) av) :
  wpS (aE prog w) A E s (Aq lo n nrem) Q st:=by
 unfold Aq;refine qS (I:=λx c av=>∃ sQ,c=(none,x,sQ)/\nE lo (lo+nrem) st av/\Down r (bq av) lo (lo+x)/\sQ+1<=x /\ (∀ i,lo+x-(sQ+1)<=i->i<lo+x->R r (bq av) i=R r (bq av) (lo+x-1))) ?step ?fin ⟨0,rfl,.refl _ _ _,hs,by lia,λi h1 h2=>by congr 1;lia⟩
 case fin =>
  rintro c av ⟨sQ,rfl,kD,h9,hq,he⟩;rw[show max n nrem=nrem by lia] at h9 hq he ⊢;exact h nrem sQ av kD CM (cx _) h9 hq he
 case step =>
  rintro x c av Vj hxn ⟨sQ,rfl,kD,h9,hq,he⟩;dsimp only;have hz:=kD.size;have hsz:lo+x<=(bq av).size:=by lia
  have ox:=kD.kind.trans hk;have sP:=hP.perm kD.perm;refine ck (jK C ox sP (by lia) (by lia) ?_);by_cases yv:R r (bq av) (lo+x)<R r (bq av) (lo+x-1)
  ·simp only[yv,decide_true,if_true];have Z7:∀ xs:Array bX,(∀ k,R r xs k=R r (bq av) k)->Down r xs lo (lo+(x+1)):=by
    intro xs Sq i j hl kQ hj;rw[Sq,Sq];by_cases PR:j<lo+x
    ·exact h9 i j hl kQ PR
    ·have rh:j=lo+x:=by lia
     subst rh;by_cases iP:i=lo+x
     ·subst iP;exact sL _
     ·exact zC (EB yv) (h9 i (lo+x-1) hl (by lia) (by lia))
   by_cases PX:sQ>0
   ·rw[if_pos PX];refine ck (cZ (dk ⟨0,rfl,kD.trans ((fG hsz).mono (by lia) (by lia)),Z7 _ (bB hsz he),by exact xC _,λi h1 h2=>by congr 1;lia⟩))
   ·rw[if_neg PX];exact dk ⟨0,rfl,kD,Z7 _ (λ_=>rfl),by exact xC _,λi h1 h2=>by congr 1;lia⟩
  ·simp only[yv,decide_false,js,if_false];refine ck (jK C ox sP (by lia) (by lia) ?_);by_cases Z8:R r (bq av) (lo+x-1)<R r (bq av) (lo+x)
   ·simp only[Z8,decide_true,if_true];exact dk (h x sQ av kD Vj (by exact oI ‹_›) h9 hq he)
   ·simp only[Z8,decide_false,js,if_false];have Z9:R r (bq av) (lo+x)=R r (bq av) (lo+x-1):=by lia
    refine dk ⟨sQ+1,rfl,kD,λi j hl kQ hj=>?_,by exact Fu ‹_›,λi h1 h2=>?_⟩
    ·by_cases PR:j<lo+x
     ·exact h9 i j hl kQ PR
     ·have rh:j=lo+x:=by lia
      subst rh;by_cases iP:i=lo+x
      ·subst iP;exact sL _
      ·rw[Z9];exact h9 i (lo+x-1) hl (by lia) (by lia)
    ·rw[show lo+(x+1)-1=lo+x by rfl];by_cases AG:i=lo+x
     ·subst AG;rfl
     ·rw[Z9];exact he i (by lia) (by lia)
theorem gj{st:dz}{lo n nrem:Nat}{Q:Option Nat->dz->Prop}(C:ny prog w A s κ r P)(hk:fq st=κ)(hP:AllP P (bq st))(hn:lo+nrem<=(bq st).size)(CM:n+1<=nrem)(hs:Down r (bq st) lo (lo+(n+1))) (h:∀ m av,nE lo (lo+nrem) st av->1<=m->m<=nrem->Up r (bq av) lo (lo+m)->Q (some m) av) :
  wpS (aE prog w) A E s (eG lo n nrem) Q st:=by
 unfold eG;walk_at"u";refine ck (yo C hk hP hn (by exact xC _) CM hs λm sQ av kD wo i6 h9 hq he=>?_);dsimp only;have hz:=kD.size;have hsz:lo+m<=(bq av).size:=by lia
 have ox:=kD.kind.trans hk;have sP:=hP.perm kD.perm;by_cases PX:sQ>0
 ·rw[if_pos PX];have hW:=fG (i:=lo+m-(sQ+1)) hsz;refine ck (cZ (lV C (hW.kind.trans ox) (sP.perm hW.perm) (by rw[hW.size,hz];exact hn) (by walk_at "s2") i6 ?_ λm2 Au PY=>h m2 Au ((kD.trans (hW.mono (by lia) (by lia))).trans PY)));intro i j hl kQ hj;show R r (mirror (bq av) _ _ _) j<=R r (mirror (bq av) _ _ _) i;rw[bB hsz he,bB hsz he];exact h9 i j hl kQ hj
 ·rw[if_neg PX];exact lV C ox sP (by rw[hz];exact hn) (by lia) i6 h9 λm2 Au PY=>h m2 Au (kD.trans PY)
theorem wpS_countRun{st:dz}{lo nrem:Nat}{Q:Option Nat->dz->Prop}(C:ny prog w A s κ r P)(hk:fq st=κ)(hP:AllP P (bq st))(hn:lo+nrem<=(bq st).size)(h1:1<=nrem)(h:∀ m av,nE lo (lo+nrem) st av->1<=m->m<=nrem->Up r (bq av) lo (lo+m)->Q (some m) av) :
  wpS (aE prog w) A E s (countRun' lo nrem) Q st:=by
 rw[pH];refine ck (tR C hk hP hn (cx 1) h1 (λi j hl kQ hj=>by
  have:i=j:=by lia
  subst this;exact sL _) λn Z_ Ki pj NR=>?_)
 dsimp only;by_cases CM:n=nrem
 ·rw[if_pos (by simpa using CM)];exact dk (h n st (.refl _ _ _) Z_ Ki pj)
 ·rw[if_neg (by simpa using CM)];have d5:R r (bq st) (lo+n)<R r (bq st) (lo+n-1):=NR.resolve_left CM;by_cases hgt:n>1
  ·rw[if_pos hgt];refine ck (jK C hk hP (by lia) (by lia) ?_);by_cases ab':R r (bq st) lo<R r (bq st) (lo+n-1)
   ·simp only[ab',decide_true,if_true];exact dk (h n st (.refl _ _ _) Z_ Ki pj)
   ·simp only[ab',decide_false,js,if_false];have hsz:lo+n<=(bq st).size:=by lia
    have pg:∀ k,lo<=k->k<lo+n->R r (bq st) k=R r (bq st) (lo+n-1):=by intro k hl hk;have a1:=pj lo k (by exact cx _) hl hk;have a2:=pj k (lo+n-1) hl (by lia) (by lia);lia
    have hW:=fG (i:=lo) hsz;refine ck (cZ (gj C (hW.kind.trans hk) (hP.perm hW.perm) (by rw[hW.size];exact hn) (by lia) ?_ λm2 Au PY=>h m2 Au ((hW.mono (cx _) (by lia)).trans PY)));intro i j hl kQ hj;show R r (mirror (bq st) _ _ _) j<=R r (mirror (bq st) _ _ _) i;rw[bB hsz pg,bB hsz pg];by_cases hjn:j<lo+n
    ·rw[pg i hl (by walk_at "s1"),pg j (by walk_at "s1") hjn];exact sL _
    ·have rh:j=lo+n:=by lia
     subst rh;by_cases iP:i=lo+n
     ·subst iP;exact sL _
     ·rw[pg i hl (by lia)];exact EB d5
  ·rw[if_neg hgt];have gb':n=1:=by lia
   subst gb';refine gj C hk hP hn (by lia) ?_ h;intro i j hl kQ hj;by_cases iP:i=j
   ·subst iP;exact sL _
   ·have A7:i=lo:=by lia
    have Sr:j=lo+1:=by lia
    subst A7;subst Sr;exact EB d5
end
def xx(left:Bool)(key:bX)(arr:Array bX)(base i:Nat):StateT dz Sem (Option Bool):=do
 let x ← elem' arr (base+i)
 if left then lt' x key else return (<- lt' key x).map (!·)
def jJ:Bool->bX->Array bX->Nat->Nat->Nat->StateT dz Sem (Option Nat):=sortPriv% PySem.Builtin.gallop
section
variable {prog:d4}{w:eB}{A:fm}{E:ae->ay->Prop}{s:ay}{κ:qa}{r:ae->Int}{P:ae->Prop}
def gV(r:ae->Int)(left:Bool)(key:bX)(arr:Array bX)(base i:Nat):Bool :=
 if left then decide (R r arr (base+i)<r key.1) else !decide (r key.1<R r arr (base+i))
theorem dF{st:dz}{left:Bool}{key:bX}{arr:Array bX}{base i:Nat}{Q:Option Bool->dz->Prop}(C:ny prog w A s κ r P)(hk:fq st=κ)(hP:AllP P arr)(hy:P key.1)(hi:base+i<arr.size)(h:Q (some (gV r left key arr base i)) st):wpS (aE prog w) A E s (xx left key arr base i) Q st:=by
 unfold xx;refine ck (aH hi λp ep=>?_);have e1:R r arr (base+i)=r p.1:=by unfold R;rw[ep]
 unfold gV at h;rw[e1] at h
 cases left with
 |true =>simp only[if_true] at h ⊢;exact pW C hk (hP.at ep) hy h
 |false =>simp only[js,if_false] at h ⊢;exact ck (pW C hk hy (hP.at ep) (dk h))
theorem yU(hu:Up r arr base (base+n))(kQ:i<=j)(hj:j<n)(h:gV r left key arr base j=true):gV r left key arr base i=true:=by
 have q:=hu (base+i) (base+j) (by lia) (by lia) (by lia);unfold gV at h ⊢
 cases left with
 |true=>simp only[if_true,decide_eq_true_eq] at h ⊢;lia
 |false=>simp only[js,if_false,Bool.not_eq_true',decide_eq_false_iff_not] at h ⊢;lia
theorem cJ{st:dz}{left:Bool}{key:bX}{arr:Array bX}{base n hint:Nat}{Q:Option Nat->dz->Prop}(C:ny prog w A s κ r P)(hk:fq st=κ)(hP:AllP P arr)(hy:P key.1)(hn:base+n<=arr.size)(hh:hint<n)(hu:Up r arr base (base+n))(h:∀ k,k<=n->(∀ i,i<k->gV r left key arr base i=true)->(∀ i,k<=i->i<n->gV r left key arr base i=false)->Q (some k) st):wpS (aE prog w) A E s (jJ left key arr base n hint) Q st:=by
 have mono:∀ {i j},i<=j->j<n->gV r left key arr base j=true->gV r left key arr base i=true:=λa b c=>yU hu a b c;have Ss:∀ {i j},i<=j->j<n->gV r left key arr base i=false->gV r left key arr base j=false:=λ{i j} a b c=>by
  cases q:gV r left key arr base j with
  |false=>rfl
  |true=>rw[mono a b q] at c;cases c
 refine ck (dF C hk hP hy (by lia) ?_);dsimp only
 cases q0:gV r left key arr base hint with
 |true =>
  simp only[if_true];refine ck (tN (qS (I:=λx c av=>av=st/\∃ lst gv,c=(none,lst,gv)/\lst<gv/\lst<n-hint/\x+1<=gv/\gV r left key arr base (hint+lst)=true) (Q:=λc av=>av=st/\∃ lst gv,c=(none,lst,gv)/\lst<gv/\lst<n-hint/\gV r left key arr base (hint+lst)=true/\(n-hint<=gv\/gV r left key arr base (hint+gv)=false)) ?step ?fin ?init) ?post)
  case init=>exact⟨rfl,0,1,rfl,by exact xC _,by lia,by exact xC _,q0⟩
  case fin =>
   rintro c av ⟨rfl,lst,gv,rfl,h1,h2,h3,h4⟩;exact⟨rfl,lst,gv,rfl,h1,h2,h4,.inl (by lia)⟩
  case step =>
   rintro x c av _ hx ⟨rfl,lst,gv,rfl,h1,h2,h3,h4⟩;dsimp only;by_cases rg:gv >= n-hint
   ·rw[if_pos rg];exact dk ⟨rfl,lst,gv,rfl,h1,h2,h4,.inl rg⟩
   ·rw[if_neg rg];refine ck (dF C hk hP hy (by lia) ?_)
    cases q:gV r left key arr base (hint+gv) with
    |true =>simp only[Rr,js,if_false];exact dk ⟨rfl,_,_,rfl,by lia,by exact Rn ‹_›,by lia,q⟩
    |false =>simp only[Bool.not_false,if_true];exact dk ⟨rfl,lst,gv,rfl,h1,h2,h4,.inr q⟩
  case post =>
   rintro c av ⟨rfl,lst,gv,rfl,h1,h2,h4,h5⟩;dsimp only;generalize av=st at *
   have hl:∀ i,i<hint+lst+1->gV r left key arr base i=true:=λi hi=>mono (j:=hint+lst) (by lia) (by lia) h4;have CL:∀ i,hint+min gv (n-hint)<=i->i<n->gV r left key arr base i=false:=λi hi aS=>by
    rcases h5 with h5|h5
    ·lia
    ·by_cases z:n-hint<=gv
     ·lia
     ·exact Ss (i:=hint+gv) (by lia) aS h5
   have Vk:hint+lst+1<=hint+min gv (n-hint):=by lia
   have Vl:hint+min gv (n-hint)<=n:=by lia
   generalize hint+lst+1=lo at *
   generalize hint+min gv (n-hint)=hi at *
   refine ck (tN (qS (I:=λx c av=>av=st/\∃ l u,c=(none,l,u)/\l<=u/\u<=n/\u-l<=n-x/\(∀ i,i<l->gV r left key arr base i=true)/\(∀ i,u<=i->i<n->gV r left key arr base i=false)) (Q:=λc av=>av=st/\∃ l,c=(none,l,l)/\l<=n/\(∀ i,i<l->gV r left key arr base i=true)/\(∀ i,l<=i->i<n->gV r left key arr base i=false)) ?gc' ?gd' ?ge') ?postA)
   case ge'=>exact⟨rfl,lo,hi,rfl,Vk,Vl,by lia,hl,CL⟩
   case gd' =>
    rintro c av ⟨rfl,l,u,rfl,h1,h2,h3,h4,h5⟩;have:l=u:=by lia
    subst this;exact⟨rfl,l,rfl,h2,h4,h5⟩
   case gc' =>
    rintro x c av _ hx ⟨rfl,l,u,rfl,h1,h2,h3,h4,h5⟩;dsimp only;by_cases rg:l >= u
    ·rw[if_pos rg];have:l=u:=by exact Nat.le_antisymm ‹_› ‹_›
     subst this;exact dk ⟨rfl,l,rfl,h2,h4,h5⟩
    ·rw[if_neg rg];refine ck (dF C hk hP hy (by lia) ?_)
     cases q:gV r left key arr base (l+(u-l) / 2) with
     |true =>simp only[if_true];exact dk ⟨rfl,_,_,rfl,by lia,by lia,by lia,λi hi=>mono (j:=l+(u-l) / 2) (by lia) (by lia) q,h5⟩
     |false =>simp only[js,if_false];exact dk ⟨rfl,_,_,rfl,by exact IL _ _,by lia,by lia,h4,λi hi aS=>Ss (i:=l+(u-l) / 2) (by lia) aS q⟩
   case postA =>
    rintro c av ⟨rfl,l,rfl,h2,h4,h5⟩;exact dk (h l h2 h4 h5)
 |false =>
  simp only[js,if_false];refine ck (tN (qS (I:=λx c av=>av=st/\∃ lst gv,c=(none,lst,gv)/\lst<gv/\lst<hint+1/\x+1<=gv/\gV r left key arr base (hint-lst)=false) (Q:=λc av=>av=st/\∃ lst gv,c=(none,lst,gv)/\lst<gv/\lst<hint+1/\gV r left key arr base (hint-lst)=false/\(hint+1<=gv\/gV r left key arr base (hint-gv)=true)) ?gf' ?fin2 ?gg') ?gh')
  case gg'=>exact⟨rfl,0,1,rfl,by exact xC _,by exact xC _,by exact xC _,q0⟩
  case fin2 =>
   rintro c av ⟨rfl,lst,gv,rfl,h1,h2,h3,h4⟩;exact⟨rfl,lst,gv,rfl,h1,h2,h4,.inl (by walk_at "s2")⟩
  case gf' =>
   rintro x c av _ hx ⟨rfl,lst,gv,rfl,h1,h2,h3,h4⟩;dsimp only;by_cases rg:gv >= hint+1
   ·rw[if_pos rg];exact dk ⟨rfl,lst,gv,rfl,h1,h2,h4,.inl rg⟩
   ·rw[if_neg rg];refine ck (dF C hk hP hy (by lia) ?_)
    cases q:gV r left key arr base (hint-gv) with
    |true =>simp only[if_true];exact dk ⟨rfl,lst,gv,rfl,h1,h2,h4,.inr q⟩
    |false =>simp only[js,if_false];exact dk ⟨rfl,_,_,rfl,by lia,by exact Rn ‹_›,by lia,q⟩
  case gh' =>
   rintro c av ⟨rfl,lst,gv,rfl,h1,h2,h4,h5⟩;dsimp only;generalize av=st at *
   have hl:∀ i,i<hint+1-min gv (hint+1)->gV r left key arr base i=true:=λi hi=>by
    rcases h5 with h5|h5
    ·lia
    ·by_cases z:hint+1<=gv
     ·lia
     ·exact mono (j:=hint-gv) (by lia) (by lia) h5
   have CL:∀ i,hint-lst<=i->i<n->gV r left key arr base i=false:=λi hi aS=>Ss (i:=hint-lst) (by lia) aS h4;have Vk:hint+1-min gv (hint+1)<=hint-lst:=by lia
   have Vl:hint-lst<=n:=by lia
   generalize hint+1-min gv (hint+1)=lo at *
   generalize hint-lst=hi at *
   refine ck (tN (qS (I:=λx c av=>av=st/\∃ l u,c=(none,l,u)/\l<=u/\u<=n/\u-l<=n-x/\(∀ i,i<l->gV r left key arr base i=true)/\(∀ i,u<=i->i<n->gV r left key arr base i=false)) (Q:=λc av=>av=st/\∃ l,c=(none,l,l)/\l<=n/\(∀ i,i<l->gV r left key arr base i=true)/\(∀ i,l<=i->i<n->gV r left key arr base i=false)) ?gi' ?gj' ?gk') ?gl')
   case gk'=>exact⟨rfl,lo,hi,rfl,Vk,Vl,by lia,hl,CL⟩
   case gj' =>
    rintro c av ⟨rfl,l,u,rfl,h1,h2,h3,h4,h5⟩;have:l=u:=by lia
    subst this;exact⟨rfl,l,rfl,h2,h4,h5⟩
   case gi' =>
    rintro x c av _ hx ⟨rfl,l,u,rfl,h1,h2,h3,h4,h5⟩;dsimp only;by_cases rg:l >= u
    ·rw[if_pos rg];have:l=u:=by exact Nat.le_antisymm ‹_› ‹_›
     subst this;exact dk ⟨rfl,l,rfl,h2,h4,h5⟩
    ·rw[if_neg rg];refine ck (dF C hk hP hy (by lia) ?_)
     cases q:gV r left key arr base (l+(u-l) / 2) with
     |true =>simp only[if_true];exact dk ⟨rfl,_,_,rfl,by lia,by lia,by lia,λi hi=>mono (j:=l+(u-l) / 2) (by lia) (by lia) q,h5⟩
     |false =>simp only[js,if_false];exact dk ⟨rfl,_,_,rfl,by exact IL _ _,by lia,by lia,h4,λi hi aS=>Ss (i:=l+(u-l) / 2) (by lia) aS q⟩
   case gl' =>
    rintro c av ⟨rfl,l,rfl,h2,h4,h5⟩;exact dk (h l h2 h4 h5)
end
abbrev Le(r:ae->Int)(x y:bX):Prop:=r x.1<=r y.1
theorem px(e:xs[i]? = some p):R r xs i=r p.1:=by unfold R;rw[e]
theorem Hh(h:i<xs.size):R r xs i=r xs[i].1:=px (getElem?_pos xs i h)
structure MI(r:ae->Int)(a b out:Array bX)(ia ib:Nat):Prop where
 ha:ia<=a.size
 hb:ib<=b.size
 perm:out.toList.Perm (a.toList.take ia++b.toList.take ib)
 up:out.toList.Pairwise (Le r)
 la:∀ x∈out.toList,∀ i,ia<=i->i<a.size->r x.1<=R r a i
 lb:∀ x∈out.toList,∀ j,ib<=j->j<b.size->r x.1<=R r b j
section
variable {r:ae->Int}{a b out:Array bX}{ia ib:Nat}
theorem mj{α:Type}{l:List α}{i:Nat}{x:α}(h:l[i]? = some x):l.take (i+1)=l.take i++[x]:=by rw[D7,h];rfl
theorem MI.qb(M:MI r a b out ia ib)(hA:Up r a 0 a.size)(hB:Up r b 0 b.size)(e:b[ib]? = some y)(hl:ia<a.size->R r b ib<=R r a ia):MI r a b (out.push y) ia (ib+1):=by
 have hib:ib<b.size:=(MY.mp e).1;have ey:=px (r:=r) e;refine⟨M.ha,hib,?_,?_,?_,?_⟩
 ·rw[qf,mj (x:=y) (by simpa using e),<- AV];exact M.perm.append_right _
 ·rw[qf,OU];refine⟨M.up,by simp,λx hx z hz=>?_⟩;have:z=y:=by simpa using hz
  subst this;show r x.1<=r z.1;rw[<- ey];exact M.lb x hx ib (cx _) hib
 ·intro x hx i hi NS;rw[qf] at hx;rcases eR.mp hx with hx|hx
  ·exact M.la x hx i hi NS
  ·have:x=y:=by simpa using hx
   subst this;rw[<- ey];exact zC (hl (by lia)) (hA ia i (fz _) hi NS)
 ·intro x hx j hj PZ;rw[qf] at hx;rcases eR.mp hx with hx|hx
  ·exact M.lb x hx j (by lia) PZ
  ·have:x=y:=by simpa using hx
   subst this;rw[<- ey];exact hB ib j (fz _) (by lia) PZ
theorem MI.p6(M:MI r a b out ia ib)(hA:Up r a 0 a.size)(hB:Up r b 0 b.size)(e:a[ia]? = some y)(hl:ib<b.size->R r a ia<=R r b ib):MI r a b (out.push y) (ia+1) ib:=by
 have NS:ia<a.size:=(MY.mp e).1;have ey:=px (r:=r) e;refine⟨NS,M.hb,?_,?_,?_,?_⟩
 ·rw[qf,mj (x:=y) (by simpa using e),AV];refine(M.perm.append_right [y]).trans ?_;rw[AV];exact List.Perm.append_left _ TY
 ·rw[qf,OU];refine⟨M.up,by simp,λx hx z hz=>?_⟩;have:z=y:=by simpa using hz
  subst this;show r x.1<=r z.1;rw[<- ey];exact M.la x hx ia (cx _) NS
 ·intro x hx i hi kP;rw[qf] at hx;rcases eR.mp hx with hx|hx
  ·exact M.la x hx i (by lia) kP
  ·have:x=y:=by simpa using hx
   subst this;rw[<- ey];exact hA ia i (fz _) (by lia) kP
 ·intro x hx j hj PZ;rw[qf] at hx;rcases eR.mp hx with hx|hx
  ·exact M.lb x hx j hj PZ
  ·have:x=y:=by simpa using hx
   subst this;rw[<- ey];exact zC (hl (by lia)) (hB ib j (fz _) hj PZ)
theorem eF{xs:Array bX}{i k:Nat}(h:i+k<xs.size):xs.extract i (i+(k+1))=(xs.extract i (i+k)).push xs[i+k]:=by apply Rw.mp;rw[qf];simp only[Uc,TN];rw[show i+(k+1)-i=k+1 by exact Nat.add_sub_cancel_left ..,show i+k-i=k by exact Nat.add_sub_cancel_left ..,D7];congr 1;rw[List.getElem?_drop];simp[h]
theorem MI.ER(hA:Up r a 0 a.size)(hB:Up r b 0 b.size):∀ (k:Nat) {out:Array bX} {ia:Nat},MI r a b out ia ib->ia+k<=a.size->(ib<b.size->∀ i,i<k->R r a (ia+i)<=R r b ib)->MI r a b (out++a.extract ia (ia+k)) (ia+k) ib
 |0,out,ia,M,h1,h2=>by have:a.extract ia (ia+0) = #[]:=Ru (by simp only[IZ];lia);rw[this];simpa using M
 |k+1,out,ia,M,h1,h2=>by have q:=MI.ER hA hB k M (by exact oI ‹_›) λhb i hi=>h2 hb i (by exact vF ‹_›);have e:a[ia+k]? = some a[ia+k]:=getElem?_pos a (ia+k) (by assumption);have z:=q.p6 hA hB e λhb=>h2 hb k (by exact cx _);rw[eF (by assumption),Array.append_push];exact z
theorem MI.EV(hA:Up r a 0 a.size)(hB:Up r b 0 b.size):∀ (k:Nat) {out:Array bX} {ib:Nat},MI r a b out ia ib->ib+k<=b.size->(ia<a.size->∀ i,i<k->R r b (ib+i)<=R r a ia)->MI r a b (out++b.extract ib (ib+k)) ia (ib+k)
 |0,out,ib,M,h1,h2=>by have:b.extract ib (ib+0) = #[]:=Ru (by simp only[IZ];lia);rw[this];simpa using M
 |k+1,out,ib,M,h1,h2=>by have q:=MI.EV hA hB k M (by exact oI ‹_›) λha i hi=>h2 ha i (by exact vF ‹_›);have e:b[ib+k]? = some b[ib+k]:=getElem?_pos b (ib+k) (by assumption);have z:=q.qb hA hB e λha=>h2 ha k (by exact cx _);rw[eF (by assumption),Array.append_push];exact z
def bU(r:ae->Int)(a b out:Array bX):Prop:=out.toList.Perm (a.toList++b.toList)/\out.toList.Pairwise (Le r)
theorem MI.whole(M:MI r a b out a.size b.size):bU r a b out:=by refine⟨?_,M.up⟩;have h:=M.perm;rw[Q8 (by simp),Q8 (by simp)] at h;exact h
theorem MI.Ja(M:MI r a b out ia b.size)(hA:Up r a 0 a.size)(hB:Up r b 0 b.size):bU r a b (out++a.extract ia a.size++b.extract b.size b.size):=by
 have e:b.extract b.size b.size = #[]:=by simp
 rw[e,Ud];have ha:=M.ha;have q:=MI.ER hA hB (a.size-ia) M (by lia) λhb=>absurd hb (vS _);rw[show ia+(a.size-ia)=a.size by exact IQ ‹_›] at q;exact q.whole
theorem MI.Jp(M:MI r a b out a.size ib)(hA:Up r a 0 a.size)(hB:Up r b 0 b.size):bU r a b (out++a.extract a.size a.size++b.extract ib b.size):=by
 have e:a.extract a.size a.size = #[]:=by simp
 rw[e,Ud];have hb:=M.hb;have q:=MI.EV hA hB (b.size-ib) M (by lia) λha=>absurd ha (vS _);rw[show ib+(b.size-ib)=b.size by exact IQ ‹_›] at q;exact q.whole
theorem MI.NV(M:MI r a b out ia ib)(hA:Up r a 0 a.size)(hB:Up r b 0 b.size)(e:ib=b.size):bU r a b (out++a.extract ia a.size++b.extract ib b.size):=by subst e;exact M.Ja hA hB
theorem MI.NW(M:MI r a b out ia ib)(hA:Up r a 0 a.size)(hB:Up r b 0 b.size)(e:ia=a.size):bU r a b (out++a.extract ia a.size++b.extract ib b.size):=by subst e;exact M.Jp hA hB
theorem MI.Jy(M:MI r a b out ia ib)(hA:Up r a 0 a.size)(hB:Up r b 0 b.size)(NS:ia+1=a.size)(hg:∀ j,j<b.size->R r b j<=R r a ia):bU r a b (out++b.extract ib b.size++a.extract ia a.size):=by have hb:=M.hb;have q:=MI.EV hA hB (b.size-ib) M (by lia) λha i hi=>hg _ (by lia);rw[show ib+(b.size-ib)=b.size by exact IQ ‹_›] at q;have z:=MI.ER hA hB (a.size-ia) q (by lia) λhb=>absurd hb (vS _);rw[show ia+(a.size-ia)=a.size by lia] at z;exact z.whole
theorem MI.start(hA:Up r a 0 a.size)(hB:Up r b 0 b.size):MI r a b #[] 0 0:=⟨fz _,fz _,by simp,by simp,λx hx=>by simp at hx,λx hx=>by simp at hx⟩
end
def bA:Nat->StateT dz Sem Unit:=sortPriv% PySem.Builtin.setMinGallop
def uq:Array bX->Array bX->StateT dz Sem (Array bX):=sortPriv% PySem.Builtin.mergeLo
def tL:Array bX->Array bX->StateT dz Sem (Array bX):=sortPriv% PySem.Builtin.mergeHi
theorem iM(g:Nat):bA g=modify λs=>SortSt.mk' (fq s) (bq s) (kL s) g (qc s):=rfl
def Mg(st av:dz):Prop:=∃ g,av=SortSt.mk' (fq st) (bq st) (kL st) g (qc st)
theorem Mg.refl(st:dz):Mg st st:=⟨gallopOf st,rfl⟩
theorem Mg.kind{st av:dz}(h:Mg st av):fq av=fq st:=by obtain⟨g,rfl⟩:=h;rfl
theorem Mg.set{st av:dz}(h:Mg st av)(g:Nat):Mg st (SortSt.mk' (fq av) (bq av) (kL av) g (qc av)):=by obtain⟨g',rfl⟩:=h;exact⟨g,rfl⟩
section
variable {prog:d4}{w:eB}{A:fm}{E:ae->ay->Prop}{s:ay}{r:ae->Int}
theorem gJ{st:dz}{g:Nat}{Q:Unit->dz->Prop}(h:Q () (SortSt.mk' (fq st) (bq st) (kL st) g (qc st))):wpS (aE prog w) A E s (bA g) Q st:=by rw[iM];exact Ee h
theorem Ac(h:gV r false key arr base i=true):R r arr (base+i)<=r key.1:=by unfold gV at h;simp only[js,if_false,Bool.not_eq_true',decide_eq_false_iff_not] at h;lia
theorem wj(h:gV r false key arr base i=false):r key.1<R r arr (base+i):=by unfold gV at h;simp only[js,if_false,Bool.not_eq_false',decide_eq_true_eq] at h;exact h
theorem Ep(h:gV r true key arr base i=true):R r arr (base+i)<r key.1:=by unfold gV at h;simp only[if_true,decide_eq_true_eq] at h;exact h
theorem tQ(h:gV r true key arr base i=false):r key.1<=R r arr (base+i):=by unfold gV at h;simp only[if_true,decide_eq_false_iff_not] at h;lia
end
theorem Mg.trans{a b c:dz}(h:Mg a b)(g:Mg b c):Mg a c:=by obtain⟨x,rfl⟩:=h;obtain⟨y,rfl⟩:=g;exact⟨y,rfl⟩
theorem D_{K G:Prop}(pk:K)(h:K->G):G:=h pk
abbrev SM:=StateT dz Sem
abbrev L1:=Option (Array bX) × Array bX × Nat × Nat × Nat
abbrev KW:=Option (Array bX) × Array bX × Nat × Nat × Nat × Nat
abbrev L3:=Option (Array bX) × Array bX × Nat × Nat × Nat × Nat × Nat
def GP(a b out:Array bX)(ia ib:Nat):Array bX:=out++a.extract ia a.size++b.extract ib b.size
def P0(a b out:Array bX)(ia ib:Nat):Array bX:=out++b.extract ib b.size++a.extract ia a.size
def Vm(a b:Array bX)(mg ac bc ia ib:Nat)(out:Array bX):SM (ForInStep L3):=n9 a ia >>= λp =>
 if (ia+1+1 == a.size)=true then pure (.done (some (P0 a b (out.push p) (ia+1) ib),out.push p,ia+1,ib,mg,ac,bc))
 else if (decide (ac<7) && decide (bc<7))=true then pure (.done (none,out.push p,ia+1,ib,mg,ac,bc)) else pure (.yield (none,out.push p,ia+1,ib,mg,ac,bc))
def K0(a b:Array bX)(mg ac bc ia ib:Nat)(out:Array bX):SM (ForInStep L3):=n9 a ia >>= λp=>jJ true p b ib (b.size-ib) 0 >>= λx=>match x with
 |some k=>if k>0 then
   if (ib+k == b.size)=true then pure (.done (some (GP a b (out++b.extract ib (ib+k)) ia (ib+k)),out++b.extract ib (ib+k),ia,ib+k,mg,ac,k))
   else Vm a b mg ac k ia (ib+k) (out++b.extract ib (ib+k))
  else Vm a b mg ac k ia ib out
 |_=>pure (.done (some (GP a b out ia ib),out,ia,ib,mg,ac,bc))
def lo1(a b:Array bX)(mg ac bc ia ib:Nat)(out:Array bX):SM (ForInStep L3):=n9 b ib >>= λp =>
 if (ib+1 == b.size)=true then pure (.done (some (GP a b (out.push p) ia (ib+1)),out.push p,ia,ib+1,mg,ac,bc)) else K0 a b mg ac bc ia (ib+1) (out.push p)
def Vn(a b:Array bX)(mg ac bc ia ib:Nat)(out:Array bX):SM (ForInStep L3):=bA mg >>= λ_=>n9 b ib >>= λp=>jJ false p a ia (a.size-ia) 0 >>= λx=>match x with
 |some k=>if k>0 then
   if (ia+k+1 == a.size)=true then pure (.done (some (P0 a b (out++a.extract ia (ia+k)) (ia+k) ib),out++a.extract ia (ia+k),ia+k,ib,mg,k,bc))
   else if (ia+k == a.size)=true then pure (.done (some (GP a b (out++a.extract ia (ia+k)) (ia+k) ib),out++a.extract ia (ia+k),ia+k,ib,mg,k,bc))
   else lo1 a b mg k bc (ia+k) ib (out++a.extract ia (ia+k))
  else lo1 a b mg k bc ia ib out
 |_=>pure (.done (some (GP a b out ia ib),out,ia,ib,mg,ac,bc))
def loG(a b:Array bX)(_:Nat)(s:L3):SM (ForInStep L3) :=
 if s.2.2.2.2.1>1 then Vn a b (s.2.2.2.2.1-1) s.2.2.2.2.2.1 s.2.2.2.2.2.2 s.2.2.1 s.2.2.2.1 s.2.1 else Vn a b s.2.2.2.2.1 s.2.2.2.2.2.1 s.2.2.2.2.2.2 s.2.2.1 s.2.2.2.1 s.2.1
def loA(a b:Array bX)(mg bc ia ib:Nat)(out:Array bX):SM (ForInStep KW):=n9 b ib >>= λp =>
 if (ib+1 == b.size)=true then pure (.done (some (GP a b (out.push p) ia (ib+1)),out.push p,ia,ib+1,0,bc+1))
 else if bc+1 >= mg then pure (.done (none,out.push p,ia,ib+1,0,bc+1)) else pure (.yield (none,out.push p,ia,ib+1,0,bc+1))
def loB(a b:Array bX)(mg ac ia ib:Nat)(out:Array bX):SM (ForInStep KW):=n9 a ia >>= λp =>
 if (ia+1+1 == a.size)=true then pure (.done (some (P0 a b (out.push p) (ia+1) ib),out.push p,ia+1,ib,ac+1,0))
 else if ac+1 >= mg then pure (.done (none,out.push p,ia+1,ib,ac+1,0)) else pure (.yield (none,out.push p,ia+1,ib,ac+1,0))
def loI(a b:Array bX)(mg:Nat)(_:Nat)(s:KW):SM (ForInStep KW):=n9 b s.2.2.2.1 >>= λpb=>n9 a s.2.2.1 >>= λpa=>lt' pb pa >>= λx=>match x with
 |some w=>if w=true then loA a b mg s.2.2.2.2.2 s.2.2.1 s.2.2.2.1 s.2.1 else loB a b mg s.2.2.2.2.1 s.2.2.1 s.2.2.2.1 s.2.1
 |_=>pure (.done (some (GP a b s.2.1 s.2.2.1 s.2.2.2.1),s.2.1,s.2.2.1,s.2.2.2.1,s.2.2.2.2.1,s.2.2.2.2.2))
def loP (a b:Array bX) (mg:Nat) (t:KW):SM (ForInStep L1):=(liftM (rule "list.sort.gallop"):SM Unit) >>= λ_ =>
 forIn [:a.size+b.size] ((none,t.2.1,t.2.2.1,t.2.2.2.1,mg+1,t.2.2.2.2.1,t.2.2.2.2.2):L3) (loG a b) >>= λu=>match u.1 with
 |some r=>pure (.done (some r,u.2.1,u.2.2.1,u.2.2.2.1,u.2.2.2.2.1))
 |none=>bA (u.2.2.2.2.1+1) >>= λ_=>pure (.yield (none,u.2.1,u.2.2.1,u.2.2.2.1,u.2.2.2.2.1+1))
def loO(a b:Array bX)(_:Nat)(s:L1):SM (ForInStep L1):=forIn [:a.size+b.size] ((none,s.2.1,s.2.2.1,s.2.2.2.1,0,0):KW) (loI a b s.2.2.2.2) >>= λt=>match t.1 with
 |some r=>pure (.done (some r,t.2.1,t.2.2.1,t.2.2.2.1,s.2.2.2.2))
 |none=>loP a b s.2.2.2.2 t
def loM (a b:Array bX):SM (Array bX):=(liftM (rule "list.sort.merge-lo"):SM Unit) >>= λ_=>n9 b 0 >>= λy =>
 if (1 == b.size)=true then pure (GP a b #[y] 0 1)
 else if (0+1 == a.size)=true then pure (P0 a b #[y] 0 1)
 else get >>= λst=>forIn [:a.size+b.size] ((none,#[y],0,1,gallopOf st):L1) (loO a b) >>= λt=>match t.1 with
 |some r=>pure r
 |none=>(liftM (unsupported (α:=Array bX) "internal:list.sort.merge-bound"):SM (Array bX))
set_option smartUnfolding false in
theorem uN:uq=loM:=rfl
section
variable {prog:d4}{w:eB}{A:fm}{E:ae->ay->Prop}{s:ay}{κ:qa}{r:ae->Int}{P:ae->Prop}{a b out:Array bX}{mg ac bc ia ib N:Nat}{st:dz}
structure MC(prog:d4)(w:eB)(A:fm)(s:ay)(κ:qa)(r:ae->Int)(P:ae->Prop)(a b:Array bX):Prop where
 C:ny prog w A s κ r P
 pa:AllP P a
 pb:AllP P b
 hA:Up r a 0 a.size
 hB:Up r b 0 b.size
 hl:∀ i,i<a.size->R r b 0<=R r a i
 hg:∀ j,j<b.size->R r b j<=R r a (a.size-1)
def HS{β:Type}(r:ae->Int)(a b:Array bX)(c:Option (Array bX) × β):Prop:=∃ out rest,c=(some out,rest)/\bU r a b out
def LY(r:ae->Int)(a b:Array bX)(N:Nat)(c:L3):Prop:=∃ out ia ib mg ac bc,c=(none,out,ia,ib,mg,ac,bc)/\MI r a b out ia ib/\ia+1<a.size/\ib<b.size/\N<=ia+ib
def LI(r:ae->Int)(a b:Array bX)(N:Nat)(c:KW):Prop:=∃ out ia ib ac bc,c=(none,out,ia,ib,ac,bc)/\MI r a b out ia ib/\ia+1<a.size/\ib<b.size/\N<=ia+ib
theorem MC.last(c:MC prog w A s κ r P a b)(M:MI r a b out ia ib)(z:ia+1=a.size):bU r a b (P0 a b out ia ib):=M.Jy c.hA c.hB z λj hj=>by have:=c.hg j hj;rwa[show a.size-1=ia by lia] at this
theorem Bh(c:MC prog w A s κ r P a b)(M:MI r a b out ia ib)(h1:ia+1<a.size)(lt:R r a ia<=R r b ib)(h2:ib<b.size)(hN:N<=ia+ib)(D:∀ c,HS r a b c->Q (.done c) st)(Y:∀ c,LY r a b N c->Q (.done c) st/\Q (.yield c) st):wpS (aE prog w) A E s (Vm a b mg ac bc ia ib out) Q st:=by
 refine ck (aH (by lia) λp e=>?_);have M2:=M.p6 c.hA c.hB e λ_=>lt;by_cases z:ia+1+1=a.size
 ·walk_at"h";exact dk (D _ ⟨_,_,rfl,c.last M2 z⟩)
 ·walk_at"i";have y:=Y _ ⟨_,_,_,mg,ac,bc,rfl,M2,by lia,h2,by lia⟩;split
  ·exact dk y.1
  ·exact dk y.2
theorem Gv(c:MC prog w A s κ r P a b)(hk:fq st=κ)(M:MI r a b out ia ib)(h1:ia+1<a.size)(h2:ib<b.size)(hN:N<=ia+ib)(D:∀ c,HS r a b c->Q (.done c) st)(Y:∀ c,LY r a b N c->Q (.done c) st/\Q (.yield c) st):wpS (aE prog w) A E s (K0 a b mg ac bc ia ib out) Q st:=by
 refine ck (aH (by lia) λp e=>ck (cJ c.C hk c.pb (c.pa.at e) (by lia) (by lia) (λi j u v w=>c.hB i j (by lia) v (by lia)) λl NX AF N0=>?_));have ra:=px (r:=r) e;dsimp only;have lt:ib+l<b.size->R r a ia<=R r b (ib+l):=λz=>by have:=tQ (N0 l (cx _) (by lia));lia
 by_cases l0:l>0
 ·have M5:=MI.EV c.hA c.hB l M (by lia) λ_ i hi=>by have:=Ep (AF i hi);lia
  rw[if_pos l0];by_cases z:ib+l=b.size
  ·walk_at"h";exact dk (D _ ⟨_,_,rfl,M5.NV c.hA c.hB z⟩)
  ·walk_at"i";exact Bh c M5 h1 (lt (by lia)) (by lia) (by lia) D Y
 ·rw[if_neg l0];obtain rfl:l=0:=by lia
  exact Bh c M h1 (lt h2) h2 hN D Y
theorem Bw(c:MC prog w A s κ r P a b)(hk:fq st=κ)(M:MI r a b out ia ib)(h1:ia+1<a.size)(lt:R r b ib<=R r a ia)(h2:ib<b.size)(hN:N<=ia+ib)(D:∀ c,HS r a b c->Q (.done c) st)(Y:∀ c,LY r a b N c->Q (.done c) st/\Q (.yield c) st):wpS (aE prog w) A E s (lo1 a b mg ac bc ia ib out) Q st:=by
 refine ck (aH h2 λp e=>?_);have M4:=M.qb c.hA c.hB e λ_=>lt;by_cases z:ib+1=b.size
 ·walk_at"h";exact dk (D _ ⟨_,_,rfl,M4.NV c.hA c.hB z⟩)
 ·walk_at"i";exact Gv c hk M4 h1 (by lia) (by lia) D Y
theorem Gn(c:MC prog w A s κ r P a b)(hk:fq st=κ)(M:MI r a b out ia ib)(h1:ia+1<a.size)(h2:ib<b.size)(hN:N<=ia+ib)(D:∀ av,Mg st av->∀ c,HS r a b c->Q (.done c) av)(Y:∀ av,Mg st av->∀ c,LY r a b N c->Q (.done c) av/\Q (.yield c) av):wpS (aE prog w) A E s (Vn a b mg ac bc ia ib out) Q st:=by
 have g:=(Mg.refl st).set mg;refine ck (gJ ?_);refine ck (aH h2 λp e=>ck (cJ c.C (g.kind.trans hk) c.pa (c.pb.at e) (by lia) (by lia) (λi j u v w=>c.hA i j (by lia) v (by lia)) λk hk1 Bi K2=>?_));have rb:=px (r:=r) e;dsimp only;have lt:ia+k<a.size->R r b ib<=R r a (ia+k):=λz=>by have:=wj (K2 k (cx _) (by lia));lia
 by_cases k0:k>0
 ·have M3:=MI.ER c.hA c.hB k M (by lia) λ_ i hi=>by have:=Ac (Bi i hi);lia
  rw[if_pos k0];by_cases z:ia+k+1=a.size
  ·walk_at"h";exact dk (D _ g _ ⟨_,_,rfl,c.last M3 z⟩)
  ·walk_at"i";by_cases z2:ia+k=a.size
   ·rw[if_pos (by simpa using z2)];exact dk (D _ g _ ⟨_,_,rfl,M3.NW c.hA c.hB z2⟩)
   ·rw[if_neg (by simpa using z2)];exact Bw c (g.kind.trans hk) M3 (by lia) (lt (by lia)) h2 (by lia) (D _ g) (Y _ g)
 ·rw[if_neg k0];obtain rfl:k=0:=by lia
  exact Bw c (g.kind.trans hk) M h1 (lt (by lia)) h2 hN (D _ g) (Y _ g)
theorem F_(c:MC prog w A s κ r P a b)(M:MI r a b out ia ib)(h1:ia+1<a.size)(lt:R r b ib<=R r a ia)(h2:ib<b.size)(hN:N<=ia+ib+1)(D:∀ c,HS r a b c->Q (.done c) st)(Y:∀ c,LI r a b N c->Q (.done c) st/\Q (.yield c) st):wpS (aE prog w) A E s (loA a b mg bc ia ib out) Q st:=by
 refine ck (aH h2 λp e=>?_);have M2:=M.qb c.hA c.hB e λ_=>lt;by_cases z:ib+1=b.size
 ·walk_at"h";exact dk (D _ ⟨_,_,rfl,M2.NV c.hA c.hB z⟩)
 ·walk_at"i";have y:=Y _ ⟨_,_,_,0,bc+1,rfl,M2,h1,by lia,hN⟩;split
  ·exact dk y.1
  ·exact dk y.2
theorem G7(c:MC prog w A s κ r P a b)(M:MI r a b out ia ib)(h1:ia+1<a.size)(lt:R r a ia<=R r b ib)(h2:ib<b.size)(hN:N<=ia+ib+1)(D:∀ c,HS r a b c->Q (.done c) st)(Y:∀ c,LI r a b N c->Q (.done c) st/\Q (.yield c) st):wpS (aE prog w) A E s (loB a b mg ac ia ib out) Q st:=by
 refine ck (aH (by lia) λp e=>?_);have M2:=M.p6 c.hA c.hB e λ_=>lt;by_cases z:ia+1+1=a.size
 ·walk_at"h";exact dk (D _ ⟨_,_,rfl,c.last M2 z⟩)
 ·walk_at"i";have y:=Y _ ⟨_,_,_,ac+1,0,rfl,M2,by lia,h2,by lia⟩;split
  ·exact dk y.1
  ·exact dk y.2
theorem GQ(c:MC prog w A s κ r P a b)(hk:fq st=κ)(M:MI r a b out ia ib)(h1:ia+1<a.size)(h2:ib<b.size)(hN:N<=ia+ib+1)(D:∀ c,HS r a b c->Q (.done c) st)(Y:∀ c,LI r a b N c->Q (.done c) st/\Q (.yield c) st):wpS (aE prog w) A E s (loI a b mg x (none,out,ia,ib,ac,bc)) Q st:=by
 refine ck (aH h2 λpb eb=>ck (aH (show ia<a.size by lia) λpa ea=>ck (pW c.C hk (c.pb.at eb) (c.pa.at ea) ?_)));have rb:R r b ib=r pb.1:=px eb;have ra:R r a ia=r pa.1:=px ea;dsimp only;by_cases hw:r pb.1<r pa.1
 ·rw[if_pos (decide_eq_true hw)];exact F_ c M h1 (by lia) h2 hN D Y
 ·rw[if_neg (by simpa using hw)];exact G7 c M h1 (by lia) h2 hN D Y
theorem Gf(c:MC prog w A s κ r P a b)(hk:fq st=κ)(M:MI r a b out ia ib)(h1:ia+1<a.size)(h2:ib<b.size)(hN:N<=ia+ib)(D:∀ av,Mg st av->∀ c,HS r a b c->Q (.done c) av)(Y:∀ av,Mg st av->∀ out ia ib mg,MI r a b out ia ib->ia+1<a.size->ib<b.size->N<=ia+ib->Q (.yield (none,out,ia,ib,mg)) av):wpS (aE prog w) A E s (loP a b mg (none,out,ia,ib,ac,bc)) Q st:=by
 walk_at"u";refine ck (tN (qS (I:=λ_ c av=>Mg st av/\LY r a b N c) (Q:=λc av=>Mg st av/\(HS r a b c\/LY r a b N c)) ?step ?fin ⟨.refl st,_,_,_,_,_,_,rfl,M,h1,h2,hN⟩) ?post);case fin =>
  rintro c av ⟨hm,q⟩;exact⟨hm,.inr q⟩
 case step =>
  rintro y c1 EW _ _ ⟨hm,out,ia,ib,mg,ac,bc,rfl,M,h1,h2,hN⟩;unfold loG;dsimp only;split<;>exact Gn c (hm.kind.trans hk) M h1 h2 hN (λav g c q=>⟨hm.trans g,.inl q⟩) λav g c q=>⟨⟨hm.trans g,.inr q⟩,hm.trans g,q⟩
 case post =>
  rintro c av ⟨hm,⟨o,rest,rfl,hM⟩|⟨out,ia,ib,mg,ac,bc,rfl,M,h1,h2,hN⟩⟩
  ·exact dk (D _ hm _ ⟨_,_,rfl,hM⟩)
  ·exact ck (gJ (dk (Y _ (hm.set _) _ _ _ _ M h1 h2 hN)))
theorem Hz(c:MC prog w A s κ r P a b)(hk:fq st=κ)(M:MI r a b out ia ib)(h1:ia+1<a.size)(h2:ib<b.size)(hN:N<=ia+ib)(D:∀ av,Mg st av->∀ c,HS r a b c->Q (.done c) av)(Y:∀ av,Mg st av->∀ out ia ib mg,MI r a b out ia ib->ia+1<a.size->ib<b.size->N+1<=ia+ib->Q (.yield (none,out,ia,ib,mg)) av):wpS (aE prog w) A E s (loO a b x (none,out,ia,ib,mg)) Q st:=by
 refine ck (tN (qS (I:=λy c av=>av=st/\LI r a b (N+y) c) (Q:=λc av=>av=st/\(HS r a b c\/LI r a b (N+1) c)) ?step ?fin ⟨rfl,_,_,_,_,_,rfl,M,h1,h2,hN⟩) ?post);case fin =>
  rintro c av ⟨rfl,o,ia',ib',ac,bc,rfl,M',q1,q2,q3⟩;exact⟨rfl,.inr ⟨_,_,_,_,_,rfl,M',q1,q2,by lia⟩⟩
 case step =>
  rintro y c1 EW _ hy ⟨rfl,o,ia',ib',ac,bc,rfl,M',q1,q2,q3⟩;exact GQ (N:=N+y+1) c hk M' q1 q2 (by lia) (λc q=>⟨rfl,.inl q⟩) λc q=>by obtain⟨o,ia,ib,ac,bc,rfl,M,h1,h2,h3⟩:=q;exact⟨⟨rfl,.inr ⟨_,_,_,_,_,rfl,M,h1,h2,by lia⟩⟩,rfl,_,_,_,_,_,rfl,M,h1,h2,by lia⟩
 case post =>
  rintro c1 av ⟨rfl,⟨o,rest,rfl,hM⟩|⟨o,ia,ib,ac,bc,rfl,M',q1,q2,q3⟩⟩
  ·exact dk (D _ (.refl _) _ ⟨_,_,rfl,hM⟩)
  ·exact Gf c hk M' q1 q2 q3 D Y
theorem qD{st:dz}{a b:Array bX}{Q:Array bX->dz->Prop}(C:ny prog w A s κ r P)(hk:fq st=κ)(Vo:AllP P a)(Vp:AllP P b)(hA:Up r a 0 a.size)(hB:Up r b 0 b.size)(na:1<=a.size)(nb:1<=b.size)(h0:R r b 0<=R r a 0) (hg:∀ j,j<b.size->R r b j<=R r a (a.size-1)) (h:∀ out av,bU r a b out->Mg st av->Q out av):wpS (aE prog w) A E s (uq a b) Q st:=by
 have c:MC prog w A s κ r P a b:=⟨C,Vo,Vp,hA,hB,λi hi=>zC h0 (hA 0 i (cx _) (fz _) hi),hg⟩
 rw[uN];walk_at"u";refine ck (aH nb λy0 e0=>?_);have M1:MI r a b #[y0] 0 1:=(MI.start hA hB).qb hA hB e0 λ_=>h0;by_cases c1:1=b.size
 ·rw[if_pos (by simpa using c1)];exact dk (h _ _ (M1.NV hA hB c1) (.refl st))
 ·rw[if_neg (by simpa using c1)];by_cases c2:0+1=a.size
  ·rw[if_pos (by simpa using c2)];exact dk (h _ _ (c.last M1 c2) (.refl st))
  ·rw[if_neg (by simpa using c2)];refine ck (wpS_get ?_);refine ck (tN (qS (I:=λx c av=>Mg st av/\∃ out ia ib mg,c=(none,out,ia,ib,mg)/\MI r a b out ia ib/\ia+1<a.size/\ib<b.size/\x+1<=ia+ib) (Q:=λc av=>Mg st av/\HS r a b c) ?step ?fin ⟨.refl st,_,_,_,_,rfl,M1,by lia,by lia,by exact xC _⟩) ?post)
   case fin =>
    rintro c av ⟨_,out,ia,ib,mg,rfl,M,h1,h2,h3⟩;lia
   case post =>
    rintro c av ⟨hm,out,rest,rfl,hM⟩;exact dk (h out av hM hm)
   case step =>
    rintro x c1 EW _ hx ⟨wo,out,ia,ib,mg,rfl,M,h1,h2,h3⟩;exact Hz (N:=x+1) c (wo.kind.trans hk) M h1 h2 h3 (λav g c q=>⟨wo.trans g,q⟩) λav g out ia ib mg M h1 h2 h3=>⟨wo.trans g,_,_,_,_,rfl,M,h1,h2,h3⟩
end
abbrev Ge(r:ae->Int)(x y:bX):Prop:=r y.1<=r x.1
structure MH(r:ae->Int)(a b out:Array bX)(na nb:Nat):Prop where
 ha:na<=a.size
 hb:nb<=b.size
 perm:out.toList.Perm (a.toList.drop na++b.toList.drop nb)
 down:out.toList.Pairwise (Ge r)
 ga:∀ x∈out.toList,∀ i,i<na->R r a i<=r x.1
 gb:∀ x∈out.toList,∀ j,j<nb->R r b j<=r x.1
section
variable {r:ae->Int}{a b out:Array bX}{na nb:Nat}
theorem ph{α:Type}{l:List α}{i:Nat}{x:α}(h0:0<i)(h:l[i-1]? = some x):l.drop (i-1)=x :: l.drop i:=by obtain⟨hi,e⟩:=jS.mp h;rw[xB hi,e,show i-1+1=i by exact Nat.sub_add_cancel ‹_›]
theorem MH.p6(M:MH r a b out na nb)(hA:Up r a 0 a.size)(hB:Up r b 0 b.size)(h0:0<na)(e:a[na-1]? = some y)(hl:0<nb->R r b (nb-1)<=R r a (na-1)):MH r a b (out.push y) (na-1) nb:=by
 have ey:=px (r:=r) e;have ha:=M.ha;have hb:=M.hb;refine⟨by lia,M.hb,?_,?_,?_,?_⟩
 ·rw[qf,ph (x:=y) h0 (by simpa using e)];refine(M.perm.append_right [y]).trans ?_;exact TY
 ·rw[qf,OU];refine⟨M.down,by simp,λx hx z hz=>?_⟩;have:z=y:=by simpa using hz
  subst this;show r z.1<=r x.1;rw[<- ey];exact M.ga x hx (na-1) (by lia)
 ·intro x hx i hi;rw[qf] at hx;rcases eR.mp hx with hx|hx
  ·exact M.ga x hx i (by lia)
  ·have:x=y:=by simpa using hx
   subst this;rw[<- ey];exact hA i (na-1) (fz _) (by lia) (by lia)
 ·intro x hx j hj;rw[qf] at hx;rcases eR.mp hx with hx|hx
  ·exact M.gb x hx j hj
  ·have:x=y:=by simpa using hx
   subst this;rw[<- ey];exact zC (hB j (nb-1) (fz _) (by lia) (by lia)) (hl (by lia))
theorem MH.qb(M:MH r a b out na nb)(hA:Up r a 0 a.size)(hB:Up r b 0 b.size)(h0:0<nb)(e:b[nb-1]? = some y)(hl:0<na->R r a (na-1)<=R r b (nb-1)):MH r a b (out.push y) na (nb-1):=by
 have ey:=px (r:=r) e;have ha:=M.ha;have hb:=M.hb;refine⟨M.ha,by lia,?_,?_,?_,?_⟩
 ·rw[qf,ph (x:=y) h0 (by simpa using e)];refine(M.perm.append_right [y]).trans ?_;rw[AV];exact List.Perm.append_left _ TY
 ·rw[qf,OU];refine⟨M.down,by simp,λx hx z hz=>?_⟩;have:z=y:=by simpa using hz
  subst this;show r z.1<=r x.1;rw[<- ey];exact M.gb x hx (nb-1) (by lia)
 ·intro x hx i hi;rw[qf] at hx;rcases eR.mp hx with hx|hx
  ·exact M.ga x hx i hi
  ·have:x=y:=by simpa using hx
   subst this;rw[<- ey];exact zC (hA i (na-1) (fz _) (by lia) (by lia)) (hl (by lia))
 ·intro x hx j hj;rw[qf] at hx;rcases eR.mp hx with hx|hx
  ·exact M.gb x hx j (by lia)
  ·have:x=y:=by simpa using hx
   subst this;rw[<- ey];exact hB j (nb-1) (fz _) (by lia) (by lia)
theorem jy{xs:Array bX}{i n:Nat}(h:i<n)(hn:n<=xs.size):(xs.extract i n).reverse = #[xs[n-1]'(by lia)]++(xs.extract i (n-1)).reverse:=by
 obtain⟨k,rfl⟩:∃ k,n=i+(k+1):=⟨n-1-i,by lia⟩
 have e3:i+(k+1)-1=i+k:=by rfl
 simp only[e3];rw[eF (by assumption),Array.reverse_push]
theorem MH.ER(hA:Up r a 0 a.size)(hB:Up r b 0 b.size):∀ (k:Nat) {out:Array bX} {na p:Nat},MH r a b out na nb->p+k=na->(0<nb->∀ i,p<=i->i<na->R r b (nb-1)<=R r a i)->MH r a b (out++(a.extract p na).reverse) p nb
 |0,out,na,p,M,h1,h2=>by
  have:a.extract p na = #[]:=Ru (by simp only[IZ];lia);have e:na=p:=by walk_at "s1"
  subst e;rw[this];simpa using M
 |k+1,out,na,p,M,h1,h2=>by have ha:=M.ha;have e:a[na-1]? = some (a[na-1]'(by lia)):=getElem?_pos a (na-1) (by lia);have q:=M.p6 hA hB (by lia) e λhb=>h2 hb _ (by lia) (by lia);have z:=MH.ER hA hB k (p:=p) q (by lia) λhb i nI kP=>h2 hb i nI (by walk_at "s4");rw[jy (by lia) ha,<- O6];simpa using z
theorem MH.EV(hA:Up r a 0 a.size)(hB:Up r b 0 b.size):∀ (k:Nat) {out:Array bX} {nb p:Nat},MH r a b out na nb->p+k=nb->(0<na->∀ i,p<=i->i<nb->R r a (na-1)<=R r b i)->MH r a b (out++(b.extract p nb).reverse) na p
 |0,out,nb,p,M,h1,h2=>by
  have:b.extract p nb = #[]:=Ru (by simp only[IZ];lia);have e:nb=p:=by walk_at "s1"
  subst e;rw[this];simpa using M
 |k+1,out,nb,p,M,h1,h2=>by have hb:=M.hb;have e:b[nb-1]? = some (b[nb-1]'(by lia)):=getElem?_pos b (nb-1) (by lia);have q:=M.qb hA hB (by lia) e λha=>h2 ha _ (by lia) (by lia);have z:=MH.EV hA hB k (p:=p) q (by lia) λha i nI kP=>h2 ha i nI (by walk_at "s4");rw[jy (by lia) hb,<- O6];simpa using z
theorem MH.whole(M:MH r a b out 0 0):bU r a b out.reverse:=by
 refine⟨?_,?_⟩
 ·have h:=M.perm;rw[List.drop_zero,List.drop_zero] at h;rw[Array.toList_reverse];exact(List.reverse_perm _).trans h
 ·rw[Array.toList_reverse,List.pairwise_reverse];exact M.down
theorem oJ(x y:Array bX):(x++y.reverse).reverse=y++x.reverse:=by apply Rw.mp;simp
theorem MH.NW(M:MH r a b out na nb)(hA:Up r a 0 a.size)(hB:Up r b 0 b.size)(e:na=0):bU r a b (a.extract 0 na++b.extract 0 nb++out.reverse):=by
 subst e;have z:=MH.EV hA hB nb (p:=0) M (by exact Rp ..) λha=>absurd ha (vS _);have q:=z.whole;rw[oJ] at q;have e2:a.extract 0 0 = #[]:=by simp
 rw[e2,Array.empty_append];exact q
theorem MH.NV(M:MH r a b out na nb)(hA:Up r a 0 a.size)(hB:Up r b 0 b.size)(e:nb=0):bU r a b (a.extract 0 na++b.extract 0 nb++out.reverse):=by
 subst e;have z:=MH.ER hA hB na (p:=0) M (by exact Rp ..) λhb=>absurd hb (vS _);have q:=z.whole;rw[oJ] at q;have e2:b.extract 0 0 = #[]:=by simp
 rw[e2,Ud];exact q
theorem MH.t7(M:MH r a b out na nb)(hA:Up r a 0 a.size)(hB:Up r b 0 b.size)(e:nb=1)(hl:∀ i,i<a.size->R r b 0<=R r a i):bU r a b (b.extract 0 nb++a.extract 0 na++out.reverse):=by subst e;have ha:=M.ha;have z:=MH.ER hA hB na (p:=0) M (by exact Rp ..) λ_ i _ hi=>hl i (by walk_at "s1");have z2:=MH.EV hA hB 1 (p:=0) z (by exact Rp ..) λh=>absurd h (vS _);have q:=z2.whole;rw[oJ,oJ] at q;rw[O6];exact q
theorem MH.start:MH r a b #[] a.size b.size:=⟨cx _,cx _,by simp,by simp,λx hx=>by simp at hx,λx hx=>by simp at hx⟩
end
abbrev S1:=Option (Array bX) × Nat × Nat × Array bX × Nat
abbrev S2:=Option (Array bX) × Nat × Nat × Array bX × Nat × Nat
abbrev S3:=Option (Array bX) × Nat × Nat × Array bX × Nat × Nat × Nat
def GU(a b out:Array bX)(na nb:Nat):Array bX:=a.extract 0 na++b.extract 0 nb++out.reverse
def Sv(a b out:Array bX)(na nb:Nat):Array bX:=b.extract 0 nb++a.extract 0 na++out.reverse
def Vq(a b:Array bX)(mg ac bc na nb:Nat)(out:Array bX):SM (ForInStep S3):=n9 a (na-1) >>= λp =>
 if (na-1 == 0)=true then pure (.done (some (GU a b (out.push p) (na-1) nb),na-1,nb,out.push p,mg,ac,bc))
 else if (decide (ac<7) && decide (bc<7))=true then pure (.done (none,na-1,nb,out.push p,mg,ac,bc)) else pure (.yield (none,na-1,nb,out.push p,mg,ac,bc))
def kP(a b:Array bX)(mg ac bc na nb:Nat)(out:Array bX):SM (ForInStep S3):=n9 a (na-1) >>= λp=>jJ true p b 0 nb (nb-1) >>= λx=>match x with
 |some k=>if nb-k>0 then
   if (k == 1)=true then pure (.done (some (Sv a b (out++(b.extract k nb).reverse) na k),na,k,out++(b.extract k nb).reverse,mg,ac,nb-k))
   else if (k == 0)=true then pure (.done (some (GU a b (out++(b.extract k nb).reverse) na k),na,k,out++(b.extract k nb).reverse,mg,ac,nb-k))
   else Vq a b mg ac (nb-k) na k (out++(b.extract k nb).reverse)
  else Vq a b mg ac (nb-k) na nb out
 |_=>pure (.done (some (GU a b out na nb),na,nb,out,mg,ac,bc))
def nI(a b:Array bX)(mg ac bc na nb:Nat)(out:Array bX):SM (ForInStep S3):=n9 b (nb-1) >>= λp =>
 if (nb-1 == 1)=true then pure (.done (some (Sv a b (out.push p) na (nb-1)),na,nb-1,out.push p,mg,ac,bc)) else kP a b mg ac bc na (nb-1) (out.push p)
def A7(a b:Array bX)(mg ac bc na nb:Nat)(out:Array bX):SM (ForInStep S3):=bA mg >>= λ_=>n9 b (nb-1) >>= λp=>jJ false p a 0 na (na-1) >>= λx=>match x with
 |some k=>if na-k>0 then
   if (k == 0)=true then pure (.done (some (GU a b (out++(a.extract k na).reverse) k nb),k,nb,out++(a.extract k na).reverse,mg,na-k,bc))
   else nI a b mg (na-k) bc k nb (out++(a.extract k na).reverse)
  else nI a b mg (na-k) bc na nb out
 |_=>pure (.done (some (GU a b out na nb),na,nb,out,mg,ac,bc))
def hiG(a b:Array bX)(_:Nat)(s:S3):SM (ForInStep S3) :=
 if s.2.2.2.2.1>1 then A7 a b (s.2.2.2.2.1-1) s.2.2.2.2.2.1 s.2.2.2.2.2.2 s.2.1 s.2.2.1 s.2.2.2.1 else A7 a b s.2.2.2.2.1 s.2.2.2.2.2.1 s.2.2.2.2.2.2 s.2.1 s.2.2.1 s.2.2.2.1
def hiA(a b:Array bX)(mg ac na nb:Nat)(out:Array bX):SM (ForInStep S2):=n9 a (na-1) >>= λp =>
 if (na-1 == 0)=true then pure (.done (some (GU a b (out.push p) (na-1) nb),na-1,nb,out.push p,ac+1,0))
 else if ac+1 >= mg then pure (.done (none,na-1,nb,out.push p,ac+1,0)) else pure (.yield (none,na-1,nb,out.push p,ac+1,0))
def hiB(a b:Array bX)(mg bc na nb:Nat)(out:Array bX):SM (ForInStep S2):=n9 b (nb-1) >>= λp =>
 if (nb-1 == 1)=true then pure (.done (some (Sv a b (out.push p) na (nb-1)),na,nb-1,out.push p,0,bc+1))
 else if bc+1 >= mg then pure (.done (none,na,nb-1,out.push p,0,bc+1)) else pure (.yield (none,na,nb-1,out.push p,0,bc+1))
def hiI(a b:Array bX)(mg:Nat)(_:Nat)(s:S2):SM (ForInStep S2):=n9 b (s.2.2.1-1) >>= λpb=>n9 a (s.2.1-1) >>= λpa=>lt' pb pa >>= λx=>match x with
 |some w=>if w=true then hiA a b mg s.2.2.2.2.1 s.2.1 s.2.2.1 s.2.2.2.1 else hiB a b mg s.2.2.2.2.2 s.2.1 s.2.2.1 s.2.2.2.1
 |_=>pure (.done (some (GU a b s.2.2.2.1 s.2.1 s.2.2.1),s.2.1,s.2.2.1,s.2.2.2.1,s.2.2.2.2.1,s.2.2.2.2.2))
def hiP (a b:Array bX) (mg:Nat) (t:S2):SM (ForInStep S1):=(liftM (rule "list.sort.gallop"):SM Unit) >>= λ_ =>
 forIn [:a.size+b.size] ((none,t.2.1,t.2.2.1,t.2.2.2.1,mg+1,t.2.2.2.2.1,t.2.2.2.2.2):S3) (hiG a b) >>= λu=>match u.1 with
 |some r=>pure (.done (some r,u.2.1,u.2.2.1,u.2.2.2.1,u.2.2.2.2.1))
 |none=>bA (u.2.2.2.2.1+1) >>= λ_=>pure (.yield (none,u.2.1,u.2.2.1,u.2.2.2.1,u.2.2.2.2.1+1))
def hiO(a b:Array bX)(_:Nat)(s:S1):SM (ForInStep S1):=forIn [:a.size+b.size] ((none,s.2.1,s.2.2.1,s.2.2.2.1,0,0):S2) (hiI a b s.2.2.2.2) >>= λt=>match t.1 with
 |some r=>pure (.done (some r,t.2.1,t.2.2.1,t.2.2.2.1,s.2.2.2.2))
 |none=>hiP a b s.2.2.2.2 t
def hiM (a b:Array bX):SM (Array bX):=(liftM (rule "list.sort.merge-hi"):SM Unit) >>= λ_=>n9 a (a.size-1) >>= λy =>
 if (a.size-1 == 0)=true then pure (GU a b #[y] (a.size-1) b.size)
 else if (b.size == 1)=true then pure (Sv a b #[y] (a.size-1) b.size)
 else get >>= λst=>forIn [:a.size+b.size] ((none,a.size-1,b.size,#[y],gallopOf st):S1) (hiO a b) >>= λt=>match t.1 with
 |some r=>pure r
 |none=>(liftM (unsupported (α:=Array bX) "internal:list.sort.merge-bound"):SM (Array bX))
set_option smartUnfolding false in
theorem uJ:tL=hiM:=rfl
section
variable {prog:d4}{w:eB}{A:fm}{E:ae->ay->Prop}{s:ay}{κ:qa}{r:ae->Int}{P:ae->Prop}{a b out:Array bX}{mg ac bc na nb N:Nat}{st:dz}{Q:ForInStep S3->dz->Prop}
def HD(r:ae->Int)(a b:Array bX)(Q:ForInStep S3->dz->Prop)(st:dz):Prop:=∀ o rest,bU r a b o->Q (.done (some o,rest)) st
def HY(r:ae->Int)(a b:Array bX)(N:Nat)(Q:ForInStep S3->dz->Prop)(st:dz):Prop :=
 ∀ o na nb mg ac bc,MH r a b o na nb->1<=na->2<=nb->na+nb<=N->Q (.done (none,na,nb,o,mg,ac,bc)) st/\Q (.yield (none,na,nb,o,mg,ac,bc)) st
theorem By(c:MC prog w A s κ r P a b)(M:MH r a b out na nb)(h1:0<na)(lt:R r b (nb-1)<=R r a (na-1))(h2:2<=nb)(hN:na+nb<=N)(D:HD r a b Q st)(Y:HY r a b N Q st):wpS (aE prog w) A E s (Vq a b mg ac bc na nb out) Q st:=by
 have ha:=M.ha;refine ck (aH (by lia) λp e=>?_);have M2:=M.p6 c.hA c.hB h1 e λ_=>lt;by_cases z:na-1=0
 ·walk_at"h";exact dk (D _ _ (M2.NW c.hA c.hB z))
 ·walk_at"i";have y:=Y _ _ _ mg ac bc M2 (by lia) h2 (by lia);split
  ·exact dk y.1
  ·exact dk y.2
theorem G5(c:MC prog w A s κ r P a b)(hk:fq st=κ)(M:MH r a b out na nb)(h1:0<na)(h2:2<=nb)(hN:na+nb<=N)(D:HD r a b Q st)(Y:HY r a b N Q st):wpS (aE prog w) A E s (kP a b mg ac bc na nb out) Q st:=by
 have ha:=M.ha;have hb:=M.hb;refine ck (aH (by lia) λp e=>ck (cJ c.C hk c.pb (c.pa.at e) (by lia) (by lia) (λi j u v w=>c.hB i j u v (by lia)) λl NX AF N0=>?_));have ra:=px (r:=r) e;dsimp only;have lt:0<l->R r b (l-1)<=R r a (na-1):=λz=>by have:=Ep (AF (l-1) (by exact MV ‹_› MS));rw[vT] at this;lia
 by_cases l0:nb-l>0
 ·have M5:=MH.EV c.hA c.hB (nb-l) (p:=l) M (by exact IQ ‹_›) λ_ i nI kP=>by have:=tQ (N0 i nI kP);rw[vT] at this;lia
  rw[if_pos l0];by_cases z4:l=1
  ·rw[if_pos (by simpa using z4)];exact dk (D _ _ (M5.t7 c.hA c.hB z4 c.hl))
  ·rw[if_neg (by simpa using z4)];by_cases z6:l=0
   ·rw[if_pos (by simpa using z6)];exact dk (D _ _ (M5.NV c.hA c.hB z6))
   ·rw[if_neg (by simpa using z6)];exact By c M5 h1 (lt (by lia)) (by lia) (by lia) D Y
 ·rw[if_neg l0];obtain rfl:l=nb:=by lia
  exact By c M h1 (lt (by exact T9 ‹_›)) h2 hN D Y
theorem Bf(c:MC prog w A s κ r P a b)(hk:fq st=κ)(M:MH r a b out na nb)(h1:0<na)(h2:2<=nb)(lt:R r a (na-1)<=R r b (nb-1))(hN:na+nb<=N)(D:HD r a b Q st)(Y:HY r a b N Q st):wpS (aE prog w) A E s (nI a b mg ac bc na nb out) Q st:=by
 have hb:=M.hb;refine ck (aH (by lia) λp e=>?_);have M4:=M.qb c.hA c.hB (by exact T9 ‹_›) e λ_=>lt;by_cases z:nb-1=1
 ·walk_at"h";exact dk (D _ _ (M4.t7 c.hA c.hB z c.hl))
 ·walk_at"i";exact G5 c hk M4 h1 (by lia) (by lia) D Y
theorem G_(c:MC prog w A s κ r P a b)(hk:fq st=κ)(M:MH r a b out na nb)(h1:0<na)(h2:2<=nb)(hN:na+nb<=N)(D:∀ av,Mg st av->HD r a b Q av)(Y:∀ av,Mg st av->HY r a b N Q av):wpS (aE prog w) A E s (A7 a b mg ac bc na nb out) Q st:=by
 have ha:=M.ha;have hb:=M.hb;have g:=(Mg.refl st).set mg;refine ck (gJ ?_);refine ck (aH (by lia) λp e=>ck (cJ c.C (g.kind.trans hk) c.pa (c.pb.at e) (by lia) (by exact MV ‹_› MS) (λi j u v w=>c.hA i j u v (by lia)) λk hk1 Bi K2=>?_));have rb:=px (r:=r) e;dsimp only;have lt:0<k->R r a (k-1)<=R r b (nb-1):=λz=>by have:=Ac (Bi (k-1) (by exact MV ‹_› MS));rw[vT] at this;lia
 by_cases k0:na-k>0
 ·have M3:=MH.ER c.hA c.hB (na-k) (p:=k) M (by exact IQ ‹_›) λ_ i nI kP=>by have:=wj (K2 i nI kP);rw[vT] at this;lia
  rw[if_pos k0];by_cases z:k=0
  ·walk_at"h";exact dk (D _ g _ _ (M3.NW c.hA c.hB z))
  ·walk_at"i";exact Bf c (g.kind.trans hk) M3 (by lia) h2 (lt (by lia)) (by lia) (D _ g) (Y _ g)
 ·rw[if_neg k0];obtain rfl:k=na:=by lia
  exact Bf c (g.kind.trans hk) M h1 h2 (lt h1) hN (D _ g) (Y _ g)
def HI(r:ae->Int)(a b:Array bX)(N:Nat)(c:S2):Prop:=∃ na nb out ac bc,c=(none,na,nb,out,ac,bc)/\MH r a b out na nb/\1<=na/\2<=nb/\na+nb<=N
theorem Gg{Q:ForInStep S2->dz->Prop}(c:MC prog w A s κ r P a b)(M:MH r a b out na nb)(h1:0<na)(lt:R r b (nb-1)<=R r a (na-1))(h2:2<=nb)(hN:na+nb<=N+1)(D:∀ c,HS r a b c->Q (.done c) st)(Y:∀ c,HI r a b N c->Q (.done c) st/\Q (.yield c) st):wpS (aE prog w) A E s (hiA a b mg ac na nb out) Q st:=by
 have ha:=M.ha;refine ck (aH (by lia) λp e=>?_);have M2:=M.p6 c.hA c.hB h1 e λ_=>lt;by_cases z:na-1=0
 ·walk_at"h";exact dk (D _ ⟨_,_,rfl,M2.NW c.hA c.hB z⟩)
 ·walk_at"i";have y:=Y _ ⟨_,_,_,ac+1,0,rfl,M2,by lia,h2,by lia⟩;split
  ·exact dk y.1
  ·exact dk y.2
theorem GD{Q:ForInStep S2->dz->Prop}(c:MC prog w A s κ r P a b)(M:MH r a b out na nb)(h1:0<na)(lt:R r a (na-1)<=R r b (nb-1))(h2:2<=nb)(hN:na+nb<=N+1)(D:∀ c,HS r a b c->Q (.done c) st)(Y:∀ c,HI r a b N c->Q (.done c) st/\Q (.yield c) st):wpS (aE prog w) A E s (hiB a b mg bc na nb out) Q st:=by
 have hb:=M.hb;refine ck (aH (by lia) λp e=>?_);have M2:=M.qb c.hA c.hB (by exact T9 ‹_›) e λ_=>lt;by_cases z:nb-1=1
 ·walk_at"h";exact dk (D _ ⟨_,_,rfl,M2.t7 c.hA c.hB z c.hl⟩)
 ·walk_at"i";have y:=Y _ ⟨_,_,_,0,bc+1,rfl,M2,h1,by lia,by lia⟩;split
  ·exact dk y.1
  ·exact dk y.2
theorem HB{Q:ForInStep S2->dz->Prop}{x:Nat}(c:MC prog w A s κ r P a b)(hk:fq st=κ)(M:MH r a b out na nb)(h1:0<na)(h2:2<=nb)(hN:na+nb<=N+1)(D:∀ c,HS r a b c->Q (.done c) st)(Y:∀ c,HI r a b N c->Q (.done c) st/\Q (.yield c) st):wpS (aE prog w) A E s (hiI a b mg x (none,na,nb,out,ac,bc)) Q st:=by
 have ha:=M.ha;have hb:=M.hb;refine ck (aH (show nb-1<b.size by lia) λpb eb=>ck (aH (show na-1<a.size by lia) λpa ea=>ck (pW c.C hk (c.pb.at eb) (c.pa.at ea) ?_)));have rb:R r b (nb-1)=r pb.1:=px eb;have ra:R r a (na-1)=r pa.1:=px ea;dsimp only;by_cases hw:r pb.1<r pa.1
 ·rw[if_pos (decide_eq_true hw)];exact Gg c M h1 (by lia) h2 hN D Y
 ·rw[if_neg (by simpa using hw)];exact GD c M h1 (by lia) h2 hN D Y
theorem H_{Q:ForInStep S1->dz->Prop}(c:MC prog w A s κ r P a b)(hk:fq st=κ)(M:MH r a b out na nb)(h1:0<na)(h2:2<=nb)(hN:na+nb<=N)(D:∀ av,Mg st av->∀ c,HS r a b c->Q (.done c) av)(Y:∀ av,Mg st av->∀ out na nb mg,MH r a b out na nb->1<=na->2<=nb->na+nb<=N->Q (.yield (none,na,nb,out,mg)) av):wpS (aE prog w) A E s (hiP a b mg (none,na,nb,out,ac,bc)) Q st:=by
 walk_at"u";refine ck (tN (qS (I:=λ_ c av=>Mg st av/\∃ na nb out mg ac bc,c=(none,na,nb,out,mg,ac,bc)/\MH r a b out na nb/\1<=na/\2<=nb/\na+nb<=N) (Q:=λc av=>Mg st av/\(HS r a b c\/∃ na nb out mg ac bc,c=(none,na,nb,out,mg,ac,bc)/\MH r a b out na nb/\1<=na/\2<=nb/\na+nb<=N)) ?step ?fin ⟨.refl st,_,_,_,_,_,_,rfl,M,h1,h2,hN⟩) ?post)
 case fin =>
  rintro c av ⟨hm,q⟩;exact⟨hm,.inr q⟩
 case step =>
  rintro y c1 EW _ _ ⟨hm,na,nb,out,mg,ac,bc,rfl,M,h1,h2,hN⟩;unfold hiG;dsimp only;split<;>exact G_ c (hm.kind.trans hk) M h1 h2 hN (λav g o rest hM=>⟨hm.trans g,.inl ⟨o,rest,rfl,hM⟩⟩) λav g o na nb mg ac bc M h1 h2 hN=>⟨⟨hm.trans g,.inr ⟨_,_,_,_,_,_,rfl,M,h1,h2,hN⟩⟩,hm.trans g,_,_,_,_,_,_,rfl,M,h1,h2,hN⟩
 case post =>
  rintro c av ⟨hm,⟨o,rest,rfl,hM⟩|⟨na,nb,out,mg,ac,bc,rfl,M,h1,h2,hN⟩⟩
  ·exact dk (D _ hm _ ⟨_,_,rfl,hM⟩)
  ·exact ck (gJ (dk (Y _ (hm.set _) _ _ _ _ M h1 h2 hN)))
theorem G6{Q:ForInStep S1->dz->Prop}{x:Nat}(c:MC prog w A s κ r P a b)(hk:fq st=κ)(M:MH r a b out na nb)(h1:0<na)(h2:2<=nb)(hN:na+nb<=N+1)(D:∀ av,Mg st av->∀ c,HS r a b c->Q (.done c) av)(Y:∀ av,Mg st av->∀ out na nb mg,MH r a b out na nb->1<=na->2<=nb->na+nb<=N->Q (.yield (none,na,nb,out,mg)) av):wpS (aE prog w) A E s (hiO a b x (none,na,nb,out,mg)) Q st:=by
 have ha:=M.ha;have hb:=M.hb;refine ck (tN (qS (I:=λy c av=>av=st/\HI r a b (N+1-y) c) (Q:=λc av=>av=st/\(HS r a b c\/HI r a b N c)) ?step ?fin ⟨rfl,_,_,_,_,_,rfl,M,h1,h2,hN⟩) ?post);case fin =>
  rintro c av ⟨rfl,na',pz,o,ac,bc,rfl,M',q1,q2,q3⟩;exact⟨rfl,.inr ⟨_,_,_,_,_,rfl,M',q1,q2,by lia⟩⟩
 case step =>
  rintro y c1 EW _ hy ⟨rfl,na',pz,o,ac,bc,rfl,M',q1,q2,q3⟩;exact HB (N:=N-y) c hk M' q1 q2 (by lia) (λc q=>⟨rfl,.inl q⟩) λc q=>by obtain⟨na,nb,o,ac,bc,rfl,M,h1,h2,h3⟩:=q;exact⟨⟨rfl,.inr ⟨_,_,_,_,_,rfl,M,h1,h2,by walk_at "s4"⟩⟩,rfl,_,_,_,_,_,rfl,M,h1,h2,by lia⟩
 case post =>
  rintro c1 av ⟨rfl,⟨o,rest,rfl,hM⟩|⟨na,nb,o,ac,bc,rfl,M',q1,q2,q3⟩⟩
  ·exact dk (D _ (.refl _) _ ⟨_,_,rfl,hM⟩)
  ·exact H_ c hk M' q1 q2 q3 D Y
theorem qX{st:dz}{a b:Array bX}{Q:Array bX->dz->Prop}(C:ny prog w A s κ r P)(hk:fq st=κ)(Vo:AllP P a)(Vp:AllP P b)(hA:Up r a 0 a.size)(hB:Up r b 0 b.size)(na:1<=a.size)(nb:1<=b.size)(h0:R r b 0<=R r a 0) (hg:∀ j,j<b.size->R r b j<=R r a (a.size-1)) (h:∀ out av,bU r a b out->Mg st av->Q out av):wpS (aE prog w) A E s (tL a b) Q st:=by
 have c:MC prog w A s κ r P a b:=⟨C,Vo,Vp,hA,hB,λi hi=>zC h0 (hA 0 i (cx _) (fz _) hi),hg⟩
 rw[uJ];walk_at"u";refine ck (aH (by exact MV ‹_› MS) λy0 e0=>?_);have M1:MH r a b #[y0] (a.size-1) b.size:=MH.start.p6 hA hB na e0 λ_=>hg _ (by exact MV ‹_› MS);by_cases c1:a.size-1=0
 ·rw[if_pos (by simpa using c1)];exact dk (h _ _ (M1.NW hA hB c1) (.refl st))
 ·rw[if_neg (by simpa using c1)];by_cases c2:b.size=1
  ·rw[if_pos (by simpa using c2)];exact dk (h _ _ (M1.t7 hA hB c2 c.hl) (.refl st))
  ·rw[if_neg (by simpa using c2)];refine ck (wpS_get ?_);refine ck (tN (qS (I:=λx c av=>Mg st av/\∃ na nb out mg,c=(none,na,nb,out,mg)/\MH r a b out na nb/\1<=na/\2<=nb/\na+nb<=a.size+b.size-x) (Q:=λc av=>Mg st av/\HS r a b c) ?step ?fin ⟨.refl st,_,_,_,_,rfl,M1,by lia,by lia,by lia⟩) ?post)
   case fin =>
    rintro c av ⟨_,na,nb,out,mg,rfl,M,h1,h2,h3⟩;lia
   case post =>
    rintro c av ⟨hm,out,rest,rfl,hM⟩;exact dk (h out av hM hm)
   case step =>
    rintro x c1 EW _ hx ⟨wo,na,nb,out,mg,rfl,M,h1,h2,h3⟩;exact G6 (N:=a.size+b.size-(x+1)) c (wo.kind.trans hk) M h1 h2 (by lia) (λav g c q=>⟨wo.trans g,q⟩) λav g out na nb mg M h1 h2 h3=>⟨wo.trans g,_,_,_,_,rfl,M,h1,h2,h3⟩
end
def wr(p:Nat)(m:List bX)(n:Nat)(xs:Array bX):Array bX:=(m.zipIdx n).foldl (λa (q:bX × Nat)=>a.setIfInBounds (p+q.2) q.1) xs
theorem wR(p:Nat):∀ (m:List bX) (n:Nat) (xs:Array bX),p+n+m.length<=xs.size->∀ k:Nat,(wr p m n xs)[k]? = if p+n<=k/\k<p+n+m.length then m[k-(p+n)]? else xs[k]?
 |[],n,xs,h,k=>by rw[if_neg (by simp only[Rk];lia)];rfl
 |q :: m,n,xs,h,k=>by
  have ih:=wR p m (n+1) (xs.setIfInBounds (p+n) q) (by rw[Array.size_setIfInBounds];simp only[oD] at h;lia) k;have e:wr p (q :: m) n xs=wr p m (n+1) (xs.setIfInBounds (p+n) q):=by unfold wr;rw[List.zipIdx_cons,List.foldl_cons]
  simp only[oD] at h ⊢;rw[e,ih];by_cases h1:p+(n+1)<=k/\k<p+(n+1)+m.length
  ·rw[if_pos h1,if_pos (by lia),show k-(p+n)=(k-(p+(n+1)))+1 by lia,List.getElem?_cons_succ]
  ·rw[if_neg h1];by_cases h2:k=p+n
   ·subst h2;rw[if_pos (by walk_at "s4"),Nat.sub_self,TQ,Array.getElem?_setIfInBounds_self_of_lt (by lia)]
   ·rw[if_neg (by lia),Array.getElem?_setIfInBounds_ne (by walk_at "s1")]
theorem EY(h:p+m.length<=xs.size):(wr p m 0 xs).toList=xs.toList.take p++m++xs.toList.drop (p+m.length):=by
 have hl:xs.toList.length=xs.size:=by simp
 apply B5;intro k;have e:=wR p m 0 xs h k;rw[MQ] at e;rw[lP,e];by_cases h1:k<p
 ·rw[if_neg (by lia),AV,Mb (by rw[mN];lia),List.getElem?_take_of_lt h1,lP]
 ·by_cases h2:k<p+m.length
  ·rw[if_pos (by lia),AV,D1 (by rw[mN];lia),mN,show min p xs.toList.length=p by lia,Mb (by lia)]
  ·rw[if_neg (by lia),AV,D1 (by rw[mN];lia),mN,show min p xs.toList.length=p by lia,D1 (by lia),List.getElem?_drop,
    show p+m.length+(k-p-m.length)=k by lia,lP]
theorem GK{p q:Nat}{xs:Array bX}(h:p<=q)(h2:q<=xs.size):xs.toList=xs.toList.take p++(xs.extract p q).toList++xs.toList.drop q:=by
 rw[Uc,TN];have e1:xs.toList.take p++(xs.toList.drop p).take (q-p)=xs.toList.take q:=by rw[<- OS p (xs.toList.take q),List.take_take,List.drop_take,Nat.min_eq_left h]
 rw[e1,OS]
theorem Eh{p q:Nat}{m:List bX}{xs:Array bX}(h:p<=q)(h2:q<=xs.size)(hm:m.Perm (xs.extract p q).toList):(wr p m 0 xs).Perm xs:=by
 have hl:m.length=q-p:=by rw[hm.length_eq];simp;lia
 rw[Ub,EY (by lia),show p+m.length=q by lia];have e:=GK (xs:=xs) h h2;exact(List.Perm.append_right _ (List.Perm.append_left _ hm)).trans (by rw[<- e])
def Runs(r:ae->Int)(xs:Array bX):List (Nat × Nat × Nat)->Nat->Nat->Prop
 |[],a,b=>a=b
 | (s,n,_) :: rest,a,b=>s=a/\1<=n/\Up r xs s (s+n)/\Runs r xs rest (s+n) b
section
variable {r:ae->Int}{xs ys:Array bX}
theorem Runs.le:∀ {ps:List (Nat × Nat × Nat)} {a b:Nat},Runs r xs ps a b->a+ps.length<=b
 |[],a,b,h=>by simp only[Runs] at h;simp;lia
 | (s,n,p) :: rest,a,b,h=>by obtain⟨rfl,h1,_,h3⟩:=h;have:=Runs.le h3;simp only[oD];lia
theorem Runs.append:∀ {ps qs:List (Nat × Nat × Nat)} {a b:Nat},Runs r xs (ps++qs) a b↔∃ c,Runs r xs ps a c/\Runs r xs qs c b
 |[],qs,a,b=>by simp[Runs]
 | (s,n,p) :: rest,qs,a,b=>by
  simp only[Rg,Runs];constructor
  ·rintro⟨h1,h2,h3,h4⟩;obtain⟨c,h5,h6⟩:=Runs.append.mp h4;exact⟨c,⟨h1,h2,h3,h5⟩,h6⟩
  ·rintro⟨c,⟨h1,h2,h3,h5⟩,h6⟩;exact⟨h1,h2,h3,Runs.append.mpr ⟨c,h5,h6⟩⟩
theorem Up.congr(h:Up r xs a b)(e:∀ k,a<=k->k<b->ys[k]? = xs[k]?):Up r ys a b:=λi j h1 h2 h3=>by rw[cW (e i h1 (by lia)),cW (e j (by lia) h3)];exact h i j h1 h2 h3
theorem Runs.congr:∀ {ps:List (Nat × Nat × Nat)} {a b:Nat},Runs r xs ps a b->(∀ k,a<=k->k<b->ys[k]? = xs[k]?)->Runs r ys ps a b
 |[],a,b,h,_=>h
 | (s,n,p) :: rest,a,b,h,e=>by obtain⟨rfl,h1,h2,h3⟩:=h;have l:=h3.le;exact⟨rfl,h1,h2.congr λk u v=>e k u (by lia),Runs.congr h3 λk u v=>e k (by walk_at "s4") v⟩
theorem Up.glue(h1:Up r xs a b)(h2:Up r xs b c)(h:∀ i j,a<=i->i<b->b<=j->j<c->R r xs i<=R r xs j):Up r xs a c:=λi j u v w=>by
 by_cases hj:j<b
 ·exact h1 i j u v hj
 ·by_cases hi:i<b
  ·exact h i j u hi (by lia) w
  ·exact h2 i j (by lia) v w
end
section
variable {prog:d4}{w:eB}{A:fm}{E:ae->ay->Prop}{s:ay}{κ:qa}{r:ae->Int}{P:ae->Prop}
theorem AllP.extract(h:AllP P xs)(i j:Nat):AllP P (xs.extract i j):=λp hp=>h p (by
 rw[Uc,TN] at hp;exact T1 (Ra hp))
theorem dD(h:i+k<j)(hj:j<=xs.size):R r (xs.extract i j) k=R r xs (i+k):=by apply cW;rw[Rv,if_pos (by lia)]
theorem Up.extract(h:Up r xs i j)(kQ:i<=j)(hj:j<=xs.size):Up r (xs.extract i j) 0 (xs.extract i j).size:=λa b _ h2 h3=>by
 have e:(xs.extract i j).size=j-i:=by simp only[IZ];lia
 rw[e] at h3;rw[dD (by lia) hj,dD (by lia) hj];exact h _ _ (by lia) (by lia) (by lia)
theorem yt(hz:sa+na+nb<=xs.size)(hk:k<na)(hnb:pz<=nb)(hA:Up r xs sa (sa+na))(hB:Up r xs (sa+na) (sa+na+nb))(lo1:∀ i,i<k->R r xs (sa+i)<=R r xs (sa+na)) (K0:R r xs (sa+na)<R r xs (sa+k)) (nI:∀ i,i<pz->R r xs (sa+na+i)<R r xs (sa+na-1)) (kP:∀ i,pz<=i->i<nb->R r xs (sa+na-1)<=R r xs (sa+na+i))(hm:bU r (xs.extract (sa+k) (sa+na)) (xs.extract (sa+na) (sa+na+pz)) m) :
  Up r (wr (sa+k) m.toList 0 xs) sa (sa+na+nb)/\(wr (sa+k) m.toList 0 xs).Perm xs/\∀ j,j<sa\/sa+na+nb<=j->(wr (sa+k) m.toList 0 xs)[j]? = xs[j]? := by
 obtain⟨mp,mu⟩:=hm;have eab:(xs.extract (sa+k) (sa+na)).toList++(xs.extract (sa+na) (sa+na+pz)).toList=(xs.extract (sa+k) (sa+na+pz)).toList:=by rw[<- Array.toList_append,Array.extract_append_extract,show min (sa+k) (sa+na)=sa+k by lia,show max (sa+na) (sa+na+pz)=sa+na+pz by lia]
 rw[eab] at mp;have ml:m.toList.length=na+pz-k:=by rw[mp.length_eq];simp;lia
 have hw:sa+k+m.toList.length<=xs.size:=by lia
 have get:=wR (sa+k) m.toList 0 xs (by lia);rw[MQ,ml] at get
 -- every merged item is one of the kx'
 have mem:∀ (j:Nat) (p:bX),m.toList[j]? = some p->∃ i,sa+k<=i/\i<sa+na+pz/\r p.1=R r xs i:=λj p e=>by
  have hp:p∈(xs.extract (sa+k) (sa+na+pz)).toList:=mp.mem_iff.mp (om e);obtain⟨i,hi⟩:=List.getElem?_of_mem hp;rw[lP,Rv] at hi;split at hi
  ·exact⟨sa+k+i,by lia,by lia,(px hi).symm⟩
  ·cases hi
 have low:∀ i,sa+k<=i->i<sa+na+pz->R r xs (sa+na)<=R r xs i:=λi h1 h2=>by
  by_cases h3:i<sa+na
  ·exact zC (EB K0) (hA (sa+k) i (by lia) h1 h3)
  ·exact hB (sa+na) i (cx _) (by lia) (by lia)
 have high:∀ i,sa+k<=i->i<sa+na+pz->R r xs i<=R r xs (sa+na-1):=λi h1 h2=>by
  by_cases h3:i<sa+na
  ·exact hA i (sa+na-1) (by lia) (by lia) (by lia)
  ·have:=nI (i-(sa+na)) (by lia);rw[show sa+na+(i-(sa+na))=i by lia] at this;lia
 have Rin:∀ j,j<na+pz-k->∃ i,sa+k<=i/\i<sa+na+pz/\R r (wr (sa+k) m.toList 0 xs) (sa+k+j)=R r xs i:=λj hj=>by
  have e:=get (sa+k+j);rw[if_pos (by lia),show sa+k+j-(sa+k)=j by lia] at e;have rh:j<m.toList.length:=by lia
  obtain⟨i,h1,h2,h3⟩:=mem j m.toList[j] (mw rh);rw[mw rh] at e;exact⟨i,h1,h2,(px e).trans h3⟩
 have N3:∀ j,j<sa+k\/sa+na+pz<=j->(wr (sa+k) m.toList 0 xs)[j]? = xs[j]? := λj hj=>by have e:=get j;rw[if_neg (by lia)] at e;exact e
 refine⟨?_,Eh (by lia) (by lia) mp,λj hj=>N3 j (by lia)⟩;have U1:Up r (wr (sa+k) m.toList 0 xs) sa (sa+k):=Up.congr (xs:=xs) (λi j h1 h2 h3=>hA i j h1 h2 (by lia)) λj h1 h2=>N3 j (.inl h2);have U2:Up r (wr (sa+k) m.toList 0 xs) (sa+k) (sa+na+pz):=λi j h1 h2 h3=>by
  have ei:=get i;have ej:=get j;rw[if_pos (by lia)] at ei ej;have li:i-(sa+k)<m.toList.length:=by lia
  have lj:j-(sa+k)<m.toList.length:=by lia
  rw[mw li] at ei;rw[mw lj] at ej;rw[px ei,px ej];by_cases kQ:i=j
  ·subst kQ;exact sL _
  ·exact(D3.mp mu) _ _ li lj (by lia)
 have U3:Up r (wr (sa+k) m.toList 0 xs) (sa+na+pz) (sa+na+nb):=Up.congr (xs:=xs) (λi j h1 h2 h3=>hB i j (by lia) h2 h3) λj h1 h2=>N3 j (.inr h1);refine(U1.glue U2 λi j h1 h2 h3 h4=>?_).glue U3 λi j h1 h2 h3 h4=>?_
 ·obtain⟨q,q1,q2,q3⟩:=Rin (j-(sa+k)) (by lia);rw[show sa+k+(j-(sa+k))=j by lia] at q3;rw[q3,cW (N3 i (.inl h2))];have:=lo1 (i-sa) (by lia);rw[show sa+(i-sa)=i by lia] at this;exact zC this (low q q1 q2)
 ·have e2:=kP (j-(sa+na)) (by lia) (by lia);rw[show sa+na+(j-(sa+na))=j by lia] at e2;rw[cW (N3 j (.inr h3))];by_cases hi:i<sa+k
  ·rw[cW (N3 i (.inl hi))];have:=lo1 (i-sa) (by lia);rw[show sa+(i-sa)=i by lia] at this;have:=low (sa+na-1) (by lia) (by lia);lia
  ·obtain⟨q,q1,q2,q3⟩:=Rin (i-(sa+k)) (by lia);rw[show sa+k+(i-(sa+k))=i by lia] at q3;rw[q3];exact zC (high q q1 q2) e2
structure St(r:ae->Int)(κ:qa)(fR:Array bX)(st:dz)(ps:List (Nat × Nat × Nat))(lo:Nat):Prop where
 kind:fq st=κ
 failed:qc st=none
 perm:(bq st).Perm fR
 pend:kL st=ps.toArray
 runs:Runs r (bq st) ps 0 lo
theorem St.size{fR:Array bX}{st:dz}{ps:List (Nat × Nat × Nat)}{lo:Nat}(h:St r κ fR st ps lo):(bq st).size=fR.size:=h.perm.size_eq
theorem z9{ps:List (Nat × Nat × Nat)}(h:i+1<ps.length):∃ pre x y post,ps=pre++x :: y :: post/\pre.length=i:=by refine⟨ps.take i,ps[i],ps[i+1],ps.drop (i+2),?_,by rw[mN];lia⟩;rw[<- xB (by lia),<- xB (by lia),OS]
theorem jt{st:dz}{fR:Array bX}{ps:List (Nat × Nat × Nat)}{lo i:Nat}{Q:Bool->dz->Prop}(C:ny prog w A s κ r P)(hP:AllP P fR)(H:St r κ fR st ps lo)(GN:lo<=fR.size)(hi:i+1<ps.length)(h:∀ av jv,St r κ fR av jv lo->jv.length+1=ps.length->jv≠[]->(∀ k,lo<=k->(bq av)[k]? = (bq st)[k]?)->Q true av):wpS (aE prog w) A E s (mergeAt' i) Q st:=by
 obtain⟨pre,⟨sa,na,pa⟩,⟨sb,nb,pb⟩,post,rfl,GL⟩:=z9 hi;have hz:=H.size;have sP:AllP P (bq st):=hP.perm H.perm;obtain⟨c,hr1,Vr⟩:=Runs.append.mp H.runs;obtain⟨rfl,n1,u1,rfl,n2,u2,hr3⟩:=Vr;have le3:=hr3.le;have le1:=hr1.le
 -- the new pending list
 have gt':((kL st).setIfInBounds i (sa,na+nb,pa)).eraseIdxIfInBounds (i+1)=(pre++(sa,na+nb,pa) :: post).toArray:=by rw[H.pend];apply Rw.mp;simp[<- GL,List.eraseIdx_append_of_length_le]
 have new:∀ (xs:Array bX) (g:Nat),xs.Perm (bq st)->(∀ j,j<sa\/sa+na+nb<=j->xs[j]? = (bq st)[j]?)->Up r xs sa (sa+(na+nb)) ->
   St r κ fR (SortSt.mk' (fq st) xs (pre++(sa,na+nb,pa) :: post).toArray g (qc st)) (pre++(sa,na+nb,pa) :: post) lo:=λxs g hp ho hu =>
  ⟨H.kind,H.failed,hp.trans H.perm,rfl,Runs.append.mpr ⟨sa,hr1.congr λk _ hk=>ho k (.inl hk),rfl,by walk_at "s4",hu,by
   rw[show sa+(na+nb)=sa+na+nb by exact(IX ..).symm];exact hr3.congr λk hk _=>ho k (.inr hk)⟩⟩
 have len:(pre++(sa,na+nb,pa) :: post).length+1=(pre++(sa,na,pa) :: (sa+na,nb,pb) :: post).length:=by simp;exact IX ..
 have e0:(kL st)[i]? = some (sa,na,pa):=by rw[H.pend,<- GL];simp
 have e1:(kL st)[i+1]? = some (sa+na,nb,pb):=by rw[H.pend,<- GL];simp
 refine ck (wpS_get ?_);rw[e0,e1];dsimp only;refine ck (Ee (f:=λ_=>SortSt.mk' (fq st) (bq st) (((kL st).setIfInBounds i (sa,na+nb,pa)).eraseIdxIfInBounds (i+1)) (gallopOf st) (qc st)) ?_);rw[gt'];refine ck (aH (xs:=bq st) (by lia) λkb ekb=>ck (cJ (arr:=bq st) C H.kind sP (sP.at ekb) (by lia) (by assumption) u1 λk hk1 Bi K2=>?_));have rkb:=px (r:=r) ekb;dsimp only;by_cases z:na-k=0
 ·walk_at"h";refine dk (h _ _ (new (bq st) (gallopOf st) (Array.Perm.refl _) (λ_ _=>rfl) ?_) len (by simp) λ_ _=>rfl);rw[show sa+(na+nb)=sa+na+nb by exact(IX ..).symm];refine u1.glue u2 λi j h1 h2 h3 h4=>?_;have:=Ac (Bi (i-sa) (by lia));rw[show sa+(i-sa)=i by exact IQ ‹_›] at this;have:=u2 (sa+na) j (cx _) h3 h4;lia
 ·walk_at"i";refine ck (aH (xs:=bq st) (by lia) λka eka=>ck (cJ (arr:=bq st) C H.kind sP (sP.at eka) (by lia) (by exact MV ‹_› MS) u2 λl NX AF N0=>?_));have rka:=px (r:=r) eka;rw[show sa+k+(na-k)-1=sa+na-1 by lia] at rka;dsimp only;by_cases z2:l=0
  ·rw[if_pos (by simpa using z2)];refine dk (h _ _ (new (bq st) (gallopOf st) (Array.Perm.refl _) (λ_ _=>rfl) ?_) len (by simp) λ_ _=>rfl);rw[show sa+(na+nb)=sa+na+nb by exact(IX ..).symm];refine u1.glue u2 λi j h1 h2 h3 h4=>?_;have:=tQ (N0 (j-(sa+na)) (by lia) (by lia));rw[show sa+na+(j-(sa+na))=j by exact IQ ‹_›] at this;have:=u1 i (sa+na-1) h1 (by lia) (by lia);lia
  ·rw[if_neg (by simpa using z2)];have lo1:∀ i,i<k->R r (bq st) (sa+i)<=R r (bq st) (sa+na):=λi hi=>by have:=Ac (Bi i hi);lia
   have K0:R r (bq st) (sa+na)<R r (bq st) (sa+k):=by have:=wj (K2 k (cx _) (by lia));lia
   have nI:∀ i,i<l->R r (bq st) (sa+na+i)<R r (bq st) (sa+na-1):=λi hi=>by have:=Ep (AF i hi);lia
   have kP:∀ i,l<=i->i<nb->R r (bq st) (sa+na-1)<=R r (bq st) (sa+na+i):=λi h1 h2=>by have:=tQ (N0 i h1 h2);lia
   have sx:((bq st).extract (sa+k) (sa+na)).size=na-k:=by simp only[IZ];lia
   have sy:((bq st).extract (sa+na) (sa+na+l)).size=l:=by simp only[IZ];lia
   have ux:Up r ((bq st).extract (sa+k) (sa+na)) 0 ((bq st).extract (sa+k) (sa+na)).size:=Up.extract (λi j h1 h2 h3=>u1 i j (by lia) h2 h3) (by lia) (by lia);have uy:Up r ((bq st).extract (sa+na) (sa+na+l)) 0 ((bq st).extract (sa+na) (sa+na+l)).size:=Up.extract (λi j h1 h2 h3=>u2 i j h1 h2 (by walk_at "s4")) (by exact IL _ _) (by lia);have h00:R r ((bq st).extract (sa+na) (sa+na+l)) 0<=R r ((bq st).extract (sa+k) (sa+na)) 0:=by rw[dD (by lia) (by lia),dD (by lia) (by lia)];exact EB K0
   have hgg:∀ j,j<((bq st).extract (sa+na) (sa+na+l)).size->R r ((bq st).extract (sa+na) (sa+na+l)) j<=R r ((bq st).extract (sa+k) (sa+na)) (((bq st).extract (sa+k) (sa+na)).size-1):=λj hj=>by rw[sx,dD (by lia) (by lia),dD (by lia) (by lia),show sa+k+(na-k-1)=sa+na-1 by lia];exact EB (nI j (by lia))
   have fin:∀ out av,bU r ((bq st).extract (sa+k) (sa+na)) ((bq st).extract (sa+na) (sa+na+l)) out->Mg (SortSt.mk' (fq st) (bq st) (pre++(sa,na+nb,pa) :: post).toArray (gallopOf st) (qc st)) av ->
     Q true (SortSt.mk' (fq av) (wr (sa+k) out.toList 0 (bq av)) (kL av) (gallopOf av) (qc av)):=λout av hm hg=>by
    obtain⟨g,rfl⟩:=hg;obtain⟨m1,m2,m3⟩:=yt (by lia) (by lia) NX u1 u2 lo1 K0 nI kP hm;exact h _ _ (new _ g m2 m3 (by rw[show sa+(na+nb)=sa+na+nb by exact(IX ..).symm];exact m1)) len (by simp) λk hk=>m3 k (.inr (by lia))
   have fin2:∀ out av,bU r ((bq st).extract (sa+k) (sa+na)) ((bq st).extract (sa+na) (sa+na+l)) out->Mg (SortSt.mk' (fq st) (bq st) (pre++(sa,na+nb,pa) :: post).toArray (gallopOf st) (qc st)) av ->
     qc av=none:=λout av _ hg=>by
    obtain⟨g,rfl⟩:=hg;exact H.failed
   by_cases z3:na-k<=l
   ·rw[if_pos z3];refine ck (qD (a:=(bq st).extract (sa+k) (sa+na)) (b:=(bq st).extract (sa+na) (sa+na+l)) C H.kind (sP.extract _ _) (sP.extract _ _) ux uy (by lia) (by lia) h00 hgg λout av hm hg=>?_);refine ck (Ee (ck (wpS_get ?_)));have f:=fin out av hm hg;have f2:=fin2 out av hm hg;refine dk ?_;show Q (qc av).isNone _;rw[f2];exact f
   ·rw[if_neg z3];refine ck (qX (a:=(bq st).extract (sa+k) (sa+na)) (b:=(bq st).extract (sa+na) (sa+na+l)) C H.kind (sP.extract _ _) (sP.extract _ _) ux uy (by lia) (by lia) h00 hgg λout av hm hg=>?_);refine ck (Ee (ck (wpS_get ?_)));have f:=fin out av hm hg;have f2:=fin2 out av hm hg;refine dk ?_;show Q (qc av).isNone _;rw[f2];exact f
theorem Runs.modify(hf:∀ x,(f x).1=x.1/\(f x).2.1=x.2.1):∀ {ps:List (Nat × Nat × Nat)} {i a b:Nat},Runs r xs ps a b->Runs r xs (ps.modify i f) a b
 |[],_,_,_,h=>by simpa using h
 | (s,n,p) :: rest,0,a,b,h=>by obtain⟨h1,h2⟩:=hf (s,n,p);rw[List.modify_zero_cons];have e:f (s,n,p)=(s,n,(f (s,n,p)).2.2):=Prod.ext h1 (Prod.ext h2 rfl);rw[e];exact h
 | (s,n,p) :: rest,i+1,a,b,h=>by rw[List.modify_succ_cons];obtain⟨h1,h2,h3,h4⟩:=h;exact⟨h1,h2,h3,Runs.modify hf h4⟩
theorem St.win{fR:Array bX}{st av:dz}{ps:List (Nat × Nat × Nat)}{lo hi:Nat}(H:St r κ fR st ps lo)(hw:nE lo hi st av):St r κ fR av ps lo :=
 ⟨hw.kind.trans H.kind,hw.failed.trans H.failed,hw.perm.trans H.perm,hw.pend.trans H.pend,H.runs.congr λk _ hk=>hw.out k (.inl hk)⟩
theorem wpS_sortRuns{st:dz}{Q:Unit->dz->Prop}(C:ny prog w A s κ r P)(hk:fq st=κ)(hP:AllP P (bq st))(hp:kL st = #[])(hf:qc st=none)(h:∀ av,(bq av).Perm (bq st)->qc av=none->Up r (bq av) 0 (bq st).size->Q () av):wpS (aE prog w) A E s sortRuns' Q st:=by
 rw[sortRuns'_eq];refine ck (wpS_get ?_);dsimp only;generalize ha:bq st=fR at *
 have H0:St r κ fR st [] 0:=⟨hk,hf,by rw[ha],by rw[hp],rfl⟩
 refine ck (tN (qS (I:=λx c av=>∃ ps lo,c=(none,lo)/\St r κ fR av ps lo/\lo<=fR.size/\x<=lo) (Q:=λc av=>∃ ps,c=(none,fR.size)/\St r κ fR av ps fR.size) ?step ?fin ⟨[],0,rfl,H0,fz _,cx _⟩) ?post)
 case fin =>
  rintro c av ⟨ps,lo,rfl,H,h1,h2⟩;have:lo=fR.size:=by lia
  subst this;exact⟨ps,rfl,H⟩
 case post =>
  rintro c av ⟨ps,rfl,H⟩;dsimp only;have l0:=H.runs.le;refine ck (tN (qS (I:=λy c av=>c=(none,())/\∃ jv,St r κ fR av jv fR.size/\jv.length+y<=fR.size) (Q:=λc av=>c=(none,())/\∃ jv,St r κ fR av jv fR.size/\jv.length<=1) ?gv' ?Sw ⟨rfl,ps,H,by lia⟩) ?gw')
  case Sw =>
   rintro c av ⟨rfl,jv,H',hl⟩;exact⟨rfl,jv,H',by lia⟩
  case gw' =>
   rintro c av ⟨rfl,jv,H',hl⟩;refine dk (h av H'.perm H'.failed ?_);have q:=H'.runs
   match jv,hl,q with
   |[],_,q =>have q:0=fR.size:=q;intro i j _ _ hj;lia
   |[(s',n',p')],_,q =>obtain⟨rfl,_,hu,e⟩:=q;have e:0+n'=fR.size:=e;rw[<- e];exact hu
  case gv' =>
   rintro y c EW _ hy ⟨rfl,jv,H',hl⟩;refine ck (wpS_get ?_);have ep:(kL EW).size=jv.length:=by rw[H'.pend];simp
   by_cases z:(kL EW).size<=1
   ·rw[if_pos z];exact dk ⟨rfl,jv,H',by lia⟩
   ·rw[if_neg z];refine ck (jt C hP H' (cx _) (by(repeat' split)<;>lia) λAu ps2 H2 hlen _ _=>?_);rw[if_neg (by simp)];exact dk ⟨rfl,ps2,H2,by lia⟩
 case step =>
  rintro x c EW _ hx ⟨ps,lo,rfl,H,h1,h2⟩;dsimp only;by_cases z:lo >= fR.size
  ·rw[if_pos z];have:lo=fR.size:=by lia
   subst this;exact dk ⟨ps,rfl,H⟩
  ·rw[if_neg z];have hz:=H.size;refine ck (wpS_countRun C H.kind (hP.perm H.perm) (by lia) (by lia) λm Au hw wo i6 hu=>?_);have H2:=H.win hw;dsimp only;refine D_ (K:=?K) ?pk λkey=>?main;case main =>
    by_cases z2:m<minRun' fR.size fR.size 0
    ·rw[if_pos z2];walk_at"u";refine ck (wpS_binarySort C H2.kind (hP.perm H2.perm) (by clear key;have:=H2.size;lia) (by clear key;lia) hu λAA hw3 Vs=>?_);have H3:=H2.win hw3;rw[if_neg (by simp)];have b1:1<=min (fR.size-lo) (minRun' fR.size fR.size 0):=by clear key;lia
     have b2:lo+min (fR.size-lo) (minRun' fR.size fR.size 0)<=fR.size:=by clear key;lia
     clear hw3;generalize min (fR.size-lo) (minRun' fR.size fR.size 0)=nn at *
     revert nn AA;exact key
    ·rw[if_neg z2];exact key _ H2 _ hu wo (by lia)
   intro AA H3 nn Vs b1 b2;refine ck (wpS_get ?_);have push:∀ (av:dz) (jv:List (Nat × Nat × Nat)),St r κ fR av jv lo->Up r (bq av) lo (lo+nn)->∃ ps KG,((none:Option Unit),lo+nn)=(none,KG)/\St r κ fR (setPending av ((kL av).push (lo,nn,0))) ps KG/\KG<=fR.size/\x+1<=KG:=λav jv G u =>
    ⟨jv++[(lo,nn,0)],lo+nn,rfl,⟨G.kind,G.failed,G.perm,by show(kL av).push _=_;rw[G.pend];simp,Runs.append.mpr ⟨lo,G.runs,rfl,b1,u,rfl⟩⟩,b2,by lia⟩
   cases hb:(kL AA).back? with
   |none =>dsimp only;exact ck (Ee (dk (push AA ps H3 Vs)))
   |some t =>
    obtain⟨s1,n1,p1⟩:=t;dsimp only;generalize power' fR.size (2*s1+n1) (2*s1+n1+n1+nn) fR.size=pw;refine ck (tN (qS (I:=λy c av=>c=(none,())/\∃ jv,St r κ fR av jv lo/\Up r (bq av) lo (lo+nn)) (Q:=λc av=>c=(none,())/\∃ jv,St r κ fR av jv lo/\Up r (bq av) lo (lo+nn)) ?_ (λ_ _ q=>q) ⟨rfl,ps,H3,Vs⟩) ?_)
    ·rintro y c yn _ hy ⟨rfl,jv,H4,P1⟩;refine ck (wpS_get ?_);have ep:(kL yn).size=jv.length:=by rw[H4.pend];simp
     by_cases z3:(kL yn).size>1
     ·rw[if_pos z3];have e4:(kL yn)[(kL yn).size-2]? = some ((kL yn)[(kL yn).size-2]'(by lia)):=getElem?_pos _ _ (by lia);rw[e4];generalize (kL yn)[(kL yn).size-2]'(by lia)=tt;obtain⟨t1,t2,gx'⟩:=tt;dsimp only;by_cases z4:gx'<=pw
      ·rw[if_pos z4];exact dk ⟨rfl,jv,H4,P1⟩
      ·rw[if_neg z4];refine ck (jt C hP H4 h1 (by lia) λJJ ps5 H5 hlen _ ll=>?_);rw[if_neg (by simp)];exact dk ⟨rfl,ps5,H5,P1.congr λk hk _=>ll k hk⟩
     ·rw[if_neg z3];exact dk ⟨rfl,jv,H4,P1⟩
    ·rintro c yn ⟨rfl,jv,H4,P1⟩;dsimp only;refine ck (Ee (ck (Ee (dk ?_))));refine push _ (jv.modify (jv.length-1) λx=>(x.1,x.2.1,pw)) ⟨H4.kind,H4.failed,H4.perm,?_,Runs.modify (f:=λx=>(x.1,x.2.1,pw)) (λ_=>⟨rfl,rfl⟩) H4.runs⟩ P1;show(kL yn).modify ((kL yn).size-1) (λx=>(x.1,x.2.1,pw))=_;rw[H4.pend];simp
def cM (h:dy) (a:ag) (vs:List ae):dy:=((h.update a (Obj.mapSeq λ_=>#[])).push (mP "tuple" vs.toArray 0)).push (mP "list" #[] 0)
theorem fW(hb:b≠a)(d5:b<h.objs.size):(cM h a vs).get? b=h.get? b:=by
 unfold cM;rw[MD _ _ _ (by rw[EA,IJ];exact gi (vF d5)),
  MD _ _ _ (by rw[IJ];exact gi d5),T8 _ _ _ _ hb]
theorem qH(hp:xs.Perm (pairsOf vs))(hs:Up r xs 0 vs.length):(xs.map (·.2)).toList.Perm vs/\(xs.map (·.2)).toList.Pairwise λx y=>r x<=r y:=by
 have hl:xs.toList.Perm (vs.zip vs):=by rw[<- pairsOf_toList];exact Ub.mp hp
 have P4:∀ p,p∈xs.toList->p.1=p.2:=λp iN=>(mem_zip_self (hl.mem_iff.mp iN)).1;have e:(xs.map (·.2)).toList=xs.toList.map (·.1):=by rw[Array.toList_map];exact IE λp iN=>(P4 p iN).symm
 have hsz:xs.size=vs.length:=by rw[hp.size_eq,pairsOf_size]
 rw[e];refine⟨?_,?_⟩
 ·have h1:=hl.map (·.1);rwa[IH (cx _)] at h1
 ·rw[D3];intro i j hi hj kQ;have iP:i<xs.size:=by simpa using hi
  have rh:j<xs.size:=by simpa using hj
  have h1:=hs i j (fz _) (oI kQ) (by lia);rw[Hh iP,Hh rh] at h1;simpa using h1
theorem d8 {F:PySem.Fin->ay->Prop} (ho:s.heap.get? a=some (mP "list" vs.toArray n)) (hsz:vs.length<=bS) (hP:∀ v∈vs,P v)(hk:2<=vs.length->∀ (Q:qa->ay->Prop),Q κ { s with heap:=cM s.heap a vs }->aI (aE prog w) A (keyKind' vs.toArray) Q E { s with heap:=cM s.heap a vs }) (C:2<=vs.length->ny prog w A { s with heap:=cM s.heap a vs } κ r P) (h:∀ out:Array ae,out.toList.Perm vs->(out.toList.Pairwise λx y=>r x<=r y)->F (.done (.ret .none)) { s with heap:=sortedHeap s.heap a vs out }) :
  aI (aE prog w) A (Builtin.«list.sort» ⟨[.ref a],[]⟩) F E s:=by
 rw[list_sort_plain];have ha:a<s.heap.objs.size:=fh ho;refine aw (listItems_at ho rfl ?_);refine aw (listUpdate_at ho rfl ?_ (by simpa using hsz) (fz _));obtain⟨e1,wq⟩:∃ e1,(s.heap.update a (Obj.mapSeq λ_=>#[])).get? a=some (mP "list" #[] e1):=⟨_,get?_update_seq ho (λ_=>#[])⟩
 refine aw (seqEpoch_at wq rfl ?_);refine aw (wpAny_newTuple ?_ (by simpa using hsz));refine aw (wpAny_newList ?_ (fz _));refine tJ ?_;have Sx:(cM s.heap a vs).get? a=some (mP "list" #[] e1):=by unfold cM;rw[MD _ _ _ (by rw[EA,IJ];exact gi (vF ha)),MD _ _ _ (by rw[IJ];exact gi ha)];exact wq
 show aI (aE prog w) A _ F E { s with heap:=cM s.heap a vs };dsimp only;have hvz:vs.toArray.size=vs.length:=by simp
 have fin:∀ av:dz,(bq av).Perm (pairsOf vs)->Up r (bq av) 0 vs.length->F (.done (.ret .none)) { s with heap:=sortedHeap s.heap a vs ((bq av).map (·.2)) }:=by intro av hp hs;obtain⟨h1,h2⟩:=qH hp hs;exact h _ h1 h2
 by_cases h2:vs.toArray.size<2
 ·rw[if_pos h2,if_pos h2];refine aw (bI ?_);rw[StateT.run_pure];refine aw (bI ?_);dsimp only;refine aw (seqEpoch_at Sx rfl ?_);refine aw (listUpdate_at Sx rfl ?_ (fz _) (by rw[Array.size_map];show(pairsOf vs).size<=_;rw[pairsOf_size];lia));simp only[bne_self_eq_false,js,if_false];refine bI (fin (SortSt.mk' general' (vs.toArray.zip vs.toArray) #[] 7 none) (Array.Perm.refl _) ?_);intro i j _ kQ hj;have:i=j:=by lia
  subst this;exact sL _
 ·rw[if_neg h2,if_neg h2];refine aw (hk (by lia) _ ?_);refine aw (vx (wpS_sortRuns (st:=SortSt.mk' κ (vs.toArray.zip vs.toArray) #[] 7 none) (Q:=λ_ av=>(bq av).Perm (pairsOf vs)/\qc av=none/\Up r (bq av) 0 vs.length) (C (by lia)) rfl (λp hp=>?_) rfl rfl λav a1 a2 a3=>⟨a1,a2,?_⟩) ?_ λ_ _ e=>e)
  ·have iN:p∈(pairsOf vs).toList:=hp;rw[pairsOf_toList] at iN;exact hP _ (mem_zip_self iN).2
  ·have e:(bq (SortSt.mk' κ (vs.toArray.zip vs.toArray) #[] 7 none)).size=vs.length:=pairsOf_size vs;rw[e] at a3;exact a3
  ·rintro⟨⟨⟩,av⟩ s' ⟨rfl,hp,hf,hs⟩;dsimp only;refine aw (seqEpoch_at Sx rfl ?_);refine aw (listUpdate_at Sx rfl ?_ (fz _) (by refine iX (IY ((Array.size_map ..).trans (hp.size_eq.trans (pairsOf_size _)))) ?_;lia));rw[hf];simp only[bne_self_eq_false,js,if_false];exact bI (fin av hp hs)
def fU (h:dy) (vs:List ae):dy:=((h.push (mP "list" #[] 0)).update h.objs.size (Obj.mapSeq (· ++ vs.toArray))).push (mP "list" vs.toArray 0)
theorem jD(hb:h.get? b=some o):(cM (fU h vs) (h.objs.size+1) vs).get? b=some o:=by
 have d5:b<h.objs.size:=fh hb;have e:(fU h vs).get? b=some o:=by unfold fU;rw[MD _ _ _ (by rw[IJ,EA];exact gi (vF d5)),T8 _ _ _ _ (gi d5),MD _ _ _ (gi d5)];exact hb
 rw[fW (gi (vF d5)) (fh e)];exact e
theorem wJ(hl:s.heap.IsList l vs.toArray)(hsz:vs.length<=bS)(hP:∀ v∈vs,P v)(hk:2<=vs.length->∀ (A':fm) (E':ae->ay->Prop) (s':ay),(∀ b o,s.heap.get? b=some o->s'.heap.get? b=some o)->∀ (Q:qa->ay->Prop),Q κ s'->aI (aE prog w) A' (keyKind' vs.toArray) Q E' s')(C:2<=vs.length->∀ (s':ay),(∀ b o,s.heap.get? b=some o->s'.heap.get? b=some o)->ny prog w A.in1.in1 s' κ r P)(h:∀ (h':dy) (out:List ae) (n:Nat),out.Perm vs->(out.Pairwise λx y=>r x<=r y)->(∀ b o,s.heap.get? b=some o->h'.get? b=some o)->h'.get? (s.heap.objs.size+1)=some (mP "list" out.toArray n)->Q (.ref (s.heap.objs.size+1)) { s with heap:=h' }) :
  aI (aE prog w) A (call (.builtin "sorted") [.ref l]) Q E s:=by
 walk_at"p";unfold Builtin.«sorted»;refine aw (m:=checkCount "sorted" 1 1 _) (bI ?_);refine aw (collect_list hl ?_ hsz);refine aw (wpAny_newList ?_ (by simpa using hsz));have aA':((s.heap.push (mP "list" #[] 0)).update s.heap.objs.size (Obj.mapSeq (· ++ vs.toArray))).objs.size=s.heap.objs.size+1:=by rw[IJ,EA]
 have An:(fU s.heap vs).get? (s.heap.objs.size+1)=some (mP "list" vs.toArray 0):=by unfold fU;rw[<- aA'];exact kK _ rfl
 show aI _ _ _ _ _ { s with heap:=fU s.heap vs };rw[aA'];refine aw (tJ (B1 slot_list_sort ⟨_,An,rfl⟩ entry_list_sort (d8 (r:=r) (s:={ s with heap:=fU s.heap vs }) An hsz hP (λh2=>hk h2 _ _ _ λb o e=>jD e) (λh2=>?_) λout a1 a2=>⟨_,rfl,?_⟩) (args_list_sort _)))
 ·exact C h2 _ λb o e=>jD e
 ·obtain⟨n,e⟩:=sortedAll_at s.heap vs out;refine bI ⟨_,rfl,h (sortedAll s.heap vs out) out.toList n a1 a2 (λb o e=>sortedAll_old e) (by rw[O5];exact e)⟩
end
end ve
namespace L2
open PySem PySem.Spec PyProof.Rows
def nK:Key->Key->Bool
 |.inl i,.inl j=>decide (i<j)
 |.inr x,.inr y=>qV x y
 |_,_=>false
def gX:List Key->List Key->Bool
 |a :: as,b :: bs=>if a=b then gX as bs else nK a b
 |_,_=>false
def mE:Key->Bool
 |.inl _=>true
 |.inr _=>false
def iq(k:List Key):List Bool:=k.map mE
theorem vM(x:Str):qV x x=false:=by unfold qV;simp[List.lt_irrefl]
theorem BR(h:qV x y=true)(g:qV y z=true):qV x z=true:=by
 unfold qV at *
 simp only[decide_eq_true_eq] at *
 exact List.lt_trans h g
theorem yl{x y:Str}(h:x.cps.toList=y.cps.toList):x=y:=by cases x;cases y;simp only at h;rw[Rw.mp h]
theorem xW{x y:Str}(h:qV x y=false)(g:qV y x=false):x=y:=by
 unfold qV at *
 simp only[decide_eq_false_iff_not] at *
 apply yl;exact List.le_antisymm (List.not_lt.mp g) (List.not_lt.mp h)
theorem xX(a:Key):nK a a=false:=by cases a with|inl i=>simp[nK]|inr x=>exact vM x
theorem Hx(h:nK a b=true)(g:nK b c=true):nK a c=true:=by cases a<;>cases b<;>cases c<;>simp only[nK,decide_eq_true_eq] at *<;>first|lia|contradiction|exact BR h g
theorem Ed(e:mE a=mE b)(h:nK a b=false)(g:nK b a=false):a=b:=by
 cases a<;>cases b<;>simp only[nK,mE,decide_eq_false_iff_not] at *
 ·congr 1;lia
 ·cases e
 ·cases e
 ·congr 1;exact xW h g
theorem jL:∀ a:List Key,gX a a=false
 |[]=>rfl
 |a :: as=>by unfold gX;rw[if_pos rfl];exact jL as
theorem qy:∀ {a b c:List Key},gX a b=true->gX b c=true->gX a c=true
 |[],_,_,h,_=>by simp[gX] at h
 |_ :: _,[],_,h,_=>by simp[gX] at h
 |_ :: _,_ :: _,[],_,g=>by simp[gX] at g
 |a :: as,b :: bs,c :: cs,h,g=>by
  unfold gX at h g ⊢;by_cases e1:a=b
  ·subst e1;rw[if_pos rfl] at h;by_cases e2:a=c
   ·subst e2;rw[if_pos rfl] at g ⊢;exact qy h g
   ·rw[if_neg e2] at g ⊢;exact g
  ·rw[if_neg e1] at h;by_cases e2:b=c
   ·subst e2;rw[if_neg e1];exact h
   ·rw[if_neg e2] at g;have t:=Hx h g;have ne:a≠c:=λe=>by subst e;rw[xX] at t;cases t
    rw[if_neg ne];exact t
theorem gU:∀ {a b:List Key},iq a=iq b->gX a b=false->gX b a=false->a=b
 |[],[],_,_,_=>rfl
 |[],_ :: _,e,_,_=>by simp[iq] at e
 |_ :: _,[],e,_,_=>by simp[iq] at e
 |a :: as,b :: bs,e,h,g=>by
  simp only[iq,gE,List.cons.injEq] at e;unfold gX at h g;by_cases e1:a=b
  ·subst e1;rw[if_pos rfl] at h g;rw[gU (show iq as=iq bs from e.2) h g]
  ·rw[if_neg e1] at h;rw[if_neg (Ne.symm e1)] at g;exact absurd (Ed e.1 h g) e1
theorem count_le{α:Type}(p q:α->Bool):∀ (l:List α),(∀ x∈l,p x=true->q x=true)->l.countP p<=l.countP q
 |[],_=>cx _
 |x :: l,h=>by have ih:=count_le p q l λy hy=>h y (df _ hy);have h1:=h x cE;rw[Rh,Rh];cases hp:p x<;>cases hq:q x<;>simp_all<;>exact T_ ‹_›
theorem mC{α:Type}(p q:α->Bool)(a:α)(ha:p a=false)(hb:q a=true):∀ (l:List α),a∈l->(∀ x∈l,p x=true->q x=true)->l.countP p<l.countP q
 |[],m,_=>by cases m
 |x :: l,m,h=>by
  rw[Rh,Rh];rcases eK.mp m with rfl|m
  ·have:=count_le p q l λy hy=>h y (df _ hy);rw[ha,hb];simp;exact Fu ‹_›
  ·have ih:=mC p q a ha hb l m λy hy=>h y (df _ hy);have h1:=h x cE;cases hp:p x<;>cases hq:q x<;>simp_all<;>exact vF ‹_›
def yy(L:List (List Key))(k:List Key):Int:=(L.countP λj=>gX j k:Nat)
theorem lR(e:iq a=iq b)(ma:a∈L):decide (yy L a<yy L b)=gX a b:=by
 unfold yy
 cases h:gX a b with
 |true =>have:=mC (λj=>gX j a) (λj=>gX j b) a (jL a) h L ma λx _ hx=>qy hx h;exact decide_eq_true (by lia)
 |false =>
  apply decide_eq_false
  cases g:gX b a with
  |false=>rw[gU e h g];lia
  |true =>have:=count_le (λj=>gX j b) (λj=>gX j a) L λx _ hx=>qy hx g;lia
def Vt:V->Option Key
 |.int i=>some (.inl i)
 |.str x=>some (.inr x)
 |_=>none
theorem J3(k:Key):Vt (kV k)=some k:=by cases k<;>rfl
theorem B_:∀ k:List Key,(k.map kV).filterMap Vt=k
 |[]=>rfl
 |a :: as=>by rw[gE,OV,J3,B_ as]
def k_(H:Hp):ae->List Key
 |.ref b=>match H b with
  |some (.tup xs)=>xs.filterMap Vt
  |_=>[]
 |_=>[]
theorem b7(h:H b=some (.tup (k.map kV))):k_ H (.ref b)=k:=by simp only[k_,h];exact B_ k
section
variable {prog:d4}{w:eB}{A:fm}{E:ae->ay->Prop}{s:ay}{Q:Bool->ay->Prop}
theorem Gk(ru:RelV (kV a) u)(rv:RelV (kV b) v)(e:mE a=mE b)(q:Q (nK a b) s):aI (aE prog w) A (oneLt' false u v) Q E s:=by
 refine PySem.W.kat_one u v ?_
 cases a with
 |inl i =>
  cases b with
  |inr x=>cases e
  |inl j =>obtain⟨t,rfl⟩:=ru;obtain⟨t',rfl⟩:=rv;exact lt_int q
 |inr x =>
  cases b with
  |inl j=>cases e
  |inr y =>obtain⟨t,rfl⟩:=ru;obtain⟨t',rfl⟩:=rv;exact PySem.P.lt_str q
theorem Ht(ru:RelV (kV a) u)(rv:RelV (kV b) v)(e:mE a=mE b)(q:Q (decide (a=b)) s):aI (aE prog w) A (eqBool u v) Q E s:=by
 cases a with
 |inl i =>
  cases b with
  |inr x=>cases e
  |inl j =>obtain⟨t,rfl⟩:=ru;obtain⟨t',rfl⟩:=rv;refine wpAny_eqBool_int ?_;rw[<- Wy];exact q
 |inr x =>
  cases b with
  |inl j=>cases e
  |inr y =>obtain⟨t,rfl⟩:=ru;obtain⟨t',rfl⟩:=rv;refine wpAny_eqBool_str ?_;rw[<- Wz];exact q
theorem A_(k m:List Key)(us vs:List ae)(i:Nat)(ha:Vals (k.map kV) us)(hb:Vals (m.map kV) vs)(e:iq k=iq m)(hf:fin=false)(q:Q (gX k m) s) :
  PySem.W.KatLex prog w A true fin Q (us.zip vs) i s:=by
 induction k generalizing m us vs i with
 |nil =>
  cases m with
  |cons b m=>simp[iq] at e
  |nil =>rw[Paired.n0 ha,Paired.n0 hb];subst hf;exact PySem.W.kat_nil q
 |cons a k ih =>
  cases m with
  |nil=>simp[iq] at e
  |cons b m =>
   obtain⟨u,us,rfl,ra,rk⟩:=Paired.c ha;obtain⟨v,vs,rfl,rb,rm⟩:=Paired.c hb;simp only[iq,gE,List.cons.injEq] at e;rw[D6];refine PySem.W.kat_cons (Ht ra rb e.1 (PySem.W.kat_go (λh=>PySem.W.kat_yes ?_) (λh=>PySem.W.kat_no ?_)))
   ·have h:=of_decide_eq_true h;subst h;unfold gX at q;rw[if_pos rfl] at q;exact ih m _ _ (i+1) rk rm e.2 q
   ·have h:=of_decide_eq_false h;unfold gX at q;rw[if_neg h] at q;by_cases h0:i=0
    ·subst h0
     cases a with
     |inr x =>
      cases b with
      |inl j=>cases e.1
      |inr y =>obtain⟨t,rfl⟩:=ra;obtain⟨t',rfl⟩:=rb;exact oneLt_str q
     |inl i =>
      cases b with
      |inr x=>cases e.1
      |inl j =>obtain⟨t,rfl⟩:=ra;obtain⟨t',rfl⟩:=rb;exact oneLt_int q
    ·rw[show(true && i == 0)=false by simp[h0]];exact Gk ra rb e.1 q
end
section
variable {X:Cx}{pins:List (ag × Obj)}{σ:St}{H:Hp}{s:ay}
theorem Inv.tup(I:Inv X pins σ H s)(h:H b=some (.tup xs)):∃ its:List ae,Vals xs its/\IsTup s.heap b its.toArray:=(I.b6 b _ h).2
theorem sU(I:Inv X pins σ H s)(kp:∀ b o,s.heap.get? b=some o->s'.heap.get? b=some o) :
  ve.ny X.prog X.w A s' (tuples' true) (λv=>yy L (k_ H v)) (λv=>∃ b k,v=.ref b/\H b=some (.tup (k.map kV))/\iq k=b0 :: sh/\k∈L):=by
 rintro x y ⟨b,k,rfl,hb,hk,mk⟩ ⟨c,m,rfl,hc,hm,mm⟩ Q E q;obtain⟨us,ru,o,e1,c1,n1,d1⟩:=I.tup hb;obtain⟨vs,rv,o',e2,c2,n2,d2⟩:=I.tup hc;have Vu:iq k=iq m:=hk.trans hm.symm;simp only[b7 hb,b7 hc] at q;rw[lR Vu mk] at q;refine PySem.W.kat_lt (kp _ _ e1) d1 (kp _ _ e2) d2 (A_ k m us vs 0 ru rv Vu ?_ q)
 ·have h1:=ru.length;have h2:=rv.length;have h3:k.length=m.length:=by have:=congrArg List.length Vu;simpa[iq] using this
  simp only[b5] at h1 h2;exact decide_eq_false (by simp only[kA];lia)
theorem kat_tups(I:Inv X pins σ H s){s':ay}(kp:∀ b o,s.heap.get? b=some o->s'.heap.get? b=some o){b0:Bool}{sh:List Bool}{ys:List V}{ks:List (List Key)}{vs:List ae}(ht:bR H ys ks)(hv:Vals ys vs)(hs:∀ k∈ks,iq k=b0 :: sh) :
  ∃ fs:List ae,PySem.W.KatTups s'.heap vs fs/\fs.length=vs.length/\∀ f∈fs,(b0=true->∃ i t,f=Value.int i t)/\(b0=false->∃ x t,f=Value.str x t):=by
 induction ys generalizing ks vs with
 |nil =>rw[Paired.n0 hv];exact⟨[],.nil,rfl,by simp⟩
 |cons y ys ih =>
  obtain⟨k,ks,rfl,⟨b,rfl,hb⟩,t⟩:=Paired.c ht;obtain⟨v,vs,rfl,rfl,rs⟩:=Paired.c hv;obtain⟨fs,f1,f2,f3⟩:=ih t rs λj hj=>hs j (df _ hj);have hk:=hs k cE;obtain⟨us,ru,o,e1,c1,n1,d1⟩:=I.tup hb
  cases k with
  |nil=>simp[iq] at hk
  |cons a k =>
   obtain⟨u,us,rfl,ra,rr⟩:=Paired.c ru;simp only[iq,gE,List.cons.injEq] at hk;refine⟨u :: fs,.cons (kp _ _ e1) c1 d1 rfl f1,by simp[f2],λf hf=>?_⟩;rcases eK.mp hf with rfl|hf
   ·cases a with
    |inr x =>obtain⟨tk,rfl⟩:=ra;exact⟨(λz=>by rw[<- hk.1] at z;cases z),λ_=>⟨_,_,rfl⟩⟩
    |inl i =>obtain⟨tk,rfl⟩:=ra;exact⟨λ_=>⟨_,_,rfl⟩,λz=>by rw[<- hk.1] at z;cases z⟩
   ·exact f3 f hf
end
theorem bR.keys(h:bR H ys ks)(hv:Vals ys vs):vs.map (k_ H)=ks/\∀ v∈vs,∃ b k,v=.ref b/\H b=some (.tup (k.map kV))/\k∈ks:=by
 induction ys generalizing ks vs with
 |nil=>rw[Paired.n0 hv,show ks=[] from Paired.n0 h];exact⟨rfl,by simp⟩
 |cons y ys ih =>
  obtain⟨k,ks,rfl,⟨b,rfl,g⟩,t⟩:=Paired.c h;obtain⟨v,vs,rfl,rfl,rs⟩:=Paired.c hv;obtain⟨e,m⟩:=ih t rs;refine⟨by rw[gE,b7 g,e],λv hv=>?_⟩;rcases eK.mp hv with rfl|hv
  ·exact⟨b,k,rfl,g,cE⟩
  ·obtain⟨b',k',e1,e2,e3⟩:=m v hv;exact⟨b',k',e1,e2,df _ e3⟩
theorem bR.of{H:Hp}{ks:List (List Key)}(vs:List ae)(h:∀ v∈vs,∃ b k,v=Value.ref b/\H b=some (.tup (k.map kV))/\k∈ks):∃ zs,bR H zs (vs.map (k_ H))/\Vals zs vs:=by
 induction vs with
 |nil=>exact⟨[],.nil,.nil⟩
 |cons v vs ih =>obtain⟨zs,a,c⟩:=ih λu hu=>h u (df _ hu);obtain⟨b,k,rfl,e,_⟩:=h v cE;exact⟨.ref b :: zs,.cons ⟨b,rfl,by rw[b7 e];exact e⟩ a,.cons rfl c⟩
end L2
namespace ve
open PySem PyProof.Rows
section
variable {prog:d4}{w:eB}{A:fm}{E:ae->ay->Prop}{s:ay}{κ:qa}{r:ae->Int}{P:ae->Prop}
theorem pR{T:String}{r d:ag}{n:Nat}{P:Nat->ae->Prop}{OK:dy->Prop}{R:Result->ay->Prop}(K:PySem.W.KdlSrc prog w T r d n P OK)(hh:A.handled=none)(b6:OK s.heap)(hn:n<=bS)(hR:∀ h' tk acc c,(∀ b o,s.heap.get? b=some o->h'.get? b=some o)->h'.get? s.heap.objs.size=some { cls:=.type "list",data:=.seq acc c }->ItemsOf P acc n->R (.ok (.ret (.ref s.heap.objs.size))) { s with heap:=h',toks:=tk }) :
  codeAny (aE prog w) A (.builtin "proto.collect" ⟨[.ref r],[]⟩) R s:=by
 have hth:=K.there _ b6;walk_at"r";refine B3 F.entry_proto_collect ?_;rw[Around.under_plainId F.plain_proto_collect _];show aI _ A.in1 (newList [] >>= λl=>again (.builtin "list.__iadd__" ⟨[l,.ref r],[]⟩)) _ _ s;refine aw (sC ?_);refine bI ⟨Fc F.plain_list_iadd _,B3 F.entry_list_iadd ?_⟩;rw[Around.under_plainId F.plain_list_iadd _];show aI _ A.in1 (Builtin.List.listExtendWith (.ref s.heap.objs.size) (.ref r) (.ref s.heap.objs.size)) _ _ _;exact PySem.W.kdl_extend (R:=R) (s:={ s with heap:=s.heap.push { cls:=.type "list",data:=.seq ([]:List ae).toArray } }) K hh (K.keep _ _ b6 λb _ o e=>gd _ e) s.heap.objs.size (ML hth.1) (ML hth.2) _ 0 hS (λh' tk Bn c' kp eo ia=>hR h' tk Bn c' (λb o e=>kp b o (gi (fh e)) (gd _ e)) eo ia) hn
theorem jw{T:String}{r d:ag}{n:Nat}{P:Nat->ae->Prop}{OK:dy->Prop}{Q:List ae->ay->Prop}(K:PySem.W.KdlSrc prog w T r d n P OK)(hh:A.handled=none)(b6:OK s.heap)(hn:n<=bS)(hQ:∀ h' tk acc,(∀ b o,s.heap.get? b=some o->h'.get? b=some o)->s.heap.objs.size<=h'.objs.size->ItemsOf P acc n->Q acc.toList { s with heap:=h',toks:=tk }):aI (aE prog w) A (collect (.ref r)) Q E s:=by
 unfold collect;refine aw (wpAny_runValue (pR K hh b6 hn λh' tk acc c kp eo ia=>?_));show aI _ A (load s.heap.objs.size >>= _) _ _ { s with heap:=h',toks:=tk };refine aw (wpAny_load eo ?_);exact bI (hQ h' tk acc kp (oI (fh eo)) ia)
theorem lC{R:List ae->Prop}(Vv:∀ (A':fm) (E':ae->ay->Prop) (Q':List ae->ay->Prop),A'.handled=A.handled->(∀ vs h1 tk,R vs->(∀ b o,s.heap.get? b=some o->h1.get? b=some o)->s.heap.objs.size<=h1.objs.size->Q' vs { s with heap:=h1,toks:=tk })->aI (aE prog w) A' (collect v) Q' E' s) (hsz:∀ vs,R vs->vs.length<=bS) (hP:∀ vs,R vs->∀ v∈vs,P v) (hk:∀ vs,R vs->2<=vs.length->∀ (A':fm) (E':ae->ay->Prop) (s':ay),(∀ b o,s.heap.get? b=some o->s'.heap.get? b=some o)->∀ (Q:qa->ay->Prop),Q κ s'->aI (aE prog w) A' (keyKind' vs.toArray) Q E' s') (C:∀ (s':ay),(∀ b o,s.heap.get? b=some o->s'.heap.get? b=some o)->ny prog w A.in1.in1 s' κ r P) (h:∀ (vs:List ae) (h':dy) (a:ag) (out:List ae) (n tk:Nat),R vs->out.Perm vs->(out.Pairwise λx y=>r x<=r y)->(∀ b o,s.heap.get? b=some o->h'.get? b=some o)->s.heap.objs.size<=a->h'.get? a=some (mP "list" out.toArray n)->Q (.ref a) { s with heap:=h',toks:=tk }) :
  aI (aE prog w) A (call (.builtin "sorted") [v]) Q E s:=by
 walk_at"p";unfold Builtin.«sorted»;refine aw (m:=checkCount "sorted" 1 1 _) (bI ?_);refine aw (Vv _ _ _ rfl λvs h1 tk hR kp hz=>?_);have yA:=hsz vs hR;refine aw (wpAny_newList ?_ (by simpa using yA));have An:(h1.push (mP "list" vs.toArray 0)).get? h1.objs.size=some (mP "list" vs.toArray 0):=kK _ rfl;have old:∀ b o,s.heap.get? b=some o->(cM (h1.push (mP "list" vs.toArray 0)) h1.objs.size vs).get? b=some o:=λb o e=>by have d5:b<h1.objs.size:=fh (kp b o e);rw[fW (gi d5) (by rw[EA];exact vF d5)];exact gd _ (kp b o e)
 show aI _ _ _ _ _ { s with heap:=h1.push (mP "list" vs.toArray 0),toks:=tk };refine aw (tJ (B1 slot_list_sort ⟨_,An,rfl⟩ entry_list_sort (d8 (r:=r) (s:={ s with heap:=h1.push (mP "list" vs.toArray 0),toks:=tk }) An yA (hP vs hR) (λh2=>hk vs hR h2 _ _ _ old) (λh2=>C _ old) λout a1 a2=>⟨_,rfl,?_⟩) (args_list_sort _)))
 obtain⟨n,e⟩:=sortedHeap_at (out:=out) An;refine bI ⟨_,rfl,h vs _ h1.objs.size out.toList n tk hR a1 a2 (λb o e=>?_) hz (by rw[O5];exact e)⟩;have d5:b<h1.objs.size:=fh (kp b o e);rw[sortedHeap_old (gi d5) (by rw[EA];exact vF d5)];exact gd _ (kp b o e)
end
end ve
namespace L2
open PySem PySem.Spec PyProof.Rows
def fO:ae->List Key
 |.int i _=>[.inl i]
 |.str x _=>[.inr x]
 |_=>[]
theorem jZ(h:RelV (kV k) v):fO v=[k]:=by
 cases k with
 |inl i=>obtain⟨t,rfl⟩:=h;rfl
 |inr x=>obtain⟨t,rfl⟩:=h;rfl
theorem qR:gX [a] [b]=nK a b:=by
 unfold gX;by_cases e:a=b
 ·subst e;rw[if_pos rfl,xX];rfl
 ·rw[if_neg e]
theorem uw{prog:d4}{w:eB}{A:fm}{s:ay}{b:Bool}{L:List Key} :
  ve.ny prog w A s oneType' (λv=>yy (L.map λk=>[k]) (fO v)) (λv=>∃ k,RelV (kV k) v/\mE k=b/\k∈L):=by
 rintro x y ⟨k,rk,ik,mk⟩ ⟨m,rm,im,mm⟩ Q E q;simp only[jZ rk,jZ rm] at q;rw[lR (by simp[iq,ik,im]) (cw.mpr ⟨k,mk,rfl⟩),qR] at q;rw[keyLt'_oneType]
 cases k with
 |inl i =>
  cases m with
  |inr y=>rw[<- im] at ik;cases ik
  |inl j =>obtain⟨t,rfl⟩:=rk;obtain⟨u,rfl⟩:=rm;exact oneLt_int q
 |inr x =>
  cases m with
  |inl y=>rw[<- im] at ik;cases ik
  |inr j =>obtain⟨t,rfl⟩:=rk;obtain⟨u,rfl⟩:=rm;exact oneLt_str q
theorem ints_of{ks:List Key}{vs:List ae}(r:Vals (ks.map kV) vs)(h:∀ k∈ks,mE k=true):∃ ns,IntsAre vs ns:=by
 induction ks generalizing vs with
 |nil=>rw[Paired.n0 r];exact⟨[],.nil⟩
 |cons k ks ih =>
  obtain⟨v,vs,rfl,r,rs⟩:=Paired.c r;obtain⟨ns,q⟩:=ih rs λj hj=>h j (df _ hj);have:=h k cE
  cases k with
  |inr x=>cases this
  |inl i=>obtain⟨t,rfl⟩:=r;exact⟨_,.cons i t q⟩
theorem El{ks:List Key}{vs:List ae}(r:Vals (ks.map kV) vs)(h:∀ k∈ks,mE k=false):∃ ns,StrsAre vs ns:=by
 induction ks generalizing vs with
 |nil=>rw[Paired.n0 r];exact⟨[],.nil⟩
 |cons k ks ih =>
  obtain⟨v,vs,rfl,r,rs⟩:=Paired.c r;obtain⟨ns,q⟩:=ih rs λj hj=>h j (df _ hj);have:=h k cE
  cases k with
  |inl x=>cases this
  |inr i=>obtain⟨t,rfl⟩:=r;exact⟨_,.cons i t q⟩
theorem pJ{prog:d4}{w:eB}{A:fm}{E:ae->ay->Prop}{s:ay}{b:Bool}{ks:List Key}{vs:List ae}(r:Vals (ks.map kV) vs)(h:∀ k∈ks,mE k=b)(h2:2<=vs.length){Q:qa->ay->Prop}(q:Q oneType' s) :
  aI (aE prog w) A (keyKind' vs.toArray) Q E s:=by
 match vs,h2 with
 |v1 :: v2 :: vs,_ =>
  cases b with
  |true=>obtain⟨ns,hI⟩:=ints_of r h;rw[keyKind_ints hI];exact bI q
  |false=>obtain⟨ns,hI⟩:=El r h;rw[keyKind_strs hI];exact bI q
theorem mem_keys{ks:List Key}{vs:List ae}(r:Vals (ks.map kV) vs)(v:ae)(h:v∈vs):∃ k,RelV (kV k) v/\k∈ks:=by
 induction ks generalizing vs with
 |nil=>rw[Paired.n0 r] at h;cases h
 |cons k ks ih =>
  obtain⟨u,vs,rfl,r,rs⟩:=Paired.c r;rcases eK.mp h with rfl|h
  ·exact⟨k,r,cE⟩
  ·obtain⟨j,a,b⟩:=ih rs h;exact⟨j,a,df _ b⟩
theorem keys_map{ks:List Key}{vs:List ae}(r:Vals (ks.map kV) vs):vs.map fO=ks.map λk=>[k]:=by
 induction ks generalizing vs with
 |nil=>rw[Paired.n0 r];rfl
 |cons k ks ih =>obtain⟨u,vs,rfl,r,rs⟩:=Paired.c r;rw[gE,gE,jZ r,ih rs]
theorem jG{ks:List Key}(vs:List ae)(h:∀ v∈vs,∃ k,RelV (kV k) v/\k∈ks):∃ ms:List Key,Vals (ms.map kV) vs:=by
 induction vs with
 |nil=>exact⟨[],.nil⟩
 |cons v vs ih =>obtain⟨ms,r⟩:=ih λu hu=>h u (df _ hu);obtain⟨k,rk,_⟩:=h v cE;exact⟨k :: ms,.cons rk r⟩
theorem pM:∀ {ms ks:List Key},(ms.map λk=>[k]).Perm (ks.map λk=>[k])->ms.Perm ks:=λ{ms ks} h=>by have:=h.map (λl:List Key=>l.head?);simp only[fo] at this;have e:∀ l:List Key,l.map ((λl:List Key=>l.head?) ∘ λk=>[k])=l.map some:=λl=>IE λ_ _=>rfl;rw[e,e] at this;have:=this.filterMap id;simpa using this
section
variable {X:Cx}
def tO(K:aC):List V->Hp->VK->Prop:=λxs H Q=>match xs with
 |[.ref p]=>∃ ks b,(fw K H p (ks.map kV)\/∃ kvs,Rd H p (.dK kvs)/\ks=kvs.map (·.1))/\(∀ k∈ks,mE k=b) /\
   ∀ (ms:List Key) (l:ag),ms.Perm ks->(ms.Pairwise λa b=>nK b a=false)->H l=none->Q (.ref l) (upd H l (.lst (ms.map kV)))
 |_=>False
theorem vz (hc:X.calm=true):kC X (.builtin "sorted") (tO X.K):=by
 walk_at"f";unfold tO at h;split at h
 ·rename_i p;obtain⟨ks,b,hl,hb,q⟩:=h;obtain⟨u,rfl,ru⟩:=Vals.one r;cases ru;have hsz:ks.length<=bS:=by
   rcases hl with hl|⟨kvs,e,rfl⟩
   ·obtain⟨vs,rv,pl,hz⟩:=I.list hl;simpa using hz
   ·obtain⟨z,_⟩:=(show gL X.prog X.w H s.heap p (.dK kvs) from I.rd e)
    simpa using z
  refine ve.lC (κ:=oneType') (R:=λvs=>Vals (ks.map kV) vs) (r:=λv=>yy (ks.map λk=>[k]) (fO v)) (P:=λv=>∃ k,RelV (kV k) v/\mE k=b/\k∈ks) (λA' E' Q' hA hQ=>?_) (λvs rv=>?_) (λvs rv v hv=>?_) (λvs rv h2 A' E' s' kp Q' q'=>pJ rv hb h2 q') (λs' kp=>uw) λvs h' a out n tk rv pm pw kp ha eo=>?_
  ·rcases hl with hl|⟨kvs,e,rfl⟩
   ·obtain⟨vs,rv,pl,hz⟩:=I.list hl;refine collect_list pl.isList (hQ vs _ s.toks rv (λb o e=>?_) ?_) (by have:=rv.length;lia)
    ·rw[T8 _ _ _ _ (gi (fh e))];exact gd _ e
    ·rw[IJ,EA];exact O4 _
   ·obtain⟨z,y,vs,rel,dd⟩:=(show gL X.prog X.w H s.heap p (.dK kvs) from I.rd e)
    obtain⟨ep,da⟩:=dd.dictAt;have hlen:vs.length=kvs.length:=rel.length.symm;refine ve.jw (PySem.W.kdl_dict (knd:=iL X.prog X.w) (kvs:=vs) (ep:=ep) y) (hA.trans (I.ok.hd hc)) da (by lia) λh' tk acc kp hz u0=>hQ _ h' tk ?_ kp hz;have go:∀ {l1:List (Key × V)} {l2:List (Key × ae)} (ac:List ae),KV l1 l2->ac.length=l2.length->(∀ (i:Nat) (v:ae),ac[i]? = some v->∃ k x,l2[i]? = some (k,x)/\FE k v=true)->Vals ((l1.map (·.1)).map kV) ac:=by
     intro l1 l2 ac rl
     induction rl generalizing ac with
     |nil=>intro hl _;cases ac with
      |nil=>exact .nil
      |cons _ _=>cases hl
     |@cons p1 q1 l1 l2 r1 rs ih =>
      intro hl hi
      cases ac with
      |nil=>cases hl
      |cons v ac =>obtain⟨k,x,e1,e2⟩:=hi 0 v rfl;simp only[TQ,Option.some.injEq] at e1;subst e1;refine .cons ?_ (ih ac (by simpa using hl) λi v h=>hi (i+1) v (by simpa using h));have r11:p1.1=k:=r1.1;show RelV (kV p1.1) v;rw[r11];rcases zD e2 with⟨i,t,rfl,rfl⟩|⟨x,t,rfl,rfl⟩<;>exact⟨t,rfl⟩
    exact go acc.toList rel (by rw[xD];exact u0.1) λi v h=>u0.2 i v (by simpa using h)
  ·have:=rv.length;rw[b5] at this;lia
  ·obtain⟨k,rk,mk⟩:=mem_keys rv v hv;exact⟨k,rk,hb k mk,mk⟩
  ·obtain⟨ms,rm⟩:=jG (ks:=ks) out λv hv=>mem_keys rv v (pm.mem_iff.mp hv);have pk:ms.Perm ks:=pM (by rw[<- keys_map rm,<- keys_map rv];exact pm.map _);refine⟨.ref a,_,I.laid (a:=a) (t':=tk) kp ha (show gL X.prog X.w _ h' _ (.lst (ms.map kV)) from⟨by rw[b5,pk.length_eq];exact hsz,out,n,rm,eo⟩),rfl,q ms _ pk ?_ (I.b6.fresh ha)⟩;have P5:(out.map fO).Pairwise λx y=>yy (ks.map λk=>[k]) x<=yy (ks.map λk=>[k]) y:=kH.mpr pw;rw[keys_map rm,kH] at P5;refine P5.imp_of_mem λ{x y} mx my hle=>?_;have mx:=pk.mem_iff.mp mx;have my:=pk.mem_iff.mp my;rw[<- qR,<- lR (L:=ks.map λk=>[k]) (by simp[iq,hb x mx,hb y my]) (cw.mpr ⟨y,my,rfl⟩)];exact decide_eq_false (by lia)
 ·exact h.elim
end
def gR:HO->Prop
 |.dK _=>True
 |.dT _=>True
 |_=>False
section
variable {X:Cx}{pins:List (ag × Obj)}{σ:St}{H:Hp}{s:ay}
theorem Inv.lW(I:Inv X pins σ H s)(e:H p=some u)(nt:∀ xs,u≠.tup xs)(no:∀ y,u≠.own y)(nf:∀ o w,X.oP p≠some (.fN o w))(nb:∀ ps,X.oP p≠some (.v3 ps))(new:gL X.prog X.w (upd H p v) s.heap p v):Inv X pins σ (upd H p v) s:=by
 have ne:∀ {b:ag},H b=none->b≠p:=λh z=>by subst z;rw[e] at h;cases h
 have ht:∀ b xs,H b=some (.tup xs)->upd H p v b=some (.tup xs):=λb xs q=>by rw[cy λz=>by subst z;rw[e] at q;cases q;exact nt _ rfl];exact q
 refine⟨I.ok,I.os,I.bare,⟨I.base.keep,I.base.slot,λb o q n hx=>?_,I.base.there,λb xs q=>ht b xs (I.base.i3 b xs q),λb o w q=>?_,λb ps q=>?_⟩,I.loc,I.cell,?_,λx c q=>?_,λq hq=>?_,λb o q=>?_,I.len⟩
 ·have:=I.base.free b o q n hx;rw[cy (ne this)];exact this
 ·rw[cy λz=>by subst z;exact nf _ _ q];exact I.base.wa b o w q
 ·rw[cy λz=>by subst z;exact nb _ q];exact I.base.xS b ps q
 ·rw[cy (ne I.free)];exact I.free
 ·rw[cy (ne (I.x3 x c q))];exact I.x3 x c q
 ·obtain⟨a,b,c⟩:=I.pin q hq;exact⟨a,by rw[cy (ne b)];exact b,c⟩
 ·by_cases z:b=p
  ·subst z;rw[ft] at q;cases q;exact new
  ·rw[cy z] at q;refine(I.b6 b o q).fA (λ_ _ _ h=>h) (λc h=>?_) ht;rw[cy λz=>by subst z;rw[e] at h;cases h;exact no _ rfl];exact h
theorem Inv.HX(I:Inv X pins σ H s)(e:H p=some u)(hu:gR u):(∀ o w,X.oP p≠some (.fN o w))/\∀ ps,X.oP p≠some (.v3 ps) :=
 ⟨λo w z=>by have:=I.base.wa p o w z;rw[e] at this;cases this;exact hu,λps z=>by obtain⟨m,this⟩:=I.base.xS p ps z;rw[e] at this;cases this;exact hu⟩
theorem Inv.freeze(I:Inv X pins σ H s)(e:H p=some u)(hu:gR u)(ho:s.heap.get? p=some o):Inv X pins σ (upd H p (.fN o u)) s:=by
 obtain⟨nf,nb⟩:=I.HX e hu;refine I.lW e (λxs z=>by subst z;exact hu) (λy z=>by subst z;exact hu) nf nb ⟨ho,(I.b6 p u e).fA (λ_ _ _ h=>h) (λc h=>?_) λc xs h=>?_⟩
 ·rw[cy λz=>by subst z;rw[e] at h;cases h;exact hu];exact h
 ·rw[cy λz=>by subst z;rw[e] at h;cases h;exact hu];exact h
theorem Inv.P6(I:Inv X pins σ H s)(e:H p=some (.fN o u))(nf:∀ o w,X.oP p≠some (.fN o w))(nb:∀ ps,X.oP p≠some (.v3 ps)):Inv X pins σ (upd H p u) s:=by
 have ob:gL X.prog X.w H s.heap p (.fN o u):=I.b6 p _ e;refine I.lW e (λxs z=>nomatch z) (λy z=>nomatch z) nf nb (ob.2.fA (λ_ _ _ h=>h) (λc h=>?_) λc xs h=>?_)
 ·rw[cy λz=>by subst z;rw[e] at h;cases h];exact h
 ·rw[cy λz=>by subst z;rw[e] at h;cases h];exact h
def EX(X:Cx)(N:St->Hp->Prop):St->Hp->Prop:=λσ H=>N σ H\/∃ p u o,H p=some (.fN o u)/\(∀ o w,X.oP p≠some (.fN o w))/\(∀ ps,X.oP p≠some (.v3 ps))/\N σ (upd H p u)
def Sy(X:Cx)(N:V->Hp->Prop):V->Hp->Prop:=λv H=>N v H\/∃ p u o,H p=some (.fN o u)/\(∀ o w,X.oP p≠some (.fN o w))/\(∀ ps,X.oP p≠some (.v3 ps))/\N v (upd H p u)
theorem Cz{st:Stmt}(h:PS X st t):PS X st (λD σ H=>t { D with nx:=EX X D.nx,bk:=EX X D.bk,ct:=EX X D.ct,rt:=Sy X D.rt } σ H):=by
 intro pins s σ H D I q;refine cK (h pins s σ H _ I q) λf s1 z=>?_
 cases f with
 |next =>
  obtain⟨qh,H1,I1,n|⟨p,u,o,e,nf,nb,n⟩⟩:=z
  ·exact⟨qh,H1,I1,n⟩
  ·exact⟨qh,_,I1.P6 e nf nb,n⟩
 |cont =>
  obtain⟨qh,H1,I1,n|⟨p,u,o,e,nf,nb,n⟩⟩:=z
  ·exact⟨qh,H1,I1,n⟩
  ·exact⟨qh,_,I1.P6 e nf nb,n⟩
 |brk =>
  obtain⟨qh,H1,I1,n|⟨p,u,o,e,nf,nb,n⟩⟩:=z
  ·exact⟨qh,H1,I1,n⟩
  ·exact⟨qh,_,I1.P6 e nf nb,n⟩
 |ret v =>
  obtain⟨x1,qh,H1,I1,r1,n|⟨p,u,o,e,nf,nb,n⟩⟩:=z
  ·exact⟨x1,qh,H1,I1,r1,n⟩
  ·exact⟨x1,qh,_,I1.P6 e nf nb,r1,n⟩
end
def Lc(p:ag)(o:Obj)(ks:List V):It :=
 ⟨λi H=>i<ks.length/\∃ u,H p=some (.fN o u),λi H x H'=>H'=H/\ks[i]? = some x,λi H=>i=ks.length/\∃ u,H p=some (.fN o u)⟩
theorem xH{P:d4}{K:aC}(p it:ag)(hx:o.ExactDict)(hd:o.data=.dict es ep)(hl:es.size=ks.length)(hk:∀ (i:Nat) x,ks[i]? = some x->∃ e,es[i]? = some e/\RelV x e.key):Turn P w K tg (Lc p o ks) [it] it (λi h=>h.IsKeyIter it p i es.size ep) where
 mem:=by simp
 obj:=λi h st b hb=>by
  have e:b=it:=by simpa using hb
  subst e;obtain⟨o,e,c,d⟩:=st;exact⟨o,e,λv z=>by rw[d] at z;cases z⟩
 keep:=λi h h' st k=>st.at λo e=>k it (by simp) o e
 item:=by
  intro X hP hw hK hc i pins s σ H E I hf st hg;subst hP hw hK;obtain⟨hi,u,Vw⟩:=hg;have ob:gL X.prog X.w H s.heap p (.fN o u):=I.b6 p _ Vw;obtain⟨e,he,rk⟩:=hk i ks[i] (mw hi);obtain⟨f0,f1,f2,f3,f4,f5⟩:=hf it (by simp);have iP:i<es.size:=by lia
  have NM:es[i]=e:=by rw[AY iP] at he;exact Option.some.inj he
  refine uz st ⟨o,ob.1,hx,hd⟩ iP λh' av sb=>?_;have I1:Inv X pins σ H { s with heap:=h' }:=I.turned (t':=s.toks) (λb o hb e=>(sb.2 b hb).trans e) f0 f1 f3 f4 f5;obtain⟨o2,e2,c2,d2⟩:=id av;exact⟨_,rfl,Uz (s:={ s with heap:=h' }) e2 c2 d2 (by decide) ⟨ks[i],H,I1,by rw[NM];exact rk,⟨rfl,mw hi⟩,av,λb hb=>(hf b hb).1⟩⟩
 done:=by
  intro X hP hw hK hc i pins s σ H E I hf st hg;subst hP hw hK;obtain⟨hi,u,Vw⟩:=hg;have ob:gL X.prog X.w H s.heap p (.fN o u):=I.b6 p _ Vw;obtain⟨f0,f1,f2,f3,f4,f5⟩:=hf it (by simp);have iP:i=es.size:=by lia
  subst iP;exact tH (I.ok.hd hc) st ⟨o,ob.1,hx,hd⟩ λh' eb=>⟨rfl,I.turned (t':=s.toks) (λb o hb e=>eb b o hb e) f0 f1 f3 f4 f5⟩
 self:=λ_ _ _ _ _ st h=>wpAny_pyIter_keyiter st h
theorem uT:∀ {el:List DictEntry} {vs:List (Key × ae)},Pairs (iL prog w) el vs->∀ {kvs:List (Key × V)},KV kvs vs->el.length=kvs.length/\∀ (i:Nat) x,(kvs.map λkv=>kV kv.1)[i]? = some x->∃ e,el[i]? = some e/\RelV x e.key:=by
 intro el vs h
 induction h with
 |nil =>intro kvs r;cases r;exact⟨rfl,λi x hx=>by simp at hx⟩
 |@cons e kv es vs hk hv _ ih =>
  intro kvs r
  cases r with
  |@cons p q l1 l2 r1 rs =>
   obtain⟨a,b⟩:=ih rs;refine⟨by rw[oD,oD,a],λi x hx=>?_⟩
   cases i with
   |zero =>simp only[gE,TQ,Option.some.injEq] at hx;subst hx;refine⟨e,rfl,?_⟩;rw[r1.1];rcases zD hk with⟨i,t,e1,e2⟩|⟨x,t,e1,e2⟩<;>rw[e1,e2]<;>exact⟨t,rfl⟩
   |succ i=>exact b i x (by simpa using hx)
def lB(H:Hp)(u:HO)(ks:List V):Prop:=match u with
 |.dK kvs=>ks=kvs.map λkv=>kV kv.1
 |.dT kvs=>bR H ks (kvs.map (·.1))
 |_=>False
def JG(X:Cx)(tl:TE):TI:=λσ H R=>tl σ H λx H1=>∃ p u,x=.ref p/\gR u /\ ((H1 p=some u/\∀ o ks,(∀ o' w,X.oP p≠some (.fN o' w))->(∀ ps,X.oP p≠some (.v3 ps))->lB H1 u ks->R (Lc p o ks) (upd H1 p (.fN o u)))\/∃ o,H1 p=some (.fN o u)/\∀ ks,lB H1 u ks->R (Lc p o ks) H1)
theorem ug{P:d4}(hu:gR u)(ob:gL P w H h p u):∃ o es ep ks,h.get? p=some o/\o.ExactDict/\o.data=.dict es ep/\(p == oB)=false/\es.size=ks.length/\(∀ (i:Nat) x,ks[i]? = some x->∃ e,es[i]? = some e/\RelV x e.key)/\lB H u ks:=by
 cases u with
 |dK kvs =>
  obtain⟨z,y,vs,rel,o,es,ep,h1,h2,h3,h4,h5,h6⟩:=ob;obtain⟨a,b⟩:=uT h5 rel;refine⟨o,es,ep,_,h1,h2,h3,y,?_,λi x hx=>?_,rfl⟩
  ·rw[b5,<- a,xD]
  ·obtain⟨e,he,r⟩:=b i x hx;exact⟨e,by rw[<- lP];exact he,r⟩
 |dT kvs =>
  obtain⟨z,y,ps,rel,o,es,ep,h1,h2,h3,h4,h5⟩:=ob;obtain⟨ta,va⟩:=qQ (prog:=P) (w:=w) rel;refine⟨o,es,ep,_,h1,h2,h3,y,?_,λi x hx=>?_,ta⟩
  ·have:=congrArg List.length h4;rw[xD,b5] at this;rw[this,b5]
  ·obtain⟨w,hw,lS⟩:=va.get hx;rw[n5,<- h4,lP] at hw;obtain⟨e,he,rfl⟩:=Uh.mp hw;exact⟨e,he,lS⟩
 |_=>exact hu.elim
theorem xM{X:Cx}(he:PE X e tl):PI X tg e (JG X tl):=by
 intro pins s σ H R I h;refine cK (he pins s σ H _ I h) λv s1 cS=>L2.gI cS λx H1 I1 r1 q1=>?_;obtain⟨p,u,e,hu,q⟩:=q1;subst e;cases r1;have fin:∀ {H2:Hp} {o:Obj} {es:Sj} {ep:Nat} {ks:List V},s1.heap.get? p=some o->o.ExactDict->o.data=.dict es ep->(p == oB)=false->es.size=ks.length->(∀ (i:Nat) x,ks[i]? = some x->∃ e,es[i]? = some e/\RelV x e.key)->Inv X pins σ H2 s1->R (Lc p o ks) H2 ->
   aI (aE X.prog X.w) X.A (pyIter (.ref p)) (Ux X pins σ tg R) X.xe s1:=by
  intro H2 o es ep ks ho hx hd lo hl hk I2 q;refine sZ lo ⟨o,ho,hx,hd⟩ ?_;refine⟨s1.heap.objs.size,[s1.heap.objs.size],_,_,_,rfl,I2.kept (t':=s1.toks) λb o e=>gd _ e,xH p _ hx hd hl hk,⟨_,kK _ rfl,rfl,rfl⟩,λb hb=>?_,q⟩;have e:b=s1.heap.objs.size:=by simpa using hb
  subst e;exact I2.Pj (cx _) (I2.b6.fresh (cx _))
 rcases q with⟨hp,q⟩|⟨o,hp,q⟩
 ·obtain⟨o,es,ep,ks,ho,hx,hd,lo,hl,hk,KP⟩:=ug hu (I1.b6 p u hp);obtain⟨nf,nb⟩:=I1.HX hp hu;exact fin ho hx hd lo hl hk (I1.freeze hp hu ho) (q o ks nf nb KP)
 ·have ob:gL X.prog X.w H1 s1.heap p (.fN o u):=I1.b6 p _ hp;obtain⟨o',es,ep,ks,ho,hx,hd,lo,hl,hk,KP⟩:=ug hu ob.2;have e:o'=o:=by have:=ob.1;rw[ho] at this;exact Option.some.inj this
  subst e;exact fin ho hx hd lo hl hk I1 (q ks KP)
end L2
namespace L2.Q
open PySem PySem.Spec PyProof.Rows
inductive D where
 |non|bl (b:Bool)|int (i:Int)|str (x:Str)
 |list (xs:List D)|tup (xs:List D)|dK (kvs:List (Key × D))|dT (kvs:List (List Key × D))
mutual
/-- nothing in it can be changed -/
def D.flat:D->Bool
 |.list _=>false
 |.dK _=>false
 |.dT _=>false
 |.tup xs=>dS xs
 |_=>true
def dS:List D->Bool
 |[]=>true
 |x :: xs=>x.flat && dS xs
end
theorem gH:∀ {xs:List D},dS xs=true↔∀ x∈xs,x.flat=true
 |[]=>by simp[dS]
 |x :: xs=>by simp[dS,gH (xs:=xs)]
theorem eU:dS (xs++ys)=(dS xs && dS ys):=by
 induction xs with
 |nil=>simp[dS]
 |cons x xs ih=>simp[dS,ih,Bool.and_assoc]
def Bz:Key->Bool
 |.inl _=>true
 |.inr x=>decide (x.length<=bS)
def Sz(kvs:List (Key × D)):Prop:=kvs.length<=bS/\∀ p∈kvs,Bz p.1=true
def SD(kvs:List (List Key × D)):Prop:=kvs.length<=bS/\∀ p∈kvs,p.1.length<=bS/\∀ k∈p.1,Bz k=true
mutual
inductive Rep(K:aC)(H:Hp):D->V->Prop
 |non:Rep K H .non .non
 |bl (b:Bool):Rep K H (.bl b) (.bl b)
 |int (i:Int):Rep K H (.int i) (.int i)
 |str {x:Str}:x.length<=bS->Rep K H (.str x) (.str x)
 |list {a:ag} {vs:List V} {ds:List D}:vs.length<=bS->fw K H a vs->bT K H ds vs->Rep K H (.list ds) (.ref a)
 |tup {a:ag} {vs:List V} {ds:List D}:vs.length<=bS->H a=some (.tup vs)->bT K H ds vs->Rep K H (.tup ds) (.ref a)
 |dK {a:ag} {vs:List V} {kvs:List (Key × D)}:Sz kvs->Rd H a (.dK ((kvs.map (·.1)).zip vs))->bT K H (kvs.map (·.2)) vs->Rep K H (.dK kvs) (.ref a)
 |dT {a:ag} {vs:List V} {kvs:List (List Key × D)}:SD kvs->Rd H a (.dT ((kvs.map (·.1)).zip vs))->bT K H (kvs.map (·.2)) vs->Rep K H (.dT kvs) (.ref a)
inductive bT(K:aC)(H:Hp):List D->List V->Prop
 |nil:bT K H [] []
 |cons {d:D} {v:V} {ds:List D} {vs:List V}:Rep K H d v->bT K H ds vs->bT K H (d :: ds) (v :: vs)
end
theorem Rep.ind{K:aC}{H:Hp}{m1:D->V->Prop}{m2:List D->List V->Prop}(h0:m1 .non .non)(hb:∀ b,m1 (.bl b) (.bl b))(hi:∀ i,m1 (.int i) (.int i))(hs:∀ x,x.length<=bS->m1 (.str x) (.str x))(hl:∀ a vs ds,vs.length<=bS->fw K H a vs->bT K H ds vs->m2 ds vs->m1 (.list ds) (.ref a)) (ht:∀ a vs ds,vs.length<=bS->H a=some (.tup vs)->bT K H ds vs->m2 ds vs->m1 (.tup ds) (.ref a))(hk:∀ a vs kvs,Sz kvs->Rd H a (.dK ((kvs.map (·.1)).zip vs))->bT K H (kvs.map (·.2)) vs->m2 (kvs.map (·.2)) vs->m1 (.dK kvs) (.ref a)) (hT:∀ a vs kvs,SD kvs->Rd H a (.dT ((kvs.map (·.1)).zip vs))->bT K H (kvs.map (·.2)) vs->m2 (kvs.map (·.2)) vs->m1 (.dT kvs) (.ref a))(hn:m2 [] []) (hc:∀ d v ds vs,Rep K H d v->bT K H ds vs->m1 d v->m2 ds vs->m2 (d :: ds) (v :: vs)):(∀ {d v},Rep K H d v->m1 d v)/\∀ {ds vs},bT K H ds vs->m2 ds vs :=
 ⟨λr=>Rep.rec (motive_1:=λd v _=>m1 d v) (motive_2:=λds vs _=>m2 ds vs) h0 hb hi (λh=>hs _ h) (λz s r ih=>hl _ _ _ z s r ih) (λz s r ih=>ht _ _ _ z s r ih) (λz s r ih=>hk _ _ _ z s r ih) (λz s r ih=>hT _ _ _ z s r ih) hn (λr s a b=>hc _ _ _ _ r s a b) r,
  λr=>bT.rec (motive_1:=λd v _=>m1 d v) (motive_2:=λds vs _=>m2 ds vs) h0 hb hi (λh=>hs _ h) (λz s r ih=>hl _ _ _ z s r ih) (λz s r ih=>ht _ _ _ z s r ih) (λz s r ih=>hk _ _ _ z s r ih) (λz s r ih=>hT _ _ _ z s r ih) hn (λr s a b=>hc _ _ _ _ r s a b) r⟩
theorem lh.k'(e:Rd H a (.dK kvs)):lh H a (kV k) (hV kvs k):=.inl ⟨kvs,k,e,rfl,rfl⟩
theorem lh.t'(e:Rd H a (.dT kvs))(eb:H b=some (.tup (k.map kV))):lh H a (.ref b) (hV kvs k):=.inr ⟨kvs,k,b,e,rfl,eb,rfl⟩
theorem bG.rd(s:bG H H')(h:Rd H a u):Rd H' a u:=h.imp (s _ _) λ⟨o,e⟩=>⟨o,s _ _ e⟩
theorem Rep.Gi{K:aC}(s:bG H H'):(∀ {d:D} {v:V},Rep K H d v->Rep K H' d v)/\∀ {ds:List D} {vs:List V},bT K H ds vs->bT K H' ds vs :=
 Rep.ind .non .bl .int (λ_ h=>.str h) (λ_ _ _ z h _ ih=>.list z (s.lst h) ih) (λ_ _ _ z h _ ih=>.tup z (s _ _ h) ih) (λ_ _ _ kk h _ ih=>.dK kk (bG.rd s h) ih) (λ_ _ _ kk h _ ih=>.dT kk (bG.rd s h) ih) .nil λ_ _ _ _ _ _ a b=>.cons a b
theorem Rep.same{K:aC}(s:bG H H')(r:Rep K H d v):Rep K H' d v:=(Rep.Gi s).1 r
theorem bT.same{K:aC}(s:bG H H')(r:bT K H ds vs):bT K H' ds vs:=(Rep.Gi s).2 r
theorem bT.ind{K:aC}{H:Hp}{m:List D->List V->Prop}(hn:m [] [])(hc:∀ d v ds vs,Rep K H d v->bT K H ds vs->m ds vs->m (d :: ds) (v :: vs)):∀ {ds vs},bT K H ds vs->m ds vs :=
 λr=>(Rep.ind (m1:=λ_ _=>True) (m2:=m) trivial (λ_=>trivial) (λ_=>trivial) (λ_ _=>trivial) (λ_ _ _ _ _ _ _=>trivial) (λ_ _ _ _ _ _ _=>trivial) (λ_ _ _ _ _ _ _=>trivial) (λ_ _ _ _ _ _ _=>trivial) hn λd v ds vs r s _ b=>hc d v ds vs r s b).2 r
theorem bT.length{K:aC}(r:bT K H ds vs):ds.length=vs.length :=
 bT.ind (m:=λds vs=>ds.length=vs.length) rfl (λ_ _ _ _ _ _ ih=>by rw[oD,oD,ih]) r
theorem bT.append{K:aC}(r:bT K H ds vs)(t:bT K H es ws):bT K H (ds++es) (vs++ws) :=
 bT.ind (m:=λds vs=>bT K H (ds++es) (vs++ws)) t (λ_ _ _ _ h _ ih=>.cons h ih) r
theorem bT.get{K:aC}{H:Hp}{ds:List D}{vs:List V}{i:Nat}{d:D}(r:bT K H ds vs)(e:ds[i]? = some d):∃ v,vs[i]? = some v/\Rep K H d v :=
 bT.ind (m:=λds vs=>∀ i d,ds[i]? = some d->∃ v,vs[i]? = some v/\Rep K H d v) (λi d e=>by simp at e) (λ_ _ _ _ h _ ih i d e=>by
  cases i with
  |zero=>simp at e;subst e;exact⟨_,rfl,h⟩
  |succ i =>
   obtain⟨v,e1,r⟩:=ih i d (by simpa using e);exact⟨v,by simpa using e1,r⟩) r i d e
theorem bT.Vx{K:aC}{H:Hp}{ds:List D}{vs:List V}{i:Nat}{v:V}(r:bT K H ds vs)(e:vs[i]? = some v):∃ d,ds[i]? = some d/\Rep K H d v :=
 bT.ind (m:=λds vs=>∀ i v,vs[i]? = some v->∃ d,ds[i]? = some d/\Rep K H d v) (λi d e=>by simp at e) (λ_ _ _ _ h _ ih i d e=>by
  cases i with
  |zero=>simp at e;subst e;exact⟨_,rfl,h⟩
  |succ i =>
   obtain⟨v,e1,r⟩:=ih i d (by simpa using e);exact⟨v,by simpa using e1,r⟩) r i v e
theorem bT.drop{K:aC}(n:Nat)(r:bT K H ds vs):bT K H (ds.drop n) (vs.drop n) :=
 bT.ind (m:=λds vs=>∀ n,bT K H (ds.drop n) (vs.drop n)) (λn=>by rw[List.drop_nil,List.drop_nil];exact .nil) (λ_ _ _ _ h hs ih n=>by
  cases n with
  |zero=>exact .cons h hs
  |succ n=>exact ih n) r n
theorem bT.n0{K:aC}(h:bT K H [] vs):vs=[]:=by cases h;rfl
theorem bT.c{K:aC}(h:bT K H (d :: ds) vs):∃ u us,vs=u :: us/\Rep K H d u/\bT K H ds us:=by
 cases h with
 |cons r rs=>exact⟨_,_,rfl,r,rs⟩
theorem bT.take{K:aC}(n:Nat)(r:bT K H ds vs):bT K H (ds.take n) (vs.take n) :=
 bT.ind (m:=λds vs=>∀ n,bT K H (ds.take n) (vs.take n)) (λn=>by rw[List.take_nil,List.take_nil];exact .nil) (λ_ _ _ _ h hs ih n=>by
  cases n with
  |zero=>exact .nil
  |succ n=>exact .cons h (ih n)) r n
mutual
/-- what is owned: a tree whose lists and kC' stand at As,kD' kE';its leaves shared (fl: and flat) -/
inductive cf(K:aC)(Hs H:Hp)(fl:Bool):D->V->List ag->Prop
 |sh {d:D} {v:V}:(fl=true->d.flat=true)->Rep K Hs d v->cf K Hs H fl d v []
 |list {a:ag} {vs:List V} {ds:List D} {As:List ag}:vs.length<=bS->H a=some (.lst vs)->aB K Hs H fl ds vs As->cf K Hs H fl (.list ds) (.ref a) (a :: As)
 |tup {a:ag} {vs:List V} {ds:List D} {As:List ag}:vs.length<=bS->Hs a=some (.tup vs)->dS ds=false->aB K Hs H fl ds vs As->cf K Hs H fl (.tup ds) (.ref a) As
 |dK {a:ag} {vs:List V} {kvs:List (Key × D)} {As:List ag}:Sz kvs->H a=some (.dK ((kvs.map (·.1)).zip vs))->aB K Hs H fl (kvs.map (·.2)) vs As->cf K Hs H fl (.dK kvs) (.ref a) (a :: As)
 |dT {a:ag} {vs:List V} {kvs:List (List Key × D)} {As:List ag}:SD kvs->H a=some (.dT ((kvs.map (·.1)).zip vs))->aB K Hs H fl (kvs.map (·.2)) vs As->cf K Hs H fl (.dT kvs) (.ref a) (a :: As)
inductive aB(K:aC)(Hs H:Hp)(fl:Bool):List D->List V->List ag->Prop
 |nil:aB K Hs H fl [] [] []
 |cons {d:D} {v:V} {ds:List D} {vs:List V} {As Bs:List ag}:cf K Hs H fl d v As->aB K Hs H fl ds vs Bs->aB K Hs H fl (d :: ds) (v :: vs) (As++Bs)
end
def Own(H:Hp)(a:ag):Prop:=∃ o,H a=some o/\∀ vs,o≠.tup vs
section
variable {K:aC}{Hs ax H H':Hp}{fl:Bool}
theorem Own.ne(h:Own H a):H a≠none:=by obtain⟨_,e,_⟩:=h;rw[e];exact λz=>nomatch z
theorem Own.Ce(h:Own H a):H a≠some (.tup vs):=by obtain⟨_,e,n⟩:=h;rw[e];exact λz=>n vs (Option.some.inj z)
theorem cf.ind{m1:D->V->List ag->Prop}{m2:List D->List V->List ag->Prop}(hs:∀ d v,(fl=true->d.flat=true)->Rep K Hs d v->m1 d v [])(hl:∀ a vs ds As,vs.length<=bS->H a=some (.lst vs)->aB K Hs H fl ds vs As->m2 ds vs As->m1 (.list ds) (.ref a) (a :: As)) (ht:∀ a vs ds As,vs.length<=bS->Hs a=some (.tup vs)->dS ds=false->aB K Hs H fl ds vs As->m2 ds vs As->m1 (.tup ds) (.ref a) As)(hk:∀ a vs kvs As,Sz kvs->H a=some (.dK ((kvs.map (·.1)).zip vs))->aB K Hs H fl (kvs.map (·.2)) vs As->m2 (kvs.map (·.2)) vs As->m1 (.dK kvs) (.ref a) (a :: As)) (hT:∀ a vs kvs As,SD kvs->H a=some (.dT ((kvs.map (·.1)).zip vs))->aB K Hs H fl (kvs.map (·.2)) vs As->m2 (kvs.map (·.2)) vs As->m1 (.dT kvs) (.ref a) (a :: As))(hn:m2 [] [] []) (hc:∀ d v ds vs As Bs,cf K Hs H fl d v As->aB K Hs H fl ds vs Bs->m1 d v As->m2 ds vs Bs->m2 (d :: ds) (v :: vs) (As++Bs)):(∀ {d v As},cf K Hs H fl d v As->m1 d v As)/\∀ {ds vs As},aB K Hs H fl ds vs As->m2 ds vs As :=
 ⟨λr=>cf.rec (motive_1:=λd v As _=>m1 d v As) (motive_2:=λds vs As _=>m2 ds vs As) (λf r=>hs _ _ f r) (λz s r ih=>hl _ _ _ _ z s r ih) (λz s n r ih=>ht _ _ _ _ z s n r ih) (λz s r ih=>hk _ _ _ _ z s r ih) (λz s r ih=>hT _ _ _ _ z s r ih) hn (λr s a b=>hc _ _ _ _ _ _ r s a b) r,
  λr=>aB.rec (motive_1:=λd v As _=>m1 d v As) (motive_2:=λds vs As _=>m2 ds vs As) (λf r=>hs _ _ f r) (λz s r ih=>hl _ _ _ _ z s r ih) (λz s n r ih=>ht _ _ _ _ z s n r ih) (λz s r ih=>hk _ _ _ _ z s r ih) (λz s r ih=>hT _ _ _ _ z s r ih) hn (λr s a b=>hc _ _ _ _ _ _ r s a b) r⟩
theorem CY{a:ag}{p:Prop}(h:a∈([]:List ag)):p:=absurd h Ri
theorem cf.aC':(∀ {d:D} {v:V} {As:List ag},cf K Hs H fl d v As->∀ a∈As,Own H a)/\∀ {ds:List D} {vs:List V} {As:List ag},aB K Hs H fl ds vs As->∀ a∈As,Own H a :=
 cf.ind (m1:=λ_ _ As=>∀ a∈As,Own H a) (m2:=λ_ _ As=>∀ a∈As,Own H a) (λ_ _ _ _ a h=>CY h) (λ_ _ _ _ _ e _ ih a h=>(eK.mp h).elim (λz=>z ▸ ⟨_,e,λ_ z=>nomatch z⟩) (ih a)) (λ_ _ _ _ _ _ _ _ ih=>ih) (λ_ _ _ _ _ e _ ih a h=>(eK.mp h).elim (λz=>z ▸ ⟨_,e,λ_ z=>nomatch z⟩) (ih a)) (λ_ _ _ _ _ e _ ih a h=>(eK.mp h).elim (λz=>z ▸ ⟨_,e,λ_ z=>nomatch z⟩) (ih a)) (λa h=>CY h) λ_ _ _ _ _ _ _ _ i1 i2 a h=>(eR.mp h).elim (i1 a) (i2 a)
theorem cf.own(r:cf K Hs H fl d v As):∀ a∈As,Own H a:=cf.aC'.1 r
theorem aB.own(r:aB K Hs H fl ds vs As):∀ a∈As,Own H a:=cf.aC'.2 r
theorem cf.Gb(s:bG Hs ax):(∀ {d:D} {v:V} {As:List ag},cf K Hs H fl d v As->(∀ a∈As,H' a=H a)->cf K ax H' fl d v As)/\∀ {ds:List D} {vs:List V} {As:List ag},aB K Hs H fl ds vs As->(∀ a∈As,H' a=H a)->aB K ax H' fl ds vs As :=
 cf.ind (m1:=λd v As=>(∀ a∈As,H' a=H a)->cf K ax H' fl d v As) (m2:=λds vs As=>(∀ a∈As,H' a=H a)->aB K ax H' fl ds vs As) (λ_ _ f r _=>.sh f (r.same s)) (λ_ _ _ _ z e _ ih k=>.list z ((k _ cE).trans e) (ih λa h=>k a (df _ h))) (λ_ _ _ _ z e n _ ih k=>.tup z (s _ _ e) n (ih k)) (λ_ _ _ _ z e _ ih k=>.dK z ((k _ cE).trans e) (ih λa h=>k a (df _ h))) (λ_ _ _ _ z e _ ih k=>.dT z ((k _ cE).trans e) (ih λa h=>k a (df _ h))) (λ_=>.nil) λ_ _ _ _ _ _ _ _ i1 i2 k=>.cons (i1 λa h=>k a (i9 _ h)) (i2 λa h=>k a (fI _ h))
theorem cf.fA(s:bG Hs ax)(r:cf K Hs H fl d v As)(k:∀ a∈As,H' a=H a):cf K ax H' fl d v As:=(cf.Gb s).1 r k
theorem aB.fA(s:bG Hs ax)(r:aB K Hs H fl ds vs As)(k:∀ a∈As,H' a=H a):aB K ax H' fl ds vs As:=(cf.Gb s).2 r k
theorem cf.grow(s:bG Hs ax)(t:bG H H')(r:cf K Hs H fl d v As):cf K ax H' fl d v As :=
 r.fA s λa h=>by
  cases e:H a with
  |none=>exact absurd e (r.own a h).ne
  |some o=>exact t a o e
theorem aB.grow(s:bG Hs ax)(t:bG H H')(r:aB K Hs H fl ds vs As):aB K ax H' fl ds vs As :=
 r.fA s λa h=>by
  cases e:H a with
  |none=>exact absurd e (r.own a h).ne
  |some o=>exact t a o e
theorem cf.rep2{G:Hp}(s:bG Hs G):(∀ {d:D} {v:V} {As:List ag},cf K Hs H fl d v As->(∀ a∈As,G a=H a)->Rep K G d v)/\∀ {ds:List D} {vs:List V} {As:List ag},aB K Hs H fl ds vs As->(∀ a∈As,G a=H a)->bT K G ds vs :=
 cf.ind (m1:=λd v As=>(∀ a∈As,G a=H a)->Rep K G d v) (m2:=λds vs As=>(∀ a∈As,G a=H a)->bT K G ds vs) (λ_ _ _ r _=>r.same s) (λ_ _ _ _ z e _ ih k=>.list z (.inl (.inl ((k _ cE).trans e))) (ih λa h=>k a (df _ h))) (λ_ _ _ _ z e n _ ih k=>.tup z (s _ _ e) (ih k)) (λ_ _ _ _ z e _ ih k=>.dK z (.inl ((k _ cE).trans e)) (ih λa h=>k a (df _ h))) (λ_ _ _ _ z e _ ih k=>.dT z (.inl ((k _ cE).trans e)) (ih λa h=>k a (df _ h))) (λ_=>.nil) λ_ _ _ _ _ _ _ _ i1 i2 k=>.cons (i1 λa h=>k a (i9 _ h)) (i2 λa h=>k a (fI _ h))
theorem cf.rep(s:bG Hs G)(r:cf K Hs H fl d v As)(k:∀ a∈As,G a=H a):Rep K G d v:=(cf.rep2 s).1 r k
theorem aB.reps(s:bG Hs G)(r:aB K Hs H fl ds vs As)(k:∀ a∈As,G a=H a):bT K G ds vs:=(cf.rep2 s).2 r k
theorem Rep.yM(t:∀ a vs,H a=some (.tup vs)->G a=some (.tup vs)):(∀ {d:D} {v:V},Rep K H d v->d.flat=true->Rep K G d v)/\∀ {ds:List D} {vs:List V},bT K H ds vs->dS ds=true->bT K G ds vs :=
 Rep.ind (m1:=λd v=>d.flat=true->Rep K G d v) (m2:=λds vs=>dS ds=true->bT K G ds vs) (λ_=>.non) (λb _=>.bl b) (λi _=>.int i) (λ_ h _=>.str h) (λ_ _ _ _ _ _ _ f=>by simp[D.flat] at f) (λ_ _ _ z e _ ih f=>.tup z (t _ _ e) (ih (by simpa[D.flat] using f))) (λ_ _ _ _ _ _ _ f=>by simp[D.flat] at f) (λ_ _ _ _ _ _ _ f=>by simp[D.flat] at f) (λ_=>.nil) λ_ _ _ _ _ _ i1 i2 f=>by simp only[dS,mS] at f;exact .cons (i1 f.1) (i2 f.2)
theorem Rep.eY(t:∀ a vs,H a=some (.tup vs)->G a=some (.tup vs))(r:Rep K H d v)(f:d.flat=true):Rep K G d v:=(Rep.yM t).1 r f
theorem bT.eY(t:∀ a vs,H a=some (.tup vs)->G a=some (.tup vs))(r:bT K H ds vs)(f:dS ds=true):bT K G ds vs:=(Rep.yM t).2 r f
theorem bT.owned(r:bT K Hs ds vs)(f:dS ds=true):aB K Hs H fl ds vs [] :=
 bT.ind (m:=λds vs=>dS ds=true->aB K Hs H fl ds vs []) (λ_=>.nil) (λ_ _ _ _ h _ ih f=>by
  simp only[dS,mS] at f;exact .cons (As:=[]) (.sh (λ_=>f.1) h) (ih f.2)) r f
theorem bT.Gq(r:bT K Hs ds vs):aB K Hs H false ds vs [] :=
 bT.ind (m:=λds vs=>aB K Hs H false ds vs []) .nil (λ_ _ _ _ h _ ih=>.cons (As:=[]) (.sh (λz=>Bool.noConfusion z) h) ih) r
theorem cf.aD':(∀ {d:D} {v:V} {As:List ag},cf K Hs H fl d v As->cf K Hs H false d v As)/\∀ {ds:List D} {vs:List V} {As:List ag},aB K Hs H fl ds vs As->aB K Hs H false ds vs As :=
 cf.ind (λ_ _ _ r=>.sh (λz=>Bool.noConfusion z) r) (λ_ _ _ _ z e _ ih=>.list z e ih) (λ_ _ _ _ z e n _ ih=>.tup z e n ih) (λ_ _ _ _ z e _ ih=>.dK z e ih) (λ_ _ _ _ z e _ ih=>.dT z e ih) .nil λ_ _ _ _ _ _ _ _ a b=>.cons a b
theorem cf.SF(r:cf K Hs H fl d v As):cf K Hs H false d v As:=cf.aD'.1 r
theorem aB.SF(r:aB K Hs H fl ds vs As):aB K Hs H false ds vs As:=cf.aD'.2 r
theorem cf.Fw(t:∀ a vs,Hs a=some (.tup vs)->G a=some (.tup vs)):(∀ {d:D} {v:V} {As:List ag},cf K Hs H true d v As->cf K G H true d v As)/\∀ {ds:List D} {vs:List V} {As:List ag},aB K Hs H true ds vs As->aB K G H true ds vs As :=
 cf.ind (λ_ _ f r=>.sh f (r.eY t (f rfl))) (λ_ _ _ _ z e _ ih=>.list z e ih) (λ_ _ _ _ z e n _ ih=>.tup z (t _ _ e) n ih) (λ_ _ _ _ z e _ ih=>.dK z e ih) (λ_ _ _ _ z e _ ih=>.dT z e ih) .nil λ_ _ _ _ _ _ _ _ a b=>.cons a b
theorem cf.leaves(t:∀ a vs,Hs a=some (.tup vs)->G a=some (.tup vs))(r:cf K Hs H true d v As):cf K G H true d v As:=(cf.Fw t).1 r
theorem aB.ind{m:List D->List V->List ag->Prop}(hn:m [] [] [])(hc:∀ d v ds vs As Bs,cf K Hs H fl d v As->aB K Hs H fl ds vs Bs->m ds vs Bs->m (d :: ds) (v :: vs) (As++Bs)):∀ {ds vs As},aB K Hs H fl ds vs As->m ds vs As :=
 λr=>(cf.ind (m1:=λ_ _ _=>True) (m2:=m) (λ_ _ _ _=>trivial) (λ_ _ _ _ _ _ _ _=>trivial) (λ_ _ _ _ _ _ _ _ _=>trivial) (λ_ _ _ _ _ _ _ _=>trivial) (λ_ _ _ _ _ _ _ _=>trivial) hn λd v ds vs As Bs r s _ b=>hc d v ds vs As Bs r s b).2 r
theorem aB.append(r:aB K Hs H fl ds vs As)(t:aB K Hs H fl es ws Bs):aB K Hs H fl (ds++es) (vs++ws) (As++Bs) :=
 aB.ind (m:=λds vs As=>aB K Hs H fl (ds++es) (vs++ws) (As++Bs)) t (λ_ _ _ _ _ _ h _ ih=>by
  rw[AV];exact .cons h ih) r
theorem aB.n0(h:aB K Hs H fl [] vs As):vs=[]/\As=[]:=by cases h;exact⟨rfl,rfl⟩
theorem aB.c(h:aB K Hs H fl (d :: ds) vs As):∃ u us A B,vs=u :: us/\As=A++B/\cf K Hs H fl d u A/\aB K Hs H fl ds us B:=by
 cases h with
 |cons r rs=>exact⟨_,_,_,_,rfl,rfl,r,rs⟩
theorem aB.length(r:aB K Hs H fl ds vs As):ds.length=vs.length :=
 aB.ind (m:=λds vs _=>ds.length=vs.length) rfl (λ_ _ _ _ _ _ _ _ ih=>by rw[oD,oD,ih]) r
end
def gA':HO->Prop
 |.dK _=>False
 |.dT _=>False
 |.fN _ _=>False
 |_=>True
def Vy(H H':Hp):Prop:=∀ a o,gA' o->H a=some o->H' a=some o
structure ObP where
 is:Hp->Hp->ag->List ag->Prop
 fA:∀ {Hs ax H H':Hp} {a:ag} {As:List ag},Vy Hs ax->(∀ b∈As,H' b=H b)->is Hs H a As->is ax H' a As
 own:∀ {Hs H:Hp} {a:ag} {As:List ag},is Hs H a As->∀ b∈As,Own H b
theorem rn(s:bG H H'):Vy H H':=λa o _ e=>s a o e
inductive Sl where
 /-- shared;owned;owned and walked by a loop just now (at a) -/
 |sh (d:D)|ow (fl:Bool) (d:D)|lk (a:ag) (fl:Bool) (d:D)
 /-- an exception,at a -/
 |xc (a:ag)
 /-- an object,at a -/
 |ob (a:ag) (p:ObP)
abbrev Env:=List (Option Sl)
inductive SR(K:aC)(Hs H:Hp):Env->St->List ag->Prop
 |nil:SR K Hs H [] [] []
 |non {ρ:Env} {σ:St} {ah:List ag} {o:Option V}:SR K Hs H ρ σ ah->SR K Hs H (none :: ρ) (o :: σ) ah
 |sh {ρ:Env} {σ:St} {ah:List ag} {d:D} {v:V}:Rep K Hs d v->SR K Hs H ρ σ ah->SR K Hs H (some (.sh d) :: ρ) (some v :: σ) ah
 |xc {ρ:Env} {σ:St} {ah:List ag} {a:ag}:SR K Hs H ρ σ ah->SR K Hs H (some (.xc a) :: ρ) (some (.ref a) :: σ) ah
 |ow {ρ:Env} {σ:St} {ah As:List ag} {fl:Bool} {d:D} {v:V}:As≠[]->cf K Hs H fl d v As->SR K Hs H ρ σ ah->SR K Hs H (some (.ow fl d) :: ρ) (some v :: σ) (As++ah)
 |lk {ρ:Env} {σ:St} {ah As:List ag} {a:ag} {fl:Bool} {d:D}:As≠[]->cf K Hs H fl d (.ref a) As->SR K Hs H ρ σ ah->SR K Hs H (some (.lk a fl d) :: ρ) (some (.ref a) :: σ) (As++ah)
 |ob {ρ:Env} {σ:St} {ah As:List ag} {a:ag} {p:ObP}:p.is Hs H a As->SR K Hs H ρ σ ah->SR K Hs H (some (.ob a p) :: ρ) (some (.ref a) :: σ) (As++ah)
structure Wf(Hs H:Hp):Prop where
 sub:bG Hs H
 i3:∀ a vs,H a=some (.tup vs)->Hs a=some (.tup vs)
structure eC(K:aC)(Hs:Hp)(ρ:Env)(σ:St)(H:Hp)(ah:List ag):Prop where
 sr:SR K Hs H ρ σ ah
 wf:Wf Hs H
 rj:ah.Nodup
 own:∀ a∈ah,Hs a=none
structure fS(Hs H ax H':Hp):Prop where
 all:bG H H'
 sh:bG Hs ax
 wf:Wf ax H'
 new:∀ a,ax a≠none->Hs a≠none\/H a=none
section
variable {K:aC}{Hs H ax H' aF' H'':Hp}
theorem fS.refl(w:Wf Hs H):fS Hs H Hs H:=⟨bG.refl _,bG.refl _,w,λ_ h=>.inl h⟩
theorem fS.trans(a:fS Hs H ax H')(b:fS ax H' aF' H''):fS Hs H aF' H'' :=
 ⟨a.all.trans b.all,a.sh.trans b.sh,b.wf,λc h=>by
  rcases b.new c h with h|h
  ·exact a.new c h
  ·exact .inr (a.all.free h)⟩
theorem fS.pj(g:fS Hs H ax H')(h:Hs a=none)(h':H a≠none):ax a=none:=by
 cases e:ax a with
 |none=>rfl
 |some o =>
  rcases g.new a (by rw[e];exact λz=>nomatch z) with z|z
  ·exact absurd h z
  ·exact absurd z h'
theorem SR.own{ρ:Env}{σ:St}{ah:List ag}(s:SR K Hs H ρ σ ah):∀ a∈ah,Own H a:=by
 induction s with
 |nil=>exact λa h=>CY h
 |non _ ih=>exact ih
 |sh _ _ ih=>exact ih
 |xc _ ih=>exact ih
 |ow _ r _ ih=>exact λa h=>(eR.mp h).elim (r.own a) (ih a)
 |lk _ r _ ih=>exact λa h=>(eR.mp h).elim (r.own a) (ih a)
 |@ob _ _ _ _ _ p r _ ih=>exact λa h=>(eR.mp h).elim (p.own r a) (ih a)
theorem SR.fA(s:bG Hs ax)(r:SR K Hs H ρ σ ah):(∀ a∈ah,H' a=H a)->SR K ax H' ρ σ ah:=by
 induction r with
 |nil=>exact λ_=>.nil
 |non _ ih=>exact λk=>.non (ih k)
 |sh h _ ih=>exact λk=>.sh (h.same s) (ih k)
 |xc _ ih=>exact λk=>.xc (ih k)
 |ow ne h _ ih=>exact λk=>.ow ne (h.fA s λa m=>k a (i9 _ m)) (ih λa m=>k a (fI _ m))
 |lk ne h _ ih=>exact λk=>.lk ne (h.fA s λa m=>k a (i9 _ m)) (ih λa m=>k a (fI _ m))
 |@ob _ _ _ _ _ p h _ ih=>exact λk=>.ob (p.fA (rn s) (λa m=>k a (i9 _ m)) h) (ih λa m=>k a (fI _ m))
theorem eC.grow(r:eC K Hs ρ σ H ah)(g:fS Hs H ax H'):eC K ax ρ σ H' ah :=
 ⟨r.sr.fA g.sh λa h=>by
  cases e:H a with
  |none=>exact absurd e (r.sr.own a h).ne
  |some o=>exact g.all a o e,g.wf,r.rj,λa h=>g.pj (r.own a h) (r.sr.own a h).ne⟩
theorem SR.length(s:SR K Hs H ρ σ ah):ρ.length=σ.length:=by
 induction s with
 |nil=>rfl
 |non _ ih=>exact congrArg (· + 1) ih
 |sh _ _ ih=>exact congrArg (· + 1) ih
 |xc _ ih=>exact congrArg (· + 1) ih
 |ow _ _ _ ih=>exact congrArg (· + 1) ih
 |lk _ _ _ ih=>exact congrArg (· + 1) ih
 |ob _ _ ih=>exact congrArg (· + 1) ih
def za(K:aC)(Hs H:Hp)(ah:List ag)(sl:Sl)(v:V):Prop:=match sl with
 |.sh d=>Rep K Hs d v
 |.ow fl d=>∃ As,As≠[]/\cf K Hs H fl d v As/\∀ a∈As,a∈ah
 |.lk a fl d=>∃ As,As≠[]/\cf K Hs H fl d v As/\v=.ref a/\∀ a∈As,a∈ah
 |.xc a=>v=.ref a
 |.ob a p=>v=.ref a/\∃ As,p.is Hs H a As/\∀ a∈As,a∈ah
theorem za.mono(h:za K Hs H ah sl v)(m:∀ a∈ah,a∈cv):za K Hs H cv sl v:=by
 cases sl with
 |sh d=>exact h
 |xc a=>exact h
 |ow fl d =>obtain⟨As,ne,r,q⟩:=h;exact⟨As,ne,r,λa ha=>m a (q a ha)⟩
 |lk a fl d =>obtain⟨As,ne,r,e,q⟩:=h;exact⟨As,ne,r,e,λa ha=>m a (q a ha)⟩
 |ob a p =>obtain⟨e,As,r,q⟩:=h;exact⟨e,As,r,λa ha=>m a (q a ha)⟩
theorem SR.get{ρ:Env}{σ:St}{ah:List ag}{i:Nat}{sl:Sl}(s:SR K Hs H ρ σ ah)(e:ρ[i]? = some (some sl)):∃ v,σ[i]? = some (some v)/\za K Hs H ah sl v:=by
 induction s generalizing i with
 |nil=>simp at e
 |non s ih =>
  cases i with
  |zero=>simp at e
  |succ i=>exact ih e
 |sh r s ih =>
  cases i with
  |zero=>simp at e;subst e;exact⟨_,rfl,r⟩
  |succ i=>exact ih e
 |xc s ih =>
  cases i with
  |zero=>simp at e;subst e;exact⟨_,rfl,rfl⟩
  |succ i=>exact ih e
 |ow ne r s ih =>
  cases i with
  |zero=>simp at e;subst e;exact⟨_,rfl,_,ne,r,λa m=>i9 _ m⟩
  |succ i =>obtain⟨v,e1,h⟩:=ih e;exact⟨v,e1,h.mono λa m=>fI _ m⟩
 |lk ne r s ih =>
  cases i with
  |zero=>simp at e;subst e;exact⟨_,rfl,_,ne,r,rfl,λa m=>i9 _ m⟩
  |succ i =>obtain⟨v,e1,h⟩:=ih e;exact⟨v,e1,h.mono λa m=>fI _ m⟩
 |ob r s ih =>
  cases i with
  |zero=>simp at e;subst e;exact⟨_,rfl,rfl,_,r,λa m=>i9 _ m⟩
  |succ i =>obtain⟨v,e1,h⟩:=ih e;exact⟨v,e1,h.mono λa m=>fI _ m⟩
end
inductive Md where
 |sh|ow (fl:Bool)|bo
def RM(K:aC)(Hs H:Hp):Md->D->V->List ag->Prop
 |.sh,d,v,As=>As=[]/\Rep K Hs d v
 |.ow fl,d,v,As=>cf K Hs H fl d v As/\As≠[]
 |.bo,d,v,As=>As=[]/\Rep K H d v
inductive Dp(K:aC)(Hs H:Hp):List (Md × D)->List V->List ag->Prop
 |nil:Dp K Hs H [] [] []
 |cons {m:Md} {d:D} {v:V} {ps:List (Md × D)} {vs:List V} {As Bs:List ag}:RM K Hs H m d v As->Dp K Hs H ps vs Bs->Dp K Hs H ((m,d) :: ps) (v :: vs) (As++Bs)
section
variable {K:aC}{Hs H ax H':Hp}
theorem RM.own{m:Md}{d:D}{v:V}{As:List ag}(r:RM K Hs H m d v As):∀ a∈As,Own H a:=by
 cases m with
 |sh=>obtain⟨rfl,_⟩:=r;exact λa h=>CY h
 |ow fl=>exact cf.own r.1
 |bo=>obtain⟨rfl,_⟩:=r;exact λa h=>CY h
theorem RM.grow(r:RM K Hs H m d v As)(g:fS Hs H ax H'):RM K ax H' m d v As:=by
 cases m with
 |sh=>exact⟨r.1,r.2.same g.sh⟩
 |ow fl=>exact⟨cf.grow g.sh g.all r.1,r.2⟩
 |bo=>exact⟨r.1,r.2.same g.all⟩
theorem RM.rep(w:Wf Hs H)(r:RM K Hs H m d v As):Rep K H d v:=by
 cases m with
 |sh=>exact r.2.same w.sub
 |ow fl=>exact cf.rep w.sub r.1 λ_ _=>rfl
 |bo=>exact r.2
theorem RM.flat(w:Wf Hs H)(r:RM K Hs H m d v As)(f:d.flat=true):Rep K Hs d v:=(r.rep w).eY w.i3 f
theorem Dp.reps(w:Wf Hs H){ps:List (Md × D)}(r:Dp K Hs H ps vs As):bT K H (ps.map (·.2)) vs:=by
 induction r with
 |nil=>exact .nil
 |cons r _ ih=>exact .cons (r.rep w) ih
end
abbrev WE:=Env->(Md->D->Prop)->Prop
abbrev WT:=Env->(Bool->Prop)->Prop
abbrev WA:=Env->(List (Md × D)->Prop)->Prop
structure ou where
 nx:Env->Prop
 rt:Md->D->Prop
 bk:Env->Prop:=fun _=>False
 ct:Env->Prop:=fun _=>False
abbrev WS:=ou->Env->Prop
def cD(ax H:Hp)(As:List ag):Prop:=As.Nodup/\∀ a∈As,ax a=none/\H a=none
def lT(K:aC)(t:WE):TE:=λσ H Qv=>∃ Hs ρ ah Q,eC K Hs ρ σ H ah/\t ρ Q /\
 ∀ v H' ax m d As,fS Hs H ax H'->RM K ax H' m d v As->cD ax H As->Q m d->Qv v H'
def Dx(K:aC)(t:WT):TT:=λσ H Qv=>∃ Hs ρ ah Q,eC K Hs ρ σ H ah/\t ρ Q/\∀ b H' ax,fS Hs H ax H'->Q b->Qv b H'
def tpA(K:aC)(t:WA):TA:=λσ H Qv=>∃ Hs ρ ah Q,eC K Hs ρ σ H ah/\t ρ Q /\
 ∀ vs H' ax ps As,fS Hs H ax H'->Dp K ax H' ps vs As->cD ax H As->Q ps->Qv vs H'
def yB(K:aC)(L:Str->Hp->Prop)(t:WS):TS:=λD σ H=>∃ Hs ρ ah E,eC K Hs ρ σ H ah/\t E ρ /\ (∀ b9 H' ax b4 cv,bG Hs ax->eC K ax b4 b9 H' cv->E.nx b4->D.nx b9 H') /\ (∀ b9 H' ax b4 cv,bG Hs ax->eC K ax b4 b9 H' cv->E.bk b4->D.bk b9 H') /\ (∀ b9 H' ax b4 cv,bG Hs ax->eC K ax b4 b9 H' cv->E.ct b4->D.ct b9 H') /\ (∀ v H' ax m d As,bG Hs ax->Wf ax H'->RM K ax H' m d v As->As.Nodup->(∀ a∈As,ax a=none)->E.rt m d->D.rt v H') /\
 ∀ n H',bG Hs H'->E.rt (.ow false) (.str n)->L n H'
theorem jP{K:aC}{L:Str->Hp->Prop}{t:WS}{D:Ends}{σ:St}{H:Hp}{G:Prop}(x:yB K L t D σ H)(k:∀ Hs ρ ah E,eC K Hs ρ σ H ah->t E ρ -> (∀ b9 H' ax b4 cv,bG Hs ax->eC K ax b4 b9 H' cv->E.nx b4->D.nx b9 H') -> (∀ b9 H' ax b4 cv,bG Hs ax->eC K ax b4 b9 H' cv->E.bk b4->D.bk b9 H') -> (∀ b9 H' ax b4 cv,bG Hs ax->eC K ax b4 b9 H' cv->E.ct b4->D.ct b9 H') -> (∀ v H' ax m d As,bG Hs ax->Wf ax H'->RM K ax H' m d v As->As.Nodup->(∀ a∈As,ax a=none)->E.rt m d->D.rt v H') -> (∀ n H',bG Hs H'->E.rt (.ow false) (.str n)->L n H')->G):G :=
 by
 obtain⟨Hs,ρ,ah,E,sr,h,k1,k2,k3,k4,kx⟩:=x;exact k Hs ρ ah E sr h k1 k2 k3 k4 kx
theorem dB{K:aC}{L:Str->Hp->Prop}{t:WS}{D:Ends}{σ:St}{H:Hp}{G:Prop}(x:yB K L t D σ H)(k:∀ Hs ρ ah E,eC K Hs ρ σ H ah->t E ρ -> (∀ b9 H' ax b4 cv,bG Hs ax->eC K ax b4 b9 H' cv->E.nx b4->D.nx b9 H') -> (∀ b9 H' ax b4 cv,bG Hs ax->eC K ax b4 b9 H' cv->E.bk b4->D.bk b9 H') -> (∀ b9 H' ax b4 cv,bG Hs ax->eC K ax b4 b9 H' cv->E.ct b4->D.ct b9 H') -> (∀ v H' ax m d As,bG Hs ax->Wf ax H'->RM K ax H' m d v As->As.Nodup->(∀ a∈As,ax a=none)->E.rt m d->D.rt v H')->G):G :=
 jP x λHs ρ ah E sr h k1 k2 k3 k4 _=>k Hs ρ ah E sr h k1 k2 k3 k4
theorem kN{α β γ δ:Type _}{A B C:α->β->γ->δ->Prop}{G:Prop}(x:∃ a b c d,A a b c d/\B a b c d/\C a b c d)(k:∀ a b c d,A a b c d->B a b c d->C a b c d->G):G :=
 by
 obtain⟨a,b,c,d,p,q,r⟩:=x;exact k a b c d p q r
abbrev QE(X:Cx)(K:aC)(e:Expr)(t:WE):Prop:=PE X e (lT K t)
abbrev QT(X:Cx)(K:aC)(e:Expr)(t:WT):Prop:=PT X e (Dx K t)
abbrev QW(X:Cx)(K:aC)(e:Expr)(t:WT):Prop:=PW X e (Dx K t)
abbrev QA(X:Cx)(K:aC)(es:List Expr)(t:WA):Prop:=PA X es (tpA K t)
abbrev QS(X:Cx)(K:aC)(L:Str->Hp->Prop)(st:Stmt)(t:WS):Prop:=PS X st (yB K L t)
abbrev yT(X:Cx)(K:aC)(L:Str->Hp->Prop)(st:List Stmt)(t:WS):Prop:=ng X st (yB K L t)
abbrev L0:Str->Hp->Prop:=λ_ _=>True
end L2.Q
namespace L2.Q
open PySem PySem.Spec PyProof.Rows
structure Kt{α:Type}(f:α->Prop):Type where
def cp{α:Type}(a:α){f:α->Prop}(_:Kt f):Prop:=f a
mutual
def D.py:D->dE
 |.non=>.none
 |.bl b=>.bool b
 |.int i=>.int i
 |.str x=>.str x
 |.list xs=>.list (nL xs)
 |.tup xs=>.tuple (nL xs)
 |.dK _=>.none
 |.dT _=>.none
def nL:List D->List dE
 |[]=>[]
 |x :: xs=>x.py :: nL xs
end
def dP:Nat->D->Bool
 |_,.non=>true
 |_,.bl _=>true
 |_,.int _=>true
 |_,.str x=>PyData.strOk x
 |n+1,.list xs=>xs.all (dP n)
 |n+1,.tup xs=>xs.all (dP n)
 |_,_=>false
def iO(x y:D):Bool:=PyData.eqv x.py y.py
def D.ty:D->String
 |.non => "NoneType"
 |.bl _ => "bool"
 |.int _ => "int"
 |.str _ => "str"
 |.list _ => "list"
 |.tup _ => "tuple"
 |.dK _ => "dict"
 |.dT _ => "dict"
def D.key1:D->Option Key
 |.int i=>some (.inl i)
 |.str x=>some (.inr x)
 |_=>none
def dN:List D->Option (List Key)
 |[]=>some []
 |x :: xs=>match x.key1,dN xs with
  |some k,some ks=>some (k :: ks)
  |_,_=>none
section
variable {κ:Type}[DecidableEq κ]{β:Type}
def eL(kvs:List (κ × β))(k:κ):Option β:=(kvs.find? λkv=>decide (kv.1=k)).map (·.2)
def ly(kvs:List (κ × β))(k:κ)(v:β):List (κ × β) :=
 if (kvs.any λkv=>decide (kv.1=k))=true then kvs.map (λkv=>if kv.1=k then (kv.1,v) else kv) else kvs++[(k,v)]
end
theorem Rep.P7{K:aC}:(∀ {d:D} {v:V},Rep K H d v->∀ n,dP n d=true->L2.Rep K H d.py v)/\∀ {ds:List D} {vs:List V},bT K H ds vs->∀ n,(∀ d∈ds,dP n d=true)->L2.bT K H (nL ds) vs :=
 Rep.ind (m1:=λd v=>∀ n,dP n d=true->L2.Rep K H d.py v) (m2:=λds vs=>∀ n,(∀ d∈ds,dP n d=true)->L2.bT K H (nL ds) vs) (λ_ _=>.none) (λb _ _=>.bool b) (λi _ _=>.int i) (λ_ _ _ _=>.str _) (λ_ _ _ _ h _ ih n o=>by
   cases n with
   |zero=>simp[dP] at o
   |succ n=>exact .list h (ih n (by simpa[dP] using o)))
  (λ_ _ _ _ h _ ih n o=>by
   cases n with
   |zero=>simp[dP] at o
   |succ n=>exact .tuple (.inl (.inl h)) (ih n (by simpa[dP] using o)))
  (λ_ _ _ _ _ _ _ n o=>by cases n<;>simp[dP] at o) (λ_ _ _ _ _ _ _ n o=>by cases n<;>simp[dP] at o) (λ_ _=>.nil)
  λ_ _ _ _ _ _ i1 i2 n o=>.cons (i1 n (o _ cE)) (i2 n λd m=>o d (df _ m))
theorem Rep.l2{K:aC}(r:Rep K H d v)(o:dP n d=true):L2.Rep K H d.py v:=Rep.P7.1 r n o
theorem xr(ih:∀ d,dP n d=true->d.py.canLay0=true/\d.py.depth<=n)(xs:List D)(h:∀ x∈xs,dP n x=true):PyData.canLayAll0 (nL xs)=true/\PyData.depthAll (nL xs)<=n:=by
 induction xs with
 |nil=>exact⟨rfl,fz _⟩
 |cons x xs Vz =>have h1:=ih x (h x cE);have h2:=Vz λy hy=>h y (df _ hy);simp only[nL,PyData.canLayAll0,PyData.depthAll,h1.1,h2.1,Bool.and_self,true_and];lia
theorem iz(n:Nat):∀ (d:D),dP n d=true->d.py.canLay0=true/\d.py.depth<=n:=by
 have st:∀ (n:Nat) (x:Str),dP n (.str x)=true->(D.str x).py.canLay0=true/\(D.str x).py.depth<=n:=λn x h=>by
  have h:PyData.strOk x=true:=by cases n<;>simpa[dP] using h
  exact⟨by simpa[D.py,PyData.canLay0] using h,fz _⟩
 induction n with
 |zero =>
  intro d h
  cases d with
  |str x=>exact st _ x h
  |non=>exact⟨rfl,fz _⟩
  |bl _=>exact⟨rfl,fz _⟩
  |int _=>exact⟨rfl,fz _⟩
  |_=>simp[dP] at h
 |succ n ih =>
  intro d h
  cases d with
  |str x=>exact st _ x h
  |non=>exact⟨rfl,fz _⟩
  |bl _=>exact⟨rfl,fz _⟩
  |int _=>exact⟨rfl,fz _⟩
  |list xs =>
   have h:∀ x∈xs,dP n x=true:=by simpa[dP] using h
   have:=xr ih xs h;simp only[D.py,PyData.canLay0,PyData.depth];exact⟨this.1,by lia⟩
  |tup xs =>
   have h:∀ x∈xs,dP n x=true:=by simpa[dP] using h
   have:=xr ih xs h;simp only[D.py,PyData.canLay0,PyData.depth];exact⟨this.1,by lia⟩
  |dK _=>simp[dP] at h
  |dT _=>simp[dP] at h
mutual
def D.nb:D->Bool
 |.bl _=>false
 |.list xs=>BD xs
 |.tup xs=>BD xs
 |.dK _=>false
 |.dT _=>false
 |_=>true
def BD:List D->Bool
 |[]=>true
 |x :: xs=>x.nb && BD xs
end
mutual
theorem nF:∀ (x y:D),x.nb=true->y.nb=true->(iO x y=true↔x=y)
 |.non,y,_,hy=>by cases y<;>simp_all [iO,D.py,PyData.eqv,D.nb]
 |.bl _,y,hx,_=>by simp[D.nb] at hx
 |.int i,y,_,hy=>by cases y<;>simp_all [iO,D.py,PyData.eqv,D.nb]
 |.str i,y,_,hy=>by cases y<;>simp_all [iO,D.py,PyData.eqv,D.nb]
 |.dK _,y,hx,_=>by simp[D.nb] at hx
 |.dT _,y,hx,_=>by simp[D.nb] at hx
 |.list xs,y,hx,hy=>by
  cases y with
  |list ys =>have:=nO xs ys (by simpa[D.nb] using hx) (by simpa[D.nb] using hy);simp only[iO,D.py,PyData.eqv,D.list.injEq];exact this
  |_=>simp_all [iO,D.py,PyData.eqv,D.nb]
 |.tup xs,y,hx,hy=>by
  cases y with
  |tup ys =>have:=nO xs ys (by simpa[D.nb] using hx) (by simpa[D.nb] using hy);simp only[iO,D.py,PyData.eqv,D.tup.injEq];exact this
  |_=>simp_all [iO,D.py,PyData.eqv,D.nb]
theorem nO:∀ (xs ys:List D),BD xs=true->BD ys=true->(PyData.eqvAll (nL xs) (nL ys)=true↔xs=ys)
 |[],[],_,_=>by simp[nL,PyData.eqvAll]
 |[],_ :: _,_,_=>by simp[nL,PyData.eqvAll]
 |_ :: _,[],_,_=>by simp[nL,PyData.eqvAll]
 |x :: xs,y :: ys,hx,hy=>by simp only[BD,mS] at hx hy;have h1:=nF x y hx.1 hy.1;have h2:=nO xs ys hx.2 hy.2;simp only[nL,PyData.eqvAll,mS,List.cons.injEq];exact and_congr h1 h2
end
section
variable {K:aC}{H:Hp}
theorem Rep.key(r:Rep K H d v)(h:d.key1=some k):v=kV k:=by cases r<;>simp[D.key1] at h<;>subst h<;>rfl
theorem bT.keys(r:bT K H ds vs)(h:dN ds=some ks):vs=ks.map kV:=by
 induction ds generalizing vs ks with
 |nil=>simp[dN] at h;subst h;exact r.n0
 |cons d ds ih =>
  obtain⟨u,us,rfl,r,rs⟩:=r.c;unfold dN at h
  cases e1:d.key1 with
  |none=>rw[e1] at h;simp at h
  |some k =>
   cases e2:dN ds with
   |none=>rw[e1,e2] at h;simp at h
   |some eM =>rw[e1,e2] at h;simp at h;subst h;rw[gE,r.key e1,ih rs e2]
theorem Rep.kg(r:Rep K H (.tup ds) v)(h:dN ds=some ks):∃ b,v=.ref b/\H b=some (.tup (ks.map kV)):=by
 cases r with
 |tup _ e rs=>exact⟨_,rfl,by rw[e,rs.keys h]⟩
end
section
variable {κ:Type}[DecidableEq κ]{K:aC}{H:Hp}
theorem zip_get{k:κ}{kvs:List (κ × D)}{vs:List V}(h:bT K H (kvs.map (·.2)) vs):match eL kvs k with
  |some d=>∃ v,hV ((kvs.map (·.1)).zip vs) k=some v/\Rep K H d v
  |none=>hV ((kvs.map (·.1)).zip vs) k=none:=by
 induction kvs generalizing vs with
 |nil=>rfl
 |cons p kvs ih =>
  obtain⟨u,us,rfl,r,rs⟩:=bT.c (d:=p.2) h;by_cases e:p.1=k
  ·have e1:eL (p :: kvs) k=some p.2:=by simp[eL,e]
   rw[e1];exact⟨_,by simp only[gE,D6];exact yb e,r⟩
  ·have e1:eL (p :: kvs) k=eL kvs k:=by simp[eL,e]
   rw[e1];have:=ih rs;simp only[gE,D6,yi (p:=(p.1,_)) e];exact this
theorem Fv{k:κ}{kvs:List (κ × D)}{vs:List V}(h:kvs.length=vs.length):((kvs.map (·.1)).zip vs).any (λkv=>decide (kv.1=k))=kvs.any λkv=>decide (kv.1=k):=by
 induction kvs generalizing vs with
 |nil=>rfl
 |cons p kvs ih =>
  cases vs with
  |nil=>simp at h
  |cons v vs =>simp only[gE,D6,D9];rw[ih (vs:=vs) (by simpa using h)]
end
section
variable {K:aC}{Hs H:Hp}
theorem N4(w:Wf Hs H)(hp:H p=none)(ho:∀ vs,o≠.tup vs):fS Hs H Hs (upd H p o) :=
 ⟨(bG.refl H).upd hp,bG.refl _,⟨w.sub.upd hp,λa vs e=>by
  by_cases h:a=p
  ·subst h;rw[ft] at e;exact absurd (Option.some.inj e) (ho vs)
  ·rw[cy h] at e;exact w.i3 a vs e⟩,λ_ h=>.inl h⟩
theorem VA(w:Wf Hs H)(hp:H p=none):fS Hs H (upd Hs p (.tup vs)) (upd H p (.tup vs)) :=
 ⟨(bG.refl H).upd hp,(bG.refl Hs).upd (w.sub.free hp),⟨λa o e=>by
  by_cases h:a=p
  ·subst h;rw[ft] at e ⊢;exact e
  ·rw[cy h] at e ⊢;exact w.sub a o e,λa vs e=>by
  by_cases h:a=p
  ·subst h;rw[ft] at e ⊢;exact e
  ·rw[cy h] at e ⊢;exact w.i3 a vs e⟩,λa h=>by
  by_cases e:a=p
  ·subst e;exact .inr hp
  ·rw[cy e] at h;exact .inl h⟩
theorem cD.nil:cD Hs H []:=⟨p9,λa h=>nomatch h⟩
theorem cD.of(s:bG H H')(f:cD Hs H' As):cD Hs H As:=⟨f.1,λa h=>⟨(f.2 a h).1,s.free (f.2 a h).2⟩⟩
abbrev Fin(K:aC)(Hs H:Hp)(Qd:Md->D->Prop)(Qv:VK):Prop:=∀ v H' ax m d As,fS Hs H ax H'->RM K ax H' m d v As->cD ax H As->Qd m d->Qv v H'
theorem Fin.after(f:Fin K Hs H Qd Qv)(g:fS Hs H ax H'):Fin K ax H' Qd Qv:=λv H2 aT m d As g2 r fr q=>f v H2 aT m d As (g.trans g2) r (fr.of g.all) q
theorem Fin.sh(f:Fin K Hs H Qd Qv)(w:Wf Hs H)(r:Rep K Hs d v)(q:Qd .sh d):Qv v H:=f v H Hs .sh d [] (fS.refl w) ⟨rfl,r⟩ cD.nil q
theorem Fin.flat(f:Fin K Hs H Qd Qv)(w:Wf Hs H)(r:Rep K H d v)(hf:d.flat=true)(q:Qd .sh d):Qv v H:=f.sh w (r.eY w.i3 hf) q
theorem Fin.bo(f:Fin K Hs H Qd Qv)(w:Wf Hs H)(r:Rep K H d v)(q:Qd .bo d):Qv v H:=f v H Hs .bo d [] (fS.refl w) ⟨rfl,r⟩ cD.nil q
def nS(m:Md)(d:D):Md:=match m with
 |.sh=>.sh
 |_=>bif d.flat then .sh else .bo
theorem Fin.nS(f:Fin K Hs H Qd Qv)(w:Wf Hs H)(r:Rep K H d v)(rs:m=.sh->Rep K Hs d v)(q:Qd (nS m d) d):Qv v H:=by
 cases m with
 |sh=>exact f.sh w (rs rfl) q
 |ow fl =>
  cases hf:d.flat with
  |true=>exact f.flat w r hf (by simpa[Q.nS,hf] using q)
  |false=>exact f.bo w r (by simpa[Q.nS,hf] using q)
 |bo =>
  cases hf:d.flat with
  |true=>exact f.flat w r hf (by simpa[Q.nS,hf] using q)
  |false=>exact f.bo w r (by simpa[Q.nS,hf] using q)
theorem Fin.lst(f:Fin K Hs H Qd Qv)(w:Wf Hs H)(hz:ds.length<=bS)(r:bT K H ds vs)(hf:dS ds=true)(q:Qd (.ow true) (.list ds)):∀ p,H p=none->Qv (.ref p) (upd H p (.lst vs)):=λp hp =>
 f _ _ Hs (.ow true) (.list ds) [p] (N4 w hp λ_ z=>nomatch z) ⟨.list (by rw[<- r.length];exact hz) ft ((r.eY w.i3 hf).owned hf),by simp⟩ ⟨by simp,λa h=>by
  obtain rfl:a=p:=by simpa using h
  exact⟨w.sub.free hp,hp⟩⟩ q
theorem Fin.P8(f:Fin K Hs H Qd Qv)(w:Wf Hs H)(hz:ds.length<=bS)(r:bT K Hs ds vs)(q:Qd (.ow false) (.list ds)):∀ p,H p=none->Qv (.ref p) (upd H p (.lst vs)):=λp hp =>
 f _ _ Hs (.ow false) (.list ds) [p] (N4 w hp λ_ z=>nomatch z) ⟨.list (by rw[<- r.length];exact hz) ft r.Gq,by simp⟩ ⟨by simp,λa h=>by
  obtain rfl:a=p:=by simpa using h
  exact⟨w.sub.free hp,hp⟩⟩ q
theorem Fin.tup(f:Fin K Hs H Qd Qv)(w:Wf Hs H)(hz:ds.length<=bS)(r:bT K H ds vs)(hf:dS ds=true)(q:Qd .sh (.tup ds)):∀ p,H p=none->Qv (.ref p) (upd H p (.tup vs)):=λp hp =>
 f _ _ (upd Hs p (.tup vs)) .sh (.tup ds) [] (VA w hp) ⟨rfl,.tup (by rw[<- r.length];exact hz) ft ((r.eY w.i3 hf).same ((bG.refl Hs).upd (w.sub.free hp)))⟩ cD.nil q
end
section
variable {X:Cx}{K:aC}
theorem PE.imp(h:PE X e te)(i:∀ σ H Q,y3 σ H Q->te σ H Q):PE X e y3:=λpins s σ H Q I q=>h pins s σ H Q I (i σ H Q q)
theorem PT.imp(h:PT X e te)(i:∀ σ H Q,y3 σ H Q->te σ H Q):PT X e y3:=λpins s σ H Q I q=>h pins s σ H Q I (i σ H Q q)
theorem PW.imp(h:PW X e te)(i:∀ σ H Q,y3 σ H Q->te σ H Q):PW X e y3:=λwh pins s σ H Q I q=>h wh pins s σ H Q I (i σ H Q q)
theorem PA.imp(h:PA X e te)(i:∀ σ H Q,y3 σ H Q->te σ H Q):PA X e y3:=λp pins s σ H Q I q=>h p pins s σ H Q I (i σ H Q q)
def P9:Option (Option Sl)->(Md->D->Prop)->Prop
 |some (some (.sh d)),Q=>Q .sh d
 |some (some (.ow _ d)),Q=>Q .bo d
 |some (some (.lk _ _ d)),Q=>Q .bo d
 |_,_=>False
def ai(i:Nat):WE:=λρ Q=>P9 ρ[i]? Q
theorem JC(h:PE X e (FK i)):QE X K e (ai i):=by
 refine PE.imp h λσ H Qv hx=>kN hx λHs ρ ah Q sr h f=>?_;unfold ai at h
 cases e:ρ[i]? with
 |none=>rw[e] at h;exact h.elim
 |some o =>
  cases o with
  |none=>rw[e] at h;exact h.elim
  |some sl =>
   obtain⟨v,e1,r⟩:=sr.sr.get e;rw[e] at h
   cases sl with
   |sh d=>exact⟨v,e1,Fin.sh f sr.wf r h⟩
   |xc a=>exact h.elim
   |ob a p=>exact h.elim
   |ow fl d =>obtain⟨As,_,r,_⟩:=r;exact⟨v,e1,Fin.bo f sr.wf (r.rep sr.wf.sub λ_ _=>rfl) h⟩
   |lk a fl d =>obtain⟨As,_,r,_⟩:=r;exact⟨v,e1,Fin.bo f sr.wf (r.rep sr.wf.sub λ_ _=>rfl) h⟩
theorem qv (i:Nat) (hN:X.N[i]? = some x:=by rfl) (hv:Ry X.env.scope x:=by first|exact Or.inl rfl|exact Or.inr (Or.inl rfl)|exact Or.inr (Or.inr rfl)) (hd:(x == ("__debug__" : Str))=false:=by decide) (tS:(x == ("__classdict__" : Str))=false:=by decide):QE X K (.Name x pos) (ai i):=JC (WX hN hv hd tS)
def wC(d:D):WE:=λ_ Q=>Q .sh d
theorem yX(h:PE X e (tC v))(r:∀ H,Rep K H d v):QE X K e (wC d) :=
 PE.imp h λσ H Qv hx=>kN hx λHs ρ ah Q sr h f=>Fin.sh f sr.wf (r _) h
theorem az{i j pos}:QE X K (.Constant (.int i) j pos) (wC (.int i)):=yX ck' λ_=>.int i
theorem uD{i j pos}(h:i.length<=bS:=by decide):QE X K (.Constant (.str i) j pos) (wC (.str i)):=yX cn' λ_=>.str h
theorem pE{i j pos}:QE X K (.Constant (.bool i) j pos) (wC (.bl i)):=yX cl' λ_=>.bl i
theorem Ay{j pos}:QE X K (.Constant .none j pos) (wC .non):=yX cm' λ_=>.non
abbrev W2:=Md->D->Md->D->(Md->D->Prop)->Prop
abbrev W1:=Md->D->(Md->D->Prop)->Prop
def k9(K:aC)(r:R2)(f:W2):Prop:=∀ Hs H m x v As n y u Bs Qd Qv,Wf Hs H->RM K Hs H m x v As->RM K Hs H n y u Bs->f m x n y Qd->Fin K Hs H Qd Qv->r v u H Qv
def N9(K:aC)(r:V->Hp->VK->Prop)(f:W1):Prop:=∀ Hs H m x v As Qd Qv,Wf Hs H->RM K Hs H m x v As->f m x Qd->Fin K Hs H Qd Qv->r v H Qv
def bp(f:W2)(ta tb:WE):WE:=λρ Q=>ta ρ λm x=>tb ρ λn y=>f m x n y Q
def i7(f:W1)(ta:WE):WE:=λρ Q=>ta ρ λm x=>f m x Q
variable {a b:Expr}{ta tb tc:WE}{pos:Pos}
theorem jz(br:k9 K r f)(σ:St)(H:Hp)(Qv:VK)(h:lT K (bp f ta tb) σ H Qv):Pl r (lT K ta) (lT K tb) σ H Qv:=by obtain⟨Hs,ρ,ah,Q,sr,h,fin⟩:=h;refine⟨Hs,ρ,ah,_,sr,h,λv H1 bE m x As g1 r1 f1 q1=>⟨bE,ρ,ah,_,sr.grow g1,q1,λu H2 aT n y Bs g2 r2 f2 q2=>?_⟩⟩;exact br aT H2 m x v As n y u Bs Q Qv g2.wf (r1.grow g2) r2 q2 (Fin.after fin (g1.trans g2))
theorem Od(ho:eI X (oC op) r)(br:k9 K r f)(ha:QE X K a ta)(hb:QE X K b tb):QE X K (.BinOp a op b pos) (bp f ta tb):=PE.imp (cX' ho ha hb) (jz br)
theorem gB'(ho:RP X (unaryOp op) r)(br:N9 K r f)(ha:QE X K a ta):QE X K (.UnaryOp op a pos) (i7 f ta):=by refine PE.imp (cY' ho ha) λσ H Qv hx=>kN hx λHs ρ ah Q sr h fin=>?_;exact⟨Hs,ρ,ah,_,sr,h,λv H1 bE m x As g1 r1 f1 q1=>br bE H1 m x v As Q Qv g1.wf r1 q1 (Fin.after fin g1)⟩
theorem qY(ho:eI X (hJ op) r)(br:k9 K r f)(ha:QE X K a ta)(hb:QE X K b tb)(hm:L8 op b=false:=by first|exact Zh _|rfl):QE X K (.Compare a [op] [b] pos) (bp f ta tb):=PE.imp (dv' ho ha hb hm) (jz br)
def wB(t:WE):WT:=λρ Q=>t ρ λ_ x=>match x with
 |.bl b=>Q b
 |_=>False
theorem Ah(σ:St)(H:Hp)(Qv:Bool->Hp->Prop)(h:Dx K (wB t) σ H Qv):UE (lT K t) σ H Qv:=by
 obtain⟨Hs,ρ,ah,Q,sr,h,fin⟩:=h;walk_at"b";have r:=r1.rep g1.wf
 cases r with
 |bl b=>exact⟨b,rfl,fin b H1 bE g1 q1⟩
 |_=>exact q1.elim
theorem sW(h:lT K t σ H Q)(i:∀ v H',Q v H'->Q' v H'):lT K t σ H Q':=by obtain⟨Hs,ρ,ah,Qd,sr,h,fin⟩:=h;exact⟨Hs,ρ,ah,Qd,sr,h,λv H1 bE m x As g1 r1 f1 q1=>i _ _ (fin v H1 bE m x As g1 r1 f1 q1)⟩
theorem aW(ho:eI X (hJ op) r)(br:k9 K r f)(ha:QE X K a ta)(hb:QE X K b tb)(hm:L8 op b=false:=by first|exact Zh _|rfl):QT X K (.Compare a [op] [b] pos) (wB (bp f ta tb)):=by
 refine PT.imp (dw' ho ha hb hm) λσ H Qv h=>?_;obtain⟨Hs,ρ,ah,Q,sr,h,fin⟩:=h;refine jz br σ H _ ⟨Hs,ρ,ah,_,sr,h,λv H1 bE m x As g1 r1 f1 q1=>?_⟩;have r:=r1.rep g1.wf
 cases r with
 |bl b=>exact⟨b,rfl,fin b H1 bE g1 q1⟩
 |_=>exact q1.elim
theorem tV(h:QE X K a t)(he:∀ whole,isTrue a X.env whole=(do let v <- whole;standAt a.pos;holding [v] (truthy v)):=by intro _;rfl):QT X K a (wB t):=PT.imp (cp' h he) Ah
def pU(f g:W2)(ta tb tc:WE):WE:=λρ Q=>ta ρ λm x=>tb ρ λn y=>f m x n y λ_ z=>match z with
 |.bl k=>if k=true then tc ρ λl w=>g n y l w Q else Q .sh (.bl false)
 |_=>False
end
end L2.Q
namespace L2.Q
open PySem PySem.Spec PyProof.Rows
section
variable {X:Cx}{K:aC}{a b c:Expr}{ta tb tc:WE}{pos:Pos}
theorem vq(br:k9 K r f)(VB:k9 K r' g)(σ:St)(H:Hp)(Qv:VK)(h:lT K (pU f g ta tb tc) σ H Qv):Zi r r' (lT K ta) (lT K tb) (lT K tc) σ H Qv:=by
 obtain⟨Hs,ρ,ah,Q,sr,h,fin⟩:=h;refine⟨Hs,ρ,ah,_,sr,h,λv H1 bE m x As g1 r1 f1 q1=>⟨bE,ρ,ah,_,sr.grow g1,q1,λu H2 aT n y Bs g2 r2 f2 q2=>?_⟩⟩;refine br aT H2 m x v As n y u Bs _ _ g2.wf (r1.grow g2) r2 q2 λz H3 eS m3 d3 P_ g3 r3 f3 q3=>?_;have rr:=r3.rep g3.wf
 cases rr with
 |bl k =>
  refine⟨k,rfl,?_⟩;have Sw:Fin K eS H3 Q Qv:=Fin.after fin ((g1.trans g2).trans g3)
  cases k with
  |false=>exact Sw.sh g3.wf (.bl false) q3
  |true =>refine⟨eS,ρ,ah,_,((sr.grow g1).grow g2).grow g3,q3,λw H4 BE l z Oe g4 r4 f4 q4=>?_⟩;exact VB BE H4 n y u Bs l z w Oe Q Qv g4.wf ((r2.grow g3).grow g4) r4 q4 (Fin.after Sw g4)
 |_=>exact q3.elim
theorem zG(ho:eI X (hJ op) r)(ot:eI X (hJ op') r')(br:k9 K r f)(VB:k9 K r' g)(ha:QE X K a ta)(hb:QE X K b tb)(hc:QE X K c tc)(hm:lastMarks [op,op'] [b,c]=false:=by with_unfolding_all rfl):QT X K (.Compare a [op,op'] [b,c] pos) (wB (pU f g ta tb tc)):=by
 refine PT.imp (dx' ho ot ha hb hc hm) λσ H Qv h=>?_;obtain⟨Hs,ρ,ah,Q,sr,h,fin⟩:=h;refine vq br VB σ H _ ⟨Hs,ρ,ah,_,sr,h,λv H1 bE m x As g1 r1 f1 q1=>?_⟩;have r:=r1.rep g1.wf
 cases r with
 |bl b=>exact⟨b,rfl,fin b H1 bE g1 q1⟩
 |_=>exact q1.elim
def SG(t u:WT):WT:=λρ Q=>t ρ λc=>if c=true then u ρ Q else Q false
def Qa(t u:WT):WT:=λρ Q=>t ρ λc=>if c=true then Q true else u ρ Q
def Lv(t:WT):WT:=λρ Q=>t ρ λc=>Q (!c)
variable {tA tB:WT}{rest:List Expr}
theorem oO{t u:WT}{f:Bool->TT}{σ:St}{H:Hp}{Qv:Bool->Hp->Prop}{G:Bool->(Bool->Prop)->Env->Prop}(h:Dx K (λρ Q=>t ρ λc=>G c Q ρ) σ H Qv)(i:∀ c H1 bE ρ ah Q,eC K bE ρ σ H1 ah->G c Q ρ->(∀ b H' ax,fS bE H1 ax H'->Q b->Qv b H')->f c σ H1 Qv):Dx K t σ H λc H1=>f c σ H1 Qv:=by
 obtain⟨Hs,ρ,ah,Q,sr,h,fin⟩:=h;exact⟨Hs,ρ,ah,_,sr,h,λc H1 bE g1 q1=>i c H1 bE ρ ah Q (sr.grow g1) q1 λb H' ax g2=>fin b H' ax (g1.trans g2)⟩
theorem wF(ha:QT X K a tA):QW X K (.BoolOp .And [a] pos) tA:=pw_and1 ha
theorem Bc(ha:QT X K a tA):QW X K (.BoolOp .Or [a] pos) tA:=pw_or1 ha
theorem BW(ha:QT X K a tA)(hb:QW X K (.BoolOp .And (b :: rest) pos) tB):QW X K (.BoolOp .And (a :: b :: rest) pos) (SG tA tB):=by
 refine PW.imp (pw_and ha hb) λσ H Qv h=>?_;refine oO (u:=tB) (f:=λc σ H1 Q=>if c=true then Dx K tB σ H1 Q else Q false H1) h λc H1 bE ρ ah Q sr q fin=>?_
 cases c with
 |true=>exact⟨bE,ρ,ah,Q,sr,q,fin⟩
 |false=>exact fin false H1 bE (fS.refl sr.wf) q
theorem Ew(ha:QT X K a tA)(hb:QW X K (.BoolOp .Or (b :: rest) pos) tB):QW X K (.BoolOp .Or (a :: b :: rest) pos) (Qa tA tB):=by
 refine PW.imp (pw_or ha hb) λσ H Qv h=>?_;refine oO (u:=tB) (f:=λc σ H1 Q=>if c=true then Q true H1 else Dx K tB σ H1 Q) h λc H1 bE ρ ah Q sr q fin=>?_
 cases c with
 |true=>exact fin true H1 bE (fS.refl sr.wf) q
 |false=>exact⟨bE,ρ,ah,Q,sr,q,fin⟩
theorem SJ(h:QW X K a tA):QT X K a tA:=h _
theorem p7(ha:QT X K a tA):QT X K (.UnaryOp .Not a pos) (Lv tA):=by refine PT.imp (cu' ha) λσ H Qv h=>?_;exact oO (u:=tA) (f:=λc σ H1 Q=>Q (!c) H1) h λc H1 bE ρ ah Q sr q fin=>fin _ H1 bE (fS.refl sr.wf) q
def yz(ta tb:WE):WE:=λρ Q=>ta ρ λ_ x=>match x with
 |.bl c=>if c=true then tb ρ Q else Q .sh (.bl false)
 |_=>False
theorem Hr{op}(h:QE X K a ta):QE X K (.BoolOp op [a] pos) ta:=cw' h
theorem FW(ha:QE X K a ta)(hb:QE X K (.BoolOp .And (b :: rest) pos) tb):QE X K (.BoolOp .And (a :: b :: rest) pos) (yz ta tb):=by
 refine PE.imp (cx' ha hb) λσ H Qv hx=>kN hx λHs ρ ah Q sr h fin=>?_;walk_at"b";have r:=r1.rep g1.wf
 cases r with
 |bl c =>
  refine⟨c,rfl,?_⟩
  cases c with
  |true=>exact⟨bE,ρ,ah,Q,sr.grow g1,q1,Fin.after fin g1⟩
  |false=>exact Fin.sh (Fin.after fin g1) g1.wf (.bl false) q1
 |_=>exact q1.elim
def SK:D->Option Bool
 |.non=>some false
 |.bl b=>some b
 |.int i=>some (i != 0)
 |.str x=>some ((x.length:Int) != 0)
 |.list xs=>some !xs.isEmpty
 |.tup xs=>some !xs.isEmpty
 |.dK kvs=>none
 |.dT kvs=>none
def VC(t:WE):WT:=λρ Q=>t ρ λ_ x=>∃ b,SK x=some b/\Q b
end
def gx:W2:=λm x n y Q=>match x,y with
 |.int i,.int j=>Q .sh (.int (i+j))
 |.str i,.str j=>i.length+j.length<=bS/\Q .sh (.str (i++j))
 |.list xs,.list ys=>xs.length+ys.length<=bS/\((dS xs=true/\dS ys=true/\Q (.ow true) (.list (xs++ys)))\/(m=.sh/\n=.sh/\Q (.ow false) (.list (xs++ys))))
 |.tup xs,.tup ys=>xs≠[]/\xs.length+ys.length<=bS/\dS xs=true/\dS ys=true/\Q .sh (.tup (xs++ys))
 |_,_=>False
def Og(P:Int->Int->(Md->D->Prop)->Prop):W2:=λ_ x _ y Q=>match x,y with
 |.int i,.int j=>P i j Q
 |_,_=>False
def VD(P:Int->Int->(Md->D->Prop)->Prop)(S:Str->Str->(Md->D->Prop)->Prop):W2:=λ_ x _ y Q=>match x,y with
 |.int i,.int j=>P i j Q
 |.str i,.str j=>S i j Q
 |_,_=>False
def SN:W2:=Og λi j Q=>Q .sh (.int (i-j))
def rp:W2:=Og λi j Q=>B9 i j/\Q .sh (.int (i*j))
def GV:W2:=Og λi j Q=>(0<j/\j<1073741824)/\Q .sh (.int (i / j))
def AH:W2:=Og λi j Q=>0<j/\Q .sh (.int (i % j))
def Qb:W2:=VD (λi j Q=>Q .sh (.bl (decide (i<j)))) λi j Q=>Q .sh (.bl (qV i j))
def SQ:W2:=VD (λi j Q=>Q .sh (.bl (decide (i<=j)))) λi j Q=>Q .sh (.bl (!qV j i))
def SV:W2:=Og λi j Q=>Q .sh (.bl (decide (j<i)))
def og:W2:=λ_ x _ y Q=>match x,y with
 |.int i,.int j=>Q .sh (.bl (decide (i=j)))
 |.str i,.str j=>Q .sh (.bl (decide (i=j)))
 |.bl i,.bl j=>Q .sh (.bl (decide (i=j)))
 |_,_=>dP 12 x=true/\dP 12 y=true/\Q .sh (.bl (iO x y))
def DB:W2:=λ_ x _ y Q=>match x,y with
 |.int i,.int j=>Q .sh (.bl (!decide (i=j)))
 |.str i,.str j=>Q .sh (.bl (!decide (i=j)))
 |.bl i,.bl j=>Q .sh (.bl (!decide (i=j)))
 |_,_=>dP 12 x=true/\dP 12 y=true/\Q .sh (.bl (!iO x y))
def D.GW:D->Bool
 |.non=>true
 |_=>false
def vX:W2:=λ_ x _ y Q=>match y with
 |.non=>Q .sh (.bl (!x.GW))
 |_=>False
def eN:D->Bool
 |.non=>true
 |.bl _=>true
 |.int _=>true
 |.str _=>true
 |_=>false
def inD(x:D)(ys:List D):Bool:=ys.any λy=>iO y x
def wt(neg:Bool):W2:=λ_ x _ y Q=>match y with
 |.str j=>match x with
  |.str i=>Q .sh (.bl (if neg then !NJ i j else NJ i j))
  |_=>False
 |.list ys=>eN x=true/\ys.all eN=true/\Q .sh (.bl (if neg then !inD x ys else inD x ys))
 |.tup ys=>eN x=true/\ys.all eN=true/\Q .sh (.bl (if neg then !inD x ys else inD x ys))
 |.dK kvs=>∃ k,x.key1=some k/\Q .sh (.bl (if neg then !(eL kvs k).isSome else (eL kvs k).isSome))
 |.dT kvs=>match x with
  |.tup xs=>∃ ks,dN xs=some ks/\Q .sh (.bl (if neg then !(eL kvs ks).isSome else (eL kvs ks).isSome))
  |_=>False
 |_=>False
section
variable {K:aC}
theorem Fj(f:Fin K Hs H Qd Qv)(w:Wf Hs H)(h:x.length<=bS)(q:Qd .sh (.str x)):Qv (.str x) H:=f.sh w (.str h) q
theorem cN(i j:Str):(i++j).length=i.length+j.length:=by show((i++j).cps.size)=_;show(i.cps++j.cps).size=_;simp[Str.length]
theorem G9:k9 K (λx y H Q=>zB K x y H Q\/UQ K x y H Q) gx:=by
 walk_at"a";have r1:=rx.rep w;have r2:=ry.rep w;unfold gx at h
 cases r1 with
 |int i=>cases r2 with
  |int j=>exact .inl (f.sh w (.int _) h)
  |_=>exact h.elim
 |str hi=>cases r2 with
  |str hj=>exact .inl ⟨h.1,Fj f w (by rw[cN];exact h.1) h.2⟩
  |_=>exact h.elim
 |list z1 s1 q1=>cases r2 with
  |list z2 s2 q2 =>
   have l1:=q1.length;have l2:=q2.length;have hz:=h.1;rcases h.2 with⟨f1,f2,q⟩|⟨rfl,rfl,q⟩
   ·refine .inl ⟨_,_,s1,s2,by lia,?_⟩;exact f.lst w (by rw[oo];exact hz) (q1.append q2) (by rw[eU,f1,f2];rfl) q
   ·obtain⟨_,rx⟩:=rx;obtain⟨_,ry⟩:=ry
    cases rx with
    |list z1' s1' Oh=>cases ry with
     |list z2' s2' q2' =>have l1:=Oh.length;have l2:=q2'.length;refine .inl ⟨_,_,bG.seq w.sub s1',bG.seq w.sub s2',by lia,?_⟩;exact f.P8 w (by rw[oo];exact hz) (Oh.append q2') q
  |_=>exact h.elim
 |tup t1 s1 q1=>cases r2 with
  |tup t2 s2 q2 =>
   have l1:=q1.length;have l2:=q2.length;obtain⟨kf,hz,f1,f2,q⟩:=h;refine .inr ⟨_,_,_,_,rfl,rfl,.inl (.inl s1),.inl (.inl s2),?_,by lia,?_⟩
   ·intro e;subst e;exact kf (Q7.mp l1)
   ·refine⟨λe=>?_,λ_=>f.tup w (by rw[oo];exact hz) (q1.append q2) (by rw[eU,f1,f2];rfl) q⟩;subst e;cases q2;rw[pV] at q;exact f.flat w (.tup t1 s1 q1) (by simpa[D.flat] using f1) q
  |_=>exact h.elim
 |_=>exact h.elim
theorem Bu{H:Hp}{x y:D}{v u:V}{m n:Md}{P:Int->Int->(Md->D->Prop)->Prop}{S:Str->Str->(Md->D->Prop)->Prop}{Q:Md->D->Prop}{G:Prop}(r1:Rep K H x v)(r2:Rep K H y u)(h:VD P S m x n y Q)(k:∀ i j,v=.int i->u=.int j->P i j Q->G)(ks:∀ i j,v=.str i->u=.str j->S i j Q->G):G:=by
 cases r1 with
 |int i=>cases r2 with
  |int j=>exact k i j rfl rfl h
  |_=>exact h.elim
 |str hi=>cases r2 with
  |str hj=>exact ks _ _ rfl rfl h
  |_=>exact h.elim
 |_=>exact h.elim
theorem jo{H:Hp}{x y:D}{v u:V}{m n:Md}{P:Int->Int->(Md->D->Prop)->Prop}{Q:Md->D->Prop}{G:Prop}(r1:Rep K H x v)(r2:Rep K H y u)(h:Og P m x n y Q)(k:∀ i j,v=.int i->u=.int j->P i j Q->G):G:=by
 cases r1 with
 |int i=>cases r2 with
  |int j=>exact k i j rfl rfl h
  |_=>exact h.elim
 |_=>exact h.elim
theorem HQ:k9 K Ea SN:=by
 walk_at"a";exact jo (rx.rep w) (ry.rep w) h λi j e1 e2 q=>by subst e1 e2;exact f.sh w (.int _) q
theorem Gd:k9 K Ej rp:=by
 walk_at"a";exact jo (rx.rep w) (ry.rep w) h λi j e1 e2 q=>by subst e1 e2;exact⟨q.1,f.sh w (.int _) q.2⟩
theorem Hv:k9 K Eg GV:=by
 walk_at"a";exact jo (rx.rep w) (ry.rep w) h λi j e1 e2 q=>by subst e1 e2;exact⟨q.1,f.sh w (.int _) q.2⟩
theorem Ie:k9 K DN AH:=by
 walk_at"a";exact jo (rx.rep w) (ry.rep w) h λi j e1 e2 q=>by subst e1 e2;exact⟨q.1,f.sh w (.int _) q.2⟩
theorem Gp:k9 K Vd SV:=by
 walk_at"a";exact jo (rx.rep w) (ry.rep w) h λi j e1 e2 q=>by subst e1 e2;exact f.sh w (.bl _) q
theorem Hk:k9 K Vb Qb:=by
 intro Hs H m x v As n y u Bs Qd Qv w rx ry h f;exact Bu (rx.rep w) (ry.rep w) h (λi j e1 e2 q=>by
  subst e1 e2;exact f.sh w (.bl _) q) λi j e1 e2 q=>by
  subst e1 e2;exact f.sh w (.bl _) q
theorem JM:k9 K Vc SQ:=by
 intro Hs H m x v As n y u Bs Qd Qv w rx ry h f;exact Bu (rx.rep w) (ry.rep w) h (λi j e1 e2 q=>by
  subst e1 e2;exact f.sh w (.bl _) q) λi j e1 e2 q=>by
  subst e1 e2;exact f.sh w (.bl _) q
theorem eq_data(w:Wf Hs H)(rx:Rep K H x v)(ry:Rep K H y u)(f:Fin K Hs H Qd Qv)(h:dP 12 x=true/\dP 12 y=true/\Qd .sh (.bl (iO x y))):Vf K v u H Qv:=by obtain⟨h1,h2,q⟩:=h;have l1:=iz 12 x h1;have l2:=iz 12 y h2;exact⟨x.py,y.py,rx.l2 h1,ry.l2 h2,l1.1,l2.1,by lia,f.sh w (.bl _) q⟩
theorem ne_data(w:Wf Hs H)(rx:Rep K H x v)(ry:Rep K H y u)(f:Fin K Hs H Qd Qv)(h:dP 12 x=true/\dP 12 y=true/\Qd .sh (.bl (!iO x y))):Vg K v u H Qv:=by obtain⟨h1,h2,q⟩:=h;have l1:=iz 12 x h1;have l2:=iz 12 y h2;exact⟨x.py,y.py,rx.l2 h1,ry.l2 h2,l1.1,l2.1,by lia,f.sh w (.bl _) q⟩
theorem gw:k9 K (Sg K) og:=by
 walk_at"a";have r1:=rx.rep w;have r2:=ry.rep w;have d:=λh=>eq_data (Qd:=Qd) (Qv:=Qv) w r1 r2 f h
 cases r1 with
 |int i=>cases r2 with
  |int j=>exact f.sh w (.bl _) h
  |_=>exact d h
 |str i=>cases r2 with
  |str j=>exact f.sh w (.bl _) h
  |_=>exact d h
 |bl i=>cases r2 with
  |bl j=>exact f.sh w (.bl _) h
  |_=>exact d h
 |_=>exact d h
theorem Dd:k9 K (Sh K) DB:=by
 walk_at"a";have r1:=rx.rep w;have r2:=ry.rep w;have d:=λh=>ne_data (Qd:=Qd) (Qv:=Qv) w r1 r2 f h
 cases r1 with
 |int i=>cases r2 with
  |int j=>exact f.sh w (.bl _) h
  |_=>exact d h
 |str i=>cases r2 with
  |str j=>exact f.sh w (.bl _) h
  |_=>exact d h
 |bl i=>cases r2 with
  |bl j=>exact f.sh w (.bl _) h
  |_=>exact d h
 |_=>exact d h
theorem Dm(r:Rep K H x v):decide (v=V.non)=x.GW:=by cases r<;>first|rfl|exact decide_eq_false (λz=>nomatch z)
theorem rD:k9 K (λx y H Q=>y=.non/\Q (.bl (!decide (x=.non))) H) vX:=by
 walk_at"a";have r1:=rx.rep w;have r2:=ry.rep w;have e:=Dm r1
 cases r2 with
 |non=>exact⟨rfl,by rw[e];exact f.sh w (.bl _) h⟩
 |_=>exact h.elim
theorem jB(r:Rep K H x v)(h:eN x=true):CB v=true:=by cases r<;>first|rfl|(simp[eN] at h)
theorem Dw(r:Rep K H x v)(s:Rep K H y u)(h:eN x=true)(g:eN y=true):EG v u=iO x y:=by cases r<;>simp[eN] at h<;>cases s<;>simp[eN] at g<;>rfl
theorem Gm(r:Rep K H x v)(h:eN x=true)(rs:bT K H ys us)(g:ys.all eN=true):us.all CB=true/\R0 v us=inD x ys:=by
 induction ys generalizing us with
 |nil=>rw[rs.n0];exact⟨rfl,rfl⟩
 |cons y ys ih =>
  obtain⟨u,us,rfl,s,ss⟩:=rs.c;simp only[D8,mS] at g;obtain⟨e1,e2⟩:=ih ss g.2;refine⟨by simp only[D8,jB s g.1,e1,Bool.and_self],?_⟩;unfold R0 inD at *
  rw[D9,D9,e2,Dw s r g.1 h]
theorem oV{κ:Type}[DecidableEq κ]{H:Hp}{k:κ}{kvs:List (κ × D)}{vs:List V}(r:bT K H (kvs.map (·.2)) vs):(hV ((kvs.map (·.1)).zip vs) k).isSome=(eL kvs k).isSome:=by
 have:=zip_get (k:=k) r;split at this
 ·rename_i e;obtain⟨v,e1,_⟩:=this;rw[e1,e];rfl
 ·rename_i e;rw[this,e];rfl
theorem qg:k9 K (Kk K neg) (wt neg):=by
 walk_at"a";have r1:=rx.rep w;have r2:=ry.rep w
 cases r2 with
 |str j=>cases r1 with
  |str i=>exact f.sh w (.bl _) h
  |_=>exact h.elim
 |list z s q =>
  obtain⟨h1,h2,h3⟩:=h;obtain⟨e1,e2⟩:=Gm r1 h1 q h2;have h4:=jB r1 h1;have g:Px K neg v (.ref _) H Qv:=⟨_,_,rfl,.inl s,h4,e1,by rw[e2];exact f.sh w (.bl _) h3⟩
  cases r1<;>exact .inr g
 |tup _ s q =>
  obtain⟨h1,h2,h3⟩:=h;obtain⟨e1,e2⟩:=Gm r1 h1 q h2;have h4:=jB r1 h1;have g:Px K neg v (.ref _) H Qv:=⟨_,_,rfl,.inr (.inl (.inl s)),h4,e1,by rw[e2];exact f.sh w (.bl _) h3⟩
  cases r1<;>exact .inr g
 |dK kk e q =>obtain⟨k,hk,h3⟩:=h;have ev:=r1.key hk;subst ev;have eg:=oV (k:=k) q;cases k<;>exact .inl ⟨_,lh.k' e,by rw[eg];exact f.sh w (.bl _) h3⟩
 |dT kk e q =>
  cases r1 with
  |tup t1 e1 q1 =>obtain⟨ks,hk,h3⟩:=h;obtain⟨b,eb,e2⟩:=Rep.kg (.tup t1 e1 q1) hk;cases eb;have eg:=oV (k:=ks) q;exact .inl ⟨_,lh.t' e e2,by rw[eg];exact f.sh w (.bl _) h3⟩
  |_=>exact h.elim
 |_=>exact h.elim
end
section
variable {X:Cx}{K:aC}{a b:Expr}{ta tb:WE}{pos:Pos}
theorem JV(hK:X.K=K:=by rfl):eI X (oC .Add) (λx y H Q=>zB K x y H Q\/UQ K x y H Q):=by subst hK;exact E_.or ef'
theorem a_(ha:QE X K a ta)(hb:QE X K b tb)(hK:X.K=K:=by rfl):QE X K (.BinOp a .Add b pos) (bp gx ta tb):=Od (JV hK) G9 ha hb
theorem Jj(ha:QE X K a ta)(hb:QE X K b tb):QE X K (.BinOp a .Sub b pos) (bp SN ta tb):=Od Ek HQ ha hb
theorem gn(ha:QE X K a ta)(hb:QE X K b tb):QE X K (.BinOp a .Mult b pos) (bp rp ta tb):=Od Ci Gd ha hb
theorem vY(ha:QE X K a ta)(hb:QE X K b tb):QE X K (.BinOp a .FloorDiv b pos) (bp GV ta tb):=Od Fd Hv ha hb
theorem oE(ha:QE X K a ta)(hb:QE X K b tb):QE X K (.BinOp a .Mod b pos) (bp AH ta tb):=Od Fb Ie ha hb
def Qc:W1:=λ_ x Q=>match x with
 |.int i=>Q .sh (.int (-i))
 |_=>False
theorem Ia:N9 K (rU λi=>.int (-i)) Qc:=by
 walk_at"d";have r1:=rx.rep w
 cases r1 with
 |int i=>exact⟨i,rfl,f.sh w (.int _) h⟩
 |_=>exact h.elim
theorem Ga(ha:QE X K a ta):QE X K (.UnaryOp .USub a pos) (i7 Qc ta):=gB' dh' Ia ha
end
def dn:WA:=λ_ Q=>Q []
def ak(te:WE)(t:WA):WA:=λρ Q=>te ρ λm x=>t ρ λps=>Q ((m,x) :: ps)
def DC:Md × D->Bool
 | (.sh,_)=>true
 | (_,d)=>d.flat
def Oi:Md × D->Bool
 | (.bo,d)=>d.flat
 |_=>true
def LB:Md × D->Bool
 | (.ow true,_)=>true
 | (_,d)=>d.flat
def Ds(ps:List (Md × D)):Md:=bif ps.all DC then .sh else bif ps.all Oi then .ow (ps.all LB) else .bo
def DK(ps:List (Md × D)):Md:=bif ps.all Oi then .ow (ps.all LB) else .bo
def nV(t:WA):WE:=λρ Q=>t ρ λps=>ps.length<=bS/\Q (Ds ps) (.tup (ps.map (·.2)))
def y6(t:WA):WE:=λρ Q=>t ρ λps=>ps.length<=bS/\Q (DK ps) (.list (ps.map (·.2)))
section
variable {X:Cx}{K:aC}{e:Expr}{es:List Expr}{te:WE}{t:WA}{pos:Pos}{Hs H:Hp}
theorem au:QA X K [] dn:=PA.imp x5 λσ H Qv hx=>kN hx λHs ρ ah Q sr h f=>f [] H Hs [] [] (fS.refl sr.wf) .nil cD.nil h
theorem cD.app(f1:cD bE H As)(o:∀ a∈As,H1 a≠none)(f2:cD aT H1 Bs)(s:bG H H1)(k:∀ a,bE a=none->H1 a≠none->aT a=none):cD aT H (As++Bs) :=
 ⟨ja.mpr ⟨f1.1,f2.1,λa ha b hb e=>by subst e;exact o a ha (f2.2 a hb).2⟩,λa h=>by
  rcases eR.mp h with h|h
  ·exact⟨k a (f1.2 a h).1 (o a h),(f1.2 a h).2⟩
  ·exact⟨(f2.2 a h).1,s.free (f2.2 a h).2⟩⟩
theorem aa(ha:QE X K e te)(hr:QA X K es t)(hs:cc (e :: es) X.env=(false,dr e X.env) :: cc es X.env:=by rfl):QA X K (e :: es) (ak te t):=by refine PA.imp (tT ha hr hs) λσ H Qv hx=>kN hx λHs ρ ah Q sr h f=>?_;refine⟨Hs,ρ,ah,_,sr,h,λv H1 bE m x As g1 r1 f1 q1=>⟨bE,ρ,ah,_,sr.grow g1,q1,λvs H2 aT ps Bs g2 r2 f2 q2=>?_⟩⟩;exact f (v :: vs) H2 aT _ _ (g1.trans g2) (.cons (r1.grow g2) r2) (f1.app (λa h=>(r1.own a h).ne) f2 g1.all λa h1 h2=>g2.pj h1 h2) q2
theorem Dp.sh(w:Wf Hs H){ps:List (Md × D)}(r:Dp K Hs H ps vs As):ps.all DC=true->bT K Hs (ps.map (·.2)) vs:=by
 induction r with
 |nil=>exact λ_=>.nil
 |@cons m d v ps vs As Bs r rs ih =>
  intro h;simp only[D8,mS] at h;refine .cons ?_ (ih h.2)
  cases m with
  |sh=>exact r.2
  |ow fl=>exact r.flat w h.1
  |bo=>exact r.flat w h.1
theorem Dp.ow(w:Wf Hs H){ps:List (Md × D)}(r:Dp K Hs H ps vs As):ps.all Oi=true->(fl=true->ps.all LB=true)->∃ Bs,Bs.Sublist As/\(ps.all DC=false->Bs≠[])/\aB K Hs H fl (ps.map (·.2)) vs Bs:=by
 induction r with
 |nil=>exact λ_ _=>⟨[],MA _,(λz=>Bool.noConfusion z),.nil⟩
 |@cons m d v ps vs A1 Cs r rs ih =>
  intro h hf;simp only[D8,mS] at h hf;obtain⟨Bs,sb,ne,q⟩:=ih h.2 λz=>(hf z).2;have sk:([]++Bs).Sublist (A1++Cs):=by simpa using sb.trans (n4 _ _)
  have M0:d.flat=true->DC (m,d)=true->∃ Bs,Bs.Sublist (A1++Cs)/\(((m,d) :: ps).all DC=false->Bs≠[])/\aB K Hs H fl (((m,d) :: ps).map (·.2)) (v :: vs) Bs:=λhd ho =>
   ⟨[]++Bs,sk,λz=>ne (by rw[D8,ho] at z;simpa using z),.cons (.sh (λ_=>hd) (r.flat w hd)) q⟩
  cases m with
  |sh=>exact⟨[]++Bs,sk,λz=>ne (by simpa[DC] using z),.cons (.sh (λz=>(hf z).1) r.2) q⟩
  |bo=>exact M0 h.1 h.1
  |ow b =>
   cases hd:d.flat with
   |true=>exact M0 hd hd
   |false =>
    refine⟨A1++Bs,sb.append_left _,λ_ z=>r.2 (OO.mp z).1,.cons ?_ q⟩
    cases fl with
    |false=>exact cf.SF r.1
    |true =>
     have:=(hf rfl).1
     cases b with
     |true=>exact r.1
     |false=>simp[LB,hd] at this
theorem tD:∀ {ps:List (Md × D)},dS (ps.map (·.2))=true->ps.all DC=true
 |[],_=>rfl
 | (m,d) :: ps,h=>by simp only[gE,dS,mS] at h;simp only[D8,mS];exact⟨by cases m<;>simp[DC,h.1],tD h.2⟩
theorem dH{x1}(h:QA X K es t):QE X K (.Tuple es x1 pos) (nV t):=by
 refine PE.imp (dI' h) λσ H Qv hx=>kN hx λHs ρ ah Q sr h f=>?_;refine⟨Hs,ρ,ah,_,sr,h,λvs H1 bE ps As g1 r1 f1 q1=>?_⟩;obtain⟨hz,q⟩:=q1;have rl:=(r1.reps g1.wf)
 have hl:=rl.length;rw[b5] at hl;refine⟨by lia,λp hp=>?_⟩;have g2:=VA (vs:=vs) g1.wf hp;have fin:=Fin.after f g1;unfold Ds at q
 cases h1:ps.all DC with
 |true =>rw[h1] at q;exact fin _ _ _ .sh _ [] g2 ⟨rfl,.tup (by lia) ft ((r1.sh g1.wf h1).same g2.sh)⟩ cD.nil q
 |false =>
  rw[h1] at q
  cases h2:ps.all Oi with
  |false =>rw[h2] at q;exact fin _ _ _ .bo _ [] g2 ⟨rfl,.tup (by lia) ft (rl.same g2.all)⟩ cD.nil q
  |true =>
   rw[h2] at q;obtain⟨Bs,sb,nz,ro⟩:=r1.ow (fl:=ps.all LB) g1.wf h2 λz=>z;have kf:dS (ps.map (·.2))=false:=by
    cases hf:dS (ps.map (·.2)) with
    |false=>rfl
    |true=>rw[tD hf] at h1;cases h1
   have own:=ro.own;refine f _ _ _ (.ow _) _ Bs (g1.trans g2) ⟨.tup (by lia) ft kf (ro.grow g2.sh g2.all),nz h1⟩ ⟨sb.nodup f1.1,λa ha=>⟨?_,(f1.2 a (sb.subset ha)).2⟩⟩ q;exact g2.pj (f1.2 a (sb.subset ha)).1 (own a ha).ne
theorem iH(h:QA X K es t):QE X K (.List es pos) (y6 t):=by
 refine PE.imp (dJ' h) λσ H Qv hx=>kN hx λHs ρ ah Q sr h f=>?_;refine⟨Hs,ρ,ah,_,sr,h,λvs H1 bE ps As g1 r1 f1 q1=>?_⟩;obtain⟨hz,q⟩:=q1;have rl:=(r1.reps g1.wf)
 have hl:=rl.length;rw[b5] at hl;refine⟨by lia,λp hp=>?_⟩;have g2:=N4 (o:=.lst vs) g1.wf hp λ_ z=>nomatch z;have fin:=Fin.after f g1;unfold DK at q
 cases h2:ps.all Oi with
 |false =>rw[h2] at q;exact fin _ _ _ .bo _ [] g2 ⟨rfl,.list (by lia) (.inl (.inl ft)) (rl.same g2.all)⟩ cD.nil q
 |true =>
  rw[h2] at q;obtain⟨Bs,sb,nz,ro⟩:=r1.ow (fl:=ps.all LB) g1.wf h2 λz=>z;have own:=ro.own;refine f _ _ _ (.ow _) _ (p :: Bs) (g1.trans g2) ⟨.list (by lia) ft (ro.grow g2.sh g2.all),by simp⟩ ⟨k7.mpr ⟨λm=>(own p m).ne hp,sb.nodup f1.1⟩,λa ha=>?_⟩ q;rcases eK.mp ha with rfl|ha
  ·exact⟨g1.wf.sub.free hp,g1.all.free hp⟩
  ·exact⟨g2.pj (f1.2 a (sb.subset ha)).1 (own a ha).ne,(f1.2 a (sb.subset ha)).2⟩
end
theorem bT.gS{K:aC}(r:bT K H ds vs)(h:gS ds i=some d):∃ v,L2.gS vs i=some v/\Rep K H d v:=by
 unfold L2.gS at *
 rw[<- r.length]
 cases e:oa ds.length i with
 |none=>rw[e] at h;cases h
 |some j =>rw[e] at h;exact r.get h
def eW:W2:=λm x _ y Q=>match x with
 |.list xs=>match y with
  |.int i=>∃ d,gS xs i=some d/\cp d (f:=λd=>Q (nS m d) d) ⟨⟩
  |_=>False
 |.tup xs=>match y with
  |.int i=>∃ d,gS xs i=some d/\cp d (f:=λd=>Q (nS m d) d) ⟨⟩
  |_=>False
 |.str z=>match y with
  |.int i=>∃ c,gS z.cps.toList i=some c/\Q .sh (.str ⟨#[c]⟩)
  |_=>False
 |.dK kvs=>∃ k d,y.key1=some k/\eL kvs k=some d/\cp d (f:=λd=>Q (nS m d) d) ⟨⟩
 |.dT kvs=>match y with
  |.tup ys=>∃ ks d,dN ys=some ks/\eL kvs ks=some d/\cp d (f:=λd=>Q (nS m d) d) ⟨⟩
  |_=>False
 |_=>False
def VF(K:aC):R2:=λx y H Q=>Se K x y H Q\/∃ a v,x=.ref a/\lh H a y (some v)/\Q v H
theorem Fe(c:Nat):(⟨#[c]⟩:Str).length<=bS:=by show 1<=bS;decide
theorem RM.here{K:aC}(w:Wf Hs H)(r:RM K Hs H m d v As):(m=.sh/\Rep K Hs d v)\/(m≠.sh/\Rep K H d v):=by
 cases m with
 |sh=>exact .inl ⟨rfl,r.2⟩
 |ow fl=>exact .inr ⟨(λz=>nomatch z),r.rep w⟩
 |bo=>exact .inr ⟨(λz=>nomatch z),r.2⟩
section
variable {X:Cx}{K:aC}
theorem JK:k9 K (VF K) eW:=by
 walk_at"a";have r2:=ry.rep w;have core:∀ G:Hp,bG G H->(∀ d v,Rep K G d v->Rep K H d v/\(m=.sh->Rep K Hs d v))->Rep K G x v->VF K v u H Qv:=by
  intro G sg up r1
  cases r1 with
  |list z s q =>
   cases r2 with
   |int i =>obtain⟨d,e,h⟩:=h;obtain⟨v',e',r'⟩:=q.gS e;obtain⟨u1,u2⟩:=up _ _ r';exact .inl (.inl ⟨_,v',bG.seq sg s,e',f.nS w u1 u2 h⟩)
   |_=>exact h.elim
  |tup _ s q =>
   cases r2 with
   |int i =>obtain⟨d,e,h⟩:=h;obtain⟨v',e',r'⟩:=q.gS e;obtain⟨u1,u2⟩:=up _ _ r';exact .inl (.inr ⟨_,v',.inl (.inl (sg _ _ s)),e',f.nS w u1 u2 h⟩)
   |_=>exact h.elim
  |str hz =>
   cases r2 with
   |int i =>obtain⟨c,e,h⟩:=h;exact .inl ⟨hz,c,e,f.sh w (.str (Fe c)) h⟩
   |_=>exact h.elim
  |dK kk s q =>obtain⟨k,d,hk,hg,h⟩:=h;have ev:=r2.key hk;subst ev;have z:=zip_get (k:=k) q;rw[hg] at z;obtain⟨v',e',r'⟩:=z;obtain⟨u1,u2⟩:=up _ _ r';exact .inr ⟨_,v',rfl,by rw[<- e'];exact lh.k' (bG.rd sg s),f.nS w u1 u2 h⟩
  |dT kk s q =>
   cases r2 with
   |tup t2 e2 q2 =>obtain⟨ks,d,hk,hg,h⟩:=h;obtain⟨b,eb,e3⟩:=Rep.kg (.tup t2 e2 q2) hk;cases eb;have z:=zip_get (k:=ks) q;rw[hg] at z;obtain⟨v',e',r'⟩:=z;obtain⟨u1,u2⟩:=up _ _ r';exact .inr ⟨_,v',rfl,by rw[<- e'];exact lh.t' (bG.rd sg s) e3,f.nS w u1 u2 h⟩
   |_=>exact h.elim
  |_=>exact h.elim
 rcases rx.here w with⟨hm,r⟩|⟨hm,r⟩
 ·exact core Hs w.sub (λd v q=>And.intro (q.same w.sub) λ_=>q) r
 ·exact core H (bG.refl H) (λd v q=>And.intro q λz=>absurd z hm) r
theorem aJ'(hu:X.A.units+64<fe)(hK:X.K=K:=by rfl):x6 X (VF K):=by subst hK;refine x6.or Bk ?_;intro value slice pins s σ H x y v u Q I rx ry h hs;obtain⟨a,w,rfl,g,q⟩:=h;cases rx;exact tail_any (eM' I g) F.slot_dict_getitem.lookup (eG' (by lia) I g ry λw' s3 I3 lS=>⟨w,H,I3,lS,q⟩) hs
variable {a b:Expr}{ta tb:WE}{pos:Pos}
theorem fF(ha:QE X K a ta)(hb:QE X K b tb)(hs:RX b:=by exact λ_ _=>rfl)(hK:X.K=K:=by rfl)(hu:X.A.units+64<fe:=by assumption):QE X K (.Subscript a b pos) (bp eW ta tb):=PE.imp (UU (aJ' hu hK) ha hb hs) (jz JK)
end
def qk{α:Type}(xs:List α)(lo hi:Option Int):List α:=(xs.drop (HT.cq xs.length 0 lo)).take (HT.cq xs.length xs.length hi-HT.cq xs.length 0 lo)
abbrev WO:=Env->(Option Int->Prop)->Prop
def xu(t:WE):WO:=λρ Q=>t ρ λ_ x=>match x with
 |.int i=>Q (some i)
 |_=>False
def Qe(m:Md)(x:D)(lo hi:Option Int)(Q:Md->D->Prop):Prop:=match x with
 |.str z=>Q .sh (.str (A8 z lo hi))
 |.list xs=>(dS xs=true/\Q (.ow true) (.list (qk xs lo hi)))\/(m=.sh/\Q (.ow false) (.list (qk xs lo hi)))
 |.tup xs=>dS xs=true/\¬ (HT.cq xs.length 0 lo=0/\HT.cq xs.length xs.length hi=xs.length)/\Q .sh (.tup (qk xs lo hi))
 |_=>False
def VG(te:WE)(tl th:WO):WE:=λρ Q=>te ρ λm x=>tl ρ λlo=>th ρ λhi=>Qe m x lo hi Q
def tpO(K:aC)(t:WO):TO:=λσ H Qv=>∃ Hs ρ ah Q,eC K Hs ρ σ H ah/\t ρ Q/\∀ o H' ax,fS Hs H ax H'->Q o->Qv o H'
abbrev QO(X:Cx)(K:aC)(e:Option Expr)(t:WO):Prop:=PO X e (tpO K t)
theorem zW(z:Str)(lo hi:Option Int):(A8 z lo hi).length<=z.length:=by unfold A8 Str.length;simp only[kA,mN,Fn,xD];lia
theorem oN{α:Type}(xs:List α)(lo hi:Option Int):(qk xs lo hi).length<=xs.length:=by unfold qk;rw[mN,Fn];lia
theorem oX{lo hi:Option Int}(h:dS xs=true):dS (qk xs lo hi)=true:=by
 rw[gH] at *
 intro x hx;exact h x (T1 (Ra hx))
section
variable {X:Cx}{K:aC}{e:Expr}{lo hi:Option Expr}{te:WE}{tl th:WO}{pos p2:Pos}
theorem yx(h:QE X K e te):QO X K (some e) (xu te):=λpins s σ H Q I hh=>eb' h pins s σ H Q I (by
 obtain⟨Hs,ρ,ah,Qd,sr,h,f⟩:=hh;walk_at"b";have r:=r1.rep g1.wf
 cases r with
 |int i=>exact⟨i,rfl,f _ H1 bE g1 q1⟩
 |_=>exact q1.elim)
theorem jH{lo hi:Option Int}(r:bT K H ds vs):bT K H (qk ds lo hi) (EF vs lo hi):=by unfold qk EF;rw[r.length];exact(r.drop _).take _
theorem gF'(hK:X.K=K:=by rfl):ND X (λx lo hi H Q=>Ve K x lo hi H Q\/Zx K x lo hi H Q):=by
 subst hK;intro pins s σ H x v vl vu lo hi sl Q I rx hs pl pu h;rcases h with h|h
 ·exact Hy pins s σ H x v vl vu lo hi sl Q I rx hs pl pu h
 ·exact ee' pins s σ H x v vl vu lo hi sl Q I rx hs pl pu h
theorem CN(he:QE X K e te)(hl:QO X K lo tl)(hh:QO X K hi th)(hK:X.K=K:=by rfl):QE X K (.Subscript e (.Slice lo hi none p2) pos) (VG te tl th):=by
 refine PE.imp (ed' (gF' hK) he hl hh) λσ H Qv hx=>kN hx λHs ρ ah Q sr h f=>?_;refine⟨Hs,ρ,ah,_,sr,h,λv H1 bE m x As g1 r1 f1 q1=>⟨bE,ρ,ah,_,sr.grow g1,q1,λl H2 aT g2 q2=>⟨aT,ρ,ah,_,(sr.grow g1).grow g2,q2,λu H3 eS g3 q3=>?_⟩⟩⟩;have r3:=(r1.grow g2).grow g3;have fin:Fin K eS H3 Q Qv:=Fin.after f ((g1.trans g2).trans g3);have rr:=r3.rep g3.wf
 cases rr with
 |str hz=>exact .inl ⟨hz,fin.sh g3.wf (.str (iX (zW _ _ _) hz)) q3⟩
 |list z s q =>
  have hz:=q.length;rcases q3 with⟨hf,q3⟩|⟨rfl,q3⟩
  ·exact .inl ⟨_,s,fin.lst g3.wf (iX (oN _ _ _) (by lia)) (jH q) (oX hf) q3⟩
  ·obtain⟨_,r3⟩:=r3
   cases r3 with
   |list z' s' q' =>have hz:=q'.length;exact .inl ⟨_,bG.seq g3.wf.sub s',fin.P8 g3.wf (iX (oN _ _ _) (by lia)) (jH q') q3⟩
 |tup z s q =>have hz:=q.length;obtain⟨hf,hn,q3⟩:=q3;exact .inr ⟨_,_,rfl,.inl (.inl s),by rw[<- hz];exact hn,fin.tup g3.wf (iX (oN _ _ _) (by lia)) (jH q) (oX hf) q3⟩
 |_=>exact q3.elim
end
def BF:W1:=λ_ x Q=>match x with
 |.str z=>Q .sh (.int z.length)
 |.list xs=>Q .sh (.int xs.length)
 |.tup xs=>Q .sh (.int xs.length)
 |.dK kvs=>Q .sh (.int kvs.length)
 |.dT kvs=>Q .sh (.int kvs.length)
 |_=>False
def BG(K:aC)(r:List V->Hp->VK->Prop)(f:W1):Prop:=∀ Hs H m x v As Qd Qv,Wf Hs H->RM K Hs H m x v As->f m x Qd->Fin K Hs H Qd Qv->r [v] H Qv
section
variable {X:Cx}{K:aC}{e:Expr}{te:WE}{pos p:Pos}{x:Str}{id T:String}
theorem lz(br:BG K r f)(σ:St)(H:Hp)(Qv:VK)(h:lT K (i7 f te) σ H Qv):UM r (UK (lT K te) UJ) σ H Qv:=by obtain⟨Hs,ρ,ah,Q,sr,h,fin⟩:=h;exact⟨Hs,ρ,ah,_,sr,h,λv H1 bE m x As g1 r1 f1 q1=>br bE H1 m x v As Q Qv g1.wf r1 q1 (Fin.after fin g1)⟩
theorem cz(hc:kC X (.builtin id) r)(br:BG K r f)(hm:X.mg x=none)(hv:mM x=some (.builtin id))(he:QE X K e te)(hs:cc [e] X.env=(false,dr e X.env) :: cc [] X.env:=by rfl) (hn:x ≠ "__name__" := by decide) (t5:(x == ("__debug__" : Str))=false:=by decide) (hg:Gl X x:=by rfl):QE X K (.Call (.Name x p) [e] [] pos) (i7 f te) :=
 PE.imp (Zt hc hg hm hv (tT he x5 hs) hn t5 hs) (lz br)
theorem oF(hc:kC X (.type T) r)(br:BG K r f)(hm:X.mg x=none)(hv:mM x=some (.type T))(he:QE X K e te)(hs:cc [e] X.env=(false,dr e X.env) :: cc [] X.env:=by rfl) (hn:x ≠ "__name__" := by decide) (t5:(x == ("__debug__" : Str))=false:=by decide) (hg:Gl X x:=by rfl):QE X K (.Call (.Name x p) [e] [] pos) (i7 f te) :=
 PE.imp (UN hc hg hm hv (tT he x5 hs) hn t5 hs) (lz br)
theorem DQ(hd:(d == oB)=false)(x:wm s.heap d es ep)(SW:(es.size:Int)<2 ^ 63)(h:∀ t t',Q (.int es.size t) { s with toks:=t' }):aI (aE prog w) A (call (.builtin "len") [.ref d]) Q E s:=by
 refine Calls.call_function_entry kind_len plain_len entry_len (args_len1 _) ?_;have mt:MeetsIn prog w (Builtin.«dict.__len__» ⟨[.ref d],[]⟩) (λ_ R s=>wm s.heap d es ep/\R (.ok (.ret (.int es.size s.toks))) { s with toks:=s.toks+1 }):=.of_wp λA R s dQ=>by obtain⟨hm,h⟩:=dQ;obtain⟨o,ho,hc,Sn⟩:=hm;show aI _ _ (dictSize d >>= _) _ _ s;unfold dictSize;refine aw (aw (OG ho Sn (bI ?_)));show aI _ _ (Builtin.Dict.pendingCount d >>= _) _ _ s;refine aw (wpAny_pendingCount_other hd ?_);refine wpAny_ret_mkInt ?_;rw[MQ];exact h
 unfold Builtin.«len»;refine aw (m:=oneArg "len" _) (bI ?_);refine aw (m:=callSpecial? (.ref d) (Str.ofString "__len__")) (OD (name:=Str.ofString "__len__") x.typ F.slot_dict_len (call_meetsIn F.slot_dict_len x.typ F.entry_dict_len (F.args_dict_len_1 _) mt ⟨x,?_⟩))
 show aI _ _ _ _ _ { s with toks:=s.toks+1 };refine aw (tJ (bI ?_));refine aw (wpAny_letGo ?_);show aI _ _ (if ((es.size:Nat):Int)<0 then _ else _) _ _ _;rw[if_neg (by lia)];show aI _ _ (if ((es.size:Nat):Int) >= 2 ^ 63 then _ else _) _ _ _;rw[if_neg (by lia)];exact aw (wpAny_mkInt (bI ⟨_,rfl,h _ _⟩))
theorem dC (hK:X.K=K:=by rfl):kC X (.builtin "len") (λxs H Q=>Sd K xs H Q\/∃ a kvs,xs=[.ref a]/\Rd H a (.dT kvs)/\Q (.int kvs.length) H):=by
 subst hK;walk_at"f";rcases h with h|⟨a,kvs,rfl,ha,q⟩
 ·exact yE pins s σ H xs us Q I r h
 ·obtain⟨u,rfl,ru⟩:=Vals.one r;cases ru;obtain⟨z,hd,ys,rel,o,es,ep,h1,h2,h3,h4,h5⟩:=(show gL X.prog X.w H s.heap a (.dT kvs) from I.rd ha)
  have hl:es.size=kvs.length:=by have:=congrArg List.length h4;rw[xD,b5] at this;rw[this];exact rel.length.symm
  exact DQ hd ⟨o,h1,h2,h3⟩ (by rw[jI] at z;lia) λt t'=>⟨.int kvs.length,H,I.tok _,⟨t,by rw[hl]⟩,q⟩
theorem pI:BG K (λxs H Q=>Sd K xs H Q\/∃ a kvs,xs=[.ref a]/\Rd H a (.dT kvs)/\Q (.int kvs.length) H) BF:=by
 walk_at"d";have r1:=rx.rep w
 cases r1 with
 |str hz=>exact .inl ⟨hz,f.sh w (.int _) h⟩
 |list z s q=>exact .inl (.inl ⟨_,s,by rw[<- q.length];exact f.sh w (.int _) h⟩)
 |tup _ s q=>exact .inl (.inr (.inl ⟨_,.inl (.inl s),by rw[<- q.length];exact f.sh w (.int _) h⟩))
 |dK kk s q=>exact .inl (.inr (.inr ⟨_,s,by
   have:=q.length;rw[b5] at this;rw[OZ,b5,<- this,O3];exact f.sh w (.int _) h⟩))
 |dT kk s q=>exact .inr ⟨_,_,rfl,s,by
   have:=q.length;rw[b5] at this;rw[OZ,b5,<- this,O3];exact f.sh w (.int _) h⟩
 |_=>exact h.elim
end
section
variable {X:Cx}{K:aC}{e:Expr}{te:WE}{pos:Pos}
theorem Cm(r:Rep K H d v)(h:SK d=some b):UG K v H b:=by
 cases r with
 |non=>cases h;rfl
 |bl b=>cases h;rfl
 |int i=>cases h;rfl
 |str hz =>cases h;exact⟨hz,rfl⟩
 |list z s q =>cases h;refine .inl ⟨_,s,?_⟩;cases q<;>rfl
 |tup _ s q =>cases h;refine .inr (.inl ⟨_,.inl (.inl s),?_⟩);cases q<;>rfl
 |dK _ s q=>cases h
 |dT _ s q=>cases h
theorem Ff(ha:QE X K e te)(he:∀ whole,isTrue e X.env whole=(do let v <- whole;standAt e.pos;holding [v] (truthy v)):=by intro _;rfl)(hK:X.K=K:=by rfl):QT X K e (VC te):=by subst hK;refine PT.imp (dA' ha he) λσ H Qv hx=>kN hx λHs ρ ah Q sr h f=>?_;refine⟨Hs,ρ,ah,_,sr,h,λv H1 bE m x As g1 r1 f1 q1=>?_⟩;obtain⟨b,hb,q⟩:=q1;exact⟨b,Cm (r1.rep g1.wf) hb,f b H1 bE g1 q⟩
end
def iS:Key->D
 |.inl i=>.int i
 |.inr x=>.str x
def vy:W1:=λm x Q=>match x with
 |.list xs=>(dS xs=true/\Q (.ow true) (.list xs))\/(m=.sh/\Q (.ow false) (.list xs))
 |.tup xs=>(dS xs=true/\Q (.ow true) (.list xs))\/(m=.sh/\Q (.ow false) (.list xs))
 |.dT kvs=>Q (.ow true) (.list (kvs.map λkv=>.tup (kv.1.map iS)))
 |_=>False
section
variable {X:Cx}{K:aC}
theorem fD:∀ {ks:List Key},(∀ k∈ks,Bz k=true)->bT K H (ks.map iS) (ks.map kV)
 |[],_=>.nil
 |k :: ks,h=>by
  refine .cons ?_ (fD λj m=>h j (df _ m));have:=h k cE
  cases k with
  |inl i=>exact .int i
  |inr x=>exact .str (by simpa[Bz] using this)
theorem fu:∀ (ks:List Key),dS (ks.map iS)=true
 |[]=>rfl
 |k :: ks=>by simp only[gE,dS,fu ks,Rt];cases k<;>rfl
theorem gA(t:bR H ys ks)(h:∀ l∈ks,l.length<=bS/\∀ k∈l,Bz k=true):bT K H (ks.map λl=>.tup (l.map iS)) ys:=by
 induction ys generalizing ks with
 |nil=>rw[show ks=[] from Paired.n0 t];exact .nil
 |cons y ys ih =>obtain⟨k,ks,rfl,⟨b,rfl,e⟩,t2⟩:=Paired.c t;exact .cons (.tup (by rw[b5];exact(h _ cE).1) e (fD (h _ cE).2)) (ih t2 λl m=>h l (df _ m))
theorem dM:∀ (ks:List (List Key)),dS (ks.map λl=>.tup (l.map iS))=true
 |[]=>rfl
 |l :: ks=>by simp only[gE,dS,dM ks,Rt,D.flat,fu]
theorem lg (hc:X.calm=true:=by rfl) (hK:X.K=K:=by rfl):kC X (.type "list") (λxs H Q=>(∃ p ys,xs=[.ref p]/\(fw K H p ys\/oQ K H p ys)/\∀ l,H l=none->Q (.ref l) (upd H l (.lst ys)))\/tG xs H Q):=by subst hK;exact ex'.or (vD hc)
theorem wZ:BG K (λxs H Q=>(∃ p ys,xs=[.ref p]/\(fw K H p ys\/oQ K H p ys)/\∀ l,H l=none->Q (.ref l) (upd H l (.lst ys)))\/tG xs H Q) vy:=by
 walk_at"d";have r1:=rx.rep w
 cases r1 with
 |list z s q =>
  have hl:=q.length;rcases h with⟨hf,h⟩|⟨rfl,h⟩
  ·exact .inl ⟨_,_,rfl,.inl s,f.lst w (by lia) q hf h⟩
  ·obtain⟨_,rx⟩:=rx
   cases rx with
   |list z' s' q' =>have hl:=q'.length;exact .inl ⟨_,_,rfl,.inl (bG.seq w.sub s'),f.P8 w (by lia) q' h⟩
 |tup z s q =>
  have hl:=q.length;rcases h with⟨hf,h⟩|⟨rfl,h⟩
  ·exact .inl ⟨_,_,rfl,.inr (.inl (.inl s)),f.lst w (by lia) q hf h⟩
  ·obtain⟨_,rx⟩:=rx
   cases rx with
   |tup z' s' q' =>have hl:=q'.length;exact .inl ⟨_,_,rfl,.inr (.inl (.inl (w.sub _ _ s'))),f.P8 w (by lia) q' h⟩
 |@dT _ vs kvs kk s q =>
  refine .inr ⟨_,s,λys l ht hl=>?_⟩;have hlen:=q.length;rw[b5] at hlen;have e:((kvs.map (·.1)).zip vs).map (·.1)=kvs.map (·.1):=IH (by rw[b5];exact IY hlen);rw[e] at ht;have rr:=gA (K:=K) ht (λl m=>by
   obtain⟨p,hp,rfl⟩:=cw.mp m;exact kk.2 p hp)
  have ff:=dM (kvs.map (·.1));rw[fo] at rr ff;exact f.lst w (by rw[b5];exact kk.1) rr ff h l hl
 |_=>exact h.elim
end
section
variable {K:aC}{Hs H:Hp}
theorem SR.xN(r:Rep K Hs d v)(i:Nat)(s:SR K Hs H ρ σ ah):∃ cv,cv.Sublist ah/\SR K Hs H (ρ.set i (some (.sh d))) (σ.set i (some v)) cv:=by
 induction s generalizing i with
 |nil=>exact⟨[],MA _,.nil⟩
 |non s ih =>
  cases i with
  |zero=>exact⟨_,List.Sublist.refl _,.sh r s⟩
  |succ i=>obtain⟨t,a,b⟩:=ih i;exact⟨t,a,.non b⟩
 |sh q s ih =>
  cases i with
  |zero=>exact⟨_,List.Sublist.refl _,.sh r s⟩
  |succ i=>obtain⟨t,a,b⟩:=ih i;exact⟨t,a,.sh q b⟩
 |xc s ih =>
  cases i with
  |zero=>exact⟨_,List.Sublist.refl _,.sh r s⟩
  |succ i=>obtain⟨t,a,b⟩:=ih i;exact⟨t,a,.xc b⟩
 |ow ne q s ih =>
  cases i with
  |zero=>exact⟨_,n4 _ _,.sh r s⟩
  |succ i=>obtain⟨t,a,b⟩:=ih i;exact⟨_,a.append_left _,.ow ne q b⟩
 |lk ne q s ih =>
  cases i with
  |zero=>exact⟨_,n4 _ _,.sh r s⟩
  |succ i=>obtain⟨t,a,b⟩:=ih i;exact⟨_,a.append_left _,.lk ne q b⟩
 |ob q s ih =>
  cases i with
  |zero=>exact⟨_,n4 _ _,.sh r s⟩
  |succ i=>obtain⟨t,a,b⟩:=ih i;exact⟨_,a.append_left _,.ob q b⟩
theorem lr{As ah:List ag}(nd:As.Nodup)(n:ah.Nodup)(dj:∀ a∈As,a∉ah):(As++ah).Nodup:=ja.mpr ⟨nd,n,λa ha b hb e=>dj a ha (e ▸ hb)⟩
theorem cI{As ah B t:List ag}(n:(B++ah).Nodup)(dj:∀ a∈As,a∉B++ah)(a:t.Nodup)(b:∀ x∈t,x∈ah\/x∈As):(B++t).Nodup/\∀ x∈B++t,x∈B++ah\/x∈As:=by
 walk_at"e";refine⟨ja.mpr ⟨n1,a,λx hx y hy e=>?_⟩,λx hx=>?_⟩
 ·subst e;rcases b x hy with z|z
  ·exact n3 x hx x z rfl
  ·exact dj x z (i9 _ hx)
 ·rcases eR.mp hx with z|z
  ·exact .inl (i9 _ z)
  ·exact(b x z).imp (λz=>fI _ z) λz=>z
theorem SR.wg{d:D}{v:V}{fl:Bool}{As:List ag}(ne:As≠[])(r:cf K Hs H fl d v As)(nd:As.Nodup){ρ:Env}{σ:St}{ah:List ag}(i:Nat)(s:SR K Hs H ρ σ ah):ah.Nodup->(∀ a∈As,a∉ah) ->
  ∃ cv,cv.Nodup/\(∀ a∈cv,a∈ah\/a∈As)/\SR K Hs H (ρ.set i (some (.ow fl d))) (σ.set i (some v)) cv:=by
 induction s generalizing i with
 |nil=>exact λn _=>⟨[],p9,(λa h=>CY h),.nil⟩
 |non s ih =>
  intro n dj
  cases i with
  |zero=>exact⟨_,lr nd n dj,λa h=>(eR.mp h).symm,.ow ne r s⟩
  |succ i=>obtain⟨t,a,b,c⟩:=ih i n dj;exact⟨t,a,b,.non c⟩
 |sh q s ih =>
  intro n dj
  cases i with
  |zero=>exact⟨_,lr nd n dj,λa h=>(eR.mp h).symm,.ow ne r s⟩
  |succ i=>obtain⟨t,a,b,c⟩:=ih i n dj;exact⟨t,a,b,.sh q c⟩
 |xc s ih =>
  intro n dj
  cases i with
  |zero=>exact⟨_,lr nd n dj,λa h=>(eR.mp h).symm,.ow ne r s⟩
  |succ i=>obtain⟨t,a,b,c⟩:=ih i n dj;exact⟨t,a,b,.xc c⟩
 |ow ne' q s ih =>
  intro n dj;walk_at"e";have GY:=λa ha m=>dj a ha (fI _ m)
  cases i with
  |zero=>exact⟨_,lr nd n2 GY,λa h=>(eR.mp h).symm.imp (λz=>fI _ z) λz=>z,.ow ne r s⟩
  |succ i=>obtain⟨t,a,b,c⟩:=ih i n2 GY;exact⟨_,(cI n dj a b).1,(cI n dj a b).2,.ow ne' q c⟩
 |lk ne' q s ih =>
  intro n dj;walk_at"e";have GY:=λa ha m=>dj a ha (fI _ m)
  cases i with
  |zero=>exact⟨_,lr nd n2 GY,λa h=>(eR.mp h).symm.imp (λz=>fI _ z) λz=>z,.ow ne r s⟩
  |succ i=>obtain⟨t,a,b,c⟩:=ih i n2 GY;exact⟨_,(cI n dj a b).1,(cI n dj a b).2,.lk ne' q c⟩
 |ob q s ih =>
  intro n dj;walk_at"e";have GY:=λa ha m=>dj a ha (fI _ m)
  cases i with
  |zero=>exact⟨_,lr nd n2 GY,λa h=>(eR.mp h).symm.imp (λz=>fI _ z) λz=>z,.ow ne r s⟩
  |succ i=>obtain⟨t,a,b,c⟩:=ih i n2 GY;exact⟨_,(cI n dj a b).1,(cI n dj a b).2,.ob q c⟩
def asg:Md->D->Option Sl
 |.sh,d=>some (.sh d)
 |.ow fl,d=>some (.ow fl d)
 |.bo,d=>bif d.flat then some (.sh d) else none
theorem eC.set(i:Nat)(s:eC K Hs ρ σ H ah)(r:RM K Hs H m d v As)(nd:As.Nodup)(dj:∀ a∈As,Hs a=none/\a∉ah)(e:asg m d=some sl) :
  ∃ cv,eC K Hs (ρ.set i (some sl)) (σ.set i (some v)) H cv:=by
 have shc:Rep K Hs d v->∃ cv,eC K Hs (ρ.set i (some (.sh d))) (σ.set i (some v)) H cv:=λr=>by obtain⟨t,a,b⟩:=s.sr.xN r i;exact⟨t,b,s.wf,a.nodup s.rj,λx hx=>s.own x (a.subset hx)⟩
 cases m with
 |sh=>cases e;exact shc r.2
 |ow fl =>cases e;obtain⟨t,a,b,c⟩:=SR.wg r.2 r.1 nd i s.sr s.rj λa ha=>(dj a ha).2;exact⟨t,c,s.wf,a,λx hx=>(b x hx).elim (s.own x) λz=>(dj x z).1⟩
 |bo =>
  cases hf:d.flat with
  |true =>simp only[asg,hf,cond_true,Option.some.injEq] at e;subst e;exact shc (r.flat s.wf hf)
  |false=>simp[asg,hf] at e
end
section
variable {X:Cx}{K:aC}{e c:Expr}{te:WE}{tc:WT}{pos:Pos}{st:Stmt}{a b rest:List Stmt}{t u:WS}
theorem PS.imp{te y3:TS}(h:PS X st te)(i:∀ D σ H,y3 D σ H->te D σ H):PS X st y3:=λpins s σ H D I q=>h pins s σ H D I (i D σ H q)
theorem ng.imp{te y3:TS}(h:ng X a te)(i:∀ D σ H,y3 D σ H->te D σ H):ng X a y3:=λpins s σ H D I q=>h pins s σ H D I (i D σ H q)
def cH:WS:=λE ρ=>E.nx ρ
def c9(t u:WS):WS:=λE ρ=>t { E with nx:=u E } ρ
def kR(te:WE):WS:=λE ρ=>te ρ E.rt
def rM(te:WE):WS:=λE ρ=>te ρ λ_ _=>E.nx ρ
def fi(i:Nat)(te:WE):WS:=λE ρ=>te ρ λm d=>match asg m d with
 |some sl=>E.nx (ρ.set i (some sl))
 |none=>False
def mh(c:WT)(t u:WS):WS:=λE ρ=>c ρ λb=>if b=true then t E ρ else u E ρ
def vN:WS:=λ_ _=>False
theorem aR:yT X K L [] cH:=ng.imp cA' λD σ H hx=>dB hx λHs ρ ah E sr h k1 _ _ _=>k1 σ H Hs ρ ah (bG.refl _) sr h
theorem zx{D:Ends}(h:yB K L (c9 t u) D σ H):W0 (yB K L t) (yB K L u) D σ H:=by
 obtain⟨Hs,ρ,ah,E,sr,h,k1,k2,k3,k4,kx⟩:=h;refine⟨Hs,ρ,ah,{ E with nx:=u E },sr,h,λb9 H' ax b4 cv s G0 q=>?_,k2,k3,k4,kx⟩;exact⟨ax,b4,cv,E,G0,q,λkM H2 aT gu e7 s2=>k1 kM H2 aT gu e7 (s.trans s2),λkM H2 aT gu e7 s2=>k2 kM H2 aT gu e7 (s.trans s2),λkM H2 aT gu e7 s2=>k3 kM H2 aT gu e7 (s.trans s2),
  λv H2 aT m d As s2=>k4 v H2 aT m d As (s.trans s2),λn H2 s2=>kx n H2 (s.trans s2)⟩
theorem aj(h1:QS X K L st t)(h2:yT X K L rest u):yT X K L (st :: rest) (c9 t u):=ng.imp (W3 h1 h2) λD σ H h=>zx h
theorem ao(h1:QS X K L st t):yT X K L [st] t:=W4 h1
theorem wK:yT X K L a vN:=ng.imp cG' λD σ H hx=>dB hx λHs ρ ah E sr h _ _ _ _=>h
theorem aY(he:QE X K e te):QS X K L (.Return (some e) pos) (kR te):=PS.imp (W5 he) λD σ H hx=>dB hx λHs ρ ah E sr h k1 k2 k3 k4 =>
 ⟨Hs,ρ,ah,_,sr,h,λv H1 bE m d As g1 r1 f1 q1=>k4 v H1 bE m d As g1.sh g1.wf r1 f1.1 (λa ha=>(f1.2 a ha).1) q1⟩
def rF(i:Nat):WS:=λE ρ=>match ρ[i]? with
 |some (some (.sh d))=>E.rt .sh d
 |some (some (.ow fl d))=>E.rt (.ow fl) d
 |_=>False
theorem SR.at{ρ:Env}{σ:St}{ah:List ag}{i:Nat}{fl:Bool}{d:D}{Hs H:Hp}(s:SR K Hs H ρ σ ah)(e:ρ[i]? = some (some (.ow fl d))):∃ v As,σ[i]? = some (some v)/\As≠[]/\cf K Hs H fl d v As/\As.Sublist ah:=by
 induction s generalizing i with
 |nil=>simp at e
 |non s ih =>
  cases i with
  |zero=>simp at e
  |succ i=>exact ih e
 |sh r s ih =>
  cases i with
  |zero=>simp at e
  |succ i=>exact ih e
 |xc s ih =>
  cases i with
  |zero=>simp at e
  |succ i=>exact ih e
 |ow ne r s ih =>
  cases i with
  |zero=>simp at e;obtain⟨rfl,rfl⟩:=e;exact⟨_,_,rfl,ne,r,OL _ _⟩
  |succ i =>obtain⟨v,As,a,b,c,d⟩:=ih e;exact⟨v,As,a,b,c,d.trans (n4 _ _)⟩
 |lk ne r s ih =>
  cases i with
  |zero=>simp at e
  |succ i =>obtain⟨v,As,a,b,c,d⟩:=ih e;exact⟨v,As,a,b,c,d.trans (n4 _ _)⟩
 |ob r s ih =>
  cases i with
  |zero=>simp at e
  |succ i =>obtain⟨v,As,a,b,c,d⟩:=ih e;exact⟨v,As,a,b,c,d.trans (n4 _ _)⟩
theorem oK{i:Nat}(he:PE X e (FK i)):QS X K L (.Return (some e) pos) (rF i):=PS.imp (W5 he) λD σ H hx=>dB hx λHs ρ ah E sr h k1 k2 k3 k4=>by
 unfold rF at h;split at h
 ·rename_i d e1;obtain⟨v,e2,r⟩:=sr.sr.get e1;exact⟨v,e2,k4 v H Hs .sh d [] (bG.refl _) sr.wf ⟨rfl,r⟩ p9 (λa ha=>nomatch ha) h⟩
 ·rename_i fl d e1;obtain⟨v,As,e2,ne,r,sb⟩:=sr.sr.at e1;exact⟨v,e2,k4 v H Hs (.ow fl) d As (bG.refl _) sr.wf ⟨r,ne⟩ (sb.nodup sr.rj) (λa ha=>sr.own a (sb.subset ha)) h⟩
 ·exact h.elim
theorem jk(he:QE X K e te)(hs:xA e none pos.line X.env=pure false:=by rfl):QS X K L (.Expr e pos) (rM te):=PS.imp (RH he hs) λD σ H hx=>dB hx λHs ρ ah E sr h k1 k2 k3 k4 =>
 ⟨Hs,ρ,ah,_,sr,h,λv H1 bE m d As g1 r1 f1 q1=>k1 σ H1 bE ρ ah g1.sh (sr.grow g1) q1⟩
theorem aF(i:Nat){x:Str}{pos':Pos}(he:QE X K e te)(hs:xA e (some (.Name x pos')) pos.line X.env=pure false:=by rfl) (hf:X.fn x=true\/X.env.scope.names.lookup x=some .local:=by first|exact .inl rfl|exact .inr rfl|assumption) (hN:X.N.Nodup:=by assumption) (hi:X.N[i]? = some x:=by rfl) (hx:Loc X.env.scope x:=by first|exact .inl rfl|exact .inr rfl):QS X K L (.Assign [.Name x pos'] e pos) (fi i te):=PS.imp (Uw hN hi hx he hs hf) λD σ H hx=>dB hx λHs ρ ah E sr h k1 k2 k3 k4=>by
 refine⟨Hs,ρ,ah,_,sr,h,λv H1 bE m d As g1 r1 f1 q1=>?_⟩
 have q1:match asg m d with
  |some sl=>E.nx (ρ.set i (some sl))
  |none=>False:=q1
 cases e:asg m d with
 |none=>rw[e] at q1;exact q1.elim
 |some sl =>rw[e] at q1;obtain⟨cv,s'⟩:=(sr.grow g1).set i r1 f1.1 (λa ha=>⟨(f1.2 a ha).1,λm=>(sr.sr.own a m).ne (f1.2 a ha).2⟩) e;exact k1 _ H1 bE _ cv g1.sh s' q1
theorem cY(hc:QT X K c tc)(ha:yT X K L a t)(hb:yT X K L b u):QS X K L (.If c a b pos) (mh tc t u):=PS.imp (cE' hc ha hb) λD σ H hx=>jP hx λHs ρ ah E sr h k1 k2 k3 k4 kx=>by
 refine⟨Hs,ρ,ah,_,sr,h,λk H1 bE g1 q1=>?_⟩;have k1':∀ b9 H' ax b4 cv,bG bE ax->eC K ax b4 b9 H' cv->E.nx b4->D.nx b9 H':=λkM H2 aT gu e7 s2=>k1 kM H2 aT gu e7 (g1.sh.trans s2);have k2':∀ b9 H' ax b4 cv,bG bE ax->eC K ax b4 b9 H' cv->E.bk b4->D.bk b9 H':=λkM H2 aT gu e7 s2=>k2 kM H2 aT gu e7 (g1.sh.trans s2);have k3':∀ b9 H' ax b4 cv,bG bE ax->eC K ax b4 b9 H' cv->E.ct b4->D.ct b9 H':=λkM H2 aT gu e7 s2=>k3 kM H2 aT gu e7 (g1.sh.trans s2)
 cases k with
 |true=>exact⟨bE,ρ,ah,E,sr.grow g1,q1,k1',k2',k3',(λv H2 aT m d As s2=>k4 v H2 aT m d As (g1.sh.trans s2)),λn H2 s2=>kx n H2 (g1.sh.trans s2)⟩
 |false=>exact⟨bE,ρ,ah,E,sr.grow g1,q1,k1',k2',k3',(λv H2 aT m d As s2=>k4 v H2 aT m d As (g1.sh.trans s2)),λn H2 s2=>kx n H2 (g1.sh.trans s2)⟩
def wx(Hs H:Hp)(As:List ag):Hp:=λa=>if a∈As then H a else Hs a
theorem gB(n:∀ a∈As,Hs a=none):bG Hs (wx Hs H As):=λa o e=>by unfold wx;rw[if_neg λm=>by rw[n a m] at e;cases e];exact e
theorem wu(w:Wf Hs H)(o:∀ a∈As,Own H a):Wf (wx Hs H As) H:=⟨λa u e=>by
  unfold wx at e;by_cases m:a∈As
  ·rw[if_pos m] at e;exact e
  ·rw[if_neg m] at e;exact w.sub a u e,λa vs e=>by
  unfold wx;rw[if_neg λm=>(o a m).Ce e];exact w.i3 a vs e⟩
def sR:Sl->Sl
 |.sh d=>.sh d
 |.ow _ d=>.sh d
 |.lk a fl d=>.lk a fl d
 |.xc a=>.xc a
 |.ob a p=>.ob a p
def Qf:Sl->Sl
 |.sh d=>.sh d
 |.ow _ d=>.sh d
 |.lk _ _ d=>.sh d
 |.xc a=>.xc a
 |.ob a _=>.xc a
def Qg(i:Nat)(ρ:Env):Env:=match ρ[i]? with
 |some (some sl)=>ρ.set i (some (sR sl))
 |_=>ρ
theorem gQ{As ah B t:List ag}(n:(B++ah).Nodup)(a:As.Sublist ah)(c:∀ x∈As,x∉t):∀ x∈As,x∉B++t:=λx hx m=>by
 walk_at"e";rcases eR.mp m with z|z
 ·exact n3 x z x (a.subset hx) rfl
 ·exact c x hx z
theorem SR.fN(i:Nat)(s:SR K Hs H ρ σ ah):ρ[i]? = some (some (.ow fl d))->ah.Nodup ->
  ∃ (As cv:List ag),As.Sublist ah/\cv.Sublist ah/\(∀ a∈As,a∉cv)/\∀ ax,bG Hs ax->(∀ a∈As,ax a=H a)->SR K ax H (ρ.set i (some (.sh d))) σ cv:=by
 induction s generalizing i with
 |nil=>intro e;simp at e
 |non q ih =>
  intro e n
  cases i with
  |zero=>simp at e
  |succ i =>obtain⟨As,t,a,b,c,d⟩:=ih i e n;exact⟨As,t,a,b,c,λax s k=>.non (d ax s k)⟩
 |sh r q ih =>
  intro e n
  cases i with
  |zero=>simp at e
  |succ i =>obtain⟨As,t,a,b,c,d⟩:=ih i e n;exact⟨As,t,a,b,c,λax s k=>.sh (r.same s) (d ax s k)⟩
 |xc q ih =>
  intro e n
  cases i with
  |zero=>simp at e
  |succ i =>obtain⟨As,t,a,b,c,d⟩:=ih i e n;exact⟨As,t,a,b,c,λax s k=>.xc (d ax s k)⟩
 |ow ne r q ih =>
  intro e n;walk_at"e"
  cases i with
  |zero =>simp at e;obtain⟨rfl,rfl⟩:=e;exact⟨_,_,OL _ _,n4 _ _,λa h m=>n3 a h a m rfl,λax s k=>.sh (r.rep s k) (q.fA s λ_ _=>rfl)⟩
  |succ i =>obtain⟨As,t,a,b,c,d⟩:=ih i e n2;exact⟨As,_,a.trans (n4 _ _),b.append_left _,gQ n a c,λax s k=>.ow ne (r.fA s λ_ _=>rfl) (d ax s k)⟩
 |lk ne r q ih =>
  intro e n;walk_at"e"
  cases i with
  |zero=>simp at e
  |succ i =>obtain⟨As,t,a,b,c,d⟩:=ih i e n2;exact⟨As,_,a.trans (n4 _ _),b.append_left _,gQ n a c,λax s k=>.lk ne (r.fA s λ_ _=>rfl) (d ax s k)⟩
 |@ob _ _ _ _ _ p r q ih =>
  intro e n;walk_at"e"
  cases i with
  |zero=>simp at e
  |succ i =>obtain⟨As,t,a,b,c,d⟩:=ih i e n2;exact⟨As,_,a.trans (n4 _ _),b.append_left _,gQ n a c,λax s k=>.ob (p.fA (rn s) (λ_ _=>rfl) r) (d ax s k)⟩
theorem eC.fN(i:Nat)(s:eC K Hs ρ σ H ah):∃ ax cv,bG Hs ax/\eC K ax (Qg i ρ) σ H cv:=by
 unfold Qg;split
 ·rename_i sl e;have keep:sR sl=sl->∃ ax cv,bG Hs ax/\eC K ax (ρ.set i (some (sR sl))) σ H cv:=λhs=>by
   have e2:ρ.set i (some (sR sl))=ρ:=by
    apply B5;intro j;rw[List.getElem?_set];by_cases h:i=j
    ·subst h;rw[if_pos rfl,e];have:i<ρ.length:=(jS.mp e).1;simp[this,hs]
    ·rw[if_neg h]
   rw[e2];exact⟨Hs,ah,bG.refl _,s⟩
  cases sl with
  |sh d=>exact keep rfl
  |xc a=>exact keep rfl
  |lk a fl d=>exact keep rfl
  |ob a p=>exact keep rfl
  |ow fl d =>obtain⟨As,t,a,b,c,g⟩:=SR.fN i s.sr e s.rj;have hn:∀ a∈As,Hs a=none:=λx hx=>s.own x (a.subset hx);have ho:∀ a∈As,Own H a:=λx hx=>s.sr.own x (a.subset hx);refine⟨wx Hs H As,t,gB hn,g _ (gB hn) λx hx=>by unfold wx;rw[if_pos hx],wu s.wf ho,b.nodup s.rj,λx hx=>?_⟩;unfold wx;rw[if_neg λm=>c x m hx];exact s.own x (b.subset hx)
 ·exact⟨Hs,ah,bG.refl _,s⟩
def iE(i:Nat)(t:WS):WS:=λE ρ=>t E (Qg i ρ)
theorem Al{D:Ends}(h:yB K L (iE i t) D σ H):yB K L t D σ H:=by
 obtain⟨Hs,ρ,ah,E,sr,h,k1,k2,k3,k4,kx⟩:=h;obtain⟨ax,cv,s,G0⟩:=sr.fN i;exact⟨ax,_,cv,E,G0,h,λkM H2 aT gu e7 s2=>k1 kM H2 aT gu e7 (s.trans s2),λkM H2 aT gu e7 s2=>k2 kM H2 aT gu e7 (s.trans s2),λkM H2 aT gu e7 s2=>k3 kM H2 aT gu e7 (s.trans s2),
  λv H2 aT m d As s2=>k4 v H2 aT m d As (s.trans s2),λn H2 s2=>kx n H2 (s.trans s2)⟩
theorem aN(i:Nat)(h:QS X K L st t):QS X K L st (iE i t):=PS.imp h λD σ H h=>Al h
def j6(bE H1 ax H':Hp):Hp:=λa=>match H' a with
 |some (.tup vs)=>some (.tup vs)
 |_=>match H1 a with
  |none=>ax a
  |some _=>bE a
theorem dI(w:Wf bE H1)(s:bG H1 ax)(w':Wf ax H'):fS bE H1 (j6 bE H1 ax H') H':=by
 have sa:bG H1 H':=s.trans w'.sub;have tp:∀ a vs,H' a=some (.tup vs)->j6 bE H1 ax H' a=some (.tup vs):=λa vs e=>by unfold j6;rw[e]
 have nt:∀ a,(∀ vs,H' a≠some (.tup vs))->j6 bE H1 ax H' a=match H1 a with
  |none=>ax a
  |some _=>bE a:=λa h=>by
  unfold j6;split
  ·rename_i vs e;exact absurd e (h vs)
  ·rfl
 refine⟨sa,λa o e=>?_,⟨λa o e=>?_,tp⟩,λa h=>?_⟩
 ·have e1:=w.sub a o e;have e2:=sa a o e1;by_cases ht:∃ vs,o=.tup vs
  ·obtain⟨vs,rfl⟩:=ht;exact tp a vs e2
  ·rw[nt a λvs z=>ht ⟨vs,by rw[e2] at z;exact Option.some.inj z⟩,e1];exact e
 ·by_cases ht:∃ vs,H' a=some (.tup vs)
  ·obtain⟨vs,z⟩:=ht;rw[tp a vs z] at e;rw[z];exact e
  ·rw[nt a λvs z=>ht ⟨vs,z⟩] at e
   cases q:H1 a with
   |none=>rw[q] at e;exact w'.sub a o e
   |some u =>rw[q] at e;have:=w.sub a o e;exact sa a o this
 ·cases q:H1 a with
  |none=>exact .inr rfl
  |some u =>
   refine .inl ?_;by_cases ht:∃ vs,H' a=some (.tup vs)
   ·obtain⟨vs,z⟩:=ht;have:=sa a u q;rw[z] at this;cases this;rw[w.i3 a vs q];exact λz=>nomatch z
   ·rw[nt a λvs z=>ht ⟨vs,z⟩,q] at h;exact h
theorem wO{bE H1 ax H':Hp}{a:ag}(s:bG H1 ax)(h:ax a=none)(o:Own H' a):j6 bE H1 ax H' a=none/\H1 a=none:=by
 have h1:=s.free h;refine⟨?_,h1⟩;unfold j6;split
 ·rename_i vs e;exact absurd e o.Ce
 ·rw[h1];exact h
def He:Md->D->Md
 |.ow true,_=>.ow true
 |_,d=>bif d.flat then .sh else .bo
theorem jY(w:Wf bE H1)(s:bG H1 ax)(w':Wf ax H')(r:RM K ax H' m d v As)(nd:As.Nodup)(own:∀ a∈As,ax a=none) :
  ∃ gy,RM K (j6 bE H1 ax H') H' (He m d) d v gy/\cD (j6 bE H1 ax H') H1 gy:=by
 have g:=dI w s w';have other:∃ gy,RM K (j6 bE H1 ax H') H' (bif d.flat then .sh else .bo) d v gy/\cD (j6 bE H1 ax H') H1 gy:=by
  cases hf:d.flat with
  |true=>exact⟨[],⟨rfl,(r.rep w').eY g.wf.i3 hf⟩,cD.nil⟩
  |false=>exact⟨[],⟨rfl,r.rep w'⟩,cD.nil⟩
 cases m with
 |sh=>exact other
 |bo=>exact other
 |ow fl =>
  cases fl with
  |false=>exact other
  |true=>exact⟨As,⟨cf.leaves (λa vs e=>g.wf.i3 a vs (w'.sub _ _ e)) r.1,r.2⟩,nd,λa h=>wO s (own a h) (r.own a h)⟩
abbrev kr:=List D->(Md->D->Prop)->Prop
def fJ(K:aC)(sp:kr):Sp:=λvs H Qv _=>∃ ds Qd,bT K H ds vs/\sp ds Qd /\
 ∀ v H' ax m d As,bG H ax->Wf ax H'->RM K ax H' m d v As->As.Nodup->(∀ a∈As,ax a=none)->Qd m d->Qv v H'
def aL(n:Nat)(ds:List D):Env:=ds.map (λd=>some (.sh d))++List.replicate (n-ds.length) none
theorem SR.start(r:bT K H ds vs):SR K H H (ds.map (λd=>some (.sh d))++List.replicate n none) (vs.map some++List.replicate n none) []:=by
 induction ds generalizing vs with
 |nil =>
  rw[r.n0]
  induction n with
  |zero=>exact .nil
  |succ n ih=>exact .non ih
 |cons d ds ih =>obtain⟨u,us,rfl,r,rs⟩:=r.c;exact .sh r (ih rs)
theorem xY(h:fJ K sp vs H Qv E)(hp:∀ ds Q,sp ds Q->t { nx:=λ_=>Q .sh .non,rt:=Q } (aL N.length ds)) :
  yB K L0 t { nx:=λ_ H'=>Qv .non H',rt:=Qv } (start N vs) H:=by
 obtain⟨ds,Qd,rs,hs,fin⟩:=h;have hl:=rs.length;refine⟨H,aL N.length ds,[],{ nx:=λ_=>Qd .sh .non,rt:=Qd },⟨?_,⟨bG.refl _,λ_ _ e=>e⟩,p9,λa h=>nomatch h⟩,hp ds Qd hs,?_,?_,?_,?_,λ_ _ _ _=>trivial⟩
 ·unfold aL start;rw[hl];exact SR.start rs
 ·exact λb9 H' ax b4 cv s sr q=>fin .non H' ax .sh .non [] s sr.wf ⟨rfl,.non⟩ p9 (λa h=>nomatch h) q
 ·exact λb9 H' ax b4 cv s sr q=>q.elim
 ·exact λb9 H' ax b4 cv s sr q=>q.elim
 ·exact λv H' ax m d As s w r nd own q=>fin v H' ax m d As s w r nd own q
theorem VH.ok{P:d4}{st:Stmt}{N ps:List Str}(F:CF K x qual st f fd)(S:Pn N ps (mB st))(len:∀ ds Q,sp ds Q->ds.length=ps.length)(Pq:∀ (gp:ae) (A:fm) (outer:List PySem.Env) (s:ay) (H:Hp) (E:XK),nv k (A.deeper (envOfC qual (mB st) s.heap.objs.size f gp))->yT (Cb wc P w K mg base N qual (mB st) f gp A outer s H E).FL K L0 (yk st) t)(hp:∀ ds Q,sp ds Q->t { nx:=λ_=>Q .sh .non,rt:=Q } (aL N.length ds)):AB P w K mg base wc (k+1) f fd ps (fJ K sp) :=
 F.ok S (λvs H Q E ⟨ds,Qd,rs,hs,_⟩=>by rw[<- rs.length];exact len ds Qd hs) λgp A outer s H vs Q E hr hs=>⟨_,Pq gp A outer s H E hr,xY hs hp⟩
def aK(sp:kr)(t:WA):WE:=λρ Q=>t ρ λps=>sp (ps.map (·.2)) λm d=>cp (m,d) (f:=λp=>Q (He p.1 p.2) p.2) ⟨⟩
theorem yf{sp:kr}{t:WA}{σ:St}{H:Hp}{Qv:VK}{E:XK}(h:lT K (aK sp t) σ H Qv):UL (fJ K sp) [] E (tpA K t) σ H Qv:=by obtain⟨Hs,ρ,ah,Q,sr,h,f⟩:=h;refine⟨Hs,ρ,ah,_,sr,h,λvs H1 bE ps As g1 r1 f1 q1=>?_⟩;refine⟨_,_,by rw[pV];exact r1.reps g1.wf,q1,λv H' ax m d As s w r nd own q=>?_⟩;obtain⟨gy,r',fr⟩:=jY g1.wf s w r nd own;exact Fin.after f g1 v H' _ (He m d) d gy (dI g1.wf s w) r' fr q
theorem aM {k:Nat} {x:Str} {ps:List Str} {sp:kr} {p:Pos} {es:List Expr} {t:WA} (C:Si X.prog X.w X.K X.mg X.base k x ps (fJ K sp)) (ha:QA X K (e :: es) t) (hg:Gl X x:=by rfl) (t5:(x == ("__debug__" : Str))=false:=by decide) (he:cc (e :: es) X.env=(false,dr e X.env) :: cc es X.env:=by rfl) (pd:(k6 pos (cc es X.env)).any (·.1)=false:=by rfl) (hr:nv k X.A:=by exact nv.mono (by assumption) (by decide)):QE X K (.Call (.Name x p) (e :: es) [] pos) (aK sp t):=PE.imp (HH C hr ha hg t5 he pd) λσ H Qv h=>yf h
end
abbrev WG:=D->Env->(Env->Prop)->Prop
def Oj(K:aC)(g:WG):TG:=λv σ H Qv=>∃ Hs ρ ah d Q,eC K Hs ρ σ H ah/\Rep K Hs d v/\g d ρ Q/\∀ b9 b4 cv,eC K Hs b4 b9 H cv->(∀ a∈cv,a∈ah)->Q b4->Qv b9 H
abbrev QG(X:Cx)(K:aC)(e:Expr)(g:WG):Prop:=PG X e (Oj K g)
def gN(i:Nat):WG:=λd ρ Q=>Q (ρ.set i (some (.sh d)))
abbrev LD:=List D->Env->(Env->Prop)->Prop
def gG'(K:aC)(g:LD):Nw:=λvs σ H Qv=>∃ Hs ρ ah ds Q,eC K Hs ρ σ H ah/\bT K Hs ds vs/\g ds ρ Q/\∀ b9 b4 cv,eC K Hs b4 b9 H cv->(∀ a∈cv,a∈ah)->Q b4->Qv b9 H
abbrev SX(X:Cx)(K:aC)(es:List Expr)(g:LD):Prop:=B8 X es (gG' K g)
def du:LD:=λds ρ Q=>ds=[]/\Q ρ
def aG(g:WG)(gs:LD):LD:=λds ρ Q=>match ds with
 |d :: ds=>g d ρ λb4=>gs ds b4 Q
 |[]=>False
def gT(n:Nat)(gs:LD):WG:=λd ρ Q=>match d with
 |.tup ds=>ds.length=n/\gs ds ρ Q
 |_=>False
section
variable {X:Cx}{K:aC}{e:Expr}{es:List Expr}{g:WG}{gs:LD}{pos:Pos}
theorem PG.imp(h:PG X e t)(i:∀ v σ H Q,t' v σ H Q->t v σ H Q):PG X e t':=λpins s σ H v u Q I r q=>h pins s σ H v u Q I r (i v σ H Q q)
theorem B8.imp(h:B8 X es t)(i:∀ v σ H Q,t' v σ H Q->t v σ H Q):B8 X es t':=λpins s σ H v u Q I r q=>h pins s σ H v u Q I r (i v σ H Q q)
theorem eC.zy(i:Nat)(s:eC K Hs ρ σ H ah)(r:Rep K Hs d v):∃ cv,(∀ a∈cv,a∈ah)/\eC K Hs (ρ.set i (some (.sh d))) (σ.set i (some v)) H cv:=by obtain⟨t,a,b⟩:=s.sr.xN r i;exact⟨t,λx hx=>a.subset hx,b,s.wf,a.nodup s.rj,λx hx=>s.own x (a.subset hx)⟩
theorem aq(i:Nat)(hf:X.fn x=true\/X.env.scope.names.lookup x=some .local:=by first|exact .inl rfl|exact .inr rfl|assumption)(hN:X.N.Nodup:=by assumption)(hi:X.N[i]? = some x:=by rfl)(hx:Loc X.env.scope x:=by first|exact .inl rfl|exact .inr rfl):QG X K (.Name x pos) (gN i) :=
 PG.imp (Ut hN hi hx hf) λv σ H Qv dQ=>by obtain⟨Hs,ρ,ah,d,Q,sr,r,h,k⟩:=dQ;obtain⟨t,m,s⟩:=sr.zy i r;exact k _ _ t s m h
theorem bu:SX X K [] du:=B8.imp W6 λv σ H Qv dQ=>by obtain⟨Hs,ρ,ah,ds,Q,sr,r,h,k⟩:=dQ;obtain⟨rfl,h⟩:=h;cases r;exact⟨rfl,k σ ρ ah sr (λ_ z=>z) h⟩
theorem aA(h1:QG X K e g)(h2:SX X K es gs)(hs:(qB (e :: es) X.env).map (·.2)=assign e X.env :: (qB es X.env).map (·.2):=by rfl):SX X K (e :: es) (aG g gs) :=
 B8.imp (Uu h1 h2 hs) λv σ H Qv dQ=>by
  obtain⟨Hs,ρ,ah,ds,Q,sr,r,h,k⟩:=dQ
  cases r with
  |nil=>exact h.elim
  |cons r rs=>exact⟨_,_,rfl,Hs,ρ,ah,_,_,sr,r,h,λkM gu e7 hU m2 q2=>⟨Hs,gu,e7,_,Q,hU,rs,q2,λoS BH VJ VL m3=>k oS BH VJ VL λa h=>m2 a (m3 a h)⟩⟩
theorem cu(h:SX X K es gs)(hn:(qB es X.env).length=n:=by rfl)(nh:(qB es X.env).findIdx? (·.1)=none:=by rfl)(hc:X.calm=true:=by rfl):QG X K (.Tuple es k pos) (gT n gs) :=
 PG.imp (W7 hc h hn nh) λv σ H Qv dQ=>by
  obtain⟨Hs,ρ,ah,d,Q,sr,r,h,k⟩:=dQ
  cases r with
  |tup z e rs=>exact⟨_,_,rfl,.inl (.inl (sr.wf.sub _ _ e)),by rw[<- rs.length];exact h.1,Hs,ρ,ah,_,Q,sr,rs,h.2,k⟩
  |_=>exact h.elim
end
abbrev WI:=Env->(List D->Prop)->Prop
structure f9(K:aC)(J:It)(ds:List D)(C:Hp->Hp->Prop):Prop where
 go:∀ i Hs H,C Hs H->Wf Hs H->i<ds.length->J.go i H
 mz:∀ i Hs H x H' d,C Hs H->Wf Hs H->ds[i]? = some d->J.mz i H x H'->∃ ax,fS Hs H ax H'/\Rep K ax d x
 stop:∀ Hs H,C Hs H->Wf Hs H->J.stop ds.length H
abbrev uf(K:aC)(Hs:Hp)(J:It)(ds:List D):Prop:=f9 K J ds λG _=>bG Hs G
def j8(xs:List D):List D:=xs.mapIdx λi x=>.tup [.int i,x]
section
variable {K:aC}{Hs:Hp}{J:It}{ds:List D}{C C':Hp->Hp->Prop}{a:ag}
theorem f9.imp(S:f9 K J ds C)(h:∀ Hs H,C' Hs H->C Hs H):f9 K J ds C':=⟨λi Hs H c=>S.go i Hs H (h _ _ c),λi Hs H x H' d c=>S.mz i Hs H x H' d (h _ _ c),λHs H c=>S.stop Hs H (h _ _ c)⟩
theorem f9.seq(rs:bT K Hs ds vs)(S:o_ J vs λH=>bG Hs H):uf K Hs J ds where
 go:=λi G H s w h=>S.go i H (s.trans w.sub) (by rw[<- rs.length];exact h)
 mz:=λi G H x H' d s w h y=>by
  have hi:i<ds.length:=by
   rcases MR i ds.length with q|q
   ·exact q
   ·rw[D4 q] at h;cases h
  obtain⟨e,z⟩:=S.mz i H x H' (s.trans w.sub) (by rw[<- rs.length];exact hi) y;subst e;obtain⟨d',ed,rd⟩:=rs.Vx z;rw[h] at ed;cases ed;exact⟨G,fS.refl w,rd.same s⟩
 stop:=λG H s w=>by rw[rs.length];exact S.stop H (s.trans w.sub)
abbrev xn(K:aC)(a:ag)(ds:List D)(C:Hp->Hp->Prop):Prop:=∀ Hs H,C Hs H->Wf Hs H->∃ vs,fw K H a vs/\bT K Hs ds vs
theorem f9.list(h:xn K a ds C):f9 K (RJ K a) ds C where
 go:=λi G H c w hi=>by obtain⟨vs,q,rs⟩:=h G H c w;exact⟨vs,vs[i]'(by rw[<- rs.length];exact hi),q,by simp⟩
 mz:=λi G H x H' d c w hd y=>by obtain⟨vs,q,rs⟩:=h G H c w;obtain⟨rfl,y⟩:=y;obtain⟨d',ed,rd⟩:=rs.Vx (y vs q);rw[hd] at ed;cases ed;exact⟨G,fS.refl w,rd⟩
 stop:=λG H c w=>by obtain⟨vs,q,rs⟩:=h G H c w;exact⟨vs,q,by rw[rs.length];exact cx _⟩
theorem f9.enum(h:xn K a ds C):f9 K (Vh K a) (j8 ds) C where
 go:=λi G H c w hi=>by
  obtain⟨vs,q,rs⟩:=h G H c w;have hi:i<ds.length:=by simpa[j8] using hi
  exact⟨vs,vs[i]'(by rw[<- rs.length];exact hi),q,by simp⟩
 mz:=λi G H x H' d c w hd y=>by
  obtain⟨vs,q,rs⟩:=h G H c w;obtain⟨p,v,rfl,hp,rfl,y⟩:=y;obtain⟨d',ed,rd⟩:=rs.Vx (y vs q);have:d=.tup [.int i,d']:=by simp only[j8,T3,ed,O7] at hd;cases hd;rfl
  subst this;have g:=VA (vs:=[.int i,v]) w hp;exact⟨_,g,.tup (vs:=[.int i,v]) Ca ft (.cons (.int _) (.cons (rd.same g.sh) .nil))⟩
 stop:=λG H c w=>by obtain⟨vs,q,rs⟩:=h G H c w;exact⟨vs,q,by rw[j8,List.length_mapIdx,rs.length];exact cx _⟩
theorem oZ(s:fw K Hs a vs)(rs:bT K Hs ds vs):xn K a ds λG _=>bG Hs G:=λG H c w=>⟨vs,bG.seq (c.trans w.sub) s,rs.same c⟩
end
def tpI(K:aC)(wi:WI):TI:=λσ H R=>∃ Hs ρ ah Q,eC K Hs ρ σ H ah/\wi ρ Q/\∀ J H' ax ds,fS Hs H ax H'->uf K ax J ds->ds.length<=bS->Q ds->R J H'
abbrev QI(X:Cx)(K:aC)(tg iter:Expr)(wi:WI):Prop:=PI X tg iter (tpI K wi)
def kI:Md->Prop
 |.bo=>False
 |_=>True
def cQ(te:WE):WI:=λρ Q=>te ρ λm d=>kI m/\match d with
 |.list xs=>Q xs
 |_=>False
def dG(lo:Int)(n:Nat):List D:=(List.range n).map λi=>.int (lo+(i:Nat))
def cg(te:WE):WI:=λρ Q=>te ρ λ_ d=>match d with
 |.int j=>j<=16777216/\-(2 ^ 62)<=j/\Q (dG 0 j.toNat)
 |_=>False
section
variable {X:Cx}{K:aC}{e e2 tg:Expr}{te DE:WE}{pos p:Pos}
theorem PI.imp(h:PI X tg iter t)(i:∀ σ H R,t' σ H R->t σ H R):PI X tg iter t':=λpins s σ H R I q=>h pins s σ H R I (i σ H R q)
theorem o_.imp{J:It}(s:o_ J vs c)(h:∀ H,c' H->c H):o_ J vs c':=⟨λi H q=>s.go i H (h H q),λi H x H' q=>s.mz i H x H' (h H q),λH q=>s.stop H (h H q)⟩
theorem RM.xR(g:fS Hs H bE H1)(r:RM K bE H1 m d v As)(f:cD bE H As)(h:kI m):∃ aT,fS Hs H aT H1/\Rep K aT d v:=by
 cases m with
 |sh=>exact⟨bE,g,r.2⟩
 |bo=>exact h.elim
 |ow fl =>
  have n:∀ a∈As,bE a=none:=λa ha=>(f.2 a ha).1;have o:=r.own;refine⟨wx bE H1 As,⟨g.all,g.sh.trans (gB n),wu g.wf o,λa h=>?_⟩,cf.rep (gB n) r.1 λa ha=>by unfold wx;rw[if_pos ha]⟩;unfold wx at h;by_cases m:a∈As
  ·exact .inr (f.2 a m).2
  ·rw[if_neg m] at h;exact g.new a h
theorem cC(he:QE X K e te)(hK:X.K=K:=by rfl):QI X K tg e (cQ te):=by
 subst hK;refine PI.imp (W8 he) λσ H R hx=>kN hx λHs ρ ah Q sr h k=>⟨Hs,ρ,ah,_,sr,h,λv H1 bE m d As g1 r1 f1 q1=>?_⟩
 obtain⟨nb,q1⟩:=q1;obtain⟨aT,g2,r2⟩:=r1.xR g1 f1 nb
 cases r2 with
 |list z s rs=>exact⟨_,rfl,⟨_,bG.seq g2.wf.sub s⟩,k _ H1 aT _ g2 (.seq rs (o_.imp (Ar X.K _ _) λH' s'=>bG.seq s' s)) (by rw[rs.length];exact z) q1⟩
 |_=>exact q1.elim
theorem jQ(lo:Int):∀ (l:List Nat),bT K H (l.map λi=>.int (lo+(i:Nat))) (l.map λi=>V.int (lo+(i:Nat)))
 |[]=>.nil
 |c :: l=>.cons (.int _) (jQ lo l)
theorem bL (hm:X.mg "range" = none) (he:QE X K e te) (hg:Gl X "range" := by rfl) (hs:cc [e] X.env=(false,dr e X.env) :: cc [] X.env:=by rfl) (h9:cc [e] X.env=[(false,dr e X.env)]:=by rfl):QI X K tg (.Call (.Name "range" p) [e] [] pos) (cg te):=by
 refine PI.imp (cS' hg hm (tT he x5 hs) h9) λσ H R hx=>kN hx λHs ρ ah Q sr h k=>⟨Hs,ρ,ah,_,sr,h,λv H1 bE m d As g1 r1 f1 q1=>?_⟩
 have r:=r1.rep g1.wf
 cases r with
 |int j =>obtain⟨h1,h2,q1⟩:=q1;exact⟨j,rfl,h2,by lia,k _ H1 bE _ g1 (.seq (jQ 0 _) (o_.imp (Dq _ _) λ_ _=>trivial)) (by rw[b5,OW,jI];lia) q1⟩
 |_=>exact q1.elim
section
variable {X:Cx}{K:aC}{e tg:Expr}{te:WE}{pos p:Pos}
def su(te:WE):WI:=λρ Q=>te ρ λm d=>kI m/\match d with
 |.list xs=>Q (j8 xs)
 |_=>False
theorem Ec (hm:X.mg "enumerate" = none) (he:QE X K e te) (hK:X.K=K:=by rfl) (hg:Gl X "enumerate" := by rfl) (hs:cc [e] X.env=(false,dr e X.env) :: cc [] X.env:=by rfl) (h9:cc [e] X.env=[(false,dr e X.env)]:=by rfl) :
  QI X K (.Tuple elts kk tp) (.Call (.Name "enumerate" p) [e] [] pos) (su te):=by
 subst hK;refine PI.imp (Di hg hm (tT he x5 hs) h9) λσ H R hx=>kN hx λHs ρ ah Q sr h k=>⟨Hs,ρ,ah,_,sr,h,λv H1 bE m d As g1 r1 f1 q1=>?_⟩
 obtain⟨nb,q1⟩:=q1;obtain⟨aT,g2,r2⟩:=r1.xR g1 f1 nb
 cases r2 with
 |list z s rs=>exact⟨_,rfl,⟨_,bG.seq g2.wf.sub s⟩,k _ H1 aT _ g2 (.enum (oZ s rs)) (by rw[j8,List.length_mapIdx,rs.length];exact z) q1⟩
 |_=>exact q1.elim
def aO'(K:aC)(wi:WI):TI:=λσ H R=>∃ Hs ρ ah Q,eC K Hs ρ σ H ah/\wi ρ Q/\∀ J H' ax ds,fS Hs H ax H'->uf K H' J ds->ds.length<=bS->Q ds->R J H'
abbrev SY(X:Cx)(K:aC)(tg iter:Expr)(wi:WI):Prop:=PI X tg iter (aO' K wi)
theorem iw(h:QI X K tg iter wi):SY X K tg iter wi:=PI.imp h λσ H R hx=>kN hx λHs ρ ah Q sr h k=>⟨Hs,ρ,ah,Q,sr,h,λJ H' ax ds g w z q=>k J H' ax ds g (w.imp λG H s=>g.wf.sub.trans s) z q⟩
def cO(te:WE):WI:=λρ Q=>te ρ λ_ d=>match d with
 |.list xs=>Q xs
 |_=>False
theorem cF(he:QE X K e te)(hK:X.K=K:=by rfl):SY X K tg e (cO te):=by
 subst hK;refine PI.imp (W8 he) λσ H R hx=>kN hx λHs ρ ah Q sr h k=>⟨Hs,ρ,ah,_,sr,h,λv H1 bE m d As g1 r1 f1 q1=>?_⟩
 have r:=r1.rep g1.wf
 cases r with
 |list z s rs=>exact⟨_,rfl,⟨_,s⟩,k _ H1 bE _ g1 (.list (oZ s rs)) (by rw[rs.length];exact z) q1⟩
 |_=>exact q1.elim
end
def ie(g:WG)(b:WS)(E:ou):List D->Env->Prop
 |[],ρ=>E.nx ρ
 |x :: xs,ρ=>g x ρ λqo=>b { E with nx:=ie g b E xs,ct:=ie g b E xs,bk:=E.nx } qo
def oi(wi:WI)(g:WG)(b:WS):WS:=λE ρ=>wi ρ λds=>ie g b E ds ρ
variable {wi:WI}{g:WG}{b:WS}{body:List Stmt}
theorem bM(hi:QI X K tg iter wi)(hg:QG X K tg g)(hb:yT X K L body b)(hs:∀ x,DV iter X.env x=pure x:=by intro _;rfl)(hp:PassesOwn (aE X.prog X.w) X.A X.env X.xe:=by first|exact PassesOwn.never|exact PassesOwn.leaving)(hc:X.calm=true:=by rfl) :
  QS X K L (.For tg iter body [] pos) (oi wi g b):=by
 refine PS.imp (W_ hp hc hi hg hb hs) λD σ H hx=>jP hx λHs ρ ah E sr h k1 k2 k3 k4 kx=>?_;rw[xf];refine⟨Hs,ρ,ah,_,sr,h,λJ H1 bE ds g1 S hz q1=>?_⟩;refine⟨λi m σ H=>m=ds.length-i/\i<=ds.length/\∃ ax b4 cv,bG bE ax/\eC K ax b4 σ H cv/\ie g b E (ds.drop i) b4,⟨ds.length,by simp,fz _,bE,ρ,ah,bG.refl _,sr.grow g1,by simpa using q1⟩,?_⟩;rintro i m kM H2 ⟨rfl,hi,aT,gu,e7,s2,hU,q2⟩;by_cases d5:i<ds.length
 ·walk_at"m";obtain⟨eS,g3,rd⟩:=S.mz i aT H2 x H3 ds[i] s2 hU.wf (by simp[d5]) y;rw[xB d5] at q2;have s3:=s2.trans g3.sh;refine⟨eS,gu,e7,ds[i],_,hU.grow g3,rd,q2,λσ4 kS LG EZ _ q4=>?_⟩;refine⟨eS,kS,LG,_,EZ,q4,?_,?_,?_,?_,λn H5 s5=>kx n H5 ((g1.sh.trans s3).trans s5)⟩
  ·exact λBI H5 kE rq rL s5 rS q5=>⟨kE,rq,rL,s3.trans s5,rS,q5⟩
  ·exact λBI H5 kE rq rL s5 rS q5=>k1 BI H5 kE rq rL ((g1.sh.trans s3).trans s5) rS q5
  ·exact λBI H5 kE rq rL s5 rS q5=>⟨kE,rq,rL,s3.trans s5,rS,q5⟩
  ·exact λv H5 kE m d As s5=>k4 v H5 kE m d As ((g1.sh.trans s3).trans s5)
 ·have e:i=ds.length:=by lia
  subst e;refine .inl ⟨S.stop aT H2 s2 hU.wf,?_⟩;rw[OX] at q2;exact k1 kM H2 aT gu e7 (g1.sh.trans s2) hU q2
theorem aU(xs:List D)(Pv:Nat->Env->Prop)(h0:Pv 0 ρ)(hs:∀ i x ρ,xs[i]? = some x->Pv i ρ->∀ N:Env->Prop,(∀ b4,Pv (i+1) b4->N b4)->g x ρ λqo=>b { E with nx:=N,ct:=N,bk:=E.nx } qo) (hd:∀ ρ,Pv xs.length ρ->E.nx ρ):ie g b E xs ρ:=by
 have go:∀ (k i:Nat) (ρ:Env),i+k=xs.length->Pv i ρ->ie g b E (xs.drop i) ρ:=by
  intro k
  induction k with
  |zero =>
   intro i ρ e p;have:i=xs.length:=by lia
   subst this;rw[OX];exact hd ρ p
  |succ k ih =>
   intro i ρ e p;have hi:i<xs.length:=by lia
   rw[xB hi];exact hs i xs[i] ρ (by simp[hi]) p _ λgu h2=>ih (i+1) gu (by lia) h2
 have:=go xs.length 0 ρ (by lia) h0;simpa using this
def vV(c:WT)(b:WS):WS:=λE ρ=>∃ (Pv:Env->Prop) (μ:Env->Nat),Pv ρ/\∀ ρ,Pv ρ->c ρ λk=>if k=true then b { E with nx:=λb4=>Pv b4/\μ b4<μ ρ,ct:=λb4=>Pv b4/\μ b4<μ ρ,bk:=E.nx } ρ else E.nx ρ
theorem rW(hc:QT X K c tc)(hb:yT X K L body b)(hp:PassesOwn (aE X.prog X.w) X.A X.env X.xe:=by first|exact PassesOwn.never|exact PassesOwn.leaving):QS X K L (.While c body [] pos) (vV tc b):=by
 refine PS.imp (cM' hp hc hb) λD σ H hx=>jP hx λHs ρ ah E sr h k1 k2 k3 k4 kx=>?_;obtain⟨Pv,μ,p0,turn⟩:=h;refine⟨λm σ H=>∃ ax b4 cv,bG Hs ax/\eC K ax b4 σ H cv/\Pv b4/\μ b4=m,⟨_,Hs,ρ,ah,bG.refl _,sr,p0,rfl⟩,?_⟩;rintro m kM H2 ⟨aT,gu,e7,s2,hU,p2,rfl⟩;refine⟨aT,gu,e7,_,hU,turn gu p2,λk H3 eS g3 q3=>?_⟩
 cases k with
 |false=>exact k1 kM H3 eS gu e7 (s2.trans g3.sh) (hU.grow g3) q3
 |true =>
  refine⟨λb9 H'=>∃ ax b4 cv,bG Hs ax/\eC K ax b4 b9 H' cv/\Pv b4/\μ b4<μ gu,λb9 H' ⟨ax,b4,cv,a,b,c,d⟩=>⟨μ b4,d,ax,b4,cv,a,b,c,rfl⟩,?_⟩;have s3:bG Hs eS:=s2.trans g3.sh;refine⟨eS,gu,e7,_,hU.grow g3,q3,?_,?_,?_,?_,λn H5 s5=>kx n H5 (s3.trans s5)⟩
  ·exact λBI H5 kE rq rL s5 rS q5=>⟨kE,rq,rL,s3.trans s5,rS,q5.1,q5.2⟩
  ·exact λBI H5 kE rq rL s5 rS q5=>k1 BI H5 kE rq rL (s3.trans s5) rS q5
  ·exact λBI H5 kE rq rL s5 rS q5=>⟨kE,rq,rL,s3.trans s5,rS,q5.1,q5.2⟩
  ·exact λv H5 kE m d As s5=>k4 v H5 kE m d As (s3.trans s5)
end
def pS:WT:=λ_ Q=>Q true
def S0(m:Md)(d:D):Prop:=d.flat=true\/m=.ow true
def cU(g:WG)(tc:WT)(te:WE):List D->Env->(List D->Prop)->Prop
 |[],_,k=>k []
 |x :: xs,ρ,k=>g x ρ λqo=>tc qo λb=>if b=true then te qo λm d=>S0 m d/\cU g tc te xs qo (λout=>k (d :: out)) else cU g tc te xs qo k
def qK(tn:Nat)(ix:List Nat)(ρ:Env):Env:=List.replicate tn none++ix.map λj=>(ρ[j]?).join.map Qf
def cG(wi:WI)(g:WG)(tc:WT)(te:WE)(tn:Nat)(ix:List Nat):WE:=λρ Q=>wi ρ λds=>cU g tc te ds (qK tn ix ρ) λout=>Q (.ow true) (.list out)
section
variable {X:Cx}{K:aC}
theorem g8{Hs H G:Hp}(sr:eC K Hs ρ σ H ah)(G':Hp):∀ (ix:List Nat),SR K H G' (ix.map λj=>(ρ[j]?).join.map Qf) (ix.map λj=>(σ[j]?).join) []
 |[]=>.nil
 |j :: ix=>by
  have ih:=g8 sr G' ix (G:=G);simp only[gE]
  cases e:ρ[j]? with
  |none=>exact .non ih
  |some o =>
   cases o with
   |none=>exact .non ih
   |some sl =>
    obtain⟨v,e1,r⟩:=sr.sr.get e;rw[e1]
    cases sl with
    |sh d=>exact .sh (Rep.same sr.wf.sub r) ih
    |xc a=>subst r;exact .xc ih
    |ob a p=>obtain⟨r,_⟩:=r;subst r;exact .xc ih
    |ow fl d =>obtain⟨As,_,r,_⟩:=r;exact .sh (r.rep sr.wf.sub λ_ _=>rfl) ih
    |lk a fl d =>obtain⟨As,_,r,_⟩:=r;exact .sh (r.rep sr.wf.sub λ_ _=>rfl) ih
theorem jA(s:SR K H G ρ σ []):∀ (n:Nat),SR K H G (List.replicate n none++ρ) (List.replicate n none++σ) []
 |0=>s
 |n+1=>.non (jA s n)
theorem SR.heap(s:SR K Hs H ρ σ []):SR K Hs H' ρ σ []:=s.fA (bG.refl _) λa h=>nomatch h
theorem sI(w:Wf Hs H)(n:Hs p=none)(ho:∀ vs,o≠.tup vs):Wf Hs (upd H p o):=⟨λb u q=>by
  rw[cy (λz=>by subst z;rw[n] at q;cases q)];exact w.sub b u q,λb us q=>by
  by_cases hb:b=p
  ·subst hb;rw[ft] at q;exact absurd (Option.some.inj q) (ho us)
  ·rw[cy hb] at q;exact w.i3 b us q⟩
structure CompI(K:aC)(H1:Hp)(b:ag)(acc:List D)(ys:List V)(As:List ag)(Hs:Hp)(ρ:Env)(τ:St)(H:Hp):Prop where
 sm:bG H1 Hs
 sr:eC K Hs ρ τ H []
 eD:H b=some (.lst ys)
 nD:Hs b=none
 ra:aB K Hs H true acc ys As
 nd:(b :: As).Nodup
 own:∀ a∈As,Hs a=none
theorem CompI.grow(c:CompI K H1 b acc ys As Hs ρ τ H)(g:fS Hs H ax H'):CompI K H1 b acc ys As ax ρ τ H' :=
 ⟨c.sm.trans g.sh,c.sr.grow g,g.all _ _ c.eD,g.pj c.nD (by rw[c.eD];exact λz=>nomatch z),c.ra.grow g.sh g.all,c.nd,λa ha=>g.pj (c.own a ha) (c.ra.own a ha).ne⟩
theorem CompI.push(c:CompI K H1 b acc ys As Hs ρ τ H)(r:RM K Hs H m d v Bs)(ok:S0 m d)(nb:Bs.Nodup)(fb:∀ a∈Bs,Hs a=none/\a∉b :: As):∃ gy,CompI K H1 b (acc++[d]) (ys++[v]) gy Hs ρ τ (upd H b (.lst (ys++[v]))):=by
 obtain⟨B,sb,rb⟩:∃ B,B.Sublist Bs/\cf K Hs H true d v B:=by
  rcases ok with hf|rfl
  ·exact⟨[],MA _,.sh (λ_=>hf) (r.flat c.sr.wf hf)⟩
  ·exact⟨Bs,List.Sublist.refl _,r.1⟩
 obtain⟨na,nA⟩:=k7.mp c.nd;have S4:=λa ha=>fb a (sb.subset ha);refine⟨As++(B++[]),c.sm,⟨c.sr.sr.heap,sI c.sr.wf c.nD (λ_ z=>nomatch z),p9,λa h=>nomatch h⟩,ft,c.nD,(c.ra.fA (H':=upd H b (.lst (ys++[v]))) (bG.refl _) λa ha=>cy λz=>na (by subst z;exact ha)).append (.cons (rb.fA (bG.refl _) λa ha=>cy λz=>(S4 a ha).2 (by subst z;exact cE)) .nil),?_,?_⟩
 ·rw[pV];refine k7.mpr ⟨λm=>(eR.mp m).elim na λm=>(S4 b m).2 cE,ja.mpr ⟨nA,sb.nodup nb,λx hx y hy e=>(S4 y hy).2 (e ▸ df _ hx)⟩⟩
 ·rw[pV];exact λa ha=>(eR.mp ha).elim (c.own a) λm=>(S4 a m).1
theorem ql(h:lT K (cG wi g tc te tn ix) σ H Qv):vR (aO' K wi) (Oj K g) (Dx K tc) (lT K te) tn ix σ H Qv:=by
 obtain⟨Hs,ρ,ah,Q,sr,h,f⟩:=h;rw[um];refine⟨Hs,ρ,ah,_,sr,h,λJ H1 bE ds g1 S hz q1 b hb=>?_⟩;have st:CompI K H1 b [] [] [] H1 (qK tn ix ρ) (jC tn ix σ) (upd H1 b (.lst [])):=by
  refine⟨bG.refl _,⟨jA (g8 (G:=H1) (sr.grow g1) _ ix) tn,⟨(bG.refl H1).upd hb,λa xs e=>?_⟩,p9,λa h=>nomatch h⟩,ft,hb,.nil,by simp,λa h=>nomatch h⟩;by_cases ha:a=b
  ·subst ha;rw[ft] at e;cases e
  ·rw[cy ha] at e;exact e
 refine⟨λi m τ H2=>m=ds.length-i/\i<=ds.length/\∃ aT gu acc ys As,CompI K H1 b acc ys As aT gu τ H2/\acc.length<=i/\cU g tc te (ds.drop i) gu (λout=>Q (.ow true) (.list (acc++out))), ⟨ds.length,by simp,fz _,H1,_,[],[],[],st,cx _,by simpa using q1⟩,?_⟩
 rintro i m τ H2 ⟨rfl,hi,aT,gu,acc,ys,As,c,la,q2⟩;by_cases d5:i<ds.length
 ·refine .inr ⟨S.go i aT H2 c.sm c.sr.wf d5,
   λy8 v H4=>∃ BE kS d,CompI K H1 b acc ys As BE kS y8 H4/\(∃ gy,CompI K H1 b (acc++[d]) (ys++[v]) gy BE kS y8 (upd H4 b (.lst (ys++[v]))))/\cU g tc te (ds.drop (i+1)) kS (λout=>Q (.ow true) (.list (acc++d :: out))),
   λy8 H3=>∃ eS BH,CompI K H1 b acc ys As eS BH y8 H3/\cU g tc te (ds.drop (i+1)) BH (λout=>Q (.ow true) (.list (acc++out))),?_,?_,?_⟩
  ·rintro y8 v H4 ⟨BE,kS,d,c4,⟨gy,c5⟩,q4⟩;have VM:=c4.ra.length;exact⟨ys,ds.length-(i+1),c4.eD,by lia,by lia,rfl,d5,BE,kS,acc++[d],ys++[v],gy,c5,by rw[oo];simpa using la,by simpa using q4⟩
  ·rintro y8 H3 ⟨eS,BH,c3,q3⟩;exact⟨ds.length-(i+1),by lia,rfl,d5,eS,BH,acc,ys,As,c3,by lia,q3⟩
  ·intro x H3 y;obtain⟨eS,g3,rd⟩:=S.mz i aT H2 x H3 ds[i] c.sm c.sr.wf (by simp[d5]) y;rw[xB d5] at q2;have c3:=c.grow g3;refine⟨eS,gu,[],ds[i],_,c3.sr,rd,q2,λVN kS LG EZ m4 q4=>?_⟩;have t4:LG=[]:=Wx.mpr λa ha=>nomatch m4 a ha;subst t4;have c4:CompI K H1 b acc ys As eS kS VN H3:=⟨c3.sm,EZ,c3.eD,c3.nD,c3.ra,c3.nd,c3.own⟩
   refine⟨eS,kS,[],_,EZ,q4,λk H5 kE g5 q5=>?_⟩;have c5:=c4.grow g5
   cases k with
   |false=>exact⟨kE,kS,c5,q5⟩
   |true =>
    refine⟨kE,kS,[],_,c5.sr,q5,λv H6 VP m6 d6 As6 g6 r6 f6 q6=>?_⟩;have c6:=c5.grow g6;refine⟨VP,kS,d6,c6,c6.push r6 q6.1 f6.1 λa ha=>⟨(f6.2 a ha).1,λm=>?_⟩,q6.2⟩;rcases eK.mp m with rfl|m
    ·have:=(f6.2 _ ha).2;rw[c5.eD] at this;cases this
    ·exact(c5.ra.own a m).ne (f6.2 a ha).2
 ·have e:i=ds.length:=by lia
  subst e;refine .inl ⟨S.stop aT H2 c.sm c.sr.wf,?_⟩;rw[OX] at q2;have q2:Q (.ow true) (.list (acc++[])):=q2;rw[pV] at q2;have VM:=c.ra.length;have rm:RM K aT H2 (.ow true) (.list acc) (.ref b) (b :: As):=⟨.list (by lia) c.eD c.ra,by simp⟩
  obtain⟨gy,r',fr⟩:=jY g1.wf c.sm c.sr.wf rm c.nd λa ha=>(eK.mp ha).elim (λz=>z ▸ c.nD) (c.own a);exact Fin.after f g1 (.ref b) H2 _ (.ow true) (.list acc) gy (dI g1.wf c.sm c.sr.wf) r' fr q2
theorem CH.imp(h:CH X ifs t)(i:∀ σ H Q,t' σ H Q->t σ H Q):CH X ifs t':=λpins s σ H Q I q=>h pins s σ H Q I (i σ H Q q)
abbrev Qh(X:Cx)(K:aC)(ifs:List Expr)(t:WT):Prop:=CH X ifs (Dx K t)
theorem bf:Qh X K [] pS:=CH.imp Dt λσ H Qv hx=>kN hx λHs ρ ah Q sr h k=>k true H Hs (fS.refl sr.wf) h
theorem mK(h:QT X K c t):Qh X K [c] t:=Dc h
theorem cL(hi:SY X K tg iter wi)(hg:∀ {C fp g9 hX} {q:(tn++cn).Nodup},QG (aQ X scope C (tn++cn) fp g9 hX) K tg g) (pf:∀ {C fp g9 hX},Qh (aQ X scope C (tn++cn) fp g9 hX) K ifs tc) (he:∀ {C fp g9 hX},QE (aQ X scope C (tn++cn) fp g9 hX) K elt te)(hs:∀ x,DV iter X.env x=pure x:=by intro _;rfl) (nd:(tn++cn).Nodup:=by decide +kernel) (O:dg X scope tn cn ix:=by exact dg.by (by assumption) (by decide +kernel)) (hc:X.calm=true:=by rfl):QE X K (.ListComp elt [⟨tg,iter,ifs,0⟩] scope pos) (cG wi g tc te tn.length ix) :=
 PE.imp (wz hc hi O (λ_ _ _ _=>hg (q:=nd)) (λ_ _ _ _=>pf) (λ_ _ _ _=>he) hs) λσ H Qv h=>ql h
end
theorem aV(p:D->Bool)(f:D->D)(Iv:Env->Prop):∀ (xs:List D) (ρ:Env) (k:List D->Prop),Iv ρ -> (∀ x∈xs,∀ ρ,Iv ρ->∀ N1:Env->Prop,∀ N2:Env->D->Prop,(∀ b4,Iv b4->p x=false->N1 b4)->(∀ b4,Iv b4->p x=true->N2 b4 (f x))->g x ρ λqo=>tc qo λb=>if b=true then te qo λm d=>S0 m d/\N2 qo d else N1 qo) ->
  k ((xs.filter p).map f)->cU g tc te xs ρ k
 |[],_,k,_,_,h=>h
 |x :: xs,ρ,k,iv,hs,h=>by
  refine hs x cE ρ iv _ _ (λb4 Qi hp=>?_) (λb4 Qi hp=>?_)
  ·exact aV p f Iv xs b4 k Qi (λy hy=>hs y (df _ hy)) (by simpa[hp] using h)
  ·exact aV p f Iv xs b4 _ Qi (λy hy=>hs y (df _ hy)) (by simpa[hp] using h)
def Upd(K:aC)(Hs H:Hp)(σ:St)(fl:Bool)(v:V)(up:Bool->D->Env)(gy:List ag):Prop:=∀ aT H2 fl2 d2 g7,bG Hs aT->Wf aT H2->(∀ a,Hs a=none->H a≠none->aT a=none)->(fl2=true->fl=true) ->
  cf K aT H2 fl2 d2 v g7->g7≠[]->g7.Nodup->(∀ a∈g7,aT a=none/\(a∈gy\/H a=none))->(∀ a,H a≠none->a∉gy->H2 a=H a)->∃ e7,eC K aT (up fl2 d2) σ H2 e7
structure Place(K:aC)(Hs H:Hp)(σ:St)(fl:Bool)(d:D)(v:V)(up:Bool->D->Env):Prop where
 ex:∃ gy,cf K Hs H fl d v gy/\gy≠[]/\gy.Nodup/\(∀ a∈gy,Hs a=none)/\Upd K Hs H σ fl v up gy
theorem Upd.node{K:aC}(k:Upd K Hs H σ fl (.ref a) up (a :: A))(g:fS Hs H aT H2)(own:∀ x∈a :: A,Hs x=none/\H x≠none)(ho:∀ vs,o≠.tup vs)(hf:fl2=true->fl=true)(r:cf K aT (upd H2 a o) fl2 d2 (.ref a) (a :: C)) (nC:C.Nodup) (S5:a∉C) (hC:∀ x∈C,x∈A\/(aT x=none/\H x=none)):∃ e7,eC K aT (up fl2 d2) σ (upd H2 a o) e7:=by
 have hn:∀ x∈a :: A,aT x=none:=λx hx=>g.pj (own x hx).1 (own x hx).2;refine k aT _ fl2 d2 (a :: C) g.sh (sI g.wf (hn a cE) ho) (λb h1 h2=>g.pj h1 h2) hf r (Rj _ _) (k7.mpr ⟨S5,nC⟩) (λb hb=>?_) λb h1 h2=>?_
 ·rcases eK.mp hb with rfl|hb
  ·exact⟨hn _ cE,.inl cE⟩
  ·exact(hC b hb).elim (λq=>⟨hn b (df _ q),.inl (df _ q)⟩) λq=>⟨q.1,.inr q.2⟩
 ·rw[cy λz=>h2 (by subst z;exact cE)]
  cases q:H b with
  |none=>exact absurd q h1
  |some o=>exact g.all b o q
abbrev WP:=Env->(Bool->D->(Bool->D->Env)->Prop)->Prop
def tpP(K:aC)(t:WP):TE:=λσ H Qv=>∃ Hs ρ ah Q,eC K Hs ρ σ H ah/\t ρ Q/\∀ v H' ax fl d up,fS Hs H ax H'->Place K ax H' σ fl d v up->Q fl d up->Qv v H'
abbrev QP(X:Cx)(K:aC)(e:Expr)(t:WP):Prop:=PE X e (tpP K t)
section
variable {K:aC}{Hs H ax H':Hp}{σ:St}{fl:Bool}{d:D}{v:V}{up:Bool->D->Env}
theorem Place.grow(p:Place K Hs H σ fl d v up)(g:fS Hs H ax H'):Place K ax H' σ fl d v up:=by
 obtain⟨gy,r,ne,nd,own,k⟩:=p.ex;refine⟨gy,r.grow g.sh g.all,ne,nd,λa h=>g.pj (own a h) (r.own a h).ne,λaT H2 fl2 d2 g7 s2 w2 n2 hf r2 ne2 mG o2 st=>?_⟩;refine k aT H2 fl2 d2 g7 (g.sh.trans s2) w2 (λa h1 h2=>n2 a (g.pj h1 h2) ?_) hf r2 ne2 mG (λa h=>⟨(o2 a h).1,(o2 a h).2.imp id g.all.free⟩) λa h1 h2=>?_
 ·cases e:H a with
  |none=>exact absurd e h2
  |some o=>rw[g.all a o e];exact λz=>nomatch z
 ·cases e:H a with
  |none=>exact absurd e h1
  |some o =>have:=g.all a o e;rw[<- this];exact st a (by rw[this];exact λz=>nomatch z) h2
theorem cf.ne2:(∀ {d:D} {v:V} {As:List ag},cf K Hs H true d v As->d.flat=false->As≠[])/\∀ {ds:List D} {vs:List V} {As:List ag},aB K Hs H true ds vs As->dS ds=false->As≠[] :=
 cf.ind (m1:=λd _ As=>d.flat=false->As≠[]) (m2:=λds _ As=>dS ds=false->As≠[]) (λ_ _ f _ h=>by rw[f rfl] at h;cases h) (λ_ _ _ _ _ _ _ _ _=>Rj _ _) (λ_ _ _ _ _ _ n _ ih _=>ih n) (λ_ _ _ _ _ _ _ _ _=>Rj _ _) (λ_ _ _ _ _ _ _ _ _=>Rj _ _) (λh=>by simp[dS] at h) λd _ _ _ _ _ _ _ i1 i2 h=>by
   cases e:d.flat with
   |false=>exact λz=>i1 e (OO.mp z).1
   |true =>simp only[dS,e,Bool.true_and] at h;exact λz=>i2 h (OO.mp z).2
theorem cf.ne(r:cf K Hs H true d v As)(h:d.flat=false):As≠[]:=cf.ne2.1 r h
theorem aB.ne(r:aB K Hs H true ds vs As)(h:dS ds=false):As≠[]:=cf.ne2.2 r h
theorem cf.nil_of(r:cf K Hs H fl d v As)(h:d.flat=true):As=[]:=by
 cases r with
 |sh _ _=>rfl
 |tup _ _ n _=>simp[D.flat,n] at h
 |_=>simp[D.flat] at h
def sT(i:Nat):WP:=λρ Q=>match ρ[i]? with
 |some (some (.ow fl d))=>Q fl d λfl2 d2=>ρ.set i (some (.ow fl2 d2))
 |_=>False
theorem SR.put(i:Nat)(s:SR K Hs H ρ σ ah):ρ[i]? = some (some (.ow fl d))->ah.Nodup ->
  ∃ (v:V) (As cv:List ag),σ[i]? = some (some v)/\As≠[]/\cf K Hs H fl d v As/\As.Sublist ah/\∀ aT H2 fl2 d2 g7,bG Hs aT->cf K aT H2 fl2 d2 v g7->g7≠[]->g7.Nodup->(∀ a∈g7,a∈ah->a∈As)->(∀ a∈ah,a∉As->H2 a=H a) ->
   ∃ e7,e7.Nodup/\(∀ a∈e7,a∈ah\/a∈g7)/\SR K aT H2 (ρ.set i (some (.ow fl2 d2))) σ e7:=by
 induction s generalizing i with
 |nil=>intro e;simp at e
 |@non ρ σ ah o q ih =>
  intro e n
  cases i with
  |zero=>simp at e
  |succ i =>obtain⟨v,As,t,a,b,c,d,g⟩:=ih i (by simpa using e) n;refine⟨v,As,t,by simpa using a,b,c,d,λaT H2 fl2 d2 g7 s2 r2 ne2 mG dj st=>?_⟩;obtain⟨t2,x,y,z⟩:=g aT H2 fl2 d2 g7 s2 r2 ne2 mG dj st;exact⟨t2,x,y,.non z⟩
 |sh r q ih =>
  intro e n
  cases i with
  |zero=>simp at e
  |succ i =>obtain⟨v,As,t,a,b,c,d,g⟩:=ih i (by simpa using e) n;refine⟨v,As,t,by simpa using a,b,c,d,λaT H2 fl2 d2 g7 s2 r2 ne2 mG dj st=>?_⟩;obtain⟨t2,x,y,z⟩:=g aT H2 fl2 d2 g7 s2 r2 ne2 mG dj st;exact⟨t2,x,y,.sh (r.same s2) z⟩
 |xc q ih =>
  intro e n
  cases i with
  |zero=>simp at e
  |succ i =>obtain⟨v,As,t,a,b,c,d,g⟩:=ih i (by simpa using e) n;refine⟨v,As,t,by simpa using a,b,c,d,λaT H2 fl2 d2 g7 s2 r2 ne2 mG dj st=>?_⟩;obtain⟨t2,x,y,z⟩:=g aT H2 fl2 d2 g7 s2 r2 ne2 mG dj st;exact⟨t2,x,y,.xc z⟩
 |@ow ρ σ t2 B fl0 d0 v ne r q ih =>
  intro e n;walk_at"e"
  cases i with
  |zero =>
   simp at e;obtain⟨rfl,rfl⟩:=e;refine⟨v,B,t2,rfl,ne,r,OL _ _,λaT H2 fl2 d2 g7 s2 r2 ne2 mG dj st=>⟨g7++t2,ja.mpr ⟨mG,n2,λa ha b hb e=>?_⟩,λa h=>?_,.ow ne2 r2 (q.fA s2 λa h=>st a (fI _ h) λz=>n3 a z a h rfl)⟩⟩
   ·subst e;exact n3 a (dj a ha (fI _ hb)) a hb rfl
   ·exact(eR.mp h).symm.imp (λz=>fI _ z) id
  |succ i =>
   obtain⟨v,As,t,a,b,c,d,g⟩:=ih i (by simpa using e) n2;have hB:∀ x∈B,x∉As:=λx hx m=>n3 x hx x (d.subset m) rfl;walk_at"k";obtain⟨t2,x,y,z⟩:=g aT H2 fl2 d2 g7 s2 r2 ne2 mG (λa ha m=>dj a ha (fI _ m)) λa ha m=>st a (fI _ ha) m;refine⟨B++t2,ja.mpr ⟨n1,x,λa ha b hb e=>?_⟩,λa h=>?_,.ow ne (r.fA s2 λa h=>st a (i9 _ h) (hB a h)) z⟩
   ·subst e;rcases y a hb with w|w
    ·exact n3 a ha a w rfl
    ·exact hB a ha (dj a w (i9 _ ha))
   ·rcases eR.mp h with w|w
    ·exact .inl (i9 _ w)
    ·exact(y a w).imp (λw=>fI _ w) id
 |@lk ρ σ t2 B a0 fl0 d0 ne r q ih =>
  intro e n;walk_at"e"
  cases i with
  |zero=>simp at e
  |succ i =>
   obtain⟨v,As,t,a,b,c,d,g⟩:=ih i (by simpa using e) n2;have hB:∀ x∈B,x∉As:=λx hx m=>n3 x hx x (d.subset m) rfl;walk_at"k";obtain⟨t2,x,y,z⟩:=g aT H2 fl2 d2 g7 s2 r2 ne2 mG (λa ha m=>dj a ha (fI _ m)) λa ha m=>st a (fI _ ha) m;refine⟨B++t2,ja.mpr ⟨n1,x,λa ha b hb e=>?_⟩,λa h=>?_,.lk ne (r.fA s2 λa h=>st a (i9 _ h) (hB a h)) z⟩
   ·subst e;rcases y a hb with w|w
    ·exact n3 a ha a w rfl
    ·exact hB a ha (dj a w (i9 _ ha))
   ·rcases eR.mp h with w|w
    ·exact .inl (i9 _ w)
    ·exact(y a w).imp (λw=>fI _ w) id
 |@ob ρ σ t2 B a0 p0 r q ih =>
  intro e n;walk_at"e"
  cases i with
  |zero=>simp at e
  |succ i =>
   obtain⟨v,As,t,a,b,c,d,g⟩:=ih i (by simpa using e) n2;have hB:∀ x∈B,x∉As:=λx hx m=>n3 x hx x (d.subset m) rfl;walk_at"k";obtain⟨t2,x,y,z⟩:=g aT H2 fl2 d2 g7 s2 r2 ne2 mG (λa ha m=>dj a ha (fI _ m)) λa ha m=>st a (fI _ ha) m;refine⟨B++t2,ja.mpr ⟨n1,x,λa ha b hb e=>?_⟩,λa h=>?_,.ob (p0.fA (rn s2) (λa h=>st a (i9 _ h) (hB a h)) r) z⟩
   ·subst e;rcases y a hb with w|w
    ·exact n3 a ha a w rfl
    ·exact hB a ha (dj a w (i9 _ ha))
   ·rcases eR.mp h with w|w
    ·exact .inl (i9 _ w)
    ·exact(y a w).imp (λw=>fI _ w) id
theorem bZ{X:Cx}(h:PE X e (FK i)):QP X K e (sT i):=PE.imp h λσ H Qv hx=>kN hx λHs ρ ah Q sr h f=>by
 unfold sT at h;split at h
 ·rename_i fl d e1;obtain⟨v,As,t,e2,ne,r,sb,g⟩:=SR.put i sr.sr e1 sr.rj;refine⟨v,e2,f v H Hs fl d _ (fS.refl sr.wf) ⟨As,r,ne,sb.nodup sr.rj,λa h=>sr.own a (sb.subset h),λaT H2 fl2 d2 g7 s2 w2 n2 _ r2 ne2 mG o2 st=>?_⟩ h⟩;obtain⟨t2,x,y,z⟩:=g aT H2 fl2 d2 g7 s2 r2 ne2 mG (λa ha m=>(o2 a ha).2.elim id λq=>absurd q (sr.sr.own a m).ne) λa ha m=>st a (sr.sr.own a ha).ne m;exact⟨t2,z,w2,x,λa h=>(y a h).elim (λq=>n2 a (sr.own a q) (sr.sr.own a q).ne) λq=>(o2 a q).1⟩
 ·exact h.elim
theorem cf.wk(h:fl2=true->fl=true)(r:cf K Hs H fl d v As):cf K Hs H fl2 d v As:=by
 cases fl2 with
 |false=>exact r.SF
 |true=>rw[h rfl] at r;exact r
theorem aB.wk{fl fl2:Bool}{d:List D}{v:List V}{As:List ag}(h:fl2=true->fl=true)(r:aB K Hs H fl d v As):aB K Hs H fl2 d v As:=by
 cases fl2 with
 |false=>exact r.SF
 |true=>rw[h rfl] at r;exact r
theorem aB.at(r:aB K Hs H fl ds vs As)(e:ds[j]? = some d)(n:As.Nodup) :
  ∃ (v:V) (B:List ag),vs[j]? = some v/\cf K Hs H fl d v B/\B.Sublist As/\∀ aT H2 fl2 d2 B2,bG Hs aT->(fl2=true->fl=true)->cf K aT H2 fl2 d2 v B2->B2.Nodup->(∀ a∈B2,a∈As->a∈B)->(∀ a∈As,a∉B->H2 a=H a) ->
   ∃ g7,g7.Nodup/\(∀ a∈g7,(a∈As/\a∉B)\/a∈B2)/\(B2≠[]->g7≠[])/\aB K aT H2 fl2 (ds.set j d2) vs g7:=by
 induction ds generalizing vs As j with
 |nil=>simp at e
 |cons x ds ih =>
  obtain⟨v,us,A,B,rfl,rfl,r,rs⟩:=r.c;walk_at"e"
  cases j with
  |zero =>
   simp at e;subst e;refine⟨v,A,rfl,r,OL _ _,λaT H2 fl2 d2 B2 s2 hf r2 mG dj st=>⟨B2++B,ja.mpr ⟨mG,n2,λa ha b hb e=>?_⟩,λa h=>?_,λne z=>ne (OO.mp z).1,.cons r2 ((rs.wk hf).fA s2 λa h=>st a (fI _ h) λz=>n3 a z a h rfl)⟩⟩
   ·subst e;exact n3 a (dj a ha (fI _ hb)) a hb rfl
   ·rcases eR.mp h with w|w
    ·exact .inr w
    ·exact .inl ⟨fI _ w,λz=>n3 a z a w rfl⟩
  |succ j =>
   obtain⟨v,C,a,b,c,g⟩:=ih (j:=j) rs (by simpa using e) n2;have hA:∀ x∈A,x∉C:=λx hx m=>n3 x hx x (c.subset m) rfl;refine⟨v,C,by simpa using a,b,c.trans (n4 _ _),λaT H2 fl2 d2 B2 s2 hf r2 mG dj st=>?_⟩;obtain⟨g7,x,y,w,z⟩:=g aT H2 fl2 d2 B2 s2 hf r2 mG (λa ha m=>dj a ha (fI _ m)) λa ha m=>st a (fI _ ha) m;refine⟨A++g7,ja.mpr ⟨n1,x,λa ha b hb e=>?_⟩,λa h=>?_,λne q=>w ne (OO.mp q).2,.cons ((r.wk hf).fA s2 λa h=>st a (i9 _ h) (hA a h)) z⟩
   ·subst e;rcases y a hb with q|q
    ·exact n3 a ha a q.1 rfl
    ·exact hA a ha (dj a q (i9 _ ha))
   ·rcases eR.mp h with q|q
    ·exact .inl ⟨i9 _ q,hA a q⟩
    ·exact(y a q).imp (λq=>⟨fI _ q.1,q.2⟩) id
theorem Ib{α:Type}{xs:List α}{i:Int}{x:α}(h:gS xs i=some x):∃ j,oa xs.length i=some j/\xs[j]? = some x:=by
 unfold L2.gS at h
 cases e:oa xs.length i with
 |none=>rw[e] at h;cases h
 |some j=>rw[e] at h;exact⟨j,rfl,h⟩
def Qj(p:WP)(t:WE):WP:=λρ Q=>p ρ λfl d up=>t ρ λ_ y=>fl=true/\match y with
 |.int i=>match d with
  |.list ds=>∃ j d',oa ds.length i=some j/\ds[j]? = some d'/\d'.flat=false/\Q true d' λfl2 d2=>up fl2 (.list (ds.set j d2))
  |.tup ds=>∃ j d',oa ds.length i=some j/\ds[j]? = some d'/\d'.flat=false/\Q true d' λfl2 d2=>up fl2 (.tup (ds.set j d2))
  |_=>False
 |_=>False
theorem uX{α:Type}{xs:List α}{i:Int}{j:Nat}{x:α}(h:oa xs.length i=some j)(e:xs[j]? = some x):gS xs i=some x:=by unfold L2.gS;rw[h];exact e
theorem zb{ds:List D}{j:Nat}{d:D}(e:ds[j]? = some d)(h:d.flat=false):dS ds=false:=by
 cases q:dS ds with
 |false=>rfl
 |true=>rw[gH.mp q d (om e)] at h;cases h
theorem yh{ds:List D}{j:Nat}{d d2:D}(e:ds[j]? = some d)(h:d2.flat=false):dS (ds.set j d2)=false:=by have hj:j<ds.length:=(jS.mp e).1;exact zb (j:=j) (d:=d2) (by simp[hj]) h
theorem Ii{X:Cx}{a b:Expr}{p:WP}{t:WE}{pos:Pos}(ha:QP X K a p)(hb:QE X K b t)(hs:RX b:=by exact λ_ _=>rfl)(hK:X.K=K:=by rfl)(hu:X.A.units+64<fe:=by assumption):QP X K (.Subscript a b pos) (Qj p t):=by
 refine PE.imp (UU (aJ' hu hK) ha hb hs) λσ H Qv hx=>kN hx λHs ρ ah Q sr h f=>?_;refine⟨Hs,ρ,ah,_,sr,h,λv H1 bE fl d up g1 p1 q1=>⟨bE,ρ,ah,_,sr.grow g1,q1,λu H2 aT m y As g2 r2 f2 q2=>?_⟩⟩;have p2:=p1.grow g2;have gg:=g1.trans g2;obtain⟨rfl,q2⟩:=q2;have ry:=r2.rep g2.wf
 cases ry with
 |int i =>
  obtain⟨gy,r,ne,nd,own,k⟩:=p2.ex
  cases r with
  |sh hf _=>exact absurd rfl ne
  |@list a0 vs0 ds0 A0 hz e rs =>
   obtain⟨j,d',e1,e2,hd,q⟩:=q2;obtain⟨na,nb⟩:=k7.mp nd;obtain⟨w,B,e3,r3,sb,g⟩:=rs.at e2 nb;refine .inl (.inl ⟨_,w,.inl (.inl e),uX (by rw[<- rs.length];exact e1) e3,f w H2 aT true d' _ gg ⟨B,r3,r3.ne hd,sb.nodup nb,λa h=>own a (df _ (sb.subset h)),λeS H3 Qk d3 P_ s3 w3 n3 hf r4 ne3 VQ o3 st=>?_⟩ q⟩);have av:∀ x∈A0,x∉B->H3 x=H2 x:=λx hx m=>st x (rs.own x hx).ne m;obtain⟨Oe,x4,y4,z4,r5⟩:=g eS H3 Qk d3 P_ s3 hf r4 VQ (λa ha m=>(o3 a ha).2.elim id λq=>absurd q (rs.own a m).ne) av;have eA:H3 a0=H2 a0:=st a0 (by rw[e];exact λz=>nomatch z) λm=>na (sb.subset m);have cl:∀ a∈Oe,eS a=none/\(a∈a0 :: A0\/H2 a=none):=λa h=>by
    rcases y4 a h with⟨m,_⟩|m
    ·exact⟨n3 a (own a (df _ m)) (rs.own a m).ne,.inl (df _ m)⟩
    ·exact⟨(o3 a m).1,(o3 a m).2.imp (λq=>df _ (sb.subset q)) id⟩
   refine k eS H3 Qk (.list _) (_ :: Oe) s3 w3 n3 hf (.list hz (eA.trans e) r5) (by simp) (k7.mpr ⟨λm=>?_,x4⟩) (λa h=>?_) λa h1 h2=>st a h1 λm=>h2 (df _ (sb.subset m))
   ·rcases y4 _ m with⟨q,_⟩|q
    ·exact na q
    ·rcases (o3 _ q).2 with q|q
     ·exact na (sb.subset q)
     ·rw[e] at q;cases q
   ·rcases eK.mp h with rfl|h
    ·exact⟨n3 _ (own _ cE) (by rw[e];exact λz=>nomatch z),.inl cE⟩
    ·exact cl a h
  |tup hz e hn rs =>
   obtain⟨j,d',e1,e2,hd,q⟩:=q2;obtain⟨w,B,e3,r3,sb,g⟩:=rs.at e2 nd;refine .inl (.inr ⟨_,w,.inl (.inl (g2.wf.sub _ _ e)),uX (by rw[<- rs.length];exact e1) e3,f w H2 aT true d' _ gg ⟨B,r3,r3.ne hd,sb.nodup nd,λa h=>own a (sb.subset h),λeS H3 Qk d3 P_ s3 w3 n3 hf r4 ne3 VQ o3 st=>?_⟩ q⟩);obtain⟨Oe,x4,y4,z4,r5⟩:=g eS H3 Qk d3 P_ s3 hf r4 VQ (λa ha m=>(o3 a ha).2.elim id λq=>absurd q (rs.own a m).ne) (λx hx m=>st x (rs.own x hx).ne m);have Ki:dS (List.set _ j d3)=false:=yh e2 (by
    cases hh:d3.flat with
    |false=>rfl
    |true=>exact absurd (r4.nil_of hh) ne3)
   refine k eS H3 Qk (.tup _) Oe s3 w3 n3 hf (.tup hz (s3 _ _ e) Ki r5) (z4 ne3) x4 (λa h=>?_) λa h1 h2=>st a h1 λm=>h2 (sb.subset m);rcases y4 a h with⟨m,_⟩|m
   ·exact⟨n3 a (own a m) (rs.own a m).ne,.inl m⟩
   ·exact⟨(o3 a m).1,(o3 a m).2.imp (λq=>sb.subset q) id⟩
  |_=>exact q2.elim
 |_=>exact q2.elim
end
section
variable {X:Cx}{K:aC}{e:Expr}{p:WP}{te:WE}{apos fE pos:Pos}
def lQ(fl:Bool)(m:Md)(d:D):Option Bool:=match m with
 |.sh=>some (fl && d.flat)
 |.ow b=>some (fl && b)
 |.bo=>bif d.flat then some fl else none
def HC(p:WP)(te:WE):WS:=λE ρ=>p ρ λfl d up=>match d with
 |.list xs=>te ρ λm x=>xs.length<bS/\match lQ fl m x with
  |some fl2=>E.nx (up fl2 (.list (xs++[x])))
  |none=>False
 |_=>False
theorem zE(w:Wf Hs H)(r:RM K Hs H m d v As)(h:lQ fl m d=some fl2):(fl2=true->fl=true)/\∃ B,B.Sublist As/\cf K Hs H fl2 d v B:=by
 cases m with
 |sh =>cases h;exact⟨λz=>by cases fl<;>simp_all,[],MA _,.sh (λz=>by cases fl<;>simp_all) r.2⟩
 |ow b =>cases h;refine⟨λz=>by cases fl<;>simp_all,As,List.Sublist.refl _,r.1.wk λz=>by cases fl<;>simp_all⟩
 |bo =>
  cases hf:d.flat with
  |true =>simp only[lQ,hf,cond_true,Option.some.injEq] at h;subst h;exact⟨id,[],MA _,.sh (λ_=>hf) (r.flat w hf)⟩
  |false=>simp[lQ,hf] at h
theorem Place.put(pl:Place K bE H1 σ fl (.list xs) v up)(g:fS bE H1 aT H2) :
  ∃ a vs A,v=.ref a/\H2 a=some (.lst vs)/\H1 a=some (.lst vs)/\aB K aT H2 fl xs vs A/\(a :: A).Nodup/\(∀ x∈a :: A,aT x=none/\H1 x≠none) /\
   ∀ fl2 ys ws C,(fl2=true->fl=true)->aB K aT H2 fl2 ys ws C->ws.length<=bS->C.Nodup->a∉C->(∀ x∈C,x∈A\/(aT x=none/\H1 x=none))->∃ e7,eC K aT (up fl2 (.list ys)) σ (upd H2 a (.lst ws)) e7:=by
 obtain⟨gy,r,ne,nd,own,k⟩:=pl.ex
 cases r with
 |sh hf _=>exact absurd rfl ne
 |@list a vs _ A hz e rs =>
  have e2:=g.all _ _ e;have rs2:=rs.grow g.sh g.all;have hw:∀ x∈a :: A,bE x=none/\H1 x≠none:=λx hx=>⟨own x hx,by
   rcases eK.mp hx with rfl|hx
   ·rw[e];exact λz=>nomatch z
   ·exact(rs.own x hx).ne⟩
  exact⟨a,vs,A,rfl,e2,e,rs2,nd,λx hx=>⟨g.pj (hw x hx).1 (hw x hx).2,(hw x hx).2⟩,λfl2 ys ws C hf lS hz ndC S5 hC=>k.node g hw (λ_ z=>by cases z) hf (.list hz ft (lS.fA (bG.refl _) λb hb=>cy λz=>S5 (by subst z;exact hb))) ndC S5 hC⟩
theorem Place.isL(w:Wf bE H1)(pl:Place K bE H1 σ fl (.list xs) v up):∃ a vs,v=.ref a/\fw K H1 a vs:=by
 obtain⟨gy,r,ne,nd,own,k⟩:=pl.ex
 cases r with
 |sh hf _=>exact absurd rfl ne
 |list hz e rs=>exact⟨_,_,rfl,.inl (.inl e)⟩
theorem pB (ho:QP X K e p) (he:QE X K e2 te) (hK:X.K=K:=by rfl) (hs:xA (.Call (.Attribute e "append" apos) [e2] [] fE) none pos.line X.env=pure false:=by rfl) (x8:B4 e "append" X.env (dr e X.env)=dr e X.env:=by rfl) (ya:((k6 fE (cc [e2] X.env)).all (λx=>!x.1) && (backToKw fE (Fh [] X.env)).all (λx=>x.1.isSome)
   && decide ([e2].length+([]:List sD).length+(if ([]:List sD).isEmpty then 0 else 1)<30))=true:=by rfl)
  (hline:(apos.endLine == fE.line)=true:=by rfl) (AI:cc (e2 :: []) X.env=(false,dr e2 X.env) :: cc [] X.env:=by rfl) (EH:(k6 fE (cc [] X.env)).any (·.1)=false:=by rfl) :
  QS X K L (.Expr (.Call (.Attribute e "append" apos) [e2] [] fE) pos) (HC p te):=by
 subst hK;refine PS.imp (RH (Py PySem.F.plainAttrs_list PySem.F.slot_list_append PySem.F.type_list_append R3 ho (tT he x5 AI) x8 ya hline AI EH) hs) λD σ H hx=>dB hx λHs ρ ah E sr h k1 k2 k3 k4=>?_;refine⟨Hs,ρ,ah,_,sr,h,λv H1 bE fl d up g1 p1 q1=>?_⟩
 cases d with
 |list xs =>
  obtain⟨a1,vs1,e1,s1⟩:=p1.isL g1.wf;subst e1;refine⟨.inl ⟨rfl,_,s1⟩,bE,ρ,ah,_,sr.grow g1,q1,λy H2 aT m x As g2 r2 f2 q2=>?_⟩;obtain⟨hz,q2⟩:=q2;obtain⟨a,vs,A,ea,e2,_,rs,nd,hn,k⟩:=p1.put g2;cases ea;have hl:=rs.length;refine⟨a1,vs,y,rfl,rfl,e2,by lia,?_⟩
  cases hp:lQ fl m x with
  |none=>rw[hp] at q2;exact q2.elim
  |some fl2 =>
   rw[hp] at q2;obtain⟨hf,B,sb,rb⟩:=zE g2.wf r2 hp;obtain⟨na,nA⟩:=k7.mp nd;have fB:∀ x∈B,aT x=none/\H1 x=none:=λx hx=>f2.2 x (sb.subset hx);have c1:(A++(B++[])).Nodup:=by rw[pV];exact ja.mpr ⟨nA,sb.nodup f2.1,λx hx z hz e=>by subst e;exact(hn x (df _ hx)).2 (fB x hz).2⟩
   have c2:a1∉A++(B++[]):=by
    rw[pV];intro m;rcases eR.mp m with m|m
    ·exact na m
    ·exact(hn _ cE).2 (fB _ m).2
   have c3:∀ x∈A++(B++[]),x∈A\/(aT x=none/\H1 x=none):=by rw[pV];intro x hx;exact(eR.mp hx).imp id λz=>fB x z
   obtain⟨e7,hU⟩:=k fl2 (xs++[x]) (vs++[y]) (A++(B++[])) hf ((rs.wk hf).append (.cons rb .nil)) (by rw[oo];simp;lia) c1 c2 c3;exact k1 σ _ aT _ e7 (g1.sh.trans g2.sh) hU q2
 |_=>exact q1.elim
def lG:WE:=λ_ Q=>Q (.ow true) (.dT [])
theorem oA:QE X K (.Dict [] [] pos) lG:=PE.imp eS' λσ H Qv hx=>kN hx λHs ρ ah Q sr h f=>λa ha =>
 f _ _ Hs (.ow true) (.dT []) [a] (N4 sr.wf ha λ_ z=>nomatch z) ⟨.dT (vs:=[]) ⟨fz _,λp hp=>nomatch hp⟩ ft .nil,by simp⟩ ⟨by simp,λb hb=>by
  obtain rfl:b=a:=by simpa using hb
  exact⟨sr.wf.sub.free ha,ha⟩⟩ h
section
variable {κ:Type}[DecidableEq κ]
theorem yq{Hs H:Hp}{fl:Bool}{k:κ}{d:D}{v:V}(r:cf K Hs H fl d v []){kvs:List (κ × D)}{vs:List V}{As:List ag}(qs:aB K Hs H fl (kvs.map (·.2)) vs As):∃ ws Bs,Bs.Sublist As /\
  aB K Hs H fl ((kvs.map λkv=>if kv.1=k then (kv.1,d) else kv).map (·.2)) ws Bs/\((kvs.map (·.1)).zip vs).map (λkv=>if kv.1=k then (kv.1,v) else kv)=(((kvs.map λkv=>if kv.1=k then (kv.1,d) else kv)).map (·.1)).zip ws:=by
 induction kvs generalizing vs As with
 |nil=>exact⟨[],[],MA _,.nil,rfl⟩
 |cons p kvs ih =>
  obtain⟨u,vs,A,B,rfl,rfl,q,qs⟩:=aB.c (d:=p.2) qs;obtain⟨ws,Bs,sb,rs,e⟩:=ih qs;by_cases h:p.1=k
  ·refine⟨v :: ws,[]++Bs,by simpa using sb.trans (n4 _ _),?_,?_⟩
   ·simp only[gE,h,if_true];exact .cons r rs
   ·simp only[gE,D6,h,if_true,e]
  ·refine⟨u :: ws,A++Bs,sb.append_left _,?_,?_⟩
   ·simp only[gE,h,if_false];exact .cons q rs
   ·simp only[gE,D6,h,if_false,e]
theorem Ab{Hs H:Hp}{fl:Bool}{k:κ}{d:D}{v:V}(r:cf K Hs H fl d v []){kvs:List (κ × D)}{vs:List V}{As:List ag}(q:aB K Hs H fl (kvs.map (·.2)) vs As) :
  ∃ ws Bs,Bs.Sublist As/\aB K Hs H fl ((ly kvs k d).map (·.2)) ws Bs/\putK ((kvs.map (·.1)).zip vs) k v=((ly kvs k d).map (·.1)).zip ws:=by
 have hl:=q.length;rw[b5] at hl;unfold putK ly;rw[Fv hl]
 cases h:kvs.any λkv=>decide (kv.1=k) with
 |true =>simp only[if_true];exact yq r q
 |false =>
  simp only[js,if_false];refine⟨vs++[v],As++([]++[]),by simp,?_,?_⟩
  ·rw[AX];exact q.append (.cons r .nil)
  ·rw[AX,List.zip_append (by rw[b5];exact hl)];rfl
theorem yQ{Hs H:Hp}{fl:Bool}{k:κ}{d:D}{v:V}(r:Rep K Hs d v)(hd:d.flat=true){kvs:List (κ × D)}{vs:List V}{As:List ag}(q:aB K Hs H fl (kvs.map (·.2)) vs As) :
  ∃ ws Bs,Bs.Sublist As/\aB K Hs H fl ((ly kvs k d).map (·.2)) ws Bs/\putK ((kvs.map (·.1)).zip vs) k v=((ly kvs k d).map (·.1)).zip ws:=Ab (.sh (λ_=>hd) r) q
theorem jf{β:Type}(kvs:List (κ × β))(k:κ)(v:β):(ly kvs k v).length<=kvs.length+1:=by
 unfold ly;split
 ·rw[b5];exact IL _ _
 ·simp
theorem mH{β:Type}{kvs:List (κ × β)}{k:κ}{v:β}{p:κ × β}(h:p∈ly kvs k v):p.1=k\/p.1∈kvs.map (·.1):=by
 unfold ly at h;split at h
 ·obtain⟨q,hq,e⟩:=cw.mp h;by_cases hk:q.1=k
  ·rw[if_pos hk] at e;subst e;exact .inl hk
  ·rw[if_neg hk] at e;subst e;exact .inr (cw.mpr ⟨q,hq,rfl⟩)
 ·rcases eR.mp h with h|h
  ·exact .inr (cw.mpr ⟨p,h,rfl⟩)
  ·have:p=(k,v):=by simpa using h
   subst this;exact .inl rfl
end
def kW(p:WP)(tk tv:WE):WS:=λE ρ=>tv ρ λ_ x=>p ρ λfl d up=>tk ρ λ_ y=>x.flat=true/\match d with
 |.dK kvs=>∃ k,y.key1=some k/\kvs.length<bS/\E.nx (up fl (.dK (ly kvs k x)))
 |.dT kvs=>match y with
  |.tup ys=>∃ ks,dN ys=some ks/\kvs.length<bS/\E.nx (up fl (.dT (ly kvs ks x)))
  |_=>False
 |_=>False
theorem rH(r:Rep K H d v)(h:d.key1=some k):Bz k=true:=by
 cases r<;>simp[D.key1] at h<;>subst h
 ·rfl
 ·rename_i hz;simp[Bz,hz]
theorem tY(r:bT K H ds vs)(h:dN ds=some ks):ks.length=ds.length/\∀ k∈ks,Bz k=true:=by
 induction ds generalizing vs ks with
 |nil=>simp[dN] at h;subst h;exact⟨rfl,λk hk=>nomatch hk⟩
 |cons d ds ih =>
  obtain⟨u,us,rfl,r,rs⟩:=r.c;unfold dN at h
  cases e1:d.key1 with
  |none=>rw[e1] at h;simp at h
  |some k =>
   cases e2:dN ds with
   |none=>rw[e1,e2] at h;simp at h
   |some eM =>
    rw[e1,e2] at h;simp at h;subst h;obtain⟨a,b⟩:=ih rs e2;refine⟨by simp[a],λj hj=>?_⟩;rcases eK.mp hj with rfl|hj
    ·exact rH r e1
    ·exact b j hj
theorem fX{a b c:Expr}{tk tv:WE}{pos':Pos}(ho:QP X K a p)(hi:QE X K b tk)(hv:QE X K c tv)(hs:xA c (some (.Subscript a b pos')) pos.line X.env=pure false:=by rfl)(hu:X.A.units+64<fe:=by assumption) :
  QS X K L (.Assign [.Subscript a b pos'] c pos) (kW p tk tv):=by
 refine PS.imp (eO' (by lia) ho hi hv hs) λD σ H hx=>dB hx λHs ρ ah E sr h k1 k2 k3 k4=>?_;refine⟨Hs,ρ,ah,_,sr,h,λv H1 bE m1 x As1 g1 r1 f1 q1=>⟨bE,ρ,ah,_,sr.grow g1,q1,λu H2 aT fl d up g2 p2 q2=>⟨aT,ρ,ah,_,(sr.grow g1).grow g2,q2,λy H3 eS m3 yd P_ g3 r3 f3 q3=>?_⟩⟩⟩;obtain⟨hx,q3⟩:=q3;have rx:Rep K eS x v:=((r1.grow g2).grow g3).flat g3.wf hx;have ry:=r3.rep g3.wf;obtain⟨gy,r,ne,nd,own,k⟩:=p2.ex;have sm:bG Hs eS:=(g1.sh.trans g2.sh).trans g3.sh;have lv:∀ x∈gy,aT x=none/\H2 x≠none:=λx hx=>⟨own x hx,(r.own x hx).ne⟩
 cases r with
 |sh hf _=>exact absurd rfl ne
 |@dK a0 vs kvs A kk e rs =>
  obtain⟨key,hk,hz,q⟩:=q3;have ey:=ry.key hk;subst ey;obtain⟨na,nA⟩:=k7.mp nd;obtain⟨ws,Bs,sb,lS,ew⟩:=yQ (k:=key) rx hx (rs.grow g3.sh g3.all);have hl:kvs.length=vs.length:=by have:=rs.length;rwa[b5] at this
  refine⟨a0,_,rfl,GH.k (g3.all _ _ e) (by rw[OZ,b5,<- hl,O3];exact hz),?_⟩;rw[ew];have nB:a0∉Bs:=λz=>na (sb.subset z);obtain⟨e7,hU⟩:=k.node (fl2:=fl) (d2:=.dK (ly kvs key x)) g3 lv (λ_ z=>by cases z) id (.dK ⟨iX (jf _ _ _) hz,λp hp=>(mH hp).elim (λz=>by rw[z];exact rH ry hk) λz=>by obtain⟨p',iN,e'⟩:=cw.mp z;rw[<- e'];exact kk.2 p' iN⟩ ft (lS.fA (bG.refl _) λb hb=>cy λz=>nB (by subst z;exact hb))) (sb.nodup nA) nB λb hb=>.inl (sb.subset hb)
  exact k1 σ _ eS _ e7 sm hU q
 |@dT a0 vs kvs A kk e rs =>
  cases ry with
  |tup t1 e1 Oh =>
   obtain⟨key,hk,hz,q⟩:=q3;obtain⟨b,eb,e5⟩:=Rep.kg (.tup t1 e1 Oh) hk;cases eb;obtain⟨kl,ko⟩:=tY Oh hk;obtain⟨na,nA⟩:=k7.mp nd;obtain⟨ws,Bs,sb,lS,ew⟩:=yQ (k:=key) rx hx (rs.grow g3.sh g3.all);have hl:kvs.length=vs.length:=by have:=rs.length;rwa[b5] at this
   refine⟨a0,_,rfl,GH.t (g3.all _ _ e) e5 (by rw[OZ,b5,<- hl,O3];exact hz),?_⟩;rw[ew];have nB:a0∉Bs:=λz=>na (sb.subset z);have l1:=Oh.length;obtain⟨e7,hU⟩:=k.node (fl2:=fl) (d2:=.dT (ly kvs key x)) g3 lv (λ_ z=>by cases z) id (.dT ⟨iX (jf _ _ _) hz,λp hp=>(mH hp).elim (λz=>by rw[z];exact⟨by lia,ko⟩) λz=>by obtain⟨p',iN,e'⟩:=cw.mp z;rw[<- e'];exact kk.2 p' iN⟩ ft (lS.fA (bG.refl _) λb hb=>cy λz=>nB (by subst z;exact hb))) (sb.nodup nA) nB λb hb=>.inl (sb.subset hb)
   exact k1 σ _ eS _ e7 sm hU q
  |_=>exact q3.elim
 |_=>exact q3.elim
end
abbrev WJ:=Env->Str->(Str->Prop)->Prop
section
variable {X:Cx}{K:aC}{e:Expr}{te:WE}{j:WJ}
def iR:List D->Option (List Str)
 |[]=>some []
 |.str x :: xs=>(iR xs).map (x :: ·)
 |_ :: _=>none
def jE(to te:WE):WE:=λρ Q=>to ρ λ_ x=>match x with
 |.str z=>te ρ λ_ y=>match y with
  |.list ys=>∃ zs,iR ys=some zs/\(zs.map (·.length)).sum+zs.length*z.length<=16777216/\Q .sh (.str (Str.join z zs))
  |_=>False
 |_=>False
theorem zm(r:bT K H ds vs)(q:Vals vs us)(h:iR ds=some zs):StrsAre us zs:=by
 induction ds generalizing vs us zs with
 |nil =>simp[iR] at h;subst h;have:=r.n0;subst this;rw[Paired.n0 q];exact .nil
 |cons d ds ih =>
  obtain⟨v,vs,rfl,r1,rs⟩:=r.c;obtain⟨u,us,rfl,q1,qs⟩:=Paired.c q
  cases r1 with
  |str hz =>
   simp only[iR] at h
   cases e:iR ds with
   |none=>rw[e] at h;cases h
   |some ys =>rw[e] at h;cases h;obtain⟨t,rfl⟩:=q1;exact .cons _ t (ih rs qs e)
  |_=>simp[iR] at h
theorem Cu (hK:X.K=K:=by rfl):RZ X "str.join" (λx xs H Q=>∃ z a ds vs zs,x=.str z/\xs=[.ref a]/\fw K H a vs/\bT K H ds vs/\iR ds=some zs/\(zs.map (·.length)).sum+zs.length*z.length<=16777216/\Q (.str (Str.join z zs)) H):=by subst hK;intro pins s σ H x xs v us Q I rx rs h;obtain⟨z,a,ds,vs,zs,rfl,rfl,hs,rr,e,hz,q⟩:=h;obtain⟨t,rfl⟩:=rx;obtain⟨u,rfl,ru⟩:=Vals.one rs;cases ru;obtain⟨its,rv,pl,_⟩:=I.list hs;exact join_list pl.isList (by simpa using zm rr rv e) hz λt' k=>⟨.str _,H,I.tok _,⟨t',rfl⟩,by rw[show Txt.join z zs=Str.join z zs from StrLaws.glued_eq_join z zs];exact q⟩
theorem sG:∀ {zs:List Str},(Str.join z zs).length<=(zs.map (·.length)).sum+zs.length*z.length
 |[]=>by show Str.empty.length<=_;exact iX (show Str.empty.length<=0 by decide) (fz _)
 |[x]=>by simp[Str.join]
 |x :: y :: r=>by have ih:=sG (z:=z) (zs:=y :: r);show(x++z++Str.join z (y :: r)).length<=_;rw[cN,cN];simp only[gE,List.sum_cons,oD,Nat.add_mul,Nat.one_mul] at ih ⊢;lia
theorem uc(ho:QE X K o to)(he:QE X K e te)(hK:X.K=K:=by rfl) (x8:B4 o "join" X.env (dr o X.env)=dr o X.env:=by rfl) (ya:((k6 fE (cc [e] X.env)).all (λx=>!x.1) && (backToKw fE (Fh [] X.env)).all (λx=>x.1.isSome)
   && decide ([e].length+([]:List sD).length+(if ([]:List sD).isEmpty then 0 else 1)<30))=true:=by rfl)
  (hline:(apos.endLine == fE.line)=true:=by rfl) (AI:cc (e :: []) X.env=(false,dr e X.env) :: cc [] X.env:=by rfl) (EH:(k6 fE (cc [] X.env)).any (·.1)=false:=by rfl) :
  QE X K (.Call (.Attribute o "join" apos) [e] [] fE) (jE to te):=by
 subst hK;refine PE.imp (Py PySem.F.plainAttrs_str PySem.F.slot_str_join PySem.F.type_str_join Cu ho (tT he x5 AI) x8 ya hline AI EH) λσ H Qv hx=>kN hx λHs ρ ah Q sr h f=>?_;walk_at"b";have r:=r1.rep g1.wf
 cases r with
 |str hz =>
  refine⟨rfl,bE,ρ,ah,_,sr.grow g1,q1,λy H2 aT m2 x2 g7 g2 r2 f2 q2=>?_⟩;have rr:=r2.rep g2.wf
  cases rr with
  |list z s rs =>obtain⟨zs,e,hz,q⟩:=q2;exact⟨_,_,_,_,zs,rfl,rfl,s,rs,e,hz,Fin.sh (Fin.after f (g1.trans g2)) g2.wf (.str (iX sG (by rw[jI];exact hz))) q⟩
  |_=>exact q2.elim
 |_=>exact q1.elim
def kg(k:List Key):D:=.tup (k.map iS)
def HW:W1:=λ_ x Q=>match x with
 |.list xs=>∃ ks sh,xs=ks.map kg/\(∀ k∈ks,iq k=true :: sh)/\∀ ms:List (List Key),ms.Perm ks->(ms.Pairwise λa b=>gX b a=false)->Q (.ow true) (.list (ms.map kg))
 |_=>False
theorem oU{H:Hp}{ks:List Key}{vs:List V}(r:bT K H (ks.map iS) vs):vs=ks.map kV/\∀ k∈ks,Bz k=true:=by
 induction ks generalizing vs with
 |nil=>exact⟨r.n0,λk h=>nomatch h⟩
 |cons k ks ih =>
  obtain⟨u,us,rfl,r1,rs⟩:=bT.c (d:=iS k) r;obtain⟨e,o⟩:=ih rs;subst e
  cases k with
  |inl i=>cases r1;exact⟨rfl,λj hj=>by rcases eK.mp hj with rfl|hj;rfl;exact o j hj⟩
  |inr x =>
   cases r1 with
   |str hz=>exact⟨rfl,λj hj=>by rcases eK.mp hj with rfl|hj;simp[Bz,hz];exact o j hj⟩
theorem yp{H:Hp}{ks:List (List Key)}{vs:List V}(r:bT K H (ks.map kg) vs):bR H vs ks/\∀ k∈ks,k.length<=bS/\∀ j∈k,Bz j=true:=by
 induction ks generalizing vs with
 |nil=>rw[r.n0];exact⟨.nil,λk h=>nomatch h⟩
 |cons k ks ih =>
  obtain⟨u,us,rfl,r1,rs⟩:=bT.c (d:=kg k) r;obtain⟨t,o⟩:=ih rs
  cases r1 with
  |tup hz e q =>
   obtain⟨e2,o2⟩:=oU q;subst e2;exact⟨.cons ⟨_,rfl,e⟩ t,λj hj=>by
    rcases eK.mp hj with rfl|hj
    ·exact⟨by simpa using hz,o2⟩
    ·exact o j hj⟩
theorem cT:mM "sorted" = some (.builtin "sorted"):=by decide +kernel
end
abbrev Plan:=List (WE ⊕ Nat)
def gP':Option (Option Sl)->Option (Md × D)
 |some (some (.sh d))=>some (.sh,d)
 |some (some (.ow fl d))=>some (.ow fl,d)
 |_=>none
def aP':kr:=λds Q=>∃ ns:List Int,ds=[.list (ns.map .int)]/\ns.length<=63/\∀ m,Q m (.bl true)
theorem ints_rep{K:aC}:∀ (ns:List Int),bT K H (ns.map .int) (ns.map V.int)
 |[]=>.nil
 |n :: ns=>.cons (.int n) (ints_rep ns)
theorem Af{K:aC}{H:Hp}{a:ag}{ns:List Int}{E:XK}(hl:ns.length<=63)(hS:fw K H a (ns.map V.int)):fJ K aP' [.ref a] H (λv _=>v=.bl true) E:=by refine⟨[.list (ns.map .int)],λ_ d=>d=.bl true,.cons (.list (by rw[b5];exact iX hl (by decide)) hS (ints_rep ns)) .nil,⟨ns,rfl,hl,λ_=>rfl⟩,?_⟩;intro v H' ax m d As s w r nd own q;subst q;have:=r.rep w;cases this;rfl
abbrev sg(x:Str):List Nat:=x.cps.toList
theorem sJ(x y:Str):sg (x++y)=sg x++sg y:=by show(x.cps++y.cps).toList=_;simp[sg]
theorem empty_app(x:Str):Str.empty++x=x:=yl (by rw[<- sg,sJ];rfl)
def okS(x:Str):Prop:=∀ c∈sg x,c<0x110000
theorem Dz(x:Str):PyData.strOk x=true↔okS x:=by unfold PyData.strOk okS sg;rw[Array.all_eq_true'];simp
theorem gQ'{α:Type}(x:α)(l:List α):gS (x :: l) 0=some x:=by simp[L2.gS,oa]
theorem gR'{α:Type}(x y:α)(l:List α):gS (x :: y :: l) 1=some y:=by have:=NF (xs:=x :: y :: l) (j:=1) (v:=y) rfl;exact this
theorem gS'{α:Type}(x y z:α)(l:List α):gS (x :: y :: z :: l) 2=some z:=by have:=NF (xs:=x :: y :: z :: l) (j:=2) (v:=z) rfl;exact this
theorem Hd:Str.empty.length=0:=by decide
end L2.Q
namespace L2.Q.R
open PySem PySem.Spec PyProof.Rows L2.Q
section
variable {f:D->Prop}{k:Kt f}
theorem Lk:cp .non k=f .non:=rfl
theorem N5:cp (.bl b) k=f (.bl b):=rfl
theorem Mi:cp (.int i) k=f (.int i):=rfl
theorem Kw:cp (.str x) k=f (.str x):=rfl
theorem I_:cp (.list xs) k=f (.list xs):=rfl
theorem K3:cp (.tup xs) k=f (.tup xs):=rfl
theorem Np:cp (.dK xs) k=f (.dK xs):=rfl
theorem M9:cp (.dT xs) k=f (.dT xs):=rfl
end
theorem JS{f:Bool->Prop}{k:Kt f}:cp true k=f true:=rfl
theorem Im{f:Bool->Prop}{k:Kt f}:cp false k=f false:=rfl
theorem KN{d:D}{f:Md × D->Prop}{k:Kt f}:cp (Md.sh,d) k=f (.sh,d):=rfl
theorem K6{b:Bool}{d:D}{f:Md × D->Prop}{k:Kt f}:cp (Md.ow b,d) k=f (.ow b,d):=rfl
theorem Li{d:D}{f:Md × D->Prop}{k:Kt f}:cp (Md.bo,d) k=f (.bo,d):=rfl
theorem Kd{d:D}{f:Option Sl->Prop}{k:Kt f}:cp (some (.sh d)) k=f (some (.sh d)):=rfl
theorem Lp{b:Bool}{d:D}{f:Option Sl->Prop}{k:Kt f}:cp (some (.ow b d)) k=f (some (.ow b d)):=rfl
theorem K1{p:Md × D}{f:Option (Md × D)->Prop}{k:Kt f}:cp (some p) k=f (some p):=rfl
theorem MN{p:Bool}{f:Option Bool->Prop}{k:Kt f}:cp (some p) k=f (some p):=rfl
theorem Mf{d:D}{f:Option (Option Sl)->Prop}{k:Kt f}:cp (some (some (.sh d))) k=f (some (some (.sh d))):=rfl
theorem K8{b:Bool}{d:D}{f:Option (Option Sl)->Prop}{k:Kt f}:cp (some (some (.ow b d))) k=f (some (some (.ow b d))):=rfl
section
variable {E:ou}{ρ:Env}{Q:Md->D->Prop}{B:Bool->Prop}{t u:WS}{te ta tb tc Ql:WE}{tt tu:WT}{tar:WA}{i j n:Nat}{m m':Md}{d d':D}{sp:kr}{p:WP}{R:List (Md × D)->Prop}
theorem LC:cH E ρ=E.nx ρ:=rfl
theorem Mm:c9 t u E ρ=t { E with nx:=u E } ρ:=rfl
theorem N7:kR te E ρ=te ρ E.rt:=rfl
theorem Kp:rM te E ρ=te ρ λ_ _=>E.nx ρ:=rfl
def put(sl:Option Sl)(k:Sl->Prop):Prop:=match sl with
 |some s=>k s
 |none=>False
theorem Lg:put (some (.sh d)) k=k (.sh d):=rfl
theorem Ku:put (some (.ow b d)) k=k (.ow b d):=rfl
theorem Mq:fi i te E ρ=te ρ λm d=>cp (asg m d) (f:=λo=>put o λsl=>E.nx (ρ.set i (some sl))) ⟨⟩:=rfl
theorem Ny:mh tt t u E ρ=tt ρ λb=>cp b (f:=λb=>if b=true then t E ρ else u E ρ) ⟨⟩:=rfl
theorem J2:vN E ρ=False:=rfl
theorem KR:rF i E ρ=cp ρ[i]? (f:=λo=>match o with
 |some (some (.sh d))=>E.rt .sh d
 |some (some (.ow fl d))=>E.rt (.ow fl) d
 |_=>False) ⟨⟩:=rfl
def mov(o:Option (Md × D))(k:Md × D->Prop):Prop:=match o with
 |some p=>k p
 |none=>False
theorem Ip{p:Md × D}{k:Md × D->Prop}:mov (some p) k=k p:=rfl
theorem Nb:iE i t E ρ=t E (Qg i ρ):=rfl
-- tests
def bol(d:D)(B:Bool->Prop):Prop:=match d with
 |.bl b=>B b
 |_=>False
theorem Lq:bol (.bl b) B=B b:=rfl
theorem wB_:wB te ρ B=te ρ λ_ x=>cp x (f:=λx=>bol x B) ⟨⟩:=rfl
theorem Ng:VC te ρ B=te ρ λ_ x=>cp x (f:=λx=>∃ b,SK x=some b/\B b) ⟨⟩:=rfl
theorem NB:Lv tt ρ B=tt ρ λc=>B (!c):=rfl
theorem NZ:SG tt tu ρ B=tt ρ λc=>cp c (f:=λc=>if c=true then tu ρ B else B false) ⟨⟩:=rfl
theorem gV':Qa tt tu ρ B=tt ρ λc=>cp c (f:=λc=>if c=true then B true else tu ρ B) ⟨⟩:=rfl
theorem Oa:pS ρ B=B true:=rfl
-- expressions
theorem N8:ai i ρ Q=cp ρ[i]? (f:=λo=>P9 o Q) ⟨⟩:=rfl
theorem J8:P9 (some (some (.sh d))) Q=Q .sh d:=rfl
theorem Jw:P9 (some (some (.ow b d))) Q=Q .bo d:=rfl
theorem wC_:wC d ρ Q=Q .sh d:=rfl
theorem gX':bp f ta tb ρ Q=ta ρ λm x=>tb ρ λn y=>f m x n y Q:=rfl
theorem gY':i7 f ta ρ Q=ta ρ λm x=>f m x Q:=rfl
theorem Jz:pU f g ta tb tc ρ Q=ta ρ λm x=>tb ρ λn y=>f m x n y λ_ z=>cp z (f:=λz=>bol z λk=>cp k (f:=λk=>if k=true then tc ρ λl w=>g n y l w Q else Q .sh (.bl false)) ⟨⟩) ⟨⟩:=by unfold pU cp bol;rfl
theorem Ln:yz ta tb ρ Q=ta ρ λ_ x=>cp x (f:=λx=>bol x λc=>cp c (f:=λc=>if c=true then tb ρ Q else Q .sh (.bl false)) ⟨⟩) ⟨⟩:=by unfold yz cp bol;rfl
theorem Lr:ak te tar ρ R=te ρ λm x=>tar ρ λps=>R ((m,x) :: ps):=rfl
theorem Mw:dn ρ R=R []:=rfl
theorem Nf:nV tar ρ Q=tar ρ λps=>ps.length<=bS/\Q (Ds ps) (.tup (ps.map (·.2))):=rfl
theorem Mt:y6 tar ρ Q=tar ρ λps=>ps.length<=bS/\Q (DK ps) (.list (ps.map (·.2))):=rfl
theorem Ks:aK sp tar ρ Q=tar ρ λps=>sp (ps.map (·.2)) λm d=>cp (m,d) (f:=λp=>Q (He p.1 p.2) p.2) ⟨⟩:=rfl
-- operators
section
variable {x y:Str}{a b:Int}{xs ys:List D}{kvs:List (Key × D)}{E1:List (List Key × D)}
theorem JW:gx m (.int a) m' (.int b) Q=Q .sh (.int (a+b)):=rfl
theorem Ji:gx m (.str x) m' (.str y) Q=(x.length+y.length<=bS/\Q .sh (.str (x++y))):=rfl
theorem Jl:gx m (.list xs) m' (.list ys) Q=(xs.length+ys.length<=bS/\((dS xs=true/\dS ys=true/\Q (.ow true) (.list (xs++ys)))\/(m=.sh/\m'=.sh/\Q (.ow false) (.list (xs++ys))))):=rfl
theorem J7:gx m (.tup xs) m' (.tup ys) Q=(xs≠[]/\xs.length+ys.length<=bS/\dS xs=true/\dS ys=true/\Q .sh (.tup (xs++ys))):=rfl
theorem Jh:SN m (.int a) m' (.int b) Q=Q .sh (.int (a-b)):=rfl
theorem J4:rp m (.int a) m' (.int b) Q=(B9 a b/\Q .sh (.int (a*b))):=rfl
theorem Jg:GV m (.int a) m' (.int b) Q=((0<b/\b<1073741824)/\Q .sh (.int (a / b))):=rfl
theorem J5:AH m (.int a) m' (.int b) Q=(0<b/\Q .sh (.int (a % b))):=rfl
theorem L_:Qb m (.int a) m' (.int b) Q=Q .sh (.bl (decide (a<b))):=rfl
theorem LK:Qb m (.str x) m' (.str y) Q=Q .sh (.bl (qV x y)):=rfl
theorem Mh:SQ m (.int a) m' (.int b) Q=Q .sh (.bl (decide (a<=b))):=rfl
theorem KH:SQ m (.str x) m' (.str y) Q=Q .sh (.bl (!qV y x)):=rfl
theorem Kr:SV m (.int a) m' (.int b) Q=Q .sh (.bl (decide (b<a))):=rfl
theorem Lz:og m (.int a) m' (.int b) Q=Q .sh (.bl (decide (a=b))):=rfl
theorem KZ:og m (.str x) m' (.str y) Q=Q .sh (.bl (decide (x=y))):=rfl
theorem Kg:og m (.bl k) m' (.bl l) Q=Q .sh (.bl (decide (k=l))):=rfl
theorem Ml:og m (.list xs) m' d Q=(dP 12 (.list xs)=true/\dP 12 d=true/\Q .sh (.bl (iO (.list xs) d))):=by cases d<;>rfl
theorem MK:og m (.tup xs) m' d Q=(dP 12 (.tup xs)=true/\dP 12 d=true/\Q .sh (.bl (iO (.tup xs) d))):=by cases d<;>rfl
theorem N_:og m .non m' d Q=(dP 12 .non=true/\dP 12 d=true/\Q .sh (.bl (iO .non d))):=by cases d<;>rfl
theorem K5:DB m (.int a) m' (.int b) Q=Q .sh (.bl (!decide (a=b))):=rfl
theorem Kz:DB m (.str x) m' (.str y) Q=Q .sh (.bl (!decide (x=y))):=rfl
theorem Nv:DB m (.list xs) m' d Q=(dP 12 (.list xs)=true/\dP 12 d=true/\Q .sh (.bl (!iO (.list xs) d))):=by cases d<;>rfl
theorem Nq:DB m (.tup xs) m' d Q=(dP 12 (.tup xs)=true/\dP 12 d=true/\Q .sh (.bl (!iO (.tup xs) d))):=by cases d<;>rfl
theorem Ms:DB m .non m' d Q=(dP 12 .non=true/\dP 12 d=true/\Q .sh (.bl (!iO .non d))):=by cases d<;>rfl
theorem Ma:vX m d m' .non Q=Q .sh (.bl (!d.GW)):=rfl
theorem Mu:wt neg m (.str x) m' (.str y) Q=Q .sh (.bl (if neg then !NJ x y else NJ x y)):=rfl
theorem Ob:wt neg m d m' (.list ys) Q=(eN d=true/\ys.all eN=true/\Q .sh (.bl (if neg then !inD d ys else inD d ys))):=rfl
theorem Nx:wt neg m d m' (.tup ys) Q=(eN d=true/\ys.all eN=true/\Q .sh (.bl (if neg then !inD d ys else inD d ys))):=rfl
theorem Ni:wt neg m d m' (.dK kvs) Q = ∃ k,d.key1=some k/\Q .sh (.bl (if neg then !(eL kvs k).isSome else (eL kvs k).isSome)):=rfl
theorem Mp:wt neg m (.tup xs) m' (.dT E1) Q = ∃ ks,dN xs=some ks/\Q .sh (.bl (if neg then !(eL E1 ks).isSome else (eL E1 ks).isSome)):=rfl
theorem Oc:Qc m (.int a) Q=Q .sh (.int (-a)):=rfl
theorem NK:eW m (.list xs) m' (.int a) Q = ∃ d,gS xs a=some d/\cp d (f:=λd=>Q (nS m d) d) ⟨⟩:=rfl
theorem Mr:eW m (.tup xs) m' (.int a) Q = ∃ d,gS xs a=some d/\cp d (f:=λd=>Q (nS m d) d) ⟨⟩:=rfl
theorem Mz:eW m (.str x) m' (.int a) Q = ∃ c,gS x.cps.toList a=some c/\Q .sh (.str ⟨#[c]⟩):=rfl
theorem M7:eW m (.dK kvs) m' d Q = ∃ k d',d.key1=some k/\eL kvs k=some d'/\cp d' (f:=λd'=>Q (nS m d') d') ⟨⟩:=rfl
theorem Mj:eW m (.dT E1) m' (.tup ys) Q = ∃ ks d',dN ys=some ks/\eL E1 ks=some d'/\cp d' (f:=λd'=>Q (nS m d') d') ⟨⟩:=rfl
theorem Lx:BF m (.str x) Q=Q .sh (.int x.length):=rfl
theorem Lw:BF m (.list xs) Q=Q .sh (.int xs.length):=rfl
theorem KQ:BF m (.tup xs) Q=Q .sh (.int xs.length):=rfl
theorem Kq:BF m (.dK kvs) Q=Q .sh (.int kvs.length):=rfl
theorem KJ:BF m (.dT E1) Q=Q .sh (.int E1.length):=rfl
theorem JB:vy m (.list xs) Q=((dS xs=true/\Q (.ow true) (.list xs))\/(m=.sh/\Q (.ow false) (.list xs))):=rfl
theorem Jo:vy m (.tup xs) Q=((dS xs=true/\Q (.ow true) (.list xs))\/(m=.sh/\Q (.ow false) (.list xs))):=rfl
theorem Jx:vy m (.dT E1) Q=Q (.ow true) (.list (E1.map λkv=>.tup (kv.1.map iS))):=rfl
theorem gZ':VG te tl th ρ Q=te ρ λm x=>tl ρ λlo=>th ρ λhi=>Qe m x lo hi Q:=rfl
def int'(d:D)(k:Int->Prop):Prop:=match d with
 |.int i=>k i
 |_=>False
theorem Ke:int' (.int a) k=k a:=rfl
theorem K9:xu te ρ O=te ρ λ_ x=>cp x (f:=λx=>int' x λi=>O (some i)) ⟨⟩:=by unfold xu cp int';rfl
theorem M_{lo hi:Option Int}:Qe m (.str x) lo hi Q=Q .sh (.str (A8 x lo hi)):=rfl
theorem Nj{lo hi:Option Int}:Qe m (.list xs) lo hi Q=((dS xs=true/\Q (.ow true) (.list (qk xs lo hi)))\/(m=.sh/\Q (.ow false) (.list (qk xs lo hi)))):=rfl
theorem Nr{lo hi:Option Int}:Qe m (.tup xs) lo hi Q=(dS xs=true/\¬ (HT.cq xs.length 0 lo=0/\HT.cq xs.length xs.length hi=xs.length)/\Q .sh (.tup (qk xs lo hi))):=rfl
end
-- texts
def VR(d:D)(k:Str->Prop):Prop:=match d with
 |.str x=>k x
 |_=>False
theorem La:VR (.str x) k=k x:=rfl
def rV(d:D)(k:List D->Prop):Prop:=match d with
 |.list x=>k x
 |_=>False
theorem Js:rV (.list x) k=k x:=rfl
theorem Jr:jE Ql te ρ Q=Ql ρ λ_ x=>cp x (f:=λx=>VR x λz=>te ρ λ_ y=>cp y (f:=λy=>rV y λys=>∃ zs,iR ys=some zs/\(zs.map (·.length)).sum+zs.length*z.length<=16777216/\Q .sh (.str (Str.join z zs))) ⟨⟩) ⟨⟩:=by unfold jE cp VR rV;rfl
-- places
theorem ha'{P:Bool->D->(Bool->D->Env)->Prop}:sT i ρ P=cp ρ[i]? (f:=λo=>match o with
 |some (some (.ow fl d))=>P fl d λfl2 d2=>ρ.set i (some (.ow fl2 d2))
 |_=>False) ⟨⟩:=rfl
def VS(o:Option Bool)(k:Bool->Prop):Prop:=match o with
 |some b=>k b
 |none=>False
theorem Ij:VS (some b) k=k b:=rfl
theorem M6:HC p te E ρ=p ρ λfl d up=>cp d (f:=λd=>rV d λxs=>te ρ λm x=>xs.length<bS/\cp (lQ fl m x) (f:=λo=>VS o λfl2=>E.nx (up fl2 (.list (xs++[x])))) ⟨⟩) ⟨⟩:=by unfold HC cp rV VS;rfl
theorem JD:lG ρ Q=Q (.ow true) (.dT []):=rfl
def dct(d y:D)(k1:List (Key × D)->Prop)(k2:List (List Key × D)->List D->Prop):Prop:=match d with
 |.dK kvs=>k1 kvs
 |.dT kvs=>match y with
  |.tup ys=>k2 kvs ys
  |_=>False
 |_=>False
theorem MP:dct (.dK kvs) y k1 k2=k1 kvs:=rfl
theorem Nh:dct (.dT kvs) (.tup ys) k1 k2=k2 kvs ys:=rfl
theorem Kh:kW p tk tv E ρ=tv ρ λ_ x=>p ρ λfl d up=>tk ρ λ_ y=>x.flat=true/\cp d (f:=λd=>dct d y (λkvs=>∃ k,y.key1=some k/\kvs.length<bS/\E.nx (up fl (.dK (ly kvs k x)))) (λkvs ys=>∃ ks,dN ys=some ks/\kvs.length<bS/\E.nx (up fl (.dT (ly kvs ks x))))) ⟨⟩:=by unfold kW cp dct;rfl
-- loops
variable {LQ:List D->Prop}
theorem MF:oi wi g b E ρ=wi ρ λds=>ie g b E ds ρ:=rfl
theorem Jb:cQ te ρ LQ=te ρ λm d=>kI m/\cp d (f:=λd=>rV d LQ) ⟨⟩:=by unfold cQ cp rV;rfl
def VW(d:D)(k:List D->Prop):Prop:=match d with
 |.tup x=>k x
 |_=>False
theorem Ka:VW (.tup x) k=k x:=rfl
theorem JP:cg te ρ LQ=te ρ λ_ d=>cp d (f:=λd=>int' d λj=>j<=16777216/\-(2 ^ 62)<=j/\LQ (dG 0 j.toNat)) ⟨⟩:=by unfold cg cp int';rfl
theorem Ir:kI .sh=True:=rfl
theorem Ik:kI (.ow b)=True:=rfl
theorem Iu:kI .bo=False:=rfl
theorem gN_:gN i d ρ N=N (ρ.set i (some (.sh d))):=rfl
theorem gT_:gT n gs d ρ N=cp d (f:=λd=>VW d λds=>ds.length=n/\gs ds ρ N) ⟨⟩:=by unfold gT cp VW;rfl
theorem KC:aG g gs (d :: ds) ρ N=g d ρ λb4=>gs ds b4 N:=rfl
theorem NQ:du [] ρ N=N ρ:=by simp[du]
theorem Ly:cG wi g tt te tn ix ρ Q=wi ρ λds=>cU g tt te ds (qK tn ix ρ) λout=>Q (.ow true) (.list out):=rfl
end
theorem B{c:Bool}{f:Bool->Prop}{k:Kt f}(h1:c=true->f true)(h2:c=false->f false):cp c k:=by
 cases c with
 |true=>exact h1 rfl
 |false=>exact h2 rfl
theorem D{p:Prop}[Decidable p]{f:Bool->Prop}{k:Kt f}(h1:p->f true)(h2:¬ p->f false):cp (decide p) k :=
 B (λh=>h1 (of_decide_eq_true h)) λh=>h2 (of_decide_eq_false h)
theorem T{c:Bool}{f:Bool->Prop}{k:Kt f}(h:c=true)(h1:f true):cp c k:=by subst h;exact h1
theorem F{c:Bool}{f:Bool->Prop}{k:Kt f}(h:c=false)(h1:f false):cp c k:=by subst h;exact h1
end L2.Q.R
namespace L2
open PySem PySem.Spec PyProof.Rows
section
variable {X:Cx}
def IK:List V->Hp->VK->Prop:=λvs H Q=>∃ i j:Int,vs=[.int i,.int j]/\∀ p,H p=none->Q (.ref p) (upd H p (.FG i j))
theorem wV:kC X (.type "range") IK:=by
 walk_at"f";obtain⟨i,j,rfl,q⟩:=h
 cases r with
 |cons r rr =>
  cases rr with
  |cons r' rr =>cases rr;obtain⟨t,rfl⟩:=r;obtain⟨t',rfl⟩:=r';exact call_range_2 ⟨.ref _,_,I.laid (a:=s.heap.objs.size) (o:=.FG i j) (λ_ _ q=>gd _ q) (cx _) ⟨_,_,_,kK _ rfl⟩,rfl,q _ I.fresh⟩
def xP(lo:Int)(n:Nat):List V:=(List.range n).map λi=>.int (lo+(i:Nat))
def Gw:List V->Hp->VK->Prop:=λvs H Q=>∃ p i j,vs=[.ref p]/\H p=some (.FG i j)/\(-(2 ^ 62)<=i/\i<2 ^ 62/\-(2 ^ 62)<=j/\j<2 ^ 62)/\j-i<=16777216/\∀ l,H l=none->Q (.ref l) (upd H l (.lst (xP i (j-i).toNat)))
theorem uV (hc:X.calm=true):kC X (.type "list") Gw:=by
 walk_at"f";obtain⟨p,i,j,rfl,e,⟨h1,h2,h3,h4⟩,hz,q⟩:=h;obtain⟨u,rfl,ru⟩:=Vals.one r;cases ru;obtain⟨t,u,v,ho⟩:=(show gL X.prog X.w H s.heap p (.FG i j) from I.b6 p _ e)
 have en:Builtin.Range.rangeSize i j 1=((j-i).toNat:Nat):=by rw[rangeSize_one];split<;>lia
 have z2:(j-i).toNat<=2 ^ 24:=by lia
 refine call_list_range (n:=(j-i).toNat) (I.ok.hd hc) ho (small_one h1 h2 h3 h4) en z2 λh' tk acc c kp eo u0=>?_;refine⟨.ref _,_,I.laid (a:=s.heap.objs.size) (o:=.lst (xP i (j-i).toNat)) (t':=tk) kp (cx _) ⟨?_,acc.toList,c,?_,by rw[O5];exact eo⟩,rfl,q _ I.fresh⟩
 ·rw[xP,b5,OW,jI];lia
 ·have go:∀ (n k:Nat) (ac:List ae),ac.length=n->(∀ (m:Nat) (v:ae),ac[m]? = some v->∃ t,v=.int (i+((k+m:Nat):Int)*1) t)->Vals ((List.range' k n).map λm=>.int (i+(m:Nat))) ac:=by
   intro n
   induction n with
   |zero=>intro k ac hl _;cases ac with
    |nil=>exact .nil
    |cons _ _=>cases hl
   |succ n ih =>
    intro k ac hl hi
    cases ac with
    |nil=>cases hl
    |cons v ac =>
     rw[List.range'_succ,gE];refine .cons ?_ (ih (k+1) ac (by simpa using hl) λm v h=>?_)
     ·obtain⟨t,rfl⟩:=hi 0 v rfl;exact⟨t,by simp⟩
     ·obtain⟨t,rfl⟩:=hi (m+1) v (by simpa using h);exact⟨t,by rw[show k+1+m=k+(m+1) by lia]⟩
  have:=go (j-i).toNat 0 acc.toList (by rw[xD];exact u0.1) λm v h=>by obtain⟨t,rfl⟩:=u0.2 m v (by simpa using h);exact⟨t,by simp⟩
  rw[xP,List.range_eq_range'];exact this
end
end L2
namespace L2.Q
open PySem PySem.Spec PyProof.Rows
section
variable {X:Cx}{K:aC}{e e2:Expr}{te DE:WE}{pos p p2 ku fE apos:Pos}
def nq(te DE:WE):WE:=λρ Q=>te ρ λ_ x=>DE ρ λ_ y=>match x,y with
 |.int i,.int j=>j-i<=16777216/\(-(2 ^ 62)<=i/\i<2 ^ 62/\-(2 ^ 62)<=j/\j<2 ^ 62)/\Q (.ow true) (.list (dG i (j-i).toNat))
 |_,_=>False
theorem yj(lo:Int)(n:Nat):dS (dG lo n)=true:=gH.mpr λx hx=>by obtain⟨i,_,rfl⟩:=cw.mp hx;rfl
theorem Aw (hm:X.mg "list" = none) (i6:X.mg "range" = none) (hc:X.calm=true) (he:QE X K e te) (PK:QE X K e2 DE) (hg:Gl X "list" := by rfl) (vi:Gl X "range" := by rfl) (hs:cc (e :: [e2]) X.env=(false,dr e X.env) :: cc [e2] X.env:=by rfl) (R9:cc (e2 :: []) X.env=(false,dr e2 X.env) :: cc [] X.env:=by rfl) (kc:cc [.Call (.Name "range" p2) [e,e2] [] ku] X.env=(false,dr (.Call (.Name "range" p2) [e,e2] [] ku) X.env) :: cc [] X.env:=by rfl) (pd:(k6 ku (cc [e2] X.env)).any (·.1)=false:=by rfl):QE X K (.Call (.Name "list" p) [.Call (.Name "range" p2) [e,e2] [] ku] [] pos) (nq te DE):=by
 refine PE.imp (UN (uV hc) hg hm boot_list (tT (UN wV vi i6 boot_range (tT he (tT PK x5 R9) hs) (by decide) (by decide) hs pd) x5 kc) (by decide) (by decide) kc) λσ H Qv hx=>kN hx λHs ρ ah Q sr h fin=>?_;refine⟨Hs,ρ,ah,_,sr,h,λv H1 bE m d As g1 r1 f1 q1=>⟨bE,ρ,ah,_,sr.grow g1,q1,λu H2 aT n y Bs g2 r2 f2 q2=>?_⟩⟩;have r:=(r1.grow g2).rep g2.wf;have r':=r2.rep g2.wf
 cases r with
 |int i=>cases r' with
  |int j =>
   obtain⟨h1,h2,q2⟩:=q2;refine⟨i,j,rfl,λa ha=>⟨a,i,j,rfl,ft,h2,by lia,λl hl=>?_⟩⟩;have g3:=(g1.trans g2).trans (N4 (o:=.FG i j) g2.wf ha λ_ z=>nomatch z);have hz:(dG i (j-i).toNat).length<=bS:=by rw[dG,b5,OW,jI];lia
   have:=Fin.lst (Fin.after fin g3) g3.wf hz (jQ (K:=K) i (List.range (j-i).toNat)) (yj i (j-i).toNat) q2 l hl;simpa[xP] using this
  |_=>exact q2.elim
 |_=>cases r'<;>exact q2.elim
def Qm(tk tv:WE):WE:=λρ Q=>tk ρ λ_ x=>tv ρ λ_ y=>∃ k,x.key1=some k/\y.flat=true/\Q (.ow true) (.dK [(k,y)])
theorem qJ(he:QE X K e te)(PK:QE X K e2 DE):QE X K (.Dict [some e] [e2] pos) (Qm te DE):=by
 refine PE.imp (eW' (eU' he PK eT') rfl rfl (by simp) (by simp)) λσ H Qv hx=>kN hx λHs ρ ah Q sr h fin=>λa ha=>?_;have g0:fS Hs H Hs (upd H a (.dK [])):=N4 sr.wf ha λ_ z=>nomatch z;refine⟨Hs,ρ,ah,_,sr.grow g0,h,λv H1 bE m x As g1 r1 f1 q1=>⟨bE,ρ,ah,_,(sr.grow g0).grow g1,q1,λu H2 aT n y Bs g2 r2 f2 q2=>?_⟩⟩;obtain⟨k,ek,fy,q2⟩:=q2;have rx:=(r1.grow g2).rep g2.wf;have ex:=rx.key ek;subst ex;have ry:=r2.flat g2.wf fy;have gg:=(g0.trans g1).trans g2;have e2:H2 a=some (.dK []):=g2.all _ _ (g1.all _ _ ft);have nH:Hs a=none:=sr.wf.sub.free ha;have n2:aT a=none:=g2.pj (g1.pj nH (by rw[ft];exact λz=>nomatch z)) (by rw[g1.all _ _ ft];exact λz=>nomatch z);refine⟨e2,[(k,u)],rfl,by simp,?_⟩;have g3:fS Hs H aT (upd H2 a (.dK [(k,u)])):=⟨λb o hb=>by rw[cy (xI hb ha)];exact gg.all b o hb,gg.sh,⟨λb o hb=>by rw[cy (xI hb n2)];exact gg.wf.sub b o hb,λb vs hb=>by
  by_cases z:b=a
  ·subst z;rw[ft] at hb;cases hb
  ·rw[cy z] at hb;exact gg.wf.i3 b vs hb⟩,gg.new⟩
 exact fin (.ref a) _ aT (.ow true) (.dK [(k,y)]) [a] g3 ⟨.dK (vs:=[u]) (As:=[]) ⟨by rw[jI];simp,λp hp=>by
  have:p=(k,y):=by simpa using hp
  subst this;exact rH rx ek⟩ ft (.cons (As:=[]) (.sh (λ_=>fy) ry) .nil),by simp⟩ ⟨by simp,λb hb=>by
  obtain rfl:b=a:=by simpa using hb
  exact⟨n2,ha⟩⟩ q2
def pL:W1:=λ_ x Q=>match x with
 |.list xs=>∃ ks b,xs=ks.map iS/\(∀ k∈ks,mE k=b)/\∀ ms:List Key,ms.Perm ks->(ms.Pairwise λa b=>nK b a=false)->Q (.ow true) (.list (ms.map iS))
 |.dK kvs=>∃ b,(∀ p∈kvs,mE p.1=b)/\∀ ms:List Key,ms.Perm (kvs.map (·.1))->(ms.Pairwise λa b=>nK b a=false)->Q (.ow true) (.list (ms.map iS))
 |_=>False
theorem uh:BG K (tO K) pL:=by
 walk_at"d";have r1:=rx.rep w
 cases r1 with
 |list z s q =>obtain⟨ks,b,rfl,hb,h⟩:=h;obtain⟨e,ok⟩:=oU q;subst e;refine⟨ks,b,.inl s,hb,λms l pm pw hl=>?_⟩;exact f.lst w (by rw[b5,pm.length_eq];simpa using z) (fD λk hk=>ok k (pm.mem_iff.mp hk)) (fu ms) (h ms pm pw) l hl
 |@dK a vs kvs kk e q =>
  obtain⟨b,hb,h⟩:=h;have hlen:=q.length;rw[b5] at hlen;have ez:(((kvs.map (·.1)).zip vs).map (·.1))=kvs.map (·.1):=by rw[IH (by rw[b5];lia)]
  refine⟨kvs.map (·.1),b,.inr ⟨_,e,ez.symm⟩,λk hk=>?_,λms l pm pw hl=>?_⟩
  ·obtain⟨p,hp,rfl⟩:=cw.mp hk;exact hb p hp
  ·refine f.lst w (by rw[b5,pm.length_eq,b5];exact kk.1) (fD λk hk=>?_) (fu ms) (h ms pm pw) l hl;obtain⟨p,hp,rfl⟩:=cw.mp (pm.mem_iff.mp hk);exact kk.2 p hp
 |_=>exact h.elim
theorem Bb (hc:X.calm=true:=by rfl) (hK:X.K=K:=by rfl):kC X (.builtin "sorted") (tO K):=by subst hK;exact vz hc
section
variable {Hs H:Hp}{fl:Bool}
theorem aB.erase(k:Nat)(r:aB K Hs H fl ds vs As):∃ Bs,Bs.Sublist As/\aB K Hs H fl (ds.eraseIdx k) (vs.eraseIdx k) Bs:=by
 induction ds generalizing vs As k with
 |nil =>obtain⟨rfl,rfl⟩:=r.n0;exact⟨[],List.Sublist.refl _,.nil⟩
 |cons d ds ih =>
  obtain⟨u,us,A,B,rfl,rfl,r,rs⟩:=r.c
  cases k with
  |zero=>exact⟨B,n4 _ _,rs⟩
  |succ k =>obtain⟨C,sb,q⟩:=ih k rs;exact⟨A++C,sb.append_left _,.cons r q⟩
theorem aB.hh'{ds:List D}{vs:List V}{As:List ag}{k:Nat}{d:D}(r:aB K Hs H fl ds vs As)(e:ds[k]? = some d)(hf:d.flat=true)(w:Wf Hs H):∃ v,vs[k]? = some v/\Rep K Hs d v:=by
 induction ds generalizing vs As k with
 |nil=>simp at e
 |cons x ds ih =>
  obtain⟨u,us,A,B,rfl,rfl,r,rs⟩:=r.c
  cases k with
  |zero =>simp at e;subst e;exact⟨_,rfl,(r.rep w.sub λ_ _=>rfl).eY w.i3 hf⟩
  |succ k=>exact ih (k:=k) rs (by simpa using e)
end
def S6(i:Nat)(p:WP):WS:=λE ρ=>p ρ λfl d up=>match d with
 |.list xs=>∃ y,xs[xs.length-1]? = some y/\y.flat=true/\E.nx ((up fl (.list xs.dropLast)).set i (some (.sh y)))
 |_=>False
theorem pF{α:Type}(xs:List α):xs.eraseIdx (xs.length-1)=xs.dropLast:=by rw[List.dropLast_eq_take,List.eraseIdx_eq_take_drop_succ];rw[List.drop_eq_nil_of_le (by lia),pV]
theorem G8{wp:WP}(i:Nat){x:Str}{pos':Pos}(ho:QP X K e wp)(hK:X.K=K:=by rfl) (x8:B4 e "pop" X.env (dr e X.env)=dr e X.env:=by rfl) (hline:(apos.endLine == fE.line)=true:=by rfl) (hs:xA (.Call (.Attribute e "pop" apos) [] [] fE) (some (.Name x pos')) pos.line X.env=pure false:=by rfl) (hf:X.fn x=true\/X.env.scope.names.lookup x=some .local:=by first|exact .inl rfl|exact .inr rfl|assumption) (hN:X.N.Nodup:=by assumption) (hi:X.N[i]? = some x:=by rfl) (hx:Loc X.env.scope x:=by first|exact .inl rfl|exact .inr rfl) :
  QS X K L (.Assign [.Name x pos'] (.Call (.Attribute e "pop" apos) [] [] fE) pos) (S6 i wp):=by
 subst hK;refine PS.imp (Uw hN hi hx (eA' PySem.F.plainAttrs_list PySem.F.slot_list_pop PySem.F.type_list_pop eD' ho x8 hline) hs hf) λD σ H hx=>dB hx λHs ρ ah E sr h k1 k2 k3 k4=>?_;refine⟨Hs,ρ,ah,_,sr,h,λv H1 bE fl d up g1 p1 q1=>?_⟩
 cases d with
 |list xs =>
  obtain⟨y,ey,fy,q1⟩:=q1;obtain⟨a,vs,A,ea,e2,_,rs,nd,hn,k⟩:=p1.put (fS.refl g1.wf);subst ea;obtain⟨nA,ndA⟩:=k7.mp nd;obtain⟨u,eu,ru⟩:=rs.hh' ey fy g1.wf;obtain⟨B,sb,rb⟩:=rs.erase (xs.length-1);have hl:=rs.length;rw[pF] at rb;rw[hl,pF] at rb;rw[hl] at eu;refine⟨.inl ⟨rfl,_,.inl (.inl e2)⟩,a,vs,u,rfl,rfl,e2,eu,?_⟩;have hz:vs.dropLast.length<=bS:=by
   rcases p1.ex with⟨gy,r,ne,_⟩
   cases r with
   |sh _ _=>exact absurd rfl ne
   |list hz e3 _=>rw[e2] at e3;cases e3;rw[List.length_dropLast];lia
  obtain⟨e7,hU⟩:=k fl _ _ B id rb hz (sb.nodup ndA) (λz=>nA (sb.subset z)) (λx hx=>.inl (sb.subset hx));obtain⟨VJ,_,VL⟩:=hU.zy i ru;exact k1 _ _ bE _ VJ g1.sh VL q1
 |_=>exact q1.elim
end
abbrev WIL:=Env->(List D->Prop)->Prop
section
variable {X:Cx}{K:aC}
theorem dw(i:Nat)(hi:SY X K tg iter wi)(hg:∀ {C fp g9 hX} {q:(tn++cn).Nodup},QG (aQ X scope C (tn++cn) fp g9 hX) K tg g) (pf:∀ {C fp g9 hX},Qh (aQ X scope C (tn++cn) fp g9 hX) K ifs tc) (he:∀ {C fp g9 hX},QE (aQ X scope C (tn++cn) fp g9 hX) K elt te)(U_:xA (.ListComp elt [⟨tg,iter,ifs,0⟩] scope pos) (some (.Name x pos')) Va.line X.env=pure true:=by rfl) (hs:∀ x,DV iter X.env x=pure x:=by intro _;rfl) (hf:X.fn x=true\/X.env.scope.names.lookup x=some .local:=by first|exact .inl rfl|exact .inr rfl|assumption) (hN:X.N.Nodup:=by assumption) (A7:X.N[i]? = some x:=by rfl) (hx:Loc X.env.scope x:=by first|exact .inl rfl|exact .inr rfl) (nd:(tn++cn).Nodup:=by decide +kernel) (O:dg X scope tn cn ix:=by exact dg.by (by assumption) (by decide +kernel)) (hc:X.calm=true:=by rfl) :
  QS X K L (.Assign [.Name x pos'] (.ListComp elt [⟨tg,iter,ifs,0⟩] scope pos) Va) (fi i (cG wi g tc te tn.length ix)) :=
 PS.imp (vp hN A7 hx hc hi O (λ_ _ _ _=>hg (q:=nd)) (λ_ _ _ _=>pf) (λ_ _ _ _=>he) U_ hs hf) λD σ H hx=>dB hx λHs ρ ah E sr h k1 k2 k3 k4=>by
  refine ql ⟨Hs,ρ,ah,_,sr,h,λv H1 bE m d As g1 r1 f1 q1=>?_⟩
  have q1:match asg m d with
   |some sl=>E.nx (ρ.set i (some sl))
   |none=>False:=q1
  cases e:asg m d with
  |none=>rw[e] at q1;exact q1.elim
  |some sl =>rw[e] at q1;obtain⟨cv,s'⟩:=(sr.grow g1).set i r1 f1.1 (λa ha=>⟨(f1.2 a ha).1,λm=>(sr.sr.own a m).ne (f1.2 a ha).2⟩) e;exact k1 _ H1 bE _ cv g1.sh s' q1
end
end L2.Q
namespace L2.Q.R
open PySem PySem.Spec PyProof.Rows L2.Q
section
variable {E:ou}{ρ:Env}{Q:Md->L2.Q.D->Prop}{te DE tk:WE}{i:Nat}{d:L2.Q.D}{p:WP}{a:ag}{b:Bool}{LQ:List L2.Q.D->Prop}
theorem J_{f:Option Sl->Prop}{k:Kt f}:cp (some (.lk a b d)) k=f (some (.lk a b d)):=rfl
theorem Kv{f:Option (Option Sl)->Prop}{k:Kt f}:cp (some (some (.lk a b d))) k=f (some (some (.lk a b d))):=rfl
theorem JF:P9 (some (some (.lk a b d))) Q=Q .bo d:=rfl
theorem Io:nq te DE ρ Q=te ρ λ_ x=>DE ρ λ_ y=>cp x (f:=λx=>int' x λi=>cp y (f:=λy=>int' y λj=>j-i<=16777216/\(-(2 ^ 62)<=i/\i<2 ^ 62/\-(2 ^ 62)<=j/\j<2 ^ 62)/\Q (.ow true) (.list (dG i (j-i).toNat))) ⟨⟩) ⟨⟩:=by unfold nq cp int';congr 1;funext _ x;congr 1;funext _ y;cases x<;>cases y<;>rfl
theorem hw':Qm tk te ρ Q=tk ρ λ_ x=>te ρ λ_ y=>∃ k,x.key1=some k/\y.flat=true/\Q (.ow true) (.dK [(k,y)]):=rfl
theorem Nu:S6 i p E ρ=p ρ λfl d up=>cp d (f:=λd=>rV d λxs=>∃ y,xs[xs.length-1]? = some y/\y.flat=true/\cp y (f:=λy=>E.nx ((up fl (.list xs.dropLast)).set i (some (.sh y)))) ⟨⟩) ⟨⟩:=by unfold S6 cp rV;rfl
def hA'(o:Option (Option Sl))(k:Bool->L2.Q.D->Prop):Prop:=match o with
 |some (some (.ow fl d))=>k fl d
 |_=>False
theorem JN:hA' (some (some (.ow b d))) k=k b d:=rfl
theorem Je:su te ρ LQ=te ρ λm d=>kI m/\cp d (f:=λd=>rV d λxs=>LQ (j8 xs)) ⟨⟩:=by unfold su cp rV;rfl
theorem JT:cO te ρ LQ=te ρ λ_ d=>cp d (f:=λd=>rV d LQ) ⟨⟩:=by unfold cO cp rV;rfl
def wpAt(d:L2.Q.D)(i:Int)(P:Bool->L2.Q.D->(Bool->L2.Q.D->Env)->Prop)(up:Bool->L2.Q.D->Env):Prop:=match d with
 |.list ds=>∃ j d',oa ds.length i=some j/\ds[j]? = some d'/\d'.flat=false/\cp d' (f:=λd'=>P true d' λfl2 d2=>up fl2 (.list (ds.set j d2))) ⟨⟩
 |.tup ds=>∃ j d',oa ds.length i=some j/\ds[j]? = some d'/\d'.flat=false/\cp d' (f:=λd'=>P true d' λfl2 d2=>up fl2 (.tup (ds.set j d2))) ⟨⟩
 |_=>False
section
variable {P:Bool->L2.Q.D->(Bool->L2.Q.D->Env)->Prop}{up:Bool->L2.Q.D->Env}{ds:List L2.Q.D}{j:Int}
theorem Ld:wpAt (.list ds) j P up = ∃ k d',oa ds.length j=some k/\ds[k]? = some d'/\d'.flat=false/\cp d' (f:=λd'=>P true d' λfl2 d2=>up fl2 (.list (ds.set k d2))) ⟨⟩:=rfl
theorem Km:wpAt (.tup ds) j P up = ∃ k d',oa ds.length j=some k/\ds[k]? = some d'/\d'.flat=false/\cp d' (f:=λd'=>P true d' λfl2 d2=>up fl2 (.tup (ds.set k d2))) ⟨⟩:=rfl
theorem Nk:Qj p te ρ P=p ρ λfl d up=>te ρ λ_ y=>fl=true/\cp y (f:=λy=>int' y λi=>cp d (f:=λd=>wpAt d i P up) ⟨⟩) ⟨⟩:=by unfold Qj cp int' wpAt;rfl
end
end
end L2.Q.R
namespace L2
open PySem PySem.Spec PyProof.Rows Builtin Builtin.Str Builtin.Int
end L2
namespace L2
open PySem PySem.Spec PyProof.Rows
end L2
namespace L2.Q
open PySem PySem.Spec PyProof.Rows
section
variable {X:Cx}{K:aC}{e a b:Expr}{ta tb:WE}{p pos:Pos}{x:Str}{id:String}
theorem Hj{H:Hp}{bs:List Bool}{vs:List V}(r:bT K H (bs.map D.bl) vs):vs=bs.map V.bl:=by
 induction bs generalizing vs with
 |nil=>exact r.n0
 |cons b bs ih =>obtain⟨u,us,rfl,r1,rs⟩:=bT.c (d:=D.bl b) r;cases r1;rw[ih rs];rfl
theorem HN:mM "min" = some (.builtin "min"):=by decide +kernel
def Dn:R2:=λx y H Q=>match x,y with
 |.int i,.int j=>Q (.int (if j<i then j else i)) H
 |_,_=>False
def Fl:W2:=λ_ x _ y Q=>match x,y with
 |.int i,.int j=>Q .sh (.int (if j<i then j else i))
 |_,_=>False
theorem Cw:k9 K Dn Fl:=by
 walk_at"a";have r1:=rx.rep w;have r2:=ry.rep w
 cases r1 with
 |int i=>cases r2 with
  |int j=>exact f.sh w (.int _) h
  |_=>exact h.elim
 |_=>cases r2<;>exact h.elim
theorem Ey(hc:kC X (.builtin id) λxs H Q=>∃ x y,xs=[x,y]/\r x y H Q)(br:k9 K r f)(hm:X.mg x=none)(hv:mM x=some (.builtin id))(ha:QE X K a ta)(hb:QE X K b tb)(hs:cc [a,b] X.env=(false,dr a X.env) :: cc [b] X.env:=by rfl) (kc:cc [b] X.env=(false,dr b X.env) :: cc [] X.env:=by rfl) (hn:x ≠ "__name__" := by decide) (t5:(x == ("__debug__" : Str))=false:=by decide) (pd:(k6 pos (cc [b] X.env)).any (·.1)=false:=by rfl) (hg:Gl X x:=by rfl):QE X K (.Call (.Name x p) [a,b] [] pos) (bp f ta tb):=by
 refine PE.imp (Zt hc hg hm hv (tT ha (tT hb x5 kc) hs) hn t5 hs pd) λσ H Qv h=>?_;obtain⟨Hs,ρ,ah,Q,sr,h,fin⟩:=jz br σ H Qv h;exact⟨Hs,ρ,ah,Q,sr,h,λv H1 bE m x As g1 r1 f1 q1=>by
  obtain⟨aT,gu,e7,Q2,hU,h2,fin2⟩:=fin v H1 bE m x As g1 r1 f1 q1;exact⟨aT,gu,e7,Q2,hU,h2,λu H2 eS n y Bs g2 r2 f2 q2=>⟨v,u,rfl,fin2 u H2 eS n y Bs g2 r2 f2 q2⟩⟩⟩
theorem Gu (hc:X.calm=true:=by rfl):kC X (.builtin "min") λxs H Q=>∃ x y,xs=[x,y]/\Dn x y H Q:=λpins s σ H xs us Q I r dQ=>by
 obtain⟨x,y,e,q⟩:=dQ;subst e;unfold Dn at q;split at q
 ·exact dC' hc pins s σ H _ us Q I r ⟨_,_,rfl,q⟩
 ·exact q.elim
end
end L2.Q
namespace L2.Q.R
open PySem PySem.Spec PyProof.Rows L2.Q
section
variable {Q:Md->L2.Q.D->Prop}{m m':Md}{a b:Int}
theorem Kl:Fl m (.int a) m' (.int b) Q=Q .sh (.int (if b<a then b else a)):=rfl
end
end L2.Q.R
namespace L2.Q
open PySem PySem.Spec PyProof.Rows
theorem b8(O:Nat->List D->Prop)(Iv:Env->Prop):∀ (xs:List D) (i:Nat) (pre:List D) (ρ:Env) (k:List D->Prop),Iv ρ->O i pre -> (∀ j x,xs[j]? = some x->∀ ρ,Iv ρ->∀ out,O (i+j) out->∀ N1:Env->Prop,∀ N2:Env->D->Prop,(∀ b4 d,Iv b4->O (i+j+1) (out++[d])->N2 b4 d)->g x ρ λqo=>tc qo λb=>if b=true then te qo λm d=>S0 m d/\N2 qo d else N1 qo) -> (∀ out,O (i+xs.length) (pre++out)->k out)->cU g tc te xs ρ k
 |[],i,pre,_,k,_,h0,_,h=>h [] (by simpa using h0)
 |x :: xs,i,pre,ρ,k,iv,h0,hs,h=>by
  refine hs 0 x rfl ρ iv pre h0 _ _ (λb4 d Qi o'=>?_);refine b8 O Iv xs (i+1) (pre++[d]) b4 _ Qi o' (λj y hy ρ iv out ho=>?_) λout ho=>?_
  ·have:=hs (j+1) y (by simpa using hy) ρ iv out (by rwa[show i+(j+1)=i+1+j by lia]);rwa[show i+(j+1)+1=i+1+j+1 by lia] at this
  ·refine h (d :: out) ?_;rw[AV] at ho;rwa[oD,show i+(xs.length+1)=i+1+xs.length by lia]
end L2.Q
namespace TS
open PySem PySem.SetTable
def fk:Nat->Nat->Nat
 |0,s=>s
 |k+1,s=>5*fk k s+1
theorem HR(a b s:Nat):fk (a+b) s=fk b (fk a s):=by
 induction b with
 |zero=>rfl
 |succ b ih=>show 5*fk (a+b) s+1=5*fk b (fk a s)+1;rw[ih]
theorem wD(n s:Nat):4*fk n s+1=5 ^ n*(4*s+1):=by
 induction n with
 |zero=>simp[fk]
 |succ n ih =>
  show 4*(5*fk n s+1)+1=5 ^ (n+1)*(4*s+1)
  rw[B6,Rq (5 ^ n) 5,MG,<- ih];lia
theorem zH(m:Nat):∃ q,5 ^ 2 ^ m=1+2 ^ (m+2)*q/\q % 2=1:=by
 induction m with
 |zero=>exact⟨1,by decide,by decide⟩
 |succ m ih =>
  obtain⟨q,e,o⟩:=ih;refine⟨q+2 ^ (m+1)*(q*q),?_,?_⟩
  ·have hp:5 ^ 2 ^ (m+1)=(5 ^ 2 ^ m) ^ 2:=by rw[B6 2 m,Nat.pow_mul]
   rw[hp,e];clear e hp;have e1:2 ^ (m+1+2)=2*2 ^ (m+2):=by rw[show m+1+2=(m+2)+1 by exact IX ..,B6];lia
   have e2:2 ^ (m+2)=2*2 ^ (m+1):=by rw[show m+2=(m+1)+1 by rfl,B6];lia
   rw[e1,e2];generalize 2 ^ (m+1)=y;rw[Nat.pow_two];simp only[Nat.mul_add,Nat.add_mul,Nat.one_mul,Nat.mul_one];have a1:2*y*q*(2*y*q)=2*(2*y)*(y*(q*q)):=by simp only[MG,Nat.mul_left_comm,Rq]
   have a2:2*(2*y)*q=2*y*q+2*y*q:=by rw[MG 2 (2*y) q];lia
   rw[a1,a2];lia
  ·have:2 ^ (m+1)*(q*q) % 2=0:=by rw[B6,Rq (2 ^ m) 2,MG,Nat.mul_mod_right]
   lia
theorem Ef(m x:Nat):∃ r,fk (2 ^ m) x=x+2 ^ m*r/\r % 2=1:=by
 obtain⟨q,e,o⟩:=zH m;have c:=wD (2 ^ m) x;rw[e] at c;refine⟨q*(4*x+1),?_,?_⟩
 ·have e2:2 ^ (m+2)=4*2 ^ m:=by rw[Nat.pow_add];lia
  rw[e2,Nat.add_mul,Nat.one_mul,MG,MG] at c;lia
 ·rw[Nat.mul_mod,o,Nat.one_mul];lia
theorem Hu(m s e:Nat):∃ k,k+1<=2 ^ m/\fk k s % 2 ^ m=e % 2 ^ m:=by
 induction m with
 |zero=>exact⟨0,by decide,by simp[Nat.mod_one]⟩
 |succ m ih =>
  obtain⟨k,hk,h⟩:=ih;have hp:2 ^ (m+1)=2 ^ m*2:=B6 ..;have hC':0<2 ^ m:=Nat.pow_pos (by decide);have key:∀ a:Nat,a % (2 ^ m*2)=a % 2 ^ m+2 ^ m*(a / 2 ^ m % 2):=λa=>Nat.mod_mul;by_cases c:fk k s / 2 ^ m % 2=e / 2 ^ m % 2
  ·exact⟨k,by walk_at "s4",by rw[hp,key,key,h,c]⟩
  ·refine⟨k+2 ^ m,by lia,?_⟩;obtain⟨r,er,ro⟩:=Ef m (fk k s);rw[HR,er,hp,key,key,Nat.add_mul_mod_self_left,h,Nat.add_mul_div_left _ _ hC'];have:(fk k s / 2 ^ m+r) % 2=e / 2 ^ m % 2:=by lia
   rw[this]
def tf(M:Nat)(p:Probe):Probe :=
 if p.more>0 then { p with j:=p.j+1,more:=p.more-1 } else
 { p with j:=(leap M p.i p.perturb).1,more:=runEnd M (leap M p.i p.perturb).1-(leap M p.i p.perturb).1,i:=(leap M p.i p.perturb).1,perturb:=(leap M p.i p.perturb).2 }
def ps(M:Nat)(h:Int):Nat->Probe
 |0=>{ j:=bits h % (M+1),more:=runEnd M (bits h % (M+1))-bits h % (M+1),i:=bits h % (M+1),perturb:=bits h,dummy:=none }
 |n+1=>tf M (ps M h n)
def J(M:Nat)(h:Int)(n:Nat):Nat:=(ps M h n).j
theorem uA(h:i<=M):i<=runEnd M i/\runEnd M i<=M/\runEnd M i<=i+9:=by unfold runEnd;split<;>lia
theorem CT(M:Nat)(h:Int):∀ n,(ps M h n).i<=M/\(ps M h n).j+(ps M h n).more<=M/\(ps M h n).dummy=none/\(ps M h n).more<=9
 |0=>by have h0:bits h % (M+1)<=M:=Ro (MX _ (xC _));have:=uA h0;exact⟨h0,by show bits h % (M+1)+(runEnd M (bits h % (M+1))-bits h % (M+1))<=M;lia,rfl,by show runEnd M (bits h % (M+1))-bits h % (M+1)<=9;lia⟩
 |n+1=>by
  obtain⟨a,b,c,d⟩:=CT M h n;show(tf M (ps M h n)).i<=M/\_/\(tf M (ps M h n)).dummy=none/\_;unfold tf;by_cases hm:(ps M h n).more>0
  ·simp only[hm,if_true];show _/\(tf M (ps M h n)).j+(tf M (ps M h n)).more<=M/\_/\(tf M (ps M h n)).more<=9;simp only[tf,hm,if_true];exact⟨a,by lia,c,by walk_at "s4"⟩
  ·simp only[hm,if_false];show _/\(tf M (ps M h n)).j+(tf M (ps M h n)).more<=M/\_/\(tf M (ps M h n)).more<=9;simp only[tf,hm,if_false];have h0:(leap M (ps M h n).i (ps M h n).perturb).1<=M:=Ro (MX _ (xC _));have:=uA h0;exact⟨h0,by lia,c,by lia⟩
theorem S7(M:Nat)(h:Int)(n:Nat):J M h n<=M:=by have:=CT M h n;unfold J;lia
theorem vU(M:Nat)(h:Int)(n:Nat):∀ r,r<=(ps M h n).more->ps M h (n+r)={ ps M h n with j:=(ps M h n).j+r,more:=(ps M h n).more-r }
 |0,_=>rfl
 |r+1,hr=>by show tf M (ps M h (n+r))=_;rw[vU M h n r (by exact oI ‹_›)];unfold tf;rw[if_pos (show(ps M h n).more-r>0 by lia)];simp only[Probe.mk.injEq,true_and,and_true];walk_at "s1"
def lp(M:Nat)(h:Int):Nat->Nat × Nat
 |0=>(bits h % (M+1),bits h)
 |k+1=>leap M (lp M h k).1 (lp M h k).2
def kU(M:Nat)(h:Int):Nat->Nat
 |0=>0
 |k+1=>kU M h k+(runEnd M (lp M h k).1-(lp M h k).1)+1
theorem Eb(M:Nat)(h:Int):∀ k,(lp M h k).1<=M
 |0=>Ro (MX _ (xC _))
 |k+1=>Ro (MX _ (xC _))
theorem wW(M:Nat)(h:Int):∀ k,kU M h k<=10*k
 |0=>cx _
 |k+1=>by have:=wW M h k;have:=uA (Eb M h k);show kU M h k+_+1<=_;lia
theorem uo(M:Nat)(h:Int):∀ k,ps M h (kU M h k)={ j:=(lp M h k).1,more:=runEnd M (lp M h k).1-(lp M h k).1,i:=(lp M h k).1,perturb:=(lp M h k).2,dummy:=none }
 |0=>rfl
 |k+1=>by have ih:=uo M h k;have e:=vU M h (kU M h k) (runEnd M (lp M h k).1-(lp M h k).1) (by rw[ih];exact cx _);show tf M (ps M h (kU M h k+(runEnd M (lp M h k).1-(lp M h k).1)))=_;rw[e,ih];unfold tf;rw[if_neg (by simp)];rfl
theorem Cg(M:Nat)(h:Int):∀ k,(lp M h k).2=bits h / 32 ^ k
 |0=>by simp[lp]
 |k+1=>by show(lp M h k).2 / 32=_;rw[Cg M h k,Nat.div_div_eq_div_mul,B6]
theorem CQ(h:Int):bits h<2 ^ 64:=by unfold bits;have h1:=Int.emod_nonneg h (show(2 ^ 64:Int)≠0 by decide);have h2:=Ue h (show(0:Int)<2 ^ 64 by decide);lia
theorem xJ(M:Nat)(h:Int):∀ k,(lp M h (13+k)).1 % (M+1)=fk k (lp M h 13).1 % (M+1)
 |0=>rfl
 |k+1=>by
  have e:(lp M h (13+k)).2=0:=by rw[Cg];refine Nat.div_eq_of_lt (oq (CQ h) ?_);exact iX (by decide:2 ^ 64<=32 ^ 13) (Nat.pow_le_pow_right (by decide) (by exact IL _ _))
  show(leap M (lp M h (13+k)).1 (lp M h (13+k)).2).1 % (M+1)=_;unfold leap;rw[e];show((lp M h (13+k)).1*5+1+0 / 32) % (M+1) % (M+1)=(5*fk k (lp M h 13).1+1) % (M+1);rw[Nat.mod_mod,Nat.zero_div,MQ,Nat.add_mod,Nat.mul_mod,xJ M h k,<- Nat.mul_mod,<- Nat.add_mod,Rq]
theorem cover(hM:M+1=2 ^ m)(h:Int)(he:e<=M):∃ k,k<=M+13/\(lp M h k).1=e:=by obtain⟨k,hk,q⟩:=Hu m (lp M h 13).1 e;rw[<- hM] at hk q;refine⟨13+k,by lia,?_⟩;have:=xJ M h k;rw[q] at this;rwa[Nat.mod_eq_of_lt (Fu (Eb M h _)),Nat.mod_eq_of_lt (Fu he)] at this
theorem FZ(M:Nat)(h:Int)(k:Nat):J M h (kU M h k)=(lp M h k).1:=by unfold J;rw[uo]
theorem lq(hM:M+1=2 ^ m)(h:Int)(kF:Nat->Bool)(he:e<=M)(hf:kF e=false):∃ n,n<=10*(M+13)/\kF (J M h n)=false/\∀ k<n,kF (J M h k)=true:=by
 obtain⟨k,hk,q⟩:=cover hM h he;have hb:=wW M h k;have hB:kF (J M h (kU M h k))=false:=by rw[FZ,q];exact hf
 generalize kU M h k=b at hb hB;have go:∀ b,kF (J M h b)=false->∃ n,n<=b/\kF (J M h n)=false/\∀ k<n,kF (J M h k)=true:=by
  intro b
  induction b using Nat.strongRecOn with
  |ind b ih =>
   intro hB;by_cases c:∃ k,k<b/\kF (J M h k)=false
   ·obtain⟨k,h1,h2⟩:=c;obtain⟨n,a1,a2,a3⟩:=ih k h1 h2;exact⟨n,by lia,a2,a3⟩
   ·refine⟨b,cx _,hB,λk hk=>?_⟩
    cases z:kF (J M h k) with
    |true=>rfl
    |false=>exact absurd ⟨k,hk,z⟩ c
 obtain⟨n,a1,a2,a3⟩:=go b hB;exact⟨n,by lia,a2,a3⟩
def Up(xs:Array Nat):Prop:=∀ i j:Nat,i<j->j<xs.size->xs.getD i 0<xs.getD j 0
theorem tM{xs:Array Nat}{i d d':Nat}(h:i<xs.size):xs.getD i d=xs.getD i d':=by simp[Array.getD,h]
theorem nU{xs:Array Nat}(U:Up xs)(j:Nat):∀ (fuel lo hi:Nat),hi-lo<=fuel->lo<=hi->hi<=xs.size->(∀ i<lo,xs.getD i 0<j)->(∀ i,hi<=i->i<xs.size->j<=xs.getD i 0) ->
  below.go xs j fuel lo hi<=xs.size/\(∀ i<below.go xs j fuel lo hi,xs.getD i 0<j)/\(∀ i,below.go xs j fuel lo hi<=i->i<xs.size->j<=xs.getD i 0)
 |0,lo,hi,hf,h1,h2,h3,h4=>by
  obtain rfl:lo=hi:=by lia
  exact⟨h2,h3,h4⟩
 |fuel+1,lo,hi,hf,h1,h2,h3,h4=>by
  unfold below.go;by_cases c:lo<hi
  ·rw[if_pos c];dsimp only;have hm:(lo+hi) / 2<xs.size:=by lia
   by_cases d:xs.getD ((lo+hi) / 2) j<j
   ·rw[if_pos d];rw[tM (d':=0) hm] at d;refine nU U j fuel _ _ (by lia) (by lia) h2 (λi iP=>?_) h4;by_cases e:i=(lo+hi) / 2
    ·rw[e];exact d
    ·exact Ua (U i _ (by lia) hm) d
   ·rw[if_neg d];rw[tM (d':=0) hm] at d;refine nU U j fuel _ _ (by lia) (by lia) (by exact oI ‹_›) h3 λi iP hs=>?_;by_cases e:i=(lo+hi) / 2
    ·rw[e];exact O1 ‹_›
    ·have:=U ((lo+hi) / 2) i (by lia) hs;lia
  ·rw[if_neg c];obtain rfl:lo=hi:=by lia
   exact⟨h2,h3,h4⟩
theorem aO(U:Up xs)(j:Nat):below xs j<=xs.size/\(∀ i<below xs j,xs.getD i 0<j)/\(∀ i,below xs j<=i->i<xs.size->j<=xs.getD i 0) :=
 nU U j xs.size 0 xs.size (by lia) (by lia) (cx _) (λi h=>absurd h (IU i)) λi h1 h2=>by lia
theorem below_at(U:Up xs)(h:i<xs.size):below xs (xs.getD i 0)=i:=by
 obtain⟨a,b,c⟩:=aO U (xs.getD i 0);by_cases h1:below xs (xs.getD i 0)<i
 ·have:=c _ (cx _) (by lia);have:=U _ i h1 h;lia
 ·by_cases h2:i<below xs (xs.getD i 0)
  ·have:=b i h2;lia
  ·lia
theorem uO(U:Up xs)(h:i<xs.size):below xs (xs.getD i 0+1)=i+1:=by
 obtain⟨a,b,c⟩:=aO U (xs.getD i 0+1);by_cases h1:below xs (xs.getD i 0+1)<i+1
 ·have:=c i (by lia) h;lia
 ·by_cases h2:i+1<below xs (xs.getD i 0+1)
  ·have:=b (i+1) h2;have:=U i (i+1) (by lia) (by lia);lia
  ·lia
def taken(xs:Array Nat)(j:Nat):Bool:=xs[below xs j]? == some j
theorem yC{xs:Array Nat}{i j:Nat}(h:xs[i]? = some j):i<xs.size/\xs.getD i 0=j:=by obtain⟨h1,h2⟩:=MY.mp h;exact⟨h1,by simp[Array.getD,h1,h2]⟩
theorem xO{xs:Array Nat}{i:Nat}(h:i<xs.size):xs[i]? = some (xs.getD i 0):=by simp[Array.getD,h]
theorem eZ{xs:Array Nat}(U:Up xs){j:Nat}:taken xs j=true↔∃ i,i<xs.size/\xs.getD i 0=j:=by
 unfold taken;rw[beq_iff_eq];constructor
 ·intro h;exact⟨_,yC h⟩
 ·rintro⟨i,h,rfl⟩;rw[below_at U h];exact xO h
theorem jb{xs:Array Nat}(U:Up xs){j:Nat}(h:taken xs j=true):below xs j<xs.size/\xs.getD (below xs j) 0=j:=by unfold taken at h;rw[beq_iff_eq] at h;exact yC h
theorem bz{α:Type}(xs:Array α){p:Nat}(x:α)(h:p<=xs.size):(insertAt xs p x).size=xs.size+1:=by unfold insertAt;simp;lia
theorem UI{α:Type}(xs:Array α){p:Nat}(x:α)(h:p<=xs.size)(i:Nat):(insertAt xs p x)[i]? = if i<p then xs[i]? else if i=p then some x else xs[i-1]? := by
 unfold insertAt;have hs:((xs.extract 0 p).push x).size=p+1:=by simp;exact Nat.min_eq_left ‹_›
 by_cases h1:i<p
 ·rw[if_pos h1,Array.getElem?_append_left (by lia),Array.getElem?_push,if_neg (by simp;lia),Rv];rw[if_pos (by lia)];simp
 ·rw[if_neg h1];by_cases h2:i=p
  ·rw[if_pos h2,Array.getElem?_append_left (by lia),Array.getElem?_push,if_pos (by simp;lia)]
  ·rw[if_neg h2,Array.getElem?_append_right (by lia),hs,Rv];by_cases h3:i-(p+1)<min xs.size xs.size-p
   ·rw[if_pos h3];congr 1;lia
   ·rw[if_neg h3,FD (by lia)]
theorem c7(h:p<=xs.size)(i:Nat):(insertAt xs p x).getD i 0=if i<p then xs.getD i 0 else if i=p then x else xs.getD (i-1) 0:=by
 have e:∀ (ys:Array Nat) (k:Nat),ys.getD k 0=ys[k]?.getD 0:=λys k=>by simp[FC]
 rw[e,UI xs x h];split
 ·rw[e]
 ·split
  ·rfl
  ·rw[e]
theorem BX(U:Up xs)(hj:taken xs j=false):Up (insertAt xs (below xs j) j):=by
 obtain⟨a,b,c⟩:=aO U j;have ne:∀ i,i<xs.size->xs.getD i 0≠j:=λi hi e=>by have:=(eZ U (j:=j)).mpr ⟨i,hi,e⟩;rw[hj] at this;cases this
 intro i k hik hk;rw[bz xs j a] at hk;rw[c7 a,c7 a];by_cases h1:k<below xs j
 ·rw[if_pos (by lia),if_pos h1];exact U i k hik (by lia)
 ·rw[if_neg h1];by_cases h2:k=below xs j
  ·rw[if_pos h2,if_pos (by lia)];exact b i (by lia)
  ·rw[if_neg h2];by_cases h3:i<below xs j
   ·rw[if_pos h3];exact U i (k-1) (by lia) (by lia)
   ·rw[if_neg h3];by_cases h4:i=below xs j
    ·rw[if_pos h4];have:=c (k-1) (by lia) (by lia);have:=ne (k-1) (by lia);lia
    ·rw[if_neg h4];exact U (i-1) (k-1) (by lia) (by lia)
theorem yJ(U:Up xs)(hj:taken xs j=false):taken (insertAt xs (below xs j) j) k=(decide (k=j) || taken xs k):=by
 have a:=(aO U j).1;have U':=BX U hj;apply zv.mpr;rw[eZ U',Bool.or_eq_true,decide_eq_true_eq,eZ U];rw[bz xs j a];constructor
 ·rintro⟨i,hi,e⟩;rw[c7 a] at e;by_cases h1:i<below xs j
  ·rw[if_pos h1] at e;exact .inr ⟨i,by lia,e⟩
  ·rw[if_neg h1] at e;by_cases h2:i=below xs j
   ·rw[if_pos h2] at e;exact .inl e.symm
   ·rw[if_neg h2] at e;exact .inr ⟨i-1,by lia,e⟩
 ·rintro(rfl|⟨i,hi,e⟩)
  ·exact⟨below xs k,by lia,by rw[c7 a,if_neg (by lia),if_pos rfl]⟩
  ·by_cases h1:i<below xs j
   ·exact⟨i,by lia,by rw[c7 a,if_pos h1];exact e⟩
   ·exact⟨i+1,by lia,by rw[c7 a,if_neg (by lia),if_neg (by lia)];exact e⟩
def Reach(M:Nat)(place:Array Nat)(h:Int)(j:Nat):Prop:=∃ n,n<=10*(M+13)/\J M h n=j/\∀ k<n,taken place (J M h k)=true
structure TI{α:Type}(t:SetTable)(es:Array (Int × α)):Prop where
 pw:∃ m,t.mask+1=2 ^ m/\3<=m
 sz:t.place.size=es.size
 up:Up t.place
 le:∀ i,i<t.place.size->t.place.getD i 0<=t.mask
 dm:t.dummies = #[]
 few:es.size*5<t.mask*3
 path:∀ i h x,es[i]? = some (h,x)->Reach t.mask t.place h (t.place.getD i 0)
section
variable {α:Type}{t:SetTable}{es:Array (Int × α)}
theorem TI.slot(T:TI t es)(j:Nat):t.slot j=if taken t.place j then .live (below t.place j) else .empty:=by
 unfold SetTable.slot taken;dsimp only;split
 ·rfl
 ·have:has t.dummies j=false:=by rw[T.dm];rfl
  rw[this];rfl
theorem TI.fits(T:TI t es):t.fits es.size=true:=by have:=T.few;simp only[SetTable.fits,fill,T.dm,T.sz,mS,beq_iff_eq,decide_eq_true_eq,true_and];simp;lia
theorem TI.odd(T:TI t es):t.gaveWay=false:=by
 obtain⟨m,h,h3⟩:=T.pw;unfold SetTable.gaveWay;rw[beq_eq_false_iff_ne];have:2 ^ m=2*2 ^ (m-1):=by rw[show m=(m-1)+1 by lia,B6];simp;lia
 lia
theorem TI.free(T:TI t es):∃ e,e<=t.mask/\taken t.place e=false:=by
 have hf:=T.few;have hs:=T.sz;by_cases c:∃ e,e<=t.mask/\taken t.place e=false
 ·exact c
 ·exfalso;have all:∀ e,e<=t.mask->taken t.place e=true:=λe he=>by
   cases z:taken t.place e with
   |true=>rfl
   |false=>exact absurd ⟨e,he,z⟩ c
  -- slot e stands at place at most e
  have go:∀ e,e<=t.mask->e<=below t.place e:=by
   intro e
   induction e with
   |zero=>intro _;exact fz _
   |succ e ih =>
    intro he;have h1:=jb T.up (all e (by exact oI ‹_›));have h2:=jb T.up (all (e+1) he);have:=ih (by exact oI ‹_›);obtain⟨_,b,c⟩:=aO T.up (e+1);by_cases z:below t.place e<below t.place (e+1)
    ·walk_at "s1"
    ·have:=c (below t.place e) (by exact O1 ‹_›) h1.1;lia
  have:=go t.mask (cx _);have:=(jb T.up (all t.mask (cx _))).1;lia
theorem TI.put(T:TI t es)(hj:j<=t.mask)(hn:taken t.place j=false)(hr:Reach t.mask t.place h j)(ht:t'.mask=t.mask)(hp:t'.place=insertAt t.place (below t.place j) j)(hd:t'.dummies = #[])(hf:(es.size+1)*5<t.mask*3):TI t' (insertAt es (below t.place j) (h,x)):=by
 have a:=(aO T.up j).1;have a':below t.place j<=es.size:=by rw[<- T.sz];exact a
 refine⟨by rw[ht];exact T.pw,by rw[hp,bz _ _ a,bz _ _ a',T.sz],by rw[hp];exact BX T.up hn,λi hi=>?_,hd,by rw[bz _ _ a',ht];exact hf,λi g y e=>?_⟩
 ·rw[hp,bz _ _ a] at hi;rw[hp,c7 a,ht];split
  ·exact T.le i (by lia)
  ·split
   ·exact hj
   ·exact T.le (i-1) (by lia)
 ·have mono:∀ {g:Int} {k:Nat},Reach t.mask t.place g k->Reach t'.mask t'.place g k:=λ{g k} ⟨n,h1,h2,h3⟩=>⟨n,by rw[ht];exact h1,by rw[ht];exact h2,λq hq=>by
   rw[hp,ht,yJ T.up hn,h3 q hq,Bool.or_true]⟩
  rw[UI es _ a'] at e;rw[hp,c7 a,<- hp];by_cases h1:i<below t.place j
  ·rw[if_pos h1] at e ⊢;exact mono (T.path i g y e)
  ·rw[if_neg h1] at e ⊢;by_cases h2:i=below t.place j
   ·rw[if_pos h2] at e ⊢;cases e;exact mono hr
   ·rw[if_neg h2] at e ⊢;exact mono (T.path (i-1) g y e)
end
theorem b_{α:Type}[DecidableEq α]:∀ {l m:List α},l.Nodup->(∀ x∈l,x∈m)->l.length<=m.length
 |[],_,_,_=>fz _
 |x :: l,m,nd,h=>by rw[k7] at nd;have hx:=h x cE;have:=b_ (l:=l) (m:=m.erase x) nd.2 λy hy=>(List.mem_erase_of_ne (λe=>nd.1 (by rw[<- e];exact hy))).mpr (h y (df _ hy));rw[List.length_erase_of_mem hx] at this;have:0<m.length:=TV hx;simp only[oD];lia
def kF(owner:Array (Option Nat))(j:Nat):Bool:=(owner.getD j (some 0)).isSome
theorem qz(h:Int)(owner:Array (Option Nat)):∀ (fuel k:Nat),(∀ q<kU M h k,kF owner (J M h q)=true)->(∃ K,k<=K/\K<k+fuel/\K<=M+13/\kF owner (lp M h K).1=false) ->
  ∃ j n,layClean.free M owner fuel (lp M h k).1 (lp M h k).2=some j/\J M h n=j/\n<=10*(M+13)/\kF owner j=false/\∀ q<n,kF owner (J M h q)=true
 |0,k,_,⟨K,h1,h2,_⟩=>by lia
 |fuel+1,k,hq,⟨K,h1,h2,h3,h4⟩=>by
  have VX:∀ r,r<=runEnd M (lp M h k).1-(lp M h k).1->J M h (kU M h k+r)=(lp M h k).1+r:=λr hr=>by unfold J;rw[vU M h (kU M h k) r (by rw[uo];exact hr),uo]
  have hle:=uA (Eb M h k);have e:∀ r,(owner.getD ((lp M h k).1+r) (some 0)).isNone = !kF owner ((lp M h k).1+r):=λr=>by unfold kF;cases owner.getD ((lp M h k).1+r) (some 0)<;>rfl
  unfold layClean.free
  cases hf:(List.range (runEnd M (lp M h k).1+1-(lp M h k).1)).find? λr=>(owner.getD ((lp M h k).1+r) (some 0)).isNone with
  |some r =>
   obtain⟨a1,a2,a3⟩:=List.find?_range_eq_some.mp hf;have a2:r<runEnd M (lp M h k).1+1-(lp M h k).1:=by simpa using a2
   rw[e] at a1;have a1:kF owner ((lp M h k).1+r)=false:=by simpa using a1
   have occs:∀ q<kU M h k+r,kF owner (J M h q)=true:=λq S8=>by
    by_cases z:q<kU M h k
    ·exact hq q z
    ·have:=a3 (q-kU M h k) (by lia);rw[e] at this;have hj:=VX (q-kU M h k) (by lia);rw[show kU M h k+(q-kU M h k)=q by lia] at hj;rw[hj];simpa using this
   refine⟨_,kU M h k+r,rfl,VX r (by lia),?_,a1,occs⟩;have hb:=wW M h K;by_cases z:kU M h k+r<=kU M h K
   ·lia
   ·have:=occs (kU M h K) (by lia);rw[FZ,h4] at this;cases this
  |none =>
   have hn:=List.find?_eq_none.mp hf;have aR':∀ r,r<=runEnd M (lp M h k).1-(lp M h k).1->kF owner ((lp M h k).1+r)=true:=λr hr=>by have:=hn r (by simp;lia);rw[e] at this;simpa using this
   dsimp only;have hK:K≠k:=λz=>by subst z;have:=aR' 0 (fz _);rw[MQ,h4] at this;cases this
   refine qz h owner fuel (k+1) (λq S8=>?_) ⟨K,by lia,by lia,h3,h4⟩;by_cases z:q<kU M h k
   ·exact hq q z
   ·have S8:q<kU M h k+(runEnd M (lp M h k).1-(lp M h k).1)+1:=S8;have hj:=VX (q-kU M h k) (by lia);rw[show kU M h k+(q-kU M h k)=q by lia] at hj;rw[hj];exact aR' _ (by lia)
structure OI(M:Nat)(hs:List Int)(owner:Array (Option Nat)):Prop where
 sz:owner.size=M+1
 lt:∀ j v:Nat,owner[j]? = some (some v)->v<hs.length
 inj:∀ j j' v:Nat,owner[j]? = some (some v)->owner[j']? = some (some v)->j=j'
 all:∀ v:Nat,v<hs.length->∃ j:Nat,owner[j]? = some (some v)
 path:∀ j v:Nat,owner[j]? = some (some v)->∃ n,n<=10*(M+13)/\J M (hs.getD v 0) n=j/\∀ q<n,kF owner (J M (hs.getD v 0) q)=true
theorem rQ(h:j<owner.size):kF owner j=true↔∃ v,owner[j]? = some (some v):=by
 unfold kF;rw[AY h];simp only[Array.getD,h,dite_true,Option.some.injEq]
 cases hh:owner[j] with
 |none =>have:owner.getInternal j h=none:=hh;rw[this];simp
 |some v =>have:owner.getInternal j h=some v:=hh;rw[this];simp
theorem OI.free(O:OI M hs owner)(hl:hs.length<=M):∃ e,e<=M/\kF owner e=false:=by
 by_cases c:∃ e,e<=M/\kF owner e=false
 ·exact c
 ·exfalso;have all:∀ e,e<=M->∃ v,owner[e]? = some (some v):=λe he=>by
   refine(rQ (by rw[O.sz];lia)).mp ?_
   cases z:kF owner e with
   |true=>rfl
   |false=>exact absurd ⟨e,he,z⟩ c
  have nd:((List.range (M+1)).map λj=>(owner.getD j none).getD 0).Nodup:=by rw[Q6,kH];refine List.Pairwise.imp_of_mem ?_ (Q6.mp T7);intro a b ha hb kf z;obtain⟨va,ea⟩:=all a (by have:=sF.mp ha;lia);obtain⟨vb,eb⟩:=all b (by have:=sF.mp hb;lia);rw[FC,FC,ea,eb] at z;have z:va=vb:=z;subst z;exact kf (O.inj _ _ _ ea eb)
  have:=b_ (m:=List.range hs.length) nd λx hx=>by obtain⟨j,hj,rfl⟩:=cw.mp hx;obtain⟨v,e⟩:=all j (by have:=sF.mp hj;lia);rw[FC,e];exact sF.mpr (O.lt _ _ e)
  simp at this;lia
theorem OI.lay(hM:M+1=2 ^ m)(O:OI M hs owner)(hl:hs.length<=M)(h:Int) :
  ∃ j,layClean.free M owner (turns M) (bits h % (M+1)) (bits h)=some j/\OI M (hs++[h]) (owner.setIfInBounds j (some hs.length)):=by
 obtain⟨e,he,hf⟩:=O.free hl;obtain⟨K,hK,hKe⟩:=cover hM h he;obtain⟨j,n,e1,e2,e3,e4,e5⟩:=qz h owner (turns M) 0 (λq hq=>absurd hq (IU q)) ⟨K,fz _,by unfold turns;lia,hK,by rw[hKe];exact hf⟩;refine⟨j,e1,?_⟩;have hj:j<owner.size:=by rw[O.sz,<- e2];exact Fu (S7 M h n)
 have get:∀ i,(owner.setIfInBounds j (some hs.length))[i]? = if j=i then some (some hs.length) else owner[i]? := λi=>by
  rw[Array.getElem?_setIfInBounds];by_cases z:j=i
  ·subst z;simp[hj]
  ·simp[z]
 have oc:∀ i,kF owner i=true->kF (owner.setIfInBounds j (some hs.length)) i=true:=λi hi=>by
  unfold kF at hi ⊢;rw[FC] at hi ⊢;rw[get];split
  ·rfl
  ·exact hi
 have kf:∀ v,owner[j]?≠some (some v):=λv z=>by have:=(rQ hj).mpr ⟨v,z⟩;rw[e4] at this;cases this
 refine⟨by rw[Array.size_setIfInBounds];exact O.sz,λi v z=>?_,λi i' v z z'=>?_,λv hv=>?_,λi v z=>?_⟩
 ·rw[get] at z;split at z
  ·cases z;simp
  ·have:=O.lt i v z;simp;lia
 ·rw[get] at z z';split at z
  ·cases z;split at z'
   ·lia
   ·exact absurd (O.lt _ _ z') (vS _)
  ·split at z'
   ·cases z';exact absurd (O.lt _ _ z) (vS _)
   ·exact O.inj i i' v z z'
 ·simp at hv;by_cases c:v=hs.length
  ·exact⟨j,by rw[get,if_pos rfl,c]⟩
  ·obtain⟨i,hi⟩:=O.all v (by lia);refine⟨i,?_⟩;rw[get,if_neg (λz=>kf v (by rw[z];exact hi))];exact hi
 ·rw[get] at z;split at z
  ·rename_i VY;cases z;refine⟨n,e3,?_,λq hq=>oc _ ?_⟩
   ·rw[D2,D1 (cx _)];simp[e2,VY]
   ·have:=e5 q hq;rw[D2,D1 (cx _)];simpa using this
  ·have hv:=O.lt i v z;obtain⟨n',a1,a2,a3⟩:=O.path i v z;have eg:(hs++[h]).getD v 0=hs.getD v 0:=by rw[D2,D2,Mb hv]
   rw[eg];exact⟨n',a1,a2,λq hq=>oc _ (a3 q hq)⟩
theorem OI.nil(M:Nat):OI M [] (Array.replicate (M+1) none):=by
 have no:∀ (j v:Nat),¬ (Array.replicate (M+1) (none:Option Nat))[j]? = some (some v):=λj v z=>by rw[Array.getElem?_replicate] at z;split at z<;>cases z
 exact⟨by simp,λj v z=>absurd z (no j v),λj j' v z _=>absurd z (no j v),λv hv=>absurd hv (IU v),λj v z=>absurd z (no j v)⟩
theorem Et(hM:M+1=2 ^ m)(hs:Array Int)(hl:hs.size<=M):∃ owner,layClean M hs=some owner/\OI M hs.toList owner:=by
 have go:∀ (l pre:List Int) (owner:Array (Option Nat)),OI M pre owner->pre.length+l.length<=M->∃ aS',l.foldl (λacc h=>do
   let (owner,k) ← acc
   let j ← layClean.free M owner (turns M) (bits h % (M+1)) (bits h)
   pure (owner.setIfInBounds j (some k),k+1)) (some (owner,pre.length))=some (aS',pre.length+l.length)/\OI M (pre++l) aS':=by
  intro l
  induction l with
  |nil=>intro pre owner O _;exact⟨owner,rfl,by rw[pV];exact O⟩
  |cons h l ih =>
   intro pre owner O hz;rw[oD] at hz;obtain⟨j,e,O'⟩:=O.lay hM (by lia) h;obtain⟨o2,e2,O2⟩:=ih (pre++[h]) _ O' (by simp;lia);refine⟨o2,?_,by rw[AV] at O2;exact O2⟩;rw[List.foldl_cons];have:(do
    let (owner,k) ← (some (owner,pre.length):Option (Array (Option Nat) × Nat))
    let j ← layClean.free M owner (turns M) (bits h % (M+1)) (bits h)
    pure (owner.setIfInBounds j (some k),k+1))=some (owner.setIfInBounds j (some pre.length),(pre++[h]).length):=by
    simp[e]
   rw[this,e2];simp;lia
 obtain⟨o,e,O⟩:=go hs.toList [] _ (OI.nil M) (by simpa using hl);refine⟨o,?_,by simpa using O⟩;unfold layClean;rw[<- Array.foldl_toList];have e':=e;simp only[Rk] at e';rw[e'];rfl
theorem iu:∀ (fuel a:Nat),3<=a->n<2 ^ (a+fuel)->∃ b,3<=b/\sizeAbove.go n fuel (2 ^ a)=2 ^ b/\n<2 ^ b/\(2 ^ b<=2*n\/b=a)
 |0,a,ha,h=>⟨a,ha,rfl,by simpa using h,.inr rfl⟩
 |fuel+1,a,ha,h=>by
  unfold sizeAbove.go;by_cases c:2 ^ a<=n
  ·rw[if_pos c];obtain⟨b,h1,h2,h3,h4⟩:=iu fuel (a+1) (by lia) (by rw[show a+1+fuel=a+(fuel+1) by lia];exact h);refine⟨b,h1,by rw[B6] at h2;exact h2,h3,?_⟩;rcases h4 with h4|h4
   ·exact .inl h4
   ·left;rw[h4,B6];lia
  ·rw[if_neg c];exact⟨a,ha,rfl,by lia,.inr rfl⟩
theorem j7(h:n<2 ^ 60):∃ b,3<=b/\sizeAbove n=2 ^ b/\n<2 ^ b/\(2 ^ b<=2*n\/b=3) :=
 iu 64 3 (cx _) (Ua h (by decide))
section
variable {α:Type}
def bh(M:Nat)(owner:Array (Option Nat)):List (Nat × Nat):=(List.range (M+1)).filterMap λj=>(owner.getD j none).map (j,·)
theorem dW:p∈bh M owner↔p.1<M+1/\owner[p.1]? = some (some p.2):=by
 unfold bh;rw[T4];constructor
 ·rintro⟨j,hj,e⟩;rw[FC] at e
  cases h:owner[j]? with
  |none=>rw[h] at e;cases e
  |some o =>
   rw[h] at e
   cases o with
   |none=>cases e
   |some v =>cases e;exact⟨sF.mp hj,h⟩
 ·rintro⟨h1,h2⟩;exact⟨p.1,sF.mpr h1,by rw[FC,h2];rfl⟩
theorem qM(M:Nat)(owner:Array (Option Nat)):((bh M owner).map (·.1)).Pairwise (· < ·):=by
 unfold bh;rw[kH,List.pairwise_filterMap];refine List.Pairwise.imp ?_ List.pairwise_lt_range;intro a b Qn p hp q hq
 cases h1:owner.getD a none with
 |none=>rw[h1] at hp;cases hp
 |some x =>
  cases h2:owner.getD b none with
  |none=>rw[h2] at hq;cases hq
  |some y =>rw[h1] at hp;rw[h2] at hq;cases hp;cases hq;exact Qn
theorem sS{l:List Nat}(h:l.Pairwise (· < ·)):Up l.toArray:=λi j kQ hj=>by
 have hj:j<l.length:=by simpa using hj
 have:=D3.mp h i j (by walk_at "s1") hj kQ;have e:∀ k (hk:k<l.length),l.toArray.getD k 0=l[k]:=λk hk=>by simp[Array.getD,hk]
 rw[e i (by walk_at "s1"),e j hj];exact this
theorem t_{β:Type}{f:α->Option β}:∀ {l:List α},(∀ x∈l,(f x).isSome=true)->(l.filterMap f).length=l.length/\∀ i:Nat,(l.filterMap f)[i]? = (l[i]?).bind f
 |[],_=>⟨rfl,λi=>by simp⟩
 |x :: l,h=>by
  obtain⟨a,b⟩:=t_ (f:=f) (l:=l) λy hy=>h y (df _ hy);have hx:=h x cE
  cases e:f x with
  |none=>rw[e] at hx;cases hx
  |some y =>
   rw[OV,e];refine⟨by simp[a],λi=>?_⟩
   cases i with
   |zero=>simp[e]
   |succ i=>simpa using b i
theorem t8(es:Array (Int × α)):(List.range es.size).filterMap (λi=>es[i]?)=es.toList:=by
 apply B5;intro i;rw[(t_ (l:=List.range es.size) λx hx=>by
  have:=sF.mp hx;simp[this]).2 i]
 by_cases h:i<es.size
 ·rw[List.getElem?_range h,lP];rfl
 ·rw[D4 (by simpa using h),D4 (by simpa using h)];rfl
theorem CG{M m finger moves:Nat}{led plain:Bool}(hM:M+1=2 ^ m)(hm:3<=m){es:Array (Int × α)}(hf:es.size*5<M*3) :
  ∃ t order,laid M finger moves led plain (es.map (·.1))=some (t,order)/\t.plain=plain/\t.led=led/\t.mask=M/\TI t (order.filterMap λi=>es[i]?)/\(order.filterMap λi=>es[i]?).size=es.size/\(order.filterMap λi=>es[i]?).toList.Perm es.toList/\order.toList.Perm (List.range es.size):=by
 obtain⟨owner,e,O⟩:=Et hM (es.map (·.1)) (by rw[Array.size_map];lia);have hn:(es.map (·.1)).toList.length=es.size:=by simp
 refine⟨{ mask:=M,place:=((bh M owner).map (·.1)).toArray,dummies:=#[],finger,led,moves,plain },((bh M owner).map (·.2)).toArray,?_,rfl,rfl,rfl,?_⟩
 ·unfold laid;rw[e];rfl
 have vlt:∀ p∈bh M owner,p.2<es.size:=λp hp=>by have:=O.lt _ _ (dW.mp hp).2;lia
 have nd:((bh M owner).map (·.2)).Nodup:=by rw[Q6,kH];have:=qM M owner;rw[kH] at this;refine List.Pairwise.imp_of_mem ?_ this;intro p q hp hq d5 z;have:=O.inj _ _ _ (dW.mp hp).2 (by rw[z];exact(dW.mp hq).2);lia
 have pm:((bh M owner).map (·.2)).Perm (List.range es.size):=by
  refine(List.perm_ext_iff_of_nodup nd T7).mpr λv=>⟨λhv=>?_,λhv=>?_⟩
  ·obtain⟨p,hp,rfl⟩:=cw.mp hv;exact sF.mpr (vlt p hp)
  ·obtain⟨j,hj⟩:=O.all v (by rw[hn];exact sF.mp hv);have hjs:=(MY.mp hj).1;rw[O.sz] at hjs;exact cw.mpr ⟨(j,v),dW.mpr ⟨hjs,hj⟩,rfl⟩
 have hlen:(bh M owner).length=es.size:=by have:=pm.length_eq;simpa using this
 have BM:(((bh M owner).map (·.2)).toArray.filterMap λi=>es[i]?).toList=(bh M owner).filterMap λp=>es[p.2]? := by rw[Array.toList_filterMap,T5];rfl
 obtain⟨f1,f2⟩:=t_ (l:=bh M owner) (f:=λp=>es[p.2]?) λp hp=>by simp[vlt p hp]
 have hF':∀ i:Nat,(((bh M owner).map (·.2)).toArray.filterMap λi=>es[i]?)[i]? = ((bh M owner)[i]?).bind λp=>es[p.2]? := λi=>by rw[<- lP,BM];exact f2 i
 have hsz:(((bh M owner).map (·.2)).toArray.filterMap λi=>es[i]?).size=es.size:=by rw[<- xD,BM,f1,hlen]
 have pd:∀ i:Nat,∀ p,(bh M owner)[i]? = some p->((bh M owner).map (·.1)).toArray.getD i 0=p.1:=λi p hp=>by rw[FC];simp[hp]
 have tk:∀ j,kF owner j=true->j<=M->taken ((bh M owner).map (·.1)).toArray j=true:=λj hj hM'=>by
  obtain⟨v,hv⟩:=(rQ (by rw[O.sz];exact Fu ‹_›)).mp hj;obtain⟨i,hi⟩:=Mk.mp (dW.mpr (show((j,v):Nat × Nat).1<M+1/\owner[((j,v):Nat × Nat).1]? = some (some ((j,v):Nat × Nat).2) from⟨by show j<M+1;exact Fu ‹_›,hv⟩));exact(eZ (sS (qM M owner))).mpr ⟨i,by
   have:=(jS.mp hi).1;simpa using this,pd i _ hi⟩
 refine⟨?_,hsz,?_,by simpa using pm⟩
 ·refine⟨⟨m,hM,hm⟩,?_,sS (qM M owner),λi hi=>?_,rfl,by rw[hsz];exact hf,λi h x hx=>?_⟩
  ·rw[hsz];simp[hlen]
  ·have hi:i<(bh M owner).length:=by simpa using hi
   have e1:=mw hi;show((bh M owner).map (·.1)).toArray.getD i 0<=M;rw[pd i _ e1];have:=(dW.mp (om e1)).1;lia
  ·rw[hF'] at hx
   cases hp:(bh M owner)[i]? with
   |none=>rw[hp] at hx;cases hx
   |some p =>
    rw[hp] at hx;have hx:es[p.2]? = some (h,x):=hx;have Qo:=dW.mp (om hp);obtain⟨n,a1,a2,a3⟩:=O.path _ _ Qo.2;have hh:(es.map (·.1)).toList.getD p.2 0=h:=by rw[D2,lP,Array.getElem?_map,hx];rfl
    rw[hh] at a2 a3;refine⟨n,a1,?_,λq hq=>tk _ (a3 q hq) (S7 M h q)⟩;show J M h n=((bh M owner).map (·.1)).toArray.getD i 0;rw[pd i _ hp];exact a2
 ·rw[BM];have:=pm.filterMap λi=>es[i]?;rw[t8,T5] at this;exact this
theorem pZ{t:SetTable}{es:Array (Int × α)}(hn:es.size<=10000) :
  ∃ t' order,t.relaid (es.map (·.1)) (grown es.size)=some (t',order)/\t'.plain=t.plain/\t'.led=t.led/\sizeAbove (grown es.size)<=16777216/\(es.size<=1000->t'.mask<=8191)/\TI t' (order.filterMap λi=>es[i]?)/\(order.filterMap λi=>es[i]?).size=es.size/\(order.filterMap λi=>es[i]?).toList.Perm es.toList/\order.toList.Perm (List.range es.size):=by
 have hg:grown es.size=es.size*4:=by unfold grown;rw[if_neg (by lia)]
 obtain⟨b,h3,e,d5,hle⟩:=j7 (n:=es.size*4) (by lia);have h8:8<=2 ^ b:=Nat.pow_le_pow_right (n:=2) (by decide) h3;unfold relaid;rw[hg,e];obtain⟨t',order,q1,q2,q3,qm,q4⟩:=CG (M:=2 ^ b-1) (m:=b) (finger:=t.finger) (moves:=t.movedTo (2 ^ b-1)) (led:=t.led) (plain:=t.plain) (by lia) h3 (es:=es) (by lia);refine⟨t',order,q1,q2,q3,?_,λhz=>?_,q4⟩
 ·rcases hle with hle|rfl
  ·lia
  ·decide
 ·rw[qm];rcases hle with hle|rfl
  ·lia
  ·decide
end
section
variable {α:Type}{t:SetTable}{es:Array (Int × α)}
theorem nJ(T:TI t es)(hashAt:Nat->Int)(h:Int):∀ (fuel n:Nat),(∃ N,n<=N/\N<n+fuel/\taken t.place (J t.mask h N)=false) ->
  ∃ n',n<=n'/\n'<n+fuel/\(∀ q,n<=q->q<n'->taken t.place (J t.mask h q)=true/\hashAt (below t.place (J t.mask h q))≠h) /\ ((taken t.place (J t.mask h n')=false/\probe.go t hashAt h fuel (ps t.mask h n)=some (.empty (J t.mask h n') none)) \/ (taken t.place (J t.mask h n')=true/\hashAt (below t.place (J t.mask h n'))=h/\probe.go t hashAt h fuel (ps t.mask h n)=some (.candidate (J t.mask h n') (below t.place (J t.mask h n')) (ps t.mask h (n'+1)))))
 |0,n,⟨N,h1,h2,_⟩=>by lia
 |fuel+1,n,⟨N,h1,h2,h3⟩=>by
  unfold probe.go;have hs:=T.slot (J t.mask h n);have hd:=(CT t.mask h n).2.2.1;by_cases c:taken t.place (J t.mask h n)=true
  ·rw[if_pos c] at hs;have hs:t.slot (ps t.mask h n).j=.live (below t.place (J t.mask h n)):=hs;rw[hs];dsimp only;by_cases e:hashAt (below t.place (J t.mask h n))=h
   ·rw[if_pos (by simpa using e)];exact⟨n,cx _,by lia,λq a b=>by lia,.inr ⟨c,e,rfl⟩⟩
   ·rw[if_neg (by simpa using e)];have hN:N≠n:=λz=>by rw[z,c] at h3;cases h3
    obtain⟨n',a1,a2,a3,a4⟩:=nJ T hashAt h fuel (n+1) ⟨N,by lia,by lia,h3⟩;refine⟨n',by exact oI ‹_›,by lia,λq b1 b2=>?_,a4⟩;by_cases z:q=n
    ·subst z;exact⟨c,e⟩
    ·exact a3 q (by lia) b2
  ·have c:taken t.place (J t.mask h n)=false:=by simpa using c
   rw[if_neg (by rw[c];exact kB)] at hs;have hs:t.slot (ps t.mask h n).j=.empty:=hs;rw[hs];dsimp only;rw[hd];exact⟨n,cx _,by lia,λq a b=>by lia,.inl ⟨c,rfl⟩⟩
end
section
variable {prog:d4}{w:eB}{K:Type}[DecidableEq K]{knd:KeyKind prog w K}
abbrev aP(knd:KeyKind prog w K)(k:List K):Int:=tupleKeyHash knd k
def zN(knd:KeyKind prog w K)(p:List K × ag):Int × ae:=(aP knd p.1,.ref p.2)
structure Ol(knd:KeyKind prog w K)(h:dy)(a:ag)(ks:List (List K × ag)):Prop where
 ob:∃ o es ep t,h.get? a=some o/\o.ExactSet/\o.data=.set es ep t/\TI t es/\t.mask<=8191/\t.led=(!w.params.followText "set-order")/\es.toList=ks.map (zN knd)
 nd:(ks.map (·.1)).Nodup
 is:∀ p∈ks,IsTupleKey knd h p.1 p.2
variable {A:fm}{E:ae->ay->Prop}{s:ay}
theorem jV(hk:IsTupleKey knd s.heap k a)(h:Q false s):aI (aE prog w) A (ofAClassStatement 8 (.ref a)) Q E s:=by
 have hT:=hk.typeIs;obtain⟨o,items,n,ho,_,hd,hi⟩:=hk;unfold ofAClassStatement;refine aw (wpAny_typeOf hT ?_);dsimp only;refine aw ?_;refine bI ?_;simp only[Rr,js,if_false];refine aw (wpAny_seqItems ho hd ?_);dsimp only;refine aw ?_;rw[<- Array.forIn_toList];refine wpAny_forIn_list _ (λrest r s'=>r.1=none/\s'=s/\∀ v∈rest,carriedByValue v=true) _ ?_ ?_ _ _ ⟨rfl,rfl,hi.byValue⟩
 ·rintro v rest r s' ⟨hr,rfl,pg⟩;have hv:=pg v cE;have e:ofAClassStatement 7 v=pure false:=by
   cases v with
   |ref a=>cases hv
   |_=>rfl
  rw[e];refine aw (bI ?_);simp only[js,if_false];exact bI ⟨rfl,rfl,λu LH=>pg u (df _ LH)⟩
 ·rintro⟨r1,r2⟩ s' ⟨hr,rfl,_⟩;simp only at hr;subst hr;exact bI h
theorem gM(hk:IsTupleKey knd s.heap k a)(uS:∀ k v,knd.is k v=true->v.scannable=true)(h:∀ b,Q b s):aI (aE prog w) A (hashByValue 8 (.ref a)) Q E s:=by
 have hT:=hk.typeIs;obtain⟨o,items,n,ho,_,hd,hi⟩:=hk;have hG':∀ v∈items.toList,v.scannable=true:=by
  clear ho hd;generalize items.toList=l at hi
  induction hi with
  |nil=>intro v hv;cases hv
  |cons h1 _ ih =>
   intro v hv;rcases eK.mp hv with rfl|hv
   ·exact uS _ _ h1
   ·exact ih v hv
 unfold hashByValue;refine aw (wpAny_specialOf hT F.slot_tuple_hash.lookup ?_);dsimp only;refine aw (wpAny_seqItems ho hd ?_);dsimp only[Option.getD];refine aw ?_;rw[<- Array.forIn_toList];refine wpAny_forIn_list _ (λrest r s'=>s'=s/\∀ v∈rest,v.scannable=true) _ ?_ ?_ _ _ ⟨rfl,hG'⟩
 ·rintro v rest r s' ⟨rfl,pg⟩;rw[hashByValue_scannable 7 (pg v cE)];refine aw (bI ?_);split
  ·exact bI (bI (h _))
  ·exact bI ⟨rfl,λu LH=>pg u (df _ LH)⟩
 ·rintro⟨r1,r2⟩ s' ⟨rfl,_⟩
  cases r1 with
  |none=>exact bI (h true)
  |some b=>exact bI (h b)
end
local macro_rules | `(tactic| walk_at $s:str) => do
 let x:=s.getString
 if x.startsWith "PV" then `(tactic| exact $(Lean.mkIdent (.str (.str (.num (.str (.str (.str .anonymous "_private") "PySem") "SetOps") 0) "PySem") (x.drop 2).toString)))
 else Lean.Macro.throwUnsupported
abbrev vZ:Array (Int × ae)->Nat->Int:=by walk_at "PVstoredHashAt"
abbrev Em:Array (Int × ae)->Option (SetTable × Array Nat)->Sem (Array (Int × ae) × SetTable):=by walk_at "PVreordered"
abbrev nP:Array (Int × ae)->SetTable->Bool:=by walk_at "PVdrawn"
abbrev Jc:Array (Int × ae)->SetTable->Sem Unit:=by walk_at "PVmustBeLedForItsPlaces"
abbrev GJ:Bool->Sem Unit:=by walk_at "PVgaveWayHere"
def rO:Array (Int × ae)->Nat->Int:=vZ
theorem pq(es:Array (Int × ae))(i:Nat):rO es i=(es[i]?.map (·.1)).getD 0:=rfl
section
variable {prog:d4}{w:eB}{K:Type}[DecidableEq K]{knd:KeyKind prog w K}{A:fm}{E:ae->ay->Prop}{s:ay}
theorem uM(hk:IsTupleKey knd s.heap k a)(hy:∀ y∈ys,∃ k' b,y=.ref b/\IsTupleKey knd s.heap k' b)(h:Q false s):aI (aE prog w) A (searchCouldBeSeen (.ref a) ys) Q E s:=by
 unfold searchCouldBeSeen;refine aw ?_;refine wpAny_forIn_list _ (λrest r s'=>r.1=none/\s'=s/\∀ y∈rest,∃ k' b,y=.ref b/\IsTupleKey knd s.heap k' b) _ ?_ ?_ _ _ ⟨rfl,rfl,hy⟩
 ·rintro y rest r s' ⟨hr,rfl,pg⟩;obtain⟨k',b,rfl,hb⟩:=pg y cE;have go:∀ (P:Prop),P->P:=λ_ p=>p;dsimp only;split
  ·exact bI ⟨rfl,rfl,λu LH=>pg u (df _ LH)⟩
  ·refine aw (wpAny_eqIsQuiet_tuple hk ?_);simp only[Rr,js,if_false];refine aw (wpAny_eqIsQuiet_tuple hb ?_);simp only[Rr,js,if_false];refine aw (jV hk ?_);simp only[js,if_false];refine aw (jV hb ?_);simp only[js,if_false];exact bI ⟨rfl,rfl,λu LH=>pg u (df _ LH)⟩
 ·rintro⟨r1,r2⟩ s' ⟨hr,rfl,_⟩;simp only at hr;subst hr;exact bI h
theorem Jm{K G:Prop}(pk:K)(h:K->G):G:=h pk
theorem pA{a x:ag}{k:List K}{ks:List (List K × ag)}{o:Obj}{es:Array (Int × ae)}{ep:Nat}{t:SetTable}(hu:A.units<fe)(ho:s.heap.get? a=some o)(hd:o.data=.set es ep t)(T:TI t es)(he:es.toList=ks.map (zN knd))(qq:∀ p∈ks,IsTupleKey knd s.heap p.1 p.2) (hx:IsTupleKey knd s.heap k x) {Q:SetFound->ay->Prop} (aV':k∈ks.map (·.1)->Q (.there none) s)(nf:Nat) (hnf:nf<=10*(t.mask+13)) (GO:taken t.place (J t.mask (aP knd k) nf)=false) (hbf:∀ q<nf,taken t.place (J t.mask (aP knd k) q)=true)(FX:k∉ks.map (·.1)->Q (.free (J t.mask (aP knd k) nf) false) s) :
  ∀ (fuel n:Nat) (stand:Option Probe),stand.getD (t.probeStart (aP knd k))=ps t.mask (aP knd k) n->n<=nf->nf<n+fuel -> (∀ q<n,∀ p,ks[below t.place (J t.mask (aP knd k) q)]? = some p->p.1≠k)->aI (aE prog w) A (setSearchFrom a (.ref x) (aP knd k) true fuel stand) Q E s
 |0,n,stand,_,h1,h2,_=>by lia
 |fuel+1,n,stand,nh,h1,h2,hq=>by
  have Om:∀ i:Nat,es[i]? = (ks[i]?).map (zN knd):=λi=>by rw[<- lP,he,n5]
  unfold setSearchFrom;refine aw (AO ho hd T.fits ?_);dsimp only;rw[if_neg (by rw[T.odd];exact kB)];obtain⟨n',a1,a2,a3,a4⟩:=nJ T (rO es) (aP knd k) (10*turns t.mask) n ⟨nf,h1,by unfold turns;lia,GO⟩;have ED:n'<=nf:=by
   by_cases z:n'<=nf
   ·exact z
   ·have:=(a3 nf h1 (by exact Rn ‹_›)).1;rw[GO] at this;cases this
  rcases a4 with⟨c1,c2⟩|⟨c1,c2,c3⟩
  ·have c2:t.probe (rO es) (aP knd k) (stand.getD (t.probeStart (aP knd k)))=some (.empty (J t.mask (aP knd k) n') none):=by rw[nh];exact c2
   have e:n'=nf:=by
    by_cases z:n'<nf
    ·have:=hbf n' z;rw[c1] at this;cases this
    ·lia
   have c2:t.probe (vZ es) (aP knd k) (stand.getD (t.probeStart (aP knd k)))=some (.empty (J t.mask (aP knd k) n') none):=c2;rw[c2];dsimp only;rw[e];refine bI (FX λhm=>?_);obtain⟨p,hp,rfl⟩:=cw.mp hm;obtain⟨i,hi⟩:=Mk.mp hp;have ei:es[i]? = some (aP knd p.1,.ref p.2):=by rw[Om,hi];rfl
   have aX':i<t.place.size:=by rw[T.sz];exact(MY.mp ei).1
   obtain⟨ni,b1,b2,b3⟩:=T.path i _ _ ei;have bt:below t.place (J t.mask (aP knd p.1) ni)=i:=by rw[b2];exact below_at T.up aX'
   have tk:taken t.place (J t.mask (aP knd p.1) ni)=true:=by rw[b2];exact(eZ T.up).mpr ⟨i,aX',rfl⟩
   have d5:ni<nf:=by
    by_cases z:nf<ni
    ·have:=b3 nf z;rw[GO] at this;cases this
    ·have:ni≠nf:=λz=>by rw[z,GO] at tk;cases tk
     lia
   by_cases z:ni<n
   ·exact hq ni z p (by rw[bt];exact hi) rfl
   ·refine(a3 ni (by exact O1 ‹_›) (by lia)).2 ?_;rw[bt,pq,ei];rfl
  ·have c3:t.probe (vZ es) (aP knd k) (stand.getD (t.probeStart (aP knd k)))=some (.candidate (J t.mask (aP knd k) n') (below t.place (J t.mask (aP knd k) n')) (ps t.mask (aP knd k) (n'+1))):=by rw[nh];exact c3
   rw[c3];dsimp only;have tk:=jb T.up c1;have VZ:t.slot (J t.mask (aP knd k) n')=.live (below t.place (J t.mask (aP knd k) n')):=by rw[T.slot,if_pos c1]
   generalize hi:below t.place (J t.mask (aP knd k) n')=i at tk c2 VZ ⊢;have hil:i<es.size:=by rw[<- T.sz];exact tk.1
   obtain⟨p,hp⟩:∃ p,ks[i]? = some p:=by
    have:i<ks.length:=by have:=congrArg List.length he;simp at this;lia
    exact⟨_,mw this⟩
   have ei:es[i]? = some (aP knd p.1,.ref p.2):=by rw[Om,hp];rfl
   have hpm:=om hp;have kf:n'≠nf:=λz=>by rw[z,GO] at c1;cases c1
   have again:¬ p.1=k->aI (aE prog w) A (setSearchFrom a (.ref x) (aP knd k) true fuel (some (ps t.mask (aP knd k) (n'+1)))) Q E s:=λhpk =>
    pA hu ho hd T he qq hx aV' nf hnf GO hbf FX fuel (n'+1) (some (ps t.mask (aP knd k) (n'+1))) rfl (by lia) (by lia) λq S8 p' iN=>by
     by_cases z:q<n
     ·exact hq q z p' iN
     ·by_cases z2:q=n'
      ·subst z2;rw[hi,hp] at iN;cases iN;exact hpk
      ·intro e';have:=(a3 q (by exact O1 ‹_›) (by lia)).2;refine this ?_;rw[pq,Om,iN];show aP knd p'.1=_;rw[e']
   have aS:p.1=k->k∈ks.map (·.1):=λe=>e ▸ cw.mpr ⟨p,hpm,rfl⟩;have seen:∀ y∈List.map (λx=>x.snd) (Array.filter (λx=>x.fst == aP knd k) es).toList,∃ k' b,y=.ref b/\IsTupleKey knd s.heap k' b:=λy hy=>by obtain⟨e',NM,rfl⟩:=cw.mp hy;rw[Array.toList_filter] at NM;have:=(zt.mp NM).1;rw[he] at this;obtain⟨p',iN,rfl⟩:=cw.mp this;exact⟨p'.1,p'.2,rfl,qq p' iN⟩
   refine Jm ?pk (K:=?K) λkey=>?main;case main =>
    split
    ·refine aw (uM hx seen ?_);rw[if_neg kB];exact key
    ·exact key
   rw[ei];dsimp only;refine aw (tJ (wpAny_eqBool_tuple hu (qq p hpm) hx ?_));refine aw (AO ho hd T.fits ?_);dsimp only;by_cases e:p.1=k
   ·rw[if_pos (by simp[e])];exact bI (aV' (aS e))
   ·rw[if_neg (by simp[e])];have EL:t.sameMemory t.moves t.mask=some true:=by unfold sameMemory;rw[if_pos (by simp)]
    rw[EL];dsimp only;rw[if_pos rfl,VZ];dsimp only;rw[ei];dsimp only;refine aw (m:=isSame (.ref p.2) (.ref p.2)) ?_;unfold isSame;dsimp only;rw[if_pos (by simp)];refine bI (aw (bI ?_));rw[if_pos rfl];dsimp only;rw[if_neg (by simp[e])];exact again e
end
theorem eO{α β:Type}{f:α->β}:∀ {l l2:List β},l.Perm l2->∀ {m:List α},l2=m.map f->∃ m':List α,l=m'.map f/\m'.Perm m:=by
 intro l l2 p
 induction p with
 |nil=>intro m e;exact⟨m,by rw[<- e],.refl _⟩
 |cons x _ ih =>
  intro m e
  cases m with
  |nil=>cases e
  |cons y m =>simp only[gE,List.cons.injEq] at e;obtain⟨m',e1,p1⟩:=ih e.2;exact⟨y :: m',by rw[gE,<- e1,e.1],p1.cons _⟩
 |swap x y l =>
  intro m e
  match m,e with
  |a :: b :: m,e =>simp only[gE,List.cons.injEq] at e;exact⟨b :: a :: m,by simp[e.1,e.2.1,e.2.2],.swap ..⟩
 |trans _ _ ih1 Vz =>intro m e;obtain⟨m',e1,p1⟩:=Vz e;obtain⟨m2,e2,p2⟩:=ih1 e1;exact⟨m2,e2,p2.trans p1⟩
theorem lJ{α:Type}(xs:Array α)(p:Nat)(x:α):(insertAt xs p x).toList=xs.toList.take p++x :: xs.toList.drop p:=by unfold insertAt;simp;rw[Q8 (by simp)]
theorem oW(hz:(order.filterMap λi=>es[i]?).size=es.size)(h:Q (order.filterMap λi=>es[i]?,t) s):aI (aE prog w) A (Em es (some (t,order))) Q E s:=by
 show aI _ _ (if ((order.filterMap λi=>es[i]?).size != es.size)=true then (do unsupported "internal:set-table-lost-an-element";pure (order.filterMap λi=>es[i]?,t)) else pure (order.filterMap λi=>es[i]?,t)) _ _ _;rw[if_neg (by simp[hz])];exact bI h
section
variable {prog:d4}{w:eB}{K:Type}[DecidableEq K]{knd:KeyKind prog w K}{A:fm}{E:ae->ay->Prop}{s:ay}
theorem IsTupleKey.fA(hk:IsTupleKey knd h k a)(e:∀ o,h.get? a=some o->h'.get? a=some o):IsTupleKey knd h' k a:=by obtain⟨o,items,n,ho,r⟩:=hk;exact⟨o,items,n,e o ho,r⟩
theorem Ol.ne(S:Ol knd h a ks)(hx:IsTupleKey knd h k x):x≠a:=by obtain⟨⟨o,es,ep,t,ho,hex,_⟩,_,_⟩:=S;obtain⟨o',items,n,ot,hc,_⟩:=hx;intro z;subst z;rw[ho] at ot;cases ot;rw[hex.1] at hc;exact absurd hc (by decide)
theorem Hg(S:Ol knd s.heap a ks)(hx:IsTupleKey knd s.heap k x)(hz:ks.length<1000)(hu:A.units<fe)(uS:∀ k v,knd.is k v=true->v.scannable=true)(h:∀ (b:Bool) (h':dy) (eM:List (List K × ag)),Heap.SameBut a s.heap h'->Ol knd h' a eM->(k∈ks.map (·.1)/\eM=ks\/k∉ks.map (·.1)/\eM.Perm ((k,x) :: ks))->Q b { s with heap:=h' }) :
  aI (aE prog w) A (setAddHashed a (.ref x) (aP knd k)) Q E s:=by
 obtain⟨⟨o,es,ep,t,ho,hex,hd,T,hM,hL,he⟩,nd,is⟩:=id S;have hlen:es.size=ks.length:=by have:=congrArg List.length he;simpa using this
 obtain⟨m,hm,_⟩:=T.pw;obtain⟨e0,V0,V1⟩:=T.free;obtain⟨nf,n1,n2,n3⟩:=lq hm (aP knd k) (taken t.place) V0 V1;unfold setAddHashed setAddHashedIn;refine tJ (aw (AO ho hd T.fits ?_));dsimp only;have hbs:byScan (.ref x) es=false:=by simp[byScan,Value.scannable]
 rw[hbs];simp only[js,if_false];refine aw ?_;unfold setSearch;refine pA hu ho hd T he is hx (λaS=>?_) nf n1 n2 n3 (λll=>?_) 100000 0 none rfl (fz _) (by lia) λq hq=>absurd hq (IU q)
 ·dsimp only;refine bI ?_;have e:s={ s with heap:=s.heap }:=by cases s;rfl
  rw[e];exact h _ _ ks (Heap.SameBut.refl a s.heap) S (.inl ⟨aS,rfl⟩)
 ·dsimp only;generalize hj:J t.mask (aP knd k) nf=j at n2 ⊢;have V2:j<=t.mask:=by rw[<- hj];exact S7 ..
  have V3:Reach t.mask t.place (aP knd k) j:=⟨nf,n1,hj,n3⟩
  refine aw (AO ho hd T.fits ?_);dsimp only;have V4:t.put j=({ t with place:=insertAt t.place (below t.place j) j,dummies:=#[] },below t.place j):=by
   unfold SetTable.put;have:has t.dummies j=false:=by rw[T.dm];rfl
   simp only[this,js,if_false];rw[T.dm]
  rw[V4];dsimp only;have aS:(insertAt es (below t.place j) (aP knd k,.ref x)).toList=(ks.take (below t.place j)++(k,x) :: ks.drop (below t.place j)).map (zN knd):=by rw[lJ,he,AX,gE,List.map_take,List.map_drop];rfl
  have y9:(ks.take (below t.place j)++(k,x) :: ks.drop (below t.place j)).Perm ((k,x) :: ks):=by refine List.perm_middle.trans ?_;rw[OS]
  have HG:below t.place j<=es.size:=by rw[<- T.sz];exact(aO T.up j).1
  have yA:(insertAt es (below t.place j) (aP knd k,Value.ref x)).size=es.size+1:=bz _ _ HG;have hxa:=S.ne hx;have Qp:∀ h',Heap.SameBut a s.heap h'->∀ eM:List (List K × ag),eM.Perm ((k,x) :: ks)->∀ p∈eM,IsTupleKey knd h' p.1 p.2:=λh' sb eM pm p hp=>by
   have:IsTupleKey knd s.heap p.1 p.2:=by
    rcases eK.mp (pm.mem_iff.mp hp) with rfl|hp
    ·exact hx
    ·exact is p hp
   exact IsTupleKey.fA this λo' ot=>sb.extBut _ _ (S.ne this) ot
  have Qq:∀ eM:List (List K × ag),eM.Perm ((k,x) :: ks)->(eM.map (·.1)).Nodup:=λeM pm=>by rw[(pm.map _).nodup_iff,gE,k7];exact⟨ll,nd⟩
  -- behind the flag
  have main:∀ pl:Bool,aI (aE prog w) A (do
    storeSet a (insertAt es (below t.place j) (aP knd k,.ref x)) { t with place:=insertAt t.place (below t.place j) j,dummies:=#[],plain:=pl }
    if (!false && ({ t with place:=insertAt t.place (below t.place j) j,dummies:=#[],plain:=pl }:SetTable).tooFull)=true then do
      setRelay a (grown (es.size+1))
      pure true
     else pure true) Q E s:=λpl=>by
   generalize Qr:({ t with place:=insertAt t.place (below t.place j) j,dummies:=#[],plain:=pl }:SetTable)=t';have tm:t'.mask=t.mask:=by rw[<- Qr]
   have tp:t'.place=insertAt t.place (below t.place j) j:=by rw[<- Qr]
   have td:t'.dummies = #[]:=by rw[<- Qr]
   have S9:t'.fill=es.size+1:=by unfold SetTable.fill;rw[tp,td,bz _ _ (aO T.up j).1,T.sz];simp
   refine aw (wpAny_storeSet_of ho hd ?_ (by rw[yA,jI];lia));have wq:(s.heap.update a (Obj.putSet (insertAt es (below t.place j) (aP knd k,.ref x)) t')).get? a=some { o with data:=.set (insertAt es (below t.place j) (aP knd k,.ref x)) (ep+1) t' }:=by have:=Fs (Obj.putSet (insertAt es (below t.place j) (aP knd k,.ref x)) t') ho (by rw[putSet_of _ _ hd];rfl);rw[putSet_of _ _ hd] at this;exact this
   have w_:=Heap.SameBut.update s.heap a (Obj.putSet (insertAt es (below t.place j) (aP knd k,.ref x)) t');by_cases c:t'.tooFull=true
   ·rw[if_pos (by rw[c];rfl)];have SW:t'.fits (insertAt es (below t.place j) (aP knd k,Value.ref x)).size=true:=by have:=T.few;simp only[SetTable.fits,S9,mS,beq_iff_eq,decide_eq_true_eq];rw[tp,bz _ _ (aO T.up j).1,yA,T.sz,tm];exact⟨rfl,by lia⟩
    obtain⟨t2,order,r1,r2,r3,r4,r5,r6,r7,r8,_⟩:=pZ (t:=t') (es:=insertAt es (below t.place j) (aP knd k,Value.ref x)) (by lia);rw[yA] at r1 r4;unfold setRelay;refine aw (aw (AO wq rfl SW ?_));dsimp only;rw[if_neg (by rw[jI];lia)];refine aw ?_;rw[r1];obtain⟨eM,ek,pk⟩:=eO r8 aS;refine oW r7 ?_;dsimp only;refine wpAny_storeSet_of wq rfl ?_ (by rw[r7,yA,jI];lia);refine bI ?_;have HK:=w_.trans (Heap.SameBut.update _ a (Obj.putSet (order.filterMap λi=>(insertAt es (below t.place j) (aP knd k,Value.ref x))[i]?) t2));have pe:=Fs (Obj.putSet (order.filterMap λi=>(insertAt es (below t.place j) (aP knd k,Value.ref x))[i]?) t2) wq (by rw[putSet_of _ _ rfl];rfl);rw[putSet_of _ _ rfl] at pe;exact h true _ eM HK ⟨⟨_,_,_,_,pe,hex,rfl,r6,r5 (by lia),by rw[r3,<- Qr];exact hL,ek⟩,Qq eM (pk.trans y9),Qp _ HK eM (pk.trans y9)⟩ (.inr ⟨ll,pk.trans y9⟩)
   ·rw[if_neg (by simpa using c)];refine bI ?_;have ya:(es.size+1)*5<t.mask*3:=by unfold SetTable.tooFull at c;rw[S9,tm] at c;simpa using c
    exact h true _ _ w_ ⟨⟨_,_,_,_,wq,hex,rfl,T.put V2 n2 V3 tm tp td ya,by rw[tm];exact hM,by rw[<- Qr];exact hL,aS⟩,Qq _ y9,Qp _ w_ _ y9⟩ (.inr ⟨ll,y9⟩)
  split
  ·refine aw (gM hx uS λb=>?_)
   cases b with
   |true=>exact main t.plain
   |false=>exact main false
  ·exact aw (bI (main t.plain))
end
end TS
namespace TS
open PySem PySem.SetTable PyProof.Rows
section
variable {prog:d4}{w:eB}{A:fm}{R:Result->ay->Prop}{I:ag}{fp wr:List ag}{n:Nat}{P:Nat->ae->Prop}{St:Nat->dy->Prop}
theorem zq(W:Walks prog w A.in1 I fp wr n P St)(S:ag)(LJ:S∉fp)(SI:Nat->dy->Prop)(keep:∀ i h h',SI i h->(∀ b o,b∉wr->h.get? b=some o->h'.get? b=some o)->SI i h')(step:∀ (i:Nat) (v:ae) (s':ay) (E':ae->ay->Prop) (Q:Bool->ay->Prop),P i v->SI i s'.heap->(∀ b h' tk,Heap.SameBut S s'.heap h'->SI (i+1) h'->Q b { s' with heap:=h',toks:=tk })->aI (aE prog w) A.in1 (setAdd S v) Q E' s') :
  ∀ (k i:Nat) (s:ay),n-i=k->i<=n->St i s.heap->SI i s.heap -> (∀ h' tk,SI n h'->(∀ b o,b∉wr->b≠S->s.heap.get? b=some o->h'.get? b=some o)->R (.ok (.ret .none)) { s with heap:=h',toks:=tk }) ->
   codeAny (aE prog w) A (.builtin "set.update.loop" ⟨[.ref S,.ref I],[]⟩) R s:=by
 have hSw:S∉wr:=λh=>LJ (W.sub _ h);intro k
 induction k with
 |zero =>
  intro i s hk hi nh hS hR;have aS:i=n:=by lia
  subst aS;refine B3 F.entry_set_update_loop ?_;rw[Around.under_plainId F.plain_set_update_loop _];show aI _ A.in1 (pyNext (.ref I) >>= _) _ _ s;refine aw (W.done s _ _ nh λh' tk ox=>?_);show aI _ A.in1 (ret Value.none) _ _ _;exact bI (hR h' tk (keep _ _ _ hS ox) λb o hb _ e=>ox b o hb e)
 |succ k ih =>
  intro i s hk hi nh hS hR;have d5:i<n:=by lia
  refine B3 F.entry_set_update_loop ?_;rw[Around.under_plainId F.plain_set_update_loop _];show aI _ A.in1 (pyNext (.ref I) >>= _) _ _ s;refine aw (W.item i s _ _ d5 nh λv h' tk hP hL' ox=>?_);show aI _ A.in1 (holding [v] (setAdd S v) >>= _) _ _ _;refine aw (tJ (step i v _ _ _ hP (keep _ _ _ hS ox) λb h2 Oo sb hS2=>?_));refine bI ⟨Fc F.plain_set_update_loop _,ih (i+1) _ (by lia) d5 (W.frame _ _ _ hL' λb hb o e=>?_) hS2 λh3 tk3 hS3 K2=>?_⟩
  ·exact sb.extBut b o (λz=>LJ (by rw[<- z];exact hb)) e
  ·exact hR h3 tk3 hS3 λb o hb Qs e=>K2 b o hb Qs (sb.extBut b o Qs (ox b o hb e))
end
section
variable {prog:d4}{w:eB}{A:fm}{E:ae->ay->Prop}{s:ay}
theorem v_(a:ae)(h:Q₁ (.ref s.heap.objs.size) { s with heap:=s.heap.push { cls:=.type "set",dict:=none,data:=.set #[] 0 (.fresh 0 0 (!w.params.followText "set-order")) } }) :
  codeAny (aE prog w) A (.call (.builtin "set.__new__") ⟨[.type "set",a],[]⟩) (wants Q₁ E) s:=by
 refine codeAny_of_tree ?_;show aI _ A.in1 (do checkBuiltinCall "set.__new__" ⟨[.type "set",a],[]⟩;again (.builtin "set.__new__" ⟨[.type "set",a],[]⟩)) _ _ s;refine aw (wpAny_of_eq (F.newCall_set_1 a) (bI ⟨Fc F.plain_set_new _,B3 F.entry_set_new ?_⟩));rw[Around.under_plainId F.plain_set_new _];unfold Builtin.«set.__new__» Builtin.Frozenset.newClass;have hR':=sub_set_self;obtain⟨hp,g,d,tk,os⟩:=s;dsimp only
 wp_walk
 refine L7 (bI ?_);dsimp only;simp only[newObj];refine aw (wpAny_alloc (bI ?_));exact bI h
theorem iB(hh:A.handled=none)(hl:s.heap.IsList l items)(SI:Nat->dy->Prop)(h0:∀ h,h.get? s.heap.objs.size=some { cls:=.type "set",dict:=none,data:=.set #[] 0 (.fresh 0 0 (!w.params.followText "set-order")) }->(∀ b o,s.heap.get? b=some o->h.get? b=some o)->SI 0 h) (keep:∀ i h h',SI i h->(∀ b o,b<=s.heap.objs.size->h.get? b=some o->h'.get? b=some o)->SI i h') (step:∀ (i:Nat) (v:ae) (s':ay) (E':ae->ay->Prop) (Q:Bool->ay->Prop),items[i]? = some v->SI i s'.heap->(∀ b h' tk,Heap.SameBut s.heap.objs.size s'.heap h'->SI (i+1) h'->Q b { s' with heap:=h',toks:=tk }) ->
   aI (aE prog w) A.in1.in1.in1 (setAdd s.heap.objs.size v) Q E' s')
  (h:∀ (h':dy) (tk:Nat),SI items.size h'->(∀ b o,b<s.heap.objs.size->s.heap.get? b=some o->h'.get? b=some o)->Q (.ref s.heap.objs.size) { s with heap:=h',toks:=tk }) :
  aI (aE prog w) A (call (.type "set") [.ref l]) Q E s:=by
 obtain⟨c,tl,kO'⟩:=F.called_set.mro;have kP':=F.called_set.made;have hR':=F.called_set.sub;refine wpAny_call (codeAny_of_tree ?_);show aI _ _ (callAny (.type "set") _) _ _ _;refine bI ⟨Code.quiet_builtin _ (by decide +kernel),B3 F.entry_type_call ?_⟩;rw[Around.under_plain (weight_type_call_type "set" [.ref l] []) rfl];have h1:=F.called_set.notType;have h2:=F.called_set.canCreate;have hct:=F.typeCall_set_1 (.ref l);repeat (any_goals (first|assumption|wp_step))
 refine codeAny_mono (v_ (.ref l) (E:=E) (Q₁:=λobj fP=>obj=.ref s.heap.objs.size/\fP={ s with heap:=s.heap.push { cls:=.type "set",dict:=none,data:=.set #[] 0 (.fresh 0 0 (!w.params.followText "set-order")) } }) ⟨rfl,rfl⟩) λr fP hr=>?_
 cases r with
 |error e=>exact hr
 |ok fl =>
  cases fl with
  |ret obj =>
   obtain⟨rfl,rfl⟩:=hr;generalize kR':(!w.params.followText "set-order")=led at h0 ⊢;have hS:(s.heap.push { cls:=.type "set",dict:=none,data:=.set #[] 0 (.fresh 0 0 led) }).get? s.heap.objs.size=some { cls:=.type "set",dict:=none,data:=.set #[] 0 (.fresh 0 0 led) }:=kK _ rfl;have hT:Shared.TypeIs { s with heap:=s.heap.push { cls:=.type "set",dict:=none,data:=.set #[] 0 (.fresh 0 0 led) } } (.ref s.heap.objs.size) "set" := ⟨_,hS,rfl⟩
   have hli:=F.called_set.init.lookup;have hbi:=F.called_set.init.bind (.ref s.heap.objs.size);repeat (any_goals (first|assumption|wp_step))
   refine codeAny_mono (codeAny_call_builtin (R:=wants (λr EE=>r=.none/\∃ h' tk,EE={ s with heap:=h',toks:=tk }/\SI items.size h' /\ (∀ b o,b<s.heap.objs.size->s.heap.get? b=some o->h'.get? b=some o)) E) F.called_set.init.plain F.entry_set_init (check_set_init_1 hT ?_)) λhT' EE V5=>?_
   ·obtain⟨ol,hol,sN,nl,hdl⟩:=hl;obtain⟨kU',hU',kV',hV'⟩:=ol;simp only at sN hdl;subst sN;subst hdl;have hW':(s.heap.push { cls:=.type "set",dict:=none,data:=.set #[] 0 (.fresh 0 0 led) }).get? l=some { cls:=.type "list",dict:=hU',data:=.seq items nl,slots:=hV' }:=gd _ hol;have kW':=F.sub_list_set;have kX':=F.sub_list_frozenset;have kf:(Value.type "list" == Value.type "dict")=false:=by decide
    have NX:(s.heap.push { cls:=.type "set",dict:=none,data:=.set #[] 0 (.fresh 0 0 led) }).IsList l items:=⟨_,hW',rfl,nl,rfl⟩
    unfold Builtin.«set.__init__» noKeywords Builtin.Frozenset.updateFrom;generalize hPI:pyIter=PI
    wp_walk
    subst hPI;refine wpAny_pyIter_list NX ?_;refine aw (wpAny_runValue ?_);have hlS:l<s.heap.objs.size:=fh hol;have hh3:A.in1.in1.in1.handled=none:=by simp[hh]
    have hsz:(s.heap.push { cls:=.type "set",dict:=none,data:=.set #[] 0 (.fresh 0 0 led) }).objs.size=s.heap.objs.size+1:=Heap.size_push ..;have hZ':l≠(s.heap.push { cls:=.type "set",dict:=none,data:=.set #[] 0 (.fresh 0 0 led) }).objs.size:=by rw[hsz];exact gi (vF hlS)
    have LJ:s.heap.objs.size∉[(s.heap.push { cls:=.type "set",dict:=none,data:=.set #[] 0 (.fresh 0 0 led) }).objs.size,l]:=by rw[hsz];simp only[eK,qE,Ri,or_false,not_or];exact⟨gi (Nat.lt_succ_self _),ML hlS⟩
    refine zq (Walks.list hh3 _ l hZ' items) s.heap.objs.size LJ SI (λi h h' hi hk=>keep i h h' hi λb o hb e=>hk b o ?_ e) (λi v s' E' Q' hP hi hq=>step i v s' E' Q' hP hi hq) (items.size-0) 0 _ (by lia) (fz _) ⟨⟨_,kK _ rfl,rfl,rfl⟩,(NX.push _)⟩ ?hS0 ?hR
    ·rw[hsz];simp only[eK,Ri,or_false];exact gi (Fu hb)
    case hS0 =>
     exact h0 _ (gd _ hS) λb o e=>gd _ (gd _ e)
    case hR =>
     intro h' E2 Qt ox;show aI _ _ _ _ _ _;refine bI ?_;show aI _ _ (ret Value.none) _ _ _;refine bI ⟨rfl,h',E2,rfl,Qt,λb o hb e=>?_⟩;refine ox b o ?_ (gi hb) (gd _ (gd _ e));rw[hsz];simp only[eK,Ri,or_false];exact gi (vF hb)
   ·cases hT' with
    |error e=>exact V5
    |ok ie' =>
     cases ie' with
     |ret r =>
      obtain⟨rfl,h',tk,rfl,Qt,ox⟩:=V5;repeat (any_goals (first|assumption|wp_step))
      exact h _ _ Qt ox
     |_=>exact V5.elim
  |_=>exact hr.elim
end
theorem qe:Manifest.owners.lookup (String.ofList ['r','o','t','a','r','e','t','i','_','t','e','s'].reverse)=some Manifest.sig_set_iterator:=by kernel_rfl
theorem bx:Slot "set_iterator" "__next__" "set_iterator.__next__" :=
 .of (owner := "set_iterator") (n := "__next__") (by rw[typeLookup_type,builtinLookup_eq_fast];kernel_rfl) (by decide +kernel) (by decide +kernel) (by decide +kernel) (by first|exact .inl (by decide +kernel)|exact .inr (by decide +kernel)) (by rw[isSubtype_type];kernel_rfl)
theorem j_:entryFor table "set_iterator.__next__" = some Builtin.«set_iterator.__next__» := entryFor_of_tree (by kernel_rfl)
theorem nQ (a:ae):argsOk "set_iterator.__next__" ⟨[a],[]⟩:=by unfold argsOk;rw[signature?_of (id := "set_iterator.__next__") (n:=['_','_','t','x','e','n','_','_']) (o:=['r','o','t','a','r','e','t','i','_','t','e','s']) (by kernel_rfl) qe];kernel_rfl
theorem gh:Slot "set_iterator" "__iter__" "set_iterator.__iter__" :=
 .of (owner := "set_iterator") (n := "__iter__") (by rw[typeLookup_type,builtinLookup_eq_fast];kernel_rfl) (by decide +kernel) (by decide +kernel) (by decide +kernel) (by first|exact .inl (by decide +kernel)|exact .inr (by decide +kernel)) (by rw[isSubtype_type];kernel_rfl)
theorem kj:entryFor table "set.__iter__" = some Builtin.«frozenset.__iter__» :=
 entryFor_alias (id' := "frozenset.__iter__") (by kernel_rfl) rfl (by decide +kernel) (by kernel_rfl)
theorem g_{α:Type}:∀ (l:List α) (i:Nat) (h:i<l.length),(l[i] :: l.eraseIdx i).Perm l
 |x :: l,0,_=>.refl _
 |x :: l,i+1,h=>by have ih:=g_ l i (by simpa using h);exact(List.Perm.swap _ _ _).trans (ih.cons x)
theorem xq{α:Type}(next:Nat->Nat):∀ (fuel k:Nat) (left:List α) (out:Array α),left.length=fuel->(pickOrder.go next fuel k left out).toList.Perm (out.toList++left)
 |0,k,left,out,h=>by have:left=[]:=Q7.mp h;subst this;unfold pickOrder.go;rw[pV]
 |fuel+1,k,left,out,h=>by unfold pickOrder.go;have d5:next k % left.length<left.length:=MX _ (by lia);rw[mw d5];dsimp only;refine(xq next fuel (k+1) _ _ (by rw[List.length_eraseIdx];split<;>lia)).trans ?_;rw[qf,AV];refine List.Perm.append_left _ ?_;exact g_ _ _ d5
theorem jN{α:Type}(next:Nat->Nat)(xs:Array α):(pickOrder next xs).toList.Perm xs.toList:=by unfold pickOrder;have:=xq next xs.size 0 xs.toList #[] (by simp);simpa using this
section
variable {prog:d4}{w:eB}{A:fm}{E:ae->ay->Prop}{s:ay}
theorem pN(hn:n≠0)(h:∀ i d,i<n->Q i { s with drawn:=d }):aI M A (choose src n) Q E s:=λΓ p _=>⟨hn,h _ _ (MX _ (Nat.pos_of_ne_zero hn))⟩
theorem Ei{α:Type}(n:Nat):∀ (xs:List α) (s:ay) (Q:List α->ay->Prop),xs.length=n->(∀ ys d,ys.Perm xs->Q ys { s with drawn:=d })->aI (aE prog w) A (drawOrder n xs) Q E s:=by
 induction n with
 |zero =>intro xs s Q h q;have:xs=[]:=Q7.mp h;subst this;unfold drawOrder;exact bI (q [] s.drawn (.refl _))
 |succ n ih =>
  intro xs s Q h q
  cases xs with
  |nil=>cases h
  |cons x xs =>unfold drawOrder;refine aw (pN (by simp) λi d hi=>?_);rw[mw hi];dsimp only;refine aw (ih _ _ _ (by rw[List.length_eraseIdx,if_pos hi];simp at h ⊢;lia) λys d' py=>?_);refine bI ?_;exact q _ d' ((py.cons _).trans (g_ _ _ hi))
def ti(h:dy)(I:ag)(first:ae)(i:Nat)(a:ag)(n ep:Nat):Prop :=
 h.get? I=some { cls:=.type "set_iterator",dict:=none,data:=.fields #[first,.int i 0,.ref a,.int n 0,.int ep 0],slots:=#[] }
def DF(h:dy)(a:ag)(es:Array (Int × ae))(ep:Nat)(t:SetTable):Prop:=∃ o,h.get? a=some o/\o.data=.set es ep t
variable {a I:ag}{es:Array (Int × ae)}{ep:Nat}{t:SetTable}{first:ae}{i n:Nat}
theorem ti.typeIs (h:ti s.heap I first i a n ep):s.TypeIs (.ref I) "set_iterator" := ⟨_,h,rfl⟩
theorem yF(hit:ti s.heap I first i a n ep)(h:aI (aE prog w) A.in1 (Builtin.«set_iterator.__next__» ⟨[.ref I],[]⟩) (λfin s'=>∃ v,fin=.done (.ret v)/\Q (some v) s') (λe s'=>aI (aE prog w) A (isInstance e (.type "StopIteration")) (λb FU=>b=true/\Q none FU) E s') s) :
  aI (aE prog w) A (pyNext (.ref I)) Q E s:=by
 unfold pyNext;refine aw (wpAny_attempt (OD (name:=Str.ofString "__next__") hit.typeIs bx (B1 bx hit.typeIs j_ ?_ (nQ _))))
 refine vx h (λfin s' ⟨v,e,q⟩=>⟨v,e,bI q⟩) λe s' q=>?_;refine aw (vx q (λb FU dQ=>?_) λ_ _ x=>x);obtain⟨e,q⟩:=dQ;subst e;rw[if_pos rfl];exact bI q
theorem yI{P:Fin->ay->Prop}{Q:Option ae->ay->Prop}(hh:A.handled=none)(hQ:∀ h',(∀ b o,s.heap.get? b=some o->h'.get? b=some o)->Q none { s with heap:=h' }) :
  aI (aE prog w) A.in1 (newExc (.type "StopIteration") [] >>= λe=>raiseNew e) P (λe s'=>aI (aE prog w) A (isInstance e (.type "StopIteration")) (λb FU=>b=true/\Q none FU) E s') s:=by
 refine aw ?_;simp only[newExc,newTuple];refine aw (sC ?_ (by size_fits));refine aw (m:=firstArgMember _ _) (wpAny_of_eq (a:=Value.none) (by first|rfl|(simp only[firstArgMember];rfl)) ?_);refine sC ?_ (by size_fits);simp only[raiseNew];refine aw (wpAny_handled ?_);rw[show A.in1.handled=none from hh];refine aw (bI (wpAny_throw ?_));refine wpAny_isInstance (T := "StopIteration") (b:=true) ⟨_,kK _ rfl,rfl⟩ isSubtype_stop ⟨rfl,?_⟩;exact hQ _ λb o e=>gd _ (gd _ e)
theorem gr{Q:Option ae->ay->Prop}{slot:Nat}{r:Option (ae × Nat)}(hh:A.handled=none)(kf:a≠I)(hit:ti s.heap I (.int slot 0) i a es.size ep)(LM:DF s.heap a es ep t)(hf:t.fits es.size=true)(hr:∀ (A':fm) (E':ae->ay->Prop) (Q':Option (ae × Nat)->ay->Prop),Q' r s->aI (aE prog w) A' (setNext a slot i ep) Q' E' s)(h1:∀ x nx h',r=some (x,nx)->ti h' I (.int nx 0) (i+1) a es.size ep->Heap.SameBut I s.heap h'->Q (some x) { s with heap:=h' }) (h2:∀ h',r=none->(∀ b o,b≠I->s.heap.get? b=some o->h'.get? b=some o)->Q none { s with heap:=h' }) :
  aI (aE prog w) A (pyNext (.ref I)) Q E s:=by
 obtain⟨o,ho,hd⟩:=LM;refine yF hit ?_;unfold Builtin.«set_iterator.__next__»;refine aw (m:=slotArgs "__next__" 0 ⟨[.ref I],[]⟩) (wpAny_of_eq (a:=(.ref I,[])) rfl ?_);dsimp only;refine aw (wpAny_fieldsOf hit rfl ?_);dsimp only;refine aw (wpAny_setEntries_of ho hd hf ?_);rw[if_neg (by simp)];simp only[MZ];refine aw (hr _ _ _ ?_)
 cases r with
 |some p =>obtain⟨x,nx⟩:=p;dsimp only;refine aw (L6 hit (by simp) λg1 e1 w_=>?_);refine aw (L6 (s:={ s with heap:=g1 }) e1 (by simp) λg2 e2 HK=>?_);exact bI ⟨x,rfl,h1 x nx g2 rfl (by unfold ti;simpa[mr] using e2) (w_.trans HK)⟩
 |none =>dsimp only;refine aw (L6 hit (by simp) λg1 e1 w_=>?_);exact yI (s:={ s with heap:=g1 }) hh λh' k=>h2 h' rfl λb o hb e=>k b o (w_.extBut b o hb e)
theorem lH{Q:Option ae->ay->Prop}{T:ag}{ix:List Nat}{oT:Obj}{kT:Nat}(hh:A.handled=none)(hit:ti s.heap I (.ref T) i a es.size ep)(LM:DF s.heap a es ep t)(hf:t.fits es.size=true)(hT:s.heap.get? T=some oT) (hTd:oT.data=.seq (ix.map λ(k:Nat)=>Value.int k 0).toArray kT)(h1:∀ k e h',ix[i]? = some k->es[k]? = some e->ti h' I (.ref T) (i+1) a es.size ep->Heap.SameBut I s.heap h'->Q (some e.2) { s with heap:=h' }) (AG:∀ k∈ix,k<es.size) (h2:∀ h',ix[i]? = none->(∀ b o,b≠I->s.heap.get? b=some o->h'.get? b=some o)->Q none { s with heap:=h' }) :
  aI (aE prog w) A (pyNext (.ref I)) Q E s:=by
 obtain⟨o,ho,hd⟩:=LM;refine yF hit ?_;unfold Builtin.«set_iterator.__next__»;refine aw (m:=slotArgs "__next__" 0 ⟨[.ref I],[]⟩) (wpAny_of_eq (a:=(.ref I,[])) rfl ?_);dsimp only;refine aw (wpAny_fieldsOf hit rfl ?_);dsimp only;refine aw (wpAny_setEntries_of ho hd hf ?_);rw[if_neg (by simp)];refine aw (wpAny_seqItems hT hTd ?_);dsimp only;simp only[MZ,List.getElem?_toArray,n5]
 cases hk:ix[i]? with
 |some k =>dsimp only[Option.map];have kz:=AG k (om hk);refine aw ?_;unfold setNextDrawn;refine aw (AO ho hd hf ?_);dsimp only;simp only[MZ];rw[if_neg (by simp),AY kz];refine bI ?_;refine aw (L6 hit (by simp) λg1 e1 w_=>?_);exact bI ⟨_,rfl,h1 k es[k] g1 hk (AY kz) (by unfold ti;simpa[mr] using e1) w_⟩
 |none =>dsimp only[Option.map];refine aw (L6 hit (by simp) λg1 e1 w_=>?_);refine aw (L6 (s:={ s with heap:=g1 }) e1 (by simp) λg2 e2 HK=>?_);exact yI (s:={ s with heap:=g2 }) hh λh' k=>h2 h' hk λb o hb e=>k b o ((w_.trans HK).extBut b o hb e)
theorem nu (a:ae):argsOk "set_iterator.__iter__" ⟨[a],[]⟩:=by unfold argsOk;rw[signature?_of (id := "set_iterator.__iter__") (n:=['_','_','r','e','t','i','_','_']) (o:=['r','o','t','a','r','e','t','i','_','t','e','s']) (by kernel_rfl) qe];kernel_rfl
theorem kh:entryFor table "set_iterator.__iter__" = some Builtin.«dict_keyiterator.__iter__» :=
 entryFor_alias (id' := "dict_keyiterator.__iter__") (by kernel_rfl) rfl (by decide +kernel) (by kernel_rfl)
theorem ju(hit:ti s.heap I first i a n ep)(h:Q (.ref I) s):aI (aE prog w) A (pyIter (.ref I)) Q E s:=by refine wpAny_pyIter_slot hit.typeIs gh (B1 gh hit.typeIs kh ?_ (nu _));show aI _ _ (ret (.ref I)) _ _ s;exact bI ⟨_,rfl, "set_iterator",_,hit.typeIs,bx.lookup,h⟩
theorem qt {slot:Nat} {Q:Option (ae × Nat)->ay->Prop} (hb:w.params.followText "set-order" = true) (LM:DF s.heap a es ep t) (hf:t.fits es.size=true)(h:Q (((pickOrder (w.params.setOrder a ep) es)[i]?).map λe=>(e.2,slot)) s):aI (aE prog w) A (setNext a slot i ep) Q E s:=by
 obtain⟨o,ho,hd⟩:=LM;unfold setNext;refine aw (AO ho hd hf ?_);dsimp only;unfold setsByText;refine aw (aw (L7 (bI ?_)));dsimp only;rw[if_pos (by exact hb),if_neg (by simp)];refine aw ?_;unfold setWalk;refine aw (AO ho hd hf ?_);dsimp only;unfold setsByText;refine aw (aw (L7 (bI ?_)));dsimp only;rw[if_pos (by exact hb)];refine aw (L7 (bI ?_));exact bI h
theorem mq {slot:Nat} {Q:Option (ae × Nat)->ay->Prop} (hb:w.params.followText "set-order" = false) (hl:t.led=true) (Oq:(!t.plain && decide (es.size>1))=false) (LM:DF s.heap a es ep t) (hf:t.fits es.size=true)(h:Q (match es[below t.place slot]?,t.place[below t.place slot]? with
  |some (_,x),some j=>some (x,j+1)
  |_,_=>none) s):aI (aE prog w) A (setNext a slot i ep) Q E s:=by
 obtain⟨o,ho,hd⟩:=LM;unfold setNext;refine aw (AO ho hd hf ?_);dsimp only;unfold setsByText;refine aw (aw (L7 (bI ?_)));dsimp only;rw[if_neg (by rw[show(aE prog w).w.params.followText "set-order" = false from hb];exact kB)];have e0:nP es t=(!t.plain && decide (es.size>1)):=rfl;unfold nP at e0;rw[e0,Oq,if_neg kB];refine aw (m:=Jc es t) ?_;show aI _ _ (if (!t.led && !es.isEmpty)=true then unsupported "set:maker-not-led" else pure ()) _ _ s;rw[if_neg (by rw[hl];simp)];exact bI (bI h)
def PV(ys:List (Int × ae))(i:Nat)(v:ae):Prop:=∃ e,ys[i]? = some e/\v=e.2
theorem ti.keep(x:ti h I first i a n ep)(e:∀ o,h.get? I=some o->h'.get? I=some o):ti h' I first i a n ep:=e _ x
theorem DF.keep(x:DF h a es ep t)(e:∀ o,h.get? a=some o->h'.get? a=some o):DF h' a es ep t:=let ⟨o,ho,r⟩:=x;⟨o,e _ ho,r⟩
theorem ye (hh:A.handled=none) (kf:a≠I) (hb:w.params.followText "set-order" = true) (hf:t.fits es.size=true) :
  Walks prog w A I [I,a] [I] es.size (PV (pickOrder (w.params.setOrder a ep) es).toList) (λi h=>(∃ slot:Nat,ti h I (.int slot 0) i a es.size ep)/\DF h a es ep t) where
 sub:=λb hb=>by simp at hb;simp[hb]
 frame:=λ_ _ _ ⟨⟨sl,x⟩,y⟩ hk=>⟨⟨sl,x.keep λo e=>hk I (by simp) o e⟩,y.keep λo e=>hk a (by simp) o e⟩
 item:=λi s Q E hi ⟨⟨sl,x⟩,y⟩ hQ=>by
  have hlen:(pickOrder (w.params.setOrder a ep) es).size=es.size:=by have:=(jN (w.params.setOrder a ep) es).length_eq;simpa using this
  refine gr hh kf x y hf (r:=((pickOrder (w.params.setOrder a ep) es)[i]?).map λe=>(e.2,sl)) (λA' E' Q' q=>qt hb y hf q) (λv nx h' e x' sb=>?_) λh' e k=>?_
  ·rw[AY (by lia)] at e;cases e;exact hQ _ h' s.toks ⟨_,by rw[lP];exact AY (by lia),rfl⟩ ⟨⟨_,x'⟩,y.keep λo e=>sb.extBut _ _ kf e⟩ λb o hb e=>sb.extBut b o (λh=>hb (by simp[h])) e
  ·rw[AY (by lia)] at e;cases e
 done:=λs Q E ⟨⟨sl,x⟩,y⟩ hQ=>by
  have hlen:(pickOrder (w.params.setOrder a ep) es).size=es.size:=by have:=(jN (w.params.setOrder a ep) es).length_eq;simpa using this
  refine gr hh kf x y hf (r:=((pickOrder (w.params.setOrder a ep) es)[es.size]?).map λe=>(e.2,sl)) (λA' E' Q' q=>qt hb y hf q) (λv nx h' e x' sb=>?_) λh' e k=>?_
  ·rw[FD (by lia)] at e;cases e
  ·exact hQ h' s.toks λb o hb e=>k b o (λh=>hb (by simp[h])) e
 self:=λ_ _ _ _ ⟨⟨sl,x⟩,y⟩ hQ=>ju x hQ
def slotAt(t:SetTable):Nat->Nat
 |0=>0
 |i+1=>t.place.getD i 0+1
theorem iC(U:Up t.place)(h:i<=t.place.size):below t.place (slotAt t i)=i:=by
 cases i with
 |zero =>
  obtain⟨_,b,_⟩:=aO U 0;by_cases z:below t.place 0=0
  ·exact z
  ·exact absurd (b 0 (Nat.pos_of_ne_zero z)) (IU _)
 |succ i=>exact uO U (by lia)
theorem uP (hh:A.handled=none) (kf:a≠I) (hb:w.params.followText "set-order" = false) (hl:t.led=true) (Oq:(!t.plain && decide (es.size>1))=false) (U:Up t.place) (hz:t.place.size=es.size) (hf:t.fits es.size=true) :
  Walks prog w A I [I,a] [I] es.size (PV es.toList) (λi h=>ti h I (.int (slotAt t i:Nat) 0) i a es.size ep/\DF h a es ep t) where
 sub:=λb hb=>by simp at hb;simp[hb]
 frame:=λ_ _ _ ⟨x,y⟩ hk=>⟨x.keep λo e=>hk I (by simp) o e,y.keep λo e=>hk a (by simp) o e⟩
 item:=λi s Q E hi ⟨x,y⟩ hQ=>by
  have HG:=iC (t:=t) U (i:=i) (by lia);have e1:es[below t.place (slotAt t i)]? = some es[i]:=by rw[HG];exact AY hi
  have e2:t.place[below t.place (slotAt t i)]? = some (t.place.getD i 0):=by rw[HG];exact xO (by lia)
  refine gr hh kf x y hf (r:=some (es[i].2,t.place.getD i 0+1)) (λA' E' Q' q=>mq hb hl Oq y hf (by rw[e1,e2];exact q)) (λv nx h' e x' sb=>?_) λh' e k=>nomatch e;cases e;exact hQ _ h' s.toks ⟨_,by rw[lP];exact AY hi,rfl⟩ ⟨x',y.keep λo e=>sb.extBut _ _ kf e⟩ λb o hb e=>sb.extBut b o (λh=>hb (by simp[h])) e
 done:=λs Q E ⟨x,y⟩ hQ=>by
  have HG:=iC (t:=t) U (i:=es.size) (by lia);have e1:es[below t.place (slotAt t es.size)]? = none:=by rw[HG];exact FD (cx _)
  refine gr hh kf x y hf (r:=none) (λA' E' Q' q=>mq hb hl Oq y hf (by rw[e1];exact q)) (λv nx h' e x' sb=>nomatch e) λh' e k=>?_;exact hQ h' s.toks λb o hb e=>k b o (λh=>hb (by simp[h])) e
 self:=λ_ _ _ _ ⟨x,y⟩ hQ=>ju x hQ
theorem uI{T:ag}{ix:List Nat}{kT:Nat}(hh:A.handled=none)(kf:a≠I)(hTI:T≠I)(hf:t.fits es.size=true)(hp:ix.Perm (List.range es.size)) :
  Walks prog w A I [I,a,T] [I] es.size (PV (ix.filterMap λk=>es[k]?)) (λi h=>ti h I (.ref T) i a es.size ep/\DF h a es ep t/\∃ o,h.get? T=some o/\o.data=.seq (ix.map λ(k:Nat)=>Value.int k 0).toArray kT):=by
 have hlen:ix.length=es.size:=by simpa using hp.length_eq
 have AG:∀ k∈ix,k<es.size:=λk hk=>sF.mp (hp.mem_iff.mp hk);obtain⟨f1,f2⟩:=t_ (l:=ix) (f:=λk=>es[k]?) λk hk=>by simp[AG k hk]
 exact {
  sub:=λb hb=>by simp at hb;simp[hb]
  frame:=λ_ _ _ ⟨x,y,o,z,zd⟩ hk=>⟨x.keep λo e=>hk I (by simp) o e,y.keep λo e=>hk a (by simp) o e,o,hk T (by simp) o z,zd⟩
  item:=λi s Q E hi ⟨x,y,o,z,zd⟩ hQ=>by
   refine lH hh x y hf z zd (λk e h' e1 e2 x' sb=>?_) AG λh' e k=>?_
   ·refine hQ _ h' s.toks ⟨e,by rw[f2,e1];exact e2,rfl⟩ ⟨x',y.keep λo e=>sb.extBut _ _ kf e,o,sb.extBut _ _ hTI z,zd⟩ λb o hb e=>sb.extBut b o (λh=>hb (by simp[h])) e
   ·rw[mw (by lia)] at e;cases e
  done:=λs Q E ⟨x,y,o,z,zd⟩ hQ=>by
   refine lH hh x y hf z zd (λk e h' e1 e2 x' sb=>?_) AG λh' e k=>?_
   ·rw[D4 (by lia)] at e1;cases e1
   ·exact hQ h' s.toks λb o hb e=>k b o (λh=>hb (by simp[h])) e
  self:=λ_ _ _ _ ⟨x,_⟩ hQ=>ju x hQ }
end
section
variable {prog:d4}{w:eB}{A:fm}{E:ae->ay->Prop}{s:ay}{a:ag}{o:Obj}{es:Array (Int × ae)}{ep:Nat}{t:SetTable}
theorem zM (hh:A.handled=none) (ho:s.heap.get? a=some o) (hex:o.ExactSet) (hd:o.data=.set es ep t) (hf:t.fits es.size=true) (U:Up t.place) (hz:t.place.size=es.size) (hl:t.led=(!w.params.followText "set-order")) (hn:es.size<=bS)(h:∀ (I:ag) (h2:dy) d (fp:List ag) (St:Nat->dy->Prop) (ys:List (Int × ae)),(∀ b o,s.heap.get? b=some o->h2.get? b=some o)->s.heap.objs.size<=I->(∀ b∈fp,b=a\/s.heap.objs.size<=b)->ys.Perm es.toList ->
   Walks prog w A I fp [I] es.size (PV ys) St->St 0 h2->Q (.ref I) { s with heap:=h2,drawn:=d }):aI (aE prog w) A (pyIter (.ref a)) Q E s:=by
 have hT:s.TypeIs (.ref a) "set" := ⟨o,ho,hex.1⟩
 have d5:a<s.heap.objs.size:=fh ho;refine wpAny_pyIter_slot hT F.slot_set_iter (B1 F.slot_set_iter hT kj ?_ (F.args_set_iter_1 _));unfold Builtin.«frozenset.__iter__»;refine aw (m:=Builtin.Frozenset.slot0 "__iter__" ⟨[.ref a],[]⟩) (wpAny_of_eq (a:=a) rfl ?_);refine aw ?_;unfold Builtin.Frozenset.sizeOf;refine aw (wpAny_setEntries_of ho hd hf (bI ?_));refine aw ?_;unfold setDrawn;refine aw (AO ho hd hf ?_);dsimp only;unfold setsByText;refine aw (aw (L7 (bI ?_)));refine bI ?_;have e0:nP es t=(!t.plain && decide (es.size>1)):=rfl;unfold nP at e0;rw[e0];show aI _ _ (if (!w.params.followText "set-order" && (!t.plain && decide (es.size>1)))=true then _ else _) _ _ s
 cases hb:w.params.followText "set-order" with
 |true =>
  rw[if_neg (by simp)];refine aw (bI ?_);refine aw (wpAny_setEpoch_of ho hd hf ?_);refine aw (sC ?_);refine bI ⟨_,rfl, "set_iterator",_,⟨_,kK _ rfl,rfl⟩,bx.lookup,?_⟩;have ot:(s.heap.push { cls:=.type "set_iterator",data:=.fields #[mr 0,mr 0,.ref a,mr es.size,mr ep] }).get? a=some o:=gd _ ho;exact h s.heap.objs.size _ s.drawn _ _ _ (λb o e=>gd _ e) (cx _) (λb hb=>by
   rcases eK.mp hb with rfl|hb
   ·exact .inr (cx _)
   ·exact .inl (qE.mp hb)) (jN _ _) (ye (ep:=ep) hh (gi d5) hb hf) ⟨⟨0,kK _ rfl⟩,o,ot,hd⟩
 |false =>
  cases Oq:(!t.plain && decide (es.size>1)) with
  |false =>
   rw[if_neg (by simp)];refine aw (bI ?_);refine aw (wpAny_setEpoch_of ho hd hf ?_);refine aw (sC ?_);refine bI ⟨_,rfl, "set_iterator",_,⟨_,kK _ rfl,rfl⟩,bx.lookup,?_⟩;have ot:(s.heap.push { cls:=.type "set_iterator",data:=.fields #[mr 0,mr 0,.ref a,mr es.size,mr ep] }).get? a=some o:=gd _ ho;exact h s.heap.objs.size _ s.drawn _ _ _ (λb o e=>gd _ e) (cx _) (λb hb=>by
    rcases eK.mp hb with rfl|hb
    ·exact .inr (cx _)
    ·exact .inl (qE.mp hb)) (.refl _) (uP (ep:=ep) hh (gi d5) hb (by rw[hl,hb];rfl) Oq U hz hf) ⟨kK _ rfl,o,ot,hd⟩
  |true =>
   rw[if_pos (by simp)];refine aw (Ei es.size (List.range es.size) s _ (by simp) λix d hp=>?_);refine aw (sC ?_ ?hzz);case hzz =>
    have:=hp.length_eq;rw[OW] at this;show(ix.map λ(i:Nat)=>mr i).toArray.size<=bS;rw[kA,b5,this];exact hn
   have wq:(s.heap.push { cls:=.type "tuple",data:=.seq (ix.map λ(i:Nat)=>mr i).toArray }).get? a=some o:=gd _ ho;refine aw (wpAny_setEpoch_of wq hd hf ?_);refine aw (sC ?_);refine bI ⟨_,rfl, "set_iterator",_,⟨_,kK _ rfl,rfl⟩,bx.lookup,?_⟩;have vj:(s.heap.push { cls:=.type "tuple",data:=.seq (ix.map λ(i:Nat)=>mr i).toArray }).objs.size=s.heap.objs.size+1:=Heap.size_push ..;refine h (s.heap.push { cls:=.type "tuple",data:=.seq (ix.map λ(i:Nat)=>mr i).toArray }).objs.size _ d [(s.heap.push { cls:=.type "tuple",data:=.seq (ix.map λ(i:Nat)=>mr i).toArray }).objs.size,a,s.heap.objs.size] _ (ix.filterMap λk=>es[k]?) (λb o e=>gd _ (gd _ e)) (by rw[vj];exact O4 _) (λb hb=>?_) ?_ (uI (ep:=ep) (kT:=0) (T:=s.heap.objs.size) (ix:=ix) (t:=t) hh (by rw[vj];exact gi (vF d5)) (by rw[vj];exact gi (Nat.lt_succ_self _)) hf hp) ⟨kK _ rfl,⟨o,gd _ wq,hd⟩,_,gd _ (kK _ rfl),rfl⟩
   ·rcases eK.mp hb with rfl|hb
    ·exact .inr (by rw[vj];exact O4 _)
    ·rcases eK.mp hb with rfl|hb
     ·exact .inl rfl
     ·rw[qE.mp hb];exact .inr (cx _)
   ·have:=hp.filterMap λk=>es[k]?;rw[t8] at this;exact this
theorem zP (hT:s.TypeIs (.ref a) "set") (h:Q false s):aI (aE prog w) A (Builtin.List.listLengthHint (.ref a)) Q E s:=by
 unfold Builtin.List.listLengthHint;refine aw (wpAny_specialOf hT PySem.F.slot_set_len.lookup ?_);generalize hid:("set.__len__" : String)=id0
 wp_delta
 rw[show splitId id0=some ("set", "__len__") from by subst hid;decide +kernel];subst hid;refine aw (wpAny_isInstance (T := "set") (b:=true) hT (by rw[isSubtype_type];kernel_rfl) ?_);refine wpAny_ite_split (λQn=>absurd Qn (by decide)) (λ_=>?_);refine wpAny_ite_split (λ_=>?_) (λQn=>absurd (by decide +kernel) Qn);refine aw (wpAny_typeOf hT ?_);exact bI h
theorem C_ {R:Result->ay->Prop} (hh:A.handled=none) (ho:s.heap.get? a=some o) (hex:o.ExactSet) (hd:o.data=.set es ep t) (hf:t.fits es.size=true) (U:Up t.place) (hz:t.place.size=es.size) (hl:t.led=(!w.params.followText "set-order")) (hn:es.size<=bS)(S:ag) (hSa:S≠a) (res:ae) (c₀:Nat) (hS:s.heap.get? S=some { cls:=.type "list",data:=.seq #[] c₀ }) (hR:∀ h' tk d Bn c' ys,(∀ b o,b≠S->s.heap.get? b=some o->h'.get? b=some o)->h'.get? S=some { cls:=.type "list",dict:=none,data:=.seq Bn c',slots:=#[] }->ys.Perm es.toList->ItemsOf (PV ys) Bn es.size->R (.ok (.ret res)) { s with heap:=h',toks:=tk,drawn:=d }) :
  aI (aE prog w) A.in1 (Builtin.List.listExtendWith (.ref S) (.ref a) res) (λfin s'=>match fin with|.done f=>R (.ok f) s'|.again c'=>c'.quiet=true/\codeAny (aE prog w) A c' R s') (λe s'=>R (.error e) s') s:=by
 have hT:s.TypeIs (.ref a) "set" := ⟨o,ho,hex.1⟩
 have hSl:=fh hS;unfold Builtin.List.listExtendWith;refine aw (wpAny_typeOf hT ?_);have h1:Builtin.List.listSameRef (.ref S) (.ref a)=false:=by simp[Builtin.List.listSameRef,hSa]
 simp only[h1,show(Value.type "set" == Value.type "list")=false by decide,show(Value.type "set" == Value.type "tuple")=false by decide,Bool.or_false,js,if_false];refine aw (zM (A:=A.in1) hh ho hex hd hf U hz hl hn λI h2 d fp St ys kp hI hfp hp W st=>?_);have LJ:S∉fp:=λhm=>by
  rcases hfp S hm with z|z
  ·exact hSa z
  ·exact absurd hSl (Nat.not_lt.mpr z)
 have key:∀ (h:dy) (c₁ tk:Nat),St 0 h->(∀ b o,b≠S->s.heap.get? b=some o->h.get? b=some o) ->
   h.get? S=some { cls:=.type "list",data:=.seq #[] c₁ }->codeAny (aE prog w) A (.builtin "list.extend.loop" ⟨[.ref S,.ref I,res],[]⟩) R { s with heap:=h,toks:=tk,drawn:=d }:=by
  intro h c₁ tk nh hk Qu;refine codeAny_extend_loopS W.toS hn S LJ res es.size 0 _ #[] c₁ rfl (fz _) nh Qu (ItemsOf.nil _) λs' Bn c' hm Qt u0=>?_;rw[Moved.eq_with hm];refine hR s'.heap s'.toks d Bn c' ys (λb o hb e=>hm.heap b o (λP4=>?_) (hk b o hb e)) Qt hp u0;rcases eK.mp P4 with e'|P4
  ·exact hb e'
  ·exact absurd (fh e) (by rw[qE.mp P4];exact Nat.not_lt.mpr hI)
 have Qu:h2.get? S=some { cls:=.type "list",data:=.seq #[] c₀ }:=kp _ _ hS;refine aw (tJ (zP (s:={ s with heap:=h2,drawn:=d }) ⟨o,kp _ _ ho,hex.1⟩ ?_));refine wpAny_ite_split (λ_=>?_) (λ_=>bI ⟨Fc PySem.F.plain_extend_loop _,key _ c₀ _ st (λb o _ e=>kp b o e) Qu⟩);refine aw (AQ ?_);refine aw ?_;show aI _ _ (updateSeq S (·.push .none) >>= λ_=>updateSeq S (·.pop)) _ _ _;refine aw (wpAny_updateSeq Qu rfl ?_);have bf':=Fs (Obj.mapSeq (·.push Value.none)) Qu rfl;refine wpAny_updateSeq (hz:=by seq_fits) bf' rfl ?_;have im':=Fs (Obj.mapSeq (·.pop)) bf' rfl;refine bI ⟨Fc PySem.F.plain_extend_loop _,key _ _ _ ?_ (λb o hb e=>?_) im'⟩
 ·refine W.frame 0 _ _ st λb hb o e=>?_;have Qs:b≠S:=λh=>LJ (h ▸ hb);exact(O0 _ _ (Ne.symm Qs)).trans ((O0 _ _ (Ne.symm Qs)).trans e)
 ·exact(O0 _ _ (Ne.symm hb)).trans ((O0 _ _ (Ne.symm hb)).trans (kp _ _ e))
theorem vB(h:ItemsOf (PV ys) acc n)(hn:ys.length=n):acc.toList=ys.map (·.2):=by
 apply B5;intro i;rw[n5];by_cases hi:i<n
 ·have iP:i<acc.size:=by rw[h.1];exact hi
  have e1:acc[i]? = some acc[i]:=AY iP;obtain⟨e,he,hv⟩:=h.2 i acc[i] e1;rw[lP,e1,he,hv];rfl
 ·rw[D4 (by rw[xD,h.1];lia),D4 (by lia)];rfl
theorem iI {R:Result->ay->Prop} (hh:A.handled=none) (ho:s.heap.get? a=some o) (hex:o.ExactSet) (hd:o.data=.set es ep t) (hf:t.fits es.size=true) (U:Up t.place) (hz:t.place.size=es.size) (hl:t.led=(!w.params.followText "set-order")) (hn:es.size<=bS)(hR:∀ h' tk d Bn c' ys,(∀ b o,s.heap.get? b=some o->h'.get? b=some o)->h'.get? s.heap.objs.size=some { cls:=.type "list",dict:=none,data:=.seq Bn c',slots:=#[] }->ys.Perm es.toList->ItemsOf (PV ys) Bn es.size->R (.ok (.ret (.ref s.heap.objs.size))) { s with heap:=h',toks:=tk,drawn:=d }) :
  codeAny (aE prog w) A (.builtin "proto.collect" ⟨[.ref a],[]⟩) R s:=by
 have d5:a<s.heap.objs.size:=fh ho;walk_at"r";refine B3 F.entry_proto_collect ?_;rw[Around.under_plainId F.plain_proto_collect _];show aI _ A.in1 (newList [] >>= λl=>again (.builtin "list.__iadd__" ⟨[l,.ref a],[]⟩)) _ _ s;refine aw (sC ?_);refine bI ⟨Fc F.plain_list_iadd _,B3 F.entry_list_iadd ?_⟩;rw[Around.under_plainId F.plain_list_iadd _];show aI _ A.in1 (Builtin.List.listExtendWith (.ref s.heap.objs.size) (.ref a) (.ref s.heap.objs.size)) _ _ _;exact C_ (R:=R) (s:={ s with heap:=s.heap.push { cls:=.type "list",data:=.seq ([]:List ae).toArray } }) hh (gd _ ho) hex hd hf U hz hl hn s.heap.objs.size (ML d5) _ 0 hS λh' tk d Bn c' ys kp eo hp ia =>
  hR h' tk d Bn c' ys (λb o e=>kp b o (gi (fh e)) (gd _ e)) eo hp ia
theorem jU (hh:A.handled=none) (ho:s.heap.get? a=some o) (hex:o.ExactSet) (hd:o.data=.set es ep t) (hf:t.fits es.size=true) (U:Up t.place) (hz:t.place.size=es.size) (hl:t.led=(!w.params.followText "set-order")) (hn:es.size<=bS)(hQ:∀ h' tk d vs,(∀ b o,s.heap.get? b=some o->h'.get? b=some o)->s.heap.objs.size<=h'.objs.size->vs.Perm (es.toList.map (·.2))->Q vs { s with heap:=h',toks:=tk,drawn:=d }):aI (aE prog w) A (collect (.ref a)) Q E s:=by
 unfold collect;refine aw (wpAny_runValue (iI hh ho hex hd hf U hz hl hn λh' tk d acc c ys kp eo hp ia=>?_));show aI _ A (load s.heap.objs.size >>= _) _ _ { s with heap:=h',toks:=tk,drawn:=d };refine aw (wpAny_load eo ?_);refine bI (hQ h' tk d _ kp (oI (fh eo)) ?_);rw[vB ia (by rw[hp.length_eq];simp)];exact hp.map _
end
end TS
namespace ve
open PySem PyProof.Rows
section
variable {prog:d4}{w:eB}{A:fm}{E:ae->ay->Prop}{s:ay}{κ:qa}{r:ae->Int}{P:ae->Prop}
theorem jO{R:List ae->Prop}(Vv:∀ (A':fm) (E':ae->ay->Prop) (Q':List ae->ay->Prop),A'.handled=A.handled->(∀ vs h1 tk d,R vs->(∀ b o,s.heap.get? b=some o->h1.get? b=some o)->s.heap.objs.size<=h1.objs.size->Q' vs { s with heap:=h1,toks:=tk,drawn:=d })->aI (aE prog w) A' (collect v) Q' E' s) (hsz:∀ vs,R vs->vs.length<=bS) (hP:∀ vs,R vs->∀ v∈vs,P v) (hk:∀ vs,R vs->2<=vs.length->∀ (A':fm) (E':ae->ay->Prop) (s':ay),(∀ b o,s.heap.get? b=some o->s'.heap.get? b=some o)->∀ (Q:qa->ay->Prop),Q κ s'->aI (aE prog w) A' (keyKind' vs.toArray) Q E' s') (C:∀ (s':ay),(∀ b o,s.heap.get? b=some o->s'.heap.get? b=some o)->ny prog w A.in1.in1 s' κ r P) (h:∀ (vs:List ae) (h':dy) (a:ag) (out:List ae) (n tk:Nat) d,R vs->out.Perm vs->(out.Pairwise λx y=>r x<=r y)->(∀ b o,s.heap.get? b=some o->h'.get? b=some o)->s.heap.objs.size<=a->h'.get? a=some (mP "list" out.toArray n)->Q (.ref a) { s with heap:=h',toks:=tk,drawn:=d }) :
  aI (aE prog w) A (call (.builtin "sorted") [v]) Q E s:=by
 walk_at"p";unfold Builtin.«sorted»;refine aw (m:=checkCount "sorted" 1 1 _) (bI ?_);refine aw (Vv _ _ _ rfl λvs h1 tk d hR kp hz=>?_);have yA:=hsz vs hR;refine aw (wpAny_newList ?_ (by simpa using yA));have An:(h1.push (mP "list" vs.toArray 0)).get? h1.objs.size=some (mP "list" vs.toArray 0):=kK _ rfl;have old:∀ b o,s.heap.get? b=some o->(cM (h1.push (mP "list" vs.toArray 0)) h1.objs.size vs).get? b=some o:=λb o e=>by have d5:b<h1.objs.size:=fh (kp b o e);rw[fW (gi d5) (by rw[EA];exact vF d5)];exact gd _ (kp b o e)
 show aI _ _ _ _ _ { s with heap:=h1.push (mP "list" vs.toArray 0),toks:=tk,drawn:=d };refine aw (tJ (B1 slot_list_sort ⟨_,An,rfl⟩ entry_list_sort (d8 (r:=r) (s:={ s with heap:=h1.push (mP "list" vs.toArray 0),toks:=tk,drawn:=d }) An yA (hP vs hR) (λh2=>hk vs hR h2 _ _ _ old) (λh2=>C _ old) λout a1 a2=>⟨_,rfl,?_⟩) (args_list_sort _)))
 obtain⟨n,e⟩:=sortedHeap_at (out:=out) An;refine bI ⟨_,rfl,h vs _ h1.objs.size out.toList n tk d hR a1 a2 (λb o e=>?_) hz (by rw[O5];exact e)⟩;have d5:b<h1.objs.size:=fh (kp b o e);rw[sortedHeap_old (gi d5) (by rw[EA];exact vF d5)];exact gd _ (kp b o e)
end
end ve
namespace TS
open PySem PySem.SetTable PyProof.Rows
section
variable {prog:d4}{w:eB}{K:Type}[DecidableEq K]{knd:KeyKind prog w K}{A:fm}{E:ae->ay->Prop}{s:ay}
theorem sE{α:Type}(led:Bool):TI (α:=α) (SetTable.fresh 0 0 led) #[] :=
 ⟨⟨3,rfl,cx _⟩,rfl,λi j h hj=>absurd hj (IU _),λi hi=>absurd hi (IU _),rfl,(by show 0*5<7*3;decide),λi h x e=>by simp at e⟩
theorem qj{l:ag}{items:Array ae}{xs:List (List K × ag)}{Q:ae->ay->Prop}(hh:A.handled=none)(hu:A.units+8<fe)(hl:s.heap.IsList l items)(hi:items.toList=xs.map λp=>Value.ref p.2)(qq:∀ p∈xs,IsTupleKey knd s.heap p.1 p.2) (hz:xs.length<=1000) (uS:∀ k v,knd.is k v=true->v.scannable=true)(h:∀ h' tk ks,Ol knd h' s.heap.objs.size ks->(∀ k,k∈ks.map (·.1)↔k∈xs.map (·.1))->(∀ p∈ks,p∈xs)->(∀ b o,s.heap.get? b=some o->h'.get? b=some o)->Q (.ref s.heap.objs.size) { s with heap:=h',toks:=tk }) :
  aI (aE prog w) A (call (.type "set") [.ref l]) Q E s:=by
 have lt:∀ p∈xs,p.2<s.heap.objs.size:=λp hp=>by obtain⟨o,_,_,ho,_⟩:=qq p hp;exact fh ho
 refine iB hh hl (λi h=>∃ ks,Ol knd h s.heap.objs.size ks/\(∀ k,k∈ks.map (·.1)↔k∈(xs.take i).map (·.1))/\(∀ p∈ks,p∈xs)/\ks.length<=i/\∀ p∈xs,IsTupleKey knd h p.1 p.2) (λh e k=>?_) (λi h h' ⟨ks,S,m1,m2,m3,m4⟩ k=>?_) (λi v s' E' Q' hv ⟨ks,S,m1,m2,m3,m4⟩ q=>?_) λh' tk ⟨ks,S,m1,m2,m3,m4⟩ k=>?_
 ·exact⟨[],⟨⟨_,#[],0,_,e,⟨rfl,rfl,rfl⟩,rfl,sE _,(by show 7<=8191;decide),rfl,rfl⟩,p9,λp hp=>nomatch hp⟩,λk=>by simp,(λp hp=>nomatch hp),cx _,λp hp=>IsTupleKey.fA (qq p hp) λo ho=>k _ _ ho⟩
 ·obtain⟨⟨o,es,ep,t,ho,r⟩,nd,is⟩:=S;exact⟨ks,⟨⟨o,es,ep,t,k _ _ (cx _) ho,r⟩,nd,λp hp=>IsTupleKey.fA (is p hp) λo ho=>k _ _ (oI (lt p (m2 p hp))) ho⟩,m1,m2,m3,λp hp=>IsTupleKey.fA (m4 p hp) λo ho=>k _ _ (oI (lt p hp)) ho⟩
 ·have xa:items.toList[i]? = some v:=by rw[lP];exact hv
  rw[hi,n5] at xa
  cases ex:xs[i]? with
  |none=>rw[ex] at xa;cases xa
  |some p =>
   rw[ex] at xa;cases xa;have hp:=om ex;have hil:i<xs.length:=(jS.mp ex).1;have V6:(xs.take (i+1)).map (·.1)=(xs.take i).map (·.1)++[p.1]:=by rw[D7,ex,AX];rfl
   unfold setAdd;refine tJ (aw (wpAny_pyHash_tuple (by show A.units+3<fe;lia) (m4 p hp) ?_));refine Hg (s:={ s' with toks:=s'.toks+(p.1.length+1) }) S (m4 p hp) (by lia) (by show A.units+3<fe;lia) uS λb h' eM sb S' c=>?_;refine q b h' _ sb ⟨eM,S',λk=>?_,λp' iN=>?_,?_,λp' iN=>IsTupleKey.fA (m4 p' iN) λo ho=>sb.extBut _ _ (gi (lt p' iN)) ho⟩
   ·rw[V6,eR,qE,<- m1];rcases c with⟨c1,rfl⟩|⟨c1,c2⟩
    ·exact⟨.inl,λz=>z.elim id λe=>e ▸ c1⟩
    ·rw[(c2.map _).mem_iff,gE,eK];exact⟨λz=>z.symm,λz=>z.symm⟩
   ·rcases c with⟨c1,rfl⟩|⟨c1,c2⟩
    ·exact m2 p' iN
    ·rcases eK.mp (c2.mem_iff.mp iN) with rfl|z
     ·exact hp
     ·exact m2 p' z
   ·rcases c with⟨c1,rfl⟩|⟨c1,c2⟩
    ·exact T_ ‹_›
    ·rw[c2.length_eq];simp;lia
 ·have e:items.size=xs.length:=by have:=congrArg List.length hi;simpa using this
  rw[e,vE] at m1;exact h h' tk ks S m1 m2 λb o ho=>k b o (fh ho) ho
end
end TS
namespace L2
open PySem PySem.Spec PyProof.Rows
section
variable {X:Cx}{pins:List (ag × Obj)}{σ:St}{H:Hp}{s:ay}
theorem Inv.drawn{d}(I:Inv X pins σ H s):Inv X pins σ H { s with drawn:=d }:=⟨I.ok,I.os,I.bare,I.base,I.loc,I.cell,I.free,I.x3,I.pin,I.b6,I.len⟩
theorem oH:∀ (k:Key) (v:ae),(iL prog w).is k v=true->v.scannable=true:=λk v h=>by rcases zD h with⟨i,t,rfl,rfl⟩|⟨x,t,rfl,rfl⟩<;>rfl
def eQ(K:aC):V->Hp->VK->Prop:=λx H Q=>match x with
 |.ref p=>∃ ys ks b0 sh,fw K H p ys/\ys.length<=1000/\bR H ys ks/\(∀ k∈ks,iq k=b0 :: sh) /\
   ∀ zs ms l,bR H zs ms->ms.Nodup->(∀ k,k∈ms↔k∈ks)->(ms.Pairwise λa b=>gX b a=false)->H l=none->Q (.ref l) (upd H l (.lst zs))
 |_=>False
theorem bR.pairs(h:bR H ys ks)(hv:Vals ys vs):∃ xs:List (List Key × ag),vs=xs.map (λp=>Value.ref p.2)/\xs.map (·.1)=ks/\∀ p∈xs,H p.2=some (.tup (p.1.map kV)):=by
 induction ys generalizing ks vs with
 |nil=>exact⟨[],Paired.n0 hv,(show ks=[] from Paired.n0 h).symm,λp hp=>nomatch hp⟩
 |cons y ys ih =>
  obtain⟨k,ks,rfl,⟨b,rfl,g⟩,t⟩:=Paired.c h;obtain⟨v,vs,rfl,rfl,rs⟩:=Paired.c hv;obtain⟨xs,e1,e2,e3⟩:=ih t rs;refine⟨(k,b) :: xs,by rw[e1];rfl,by rw[<- e2];rfl,λp hp=>?_⟩;rcases eK.mp hp with rfl|hp
  ·exact g
  ·exact e3 p hp
end
section
variable {X:Cx}{e:Expr}{te:TE}{p p2 pos ku:Pos}
theorem jg (hc:X.calm=true) (hu:X.A.units+64<fe) (hg:Gl X "sorted") (hm:X.mg "sorted" = none) (vi:Gl X "set") (i6:X.mg "set" = none) (he:PE X e te)(hv:mM "sorted" = some (.builtin "sorted")) (Qw:mM "set" = some (.type "set"))(kc:cc [e] X.env=(false,dr e X.env) :: cc [] X.env:=by rfl) (hs:cc [.Call (.Name "set" p2) [e] [] ku] X.env=(false,dr (.Call (.Name "set" p2) [e] [] ku) X.env) :: cc [] X.env:=by rfl) :
  PE X (.Call (.Name "sorted" p) [.Call (.Name "set" p2) [e] [] ku] [] pos) (RQ (eQ X.K) te):=by
 walk_at"v";refine DU (B7 I hg hm hv ?_ (by decide) (by decide));refine PyProof.Rows.callWith_builtin1 ?_ hs rfl;rw[hs];refine Calls.spliced_cons ?_;refine DU (B7 I vi i6 Qw ?_ (by decide) (by decide));refine PyProof.Rows.callWith_type1 ?_ kc rfl;rw[kc];walk_at"g";have q1:eQ X.K x H1 Q:=q1;obtain⟨a,rfl⟩:∃ a,x=.ref a:=by
  unfold eQ at q1;split at q1
  ·exact⟨_,rfl⟩
  ·exact q1.elim
 obtain⟨ys,ks,b0,sh,hl,Ot,ht,ui,q⟩:=q1;cases r1;obtain⟨vs,rv,pl,hz⟩:=I1.list hl;obtain⟨xs,ex,ek,hx⟩:=ht.pairs rv;have E3:X.A.handled=none:=I1.ok.hd hc;have hlen:xs.length=ys.length:=by rw[rv.length,ex,b5]
 have qq:∀ p∈xs,IsTupleKey (iL X.prog X.w) s1.heap p.1 p.2:=λp hp=>by obtain⟨us,ru,o,e1,c1,n1,d1⟩:=I1.tup (hx p hp);exact⟨o,us.toArray,n1,e1,c1,d1,by simpa using UZ ru⟩
 refine TS.qj (knd:=iL X.prog X.w) E3 (by lia) pl.isList (by simpa using ex) qq (by lia) oH λh2 tk eM S m1 m2 kp=>?_;refine Calls.spliced_nil ?_;obtain⟨⟨o,es,ep,t,ho,hex,hd,T,hM,hL,BM⟩,nd,is⟩:=S;have V7:es.toList.map (·.2)=eM.map λp=>Value.ref p.2:=by rw[BM,fo];rfl
 have bg':eM.length<=1000:=by
  have:=TS.b_ nd (m:=ks) λk hk=>by rw[<- ek];exact(m1 k).mp hk
  rw[b5] at this;have:ks.length=xs.length:=by rw[<- ek,b5]
  lia
 have Qx:es.size=eM.length:=by have:=congrArg List.length BM;simpa using this
 have V8:∀ p∈eM,p.1∈ks:=λp hp=>by rw[<- ek];exact cw.mpr ⟨p,m2 p hp,rfl⟩
 have mem:∀ f7:List ae,f7.Perm (eM.map λp=>Value.ref p.2)->∀ v∈f7,∃ b k,v=.ref b/\H1 b=some (.tup (k.map kV))/\k∈ks:=λf7 pv v hv=>by obtain⟨p,hp,rfl⟩:=cw.mp (pv.mem_iff.mp hv);exact⟨p.2,p.1,rfl,hx p (m2 p hp),V8 p hp⟩
 have Qy:s1.heap.objs.size<=h2.objs.size:=oI (fh ho);refine ve.jO (s:={ s1 with heap:=h2,toks:=tk }) (κ:=tuples' true) (R:=λf7=>f7.Perm (eM.map λp=>Value.ref p.2)) (r:=λv=>yy ks (k_ H1 v)) (P:=λv=>∃ b k,v=.ref b/\H1 b=some (.tup (k.map kV))/\iq k=b0 :: sh/\k∈ks) (λA' E' Q' hA hQ=>TS.jU (s:={ s1 with heap:=h2,toks:=tk }) (hA.trans E3) ho hex hd T.fits T.up T.sz hL (by rw[Qx,jI];lia) λh' E2 d f7 zh S_ pv=>hQ f7 h' E2 d (by rw[<- V7];exact pv) zh S_) (λf7 pv=>by rw[pv.length_eq,b5,jI];lia) (λf7 pv v hv=>?_) (λf7 pv h2' A' E' s' zh Q' q'=>?_) (λs' zh=>sU I1 λb o e=>zh b o (kp b o e)) λf7 h' a' out n E2 d pv pm pw zh ha eo=>?_
 ·obtain⟨b,k,e1,e2,e3⟩:=mem f7 pv v hv;exact⟨b,k,e1,e2,ui k e3,e3⟩
 ·obtain⟨zs,z1,z2⟩:=bR.of (H:=H1) (ks:=ks) f7 (mem f7 pv);obtain⟨fs,f1,f2,f3⟩:=kat_tups I1 (s':=s') (λb o e=>zh b o (kp b o e)) z1 z2 λk hk=>by obtain⟨v,hv,rfl⟩:=cw.mp hk;obtain⟨b,k,rfl,e2,e3⟩:=mem f7 pv v hv;rw[b7 e2];exact ui k e3
  cases b0 with
  |true =>refine OJ (T:=.type "int") f1 (by lia) (λf hf=>?_) (by decide) q';obtain⟨i,t,rfl⟩:=(f3 f hf).1 rfl;exact .now
  |false =>refine OJ (T:=.type "str") f1 (by lia) (λf hf=>?_) (by decide) q';obtain⟨i,t,rfl⟩:=(f3 f hf).2 rfl;exact .now
 ·have HL:=pm.trans pv;obtain⟨zs,z1,z2⟩:=bR.of (H:=H1) (ks:=ks) out λv hv=>mem _ HL v hv;have zl:=z2.length;have ol:=HL.length_eq;rw[b5] at ol;have V9:(eM.map λp=>Value.ref p.2).map (k_ H1)=eM.map (·.1):=by rw[fo];exact IE λp hp=>b7 (hx p (m2 p hp))
  have Ta:(out.map (k_ H1)).Perm (eM.map (·.1)):=by rw[<- V9];exact HL.map _
  refine⟨.ref a',_,(I1.laid (a:=a') (t':=E2) (λb o e=>zh b o (kp b o e)) (iX Qy ha) (show gL X.prog X.w _ h' _ (.lst zs) from⟨by rw[jI];lia,out,n,z2,eo⟩)).drawn,rfl,
   q zs _ _ z1 (Ta.nodup_iff.mpr nd) (λk=>by rw[Ta.mem_iff,m1,ek]) ?_ (I1.b6.fresh (iX Qy ha))⟩
  rw[kH];refine pw.imp_of_mem λ{x y} mx my hle=>?_;obtain⟨b,k,rfl,hb,kk⟩:=mem _ HL x mx;obtain⟨c,m,rfl,A4,km⟩:=mem _ HL y my;rw[b7 hb,b7 A4] at *
  have:=lR (L:=ks) ((ui m km).trans (ui k kk).symm) km;rw[<- this];exact decide_eq_false (by lia)
end
end L2
namespace TS
open PySem PySem.SetTable PyProof.Rows
section
variable {t:SetTable}{es:Array (Int × ae)}
theorem wL(T:TI t es)(h:Int)(x:ae):∃ j,j<=t.mask/\taken t.place j=false/\Reach t.mask t.place h j /\
  layNew t es h x=(insertAt es (below t.place j) (h,x),{ t with place:=insertAt t.place (below t.place j) j,dummies:=#[] },false,false):=by
 obtain⟨m,hm,_⟩:=T.pw;obtain⟨e0,V0,V1⟩:=T.free;obtain⟨nf,n1,n2,n3⟩:=lq hm h (taken t.place) V0 V1;obtain⟨n',a1,a2,a3,a4⟩:=nJ T (λ_=>h+1) h (10*turns t.mask) 0 ⟨nf,fz _,by unfold turns;lia,n2⟩;rcases a4 with⟨c1,c2⟩|⟨_,c2,_⟩
 ·have ED:n'<=nf:=by
   by_cases z:n'<=nf
   ·exact z
   ·have:=(a3 nf (fz _) (by exact Rn ‹_›)).1;rw[n2] at this;cases this
  refine⟨J t.mask h n',S7 ..,c1,⟨n',by walk_at "s1",rfl,λq hq=>(a3 q (fz _) hq).1⟩,?_⟩;have U7:t.freeSlot h=some (J t.mask h n',false):=by unfold SetTable.freeSlot;have:t.probe (λ_=>h+1) h (t.probeStart h)=some (.empty (J t.mask h n') none):=c2;rw[this];rfl
  have V4:t.put (J t.mask h n')=({ t with place:=insertAt t.place (below t.place (J t.mask h n')) (J t.mask h n'),dummies:=#[] },below t.place (J t.mask h n')):=by
   unfold SetTable.put;have:has t.dummies (J t.mask h n')=false:=by rw[T.dm];rfl
   simp only[this,js,if_false];rw[T.dm]
  have hb:=(aO T.up (J t.mask h n')).1;have SW:({ t with place:=insertAt t.place (below t.place (J t.mask h n')) (J t.mask h n'),dummies:=#[] }:SetTable).fits (insertAt es (below t.place (J t.mask h n')) (h,x)).size=true:=by have:=T.few;have hsz:(insertAt es (below t.place (J t.mask h n')) (h,x)).size=es.size+1:=bz _ _ (by rw[<- T.sz];exact hb);simp only[SetTable.fits,SetTable.fill,hsz,bz _ _ hb,T.sz,mS,beq_iff_eq,decide_eq_true_eq,true_and];simp;lia
  unfold layNew;rw[U7];dsimp only;rw[V4];dsimp only;unfold SetTable.orStandIn;rw[SW];rfl
 ·exact absurd c2 (by lia)
end
section
variable {prog:d4}{w:eB}{K:Type}[DecidableEq K]{knd:KeyKind prog w K}
def Qz(knd:KeyKind prog w K)(p:K × ae):Int × ae:=(knd.hash p.1,p.2)
structure Tb(knd:KeyKind prog w K)(h:dy)(a:ag)(ks:List (K × ae)):Prop where
 ob:∃ o es ep t,h.get? a=some o/\o.ExactSet/\o.data=.set es ep t/\TI t es/\t.mask<=8191/\t.led=(!w.params.followText "set-order")/\es.toList=ks.map (Qz knd)
 nd:(ks.map (·.1)).Nodup
 is:∀ p∈ks,knd.is p.1 p.2=true
variable {A:fm}{E:ae->ay->Prop}{s:ay}
theorem Fo(S:Tb knd s.heap a ks)(hx:knd.is k x=true)(hz:ks.length<1000)(uS:∀ k v,knd.is k v=true->v.scannable=true)(h:∀ (b:Bool) (h':dy) (eM:List (K × ae)),Heap.SameBut a s.heap h'->Tb knd h' a eM->(k∈ks.map (·.1)/\eM=ks\/k∉ks.map (·.1)/\eM.Perm ((k,x) :: ks))->Q b { s with heap:=h' }) :
  aI (aE prog w) A (setAddHashed a x (knd.hash k)) Q E s:=by
 obtain⟨⟨o,es,ep,t,ho,hex,hd,T,hM,hL,he⟩,nd,is⟩:=id S;have hlen:es.size=ks.length:=by have:=congrArg List.length he;simpa using this
 have Om:ElemsOf knd es.toList:=λe hm=>by rw[he] at hm;obtain⟨p,hp,rfl⟩:=cw.mp hm;exact⟨⟨p.1,is p hp,rfl⟩,uS _ _ (is p hp)⟩
 have Sb:scanBound=4096:=rfl;unfold setAddHashed setAddHashedIn;refine tJ (aw (AO ho hd T.fits ?_));dsimp only;rw[byScan_of (uS _ _ hx) (by lia) Om];simp only[↓reduceIte];unfold setAddByScan;refine aw ?_;refine aw (AQ ?_);refine aw (wpAny_setScan_of hx ho hd T.fits Om ?_)
 cases hr:List.findIdx? (λe=>knd.is k e.2) es.toList with
 |some j =>
  dsimp only;refine bI (bI ?_);obtain⟨hj,hpj,_⟩:=List.findIdx?_eq_some_iff_getElem.mp hr;have hm:es.toList[j]∈ks.map (Qz knd):=by rw[<- he];exact AW hj
  obtain⟨p,hp,Pg⟩:=cw.mp hm;rw[<- Pg] at hpj;have hk:k=p.1:=knd.inj p.2 k p.1 hpj (is p hp);have e:s={ s with heap:=s.heap }:=by cases s;rfl
  rw[e];exact h _ _ ks (Heap.SameBut.refl a s.heap) S (.inl ⟨cw.mpr ⟨p,hp,hk.symm⟩,rfl⟩)
 |none =>
  dsimp only;have ll:k∉ks.map (·.1):=λhm=>by obtain⟨p,hp,rfl⟩:=cw.mp hm;have:=List.findIdx?_eq_none_iff.mp hr (Qz knd p) (by rw[he];exact cw.mpr ⟨p,hp,rfl⟩);rw[show knd.is p.1 (Qz knd p).2=true from is p hp] at this;cases this
  obtain⟨j,V2,n2,V3,hlay⟩:=wL T (knd.hash k) x;rw[hlay];dsimp only;refine aw (bI ?_);have aS:(insertAt es (below t.place j) (knd.hash k,x)).toList=(ks.take (below t.place j)++(k,x) :: ks.drop (below t.place j)).map (Qz knd):=by rw[lJ,he,AX,gE,List.map_take,List.map_drop];rfl
  have y9:(ks.take (below t.place j)++(k,x) :: ks.drop (below t.place j)).Perm ((k,x) :: ks):=by refine List.perm_middle.trans ?_;rw[OS]
  have HG:below t.place j<=es.size:=by rw[<- T.sz];exact(aO T.up j).1
  have yA:(insertAt es (below t.place j) (knd.hash k,x)).size=es.size+1:=bz _ _ HG;have Qp:∀ eM:List (K × ae),eM.Perm ((k,x) :: ks)->∀ p∈eM,knd.is p.1 p.2=true:=λeM pm p hp=>by
   rcases eK.mp (pm.mem_iff.mp hp) with rfl|hp
   ·exact hx
   ·exact is p hp
  have Qq:∀ eM:List (K × ae),eM.Perm ((k,x) :: ks)->(eM.map (·.1)).Nodup:=λeM pm=>by rw[(pm.map _).nodup_iff,gE,k7];exact⟨ll,nd⟩
  have main:∀ t':SetTable,t'.mask=t.mask->t'.place=insertAt t.place (below t.place j) j->t'.dummies = #[]->t'.led=t.led->aI (aE prog w) A (do
    storeSet a (insertAt es (below t.place j) (knd.hash k,x)) t'
    if (!false && t'.tooFull)=true then do
      GJ (relayAll t' (insertAt es (below t.place j) (knd.hash k,x)) (grown (insertAt es (below t.place j) (knd.hash k,x)).size)).2.2
      storeSet a (relayAll t' (insertAt es (below t.place j) (knd.hash k,x)) (grown (insertAt es (below t.place j) (knd.hash k,x)).size)).1 (relayAll t' (insertAt es (below t.place j) (knd.hash k,x)) (grown (insertAt es (below t.place j) (knd.hash k,x)).size)).2.1
      pure (some true)
     else pure (some true)) (λr s'=>aI (aE prog w) A (match r with|some added=>pure added|none=>setAddHashedIn a x (knd.hash k) 99999) Q E s') E s:=λt' tm tp td tl=>by
   have S9:t'.fill=es.size+1:=by unfold SetTable.fill;rw[tp,td,bz _ _ (aO T.up j).1,T.sz];simp
   refine aw (wpAny_storeSet_of ho hd ?_ (by rw[yA,jI];lia));have wq:(s.heap.update a (Obj.putSet (insertAt es (below t.place j) (knd.hash k,x)) t')).get? a=some { o with data:=.set (insertAt es (below t.place j) (knd.hash k,x)) (ep+1) t' }:=by have:=Fs (Obj.putSet (insertAt es (below t.place j) (knd.hash k,x)) t') ho (by rw[putSet_of _ _ hd];rfl);rw[putSet_of _ _ hd] at this;exact this
   have w_:=Heap.SameBut.update s.heap a (Obj.putSet (insertAt es (below t.place j) (knd.hash k,x)) t');by_cases c:t'.tooFull=true
   ·rw[if_pos (by rw[c];rfl)];obtain⟨t2,order,r1,r2,r3,r4,r5,r6,r7,r8,r9⟩:=pZ (t:=t') (es:=insertAt es (below t.place j) (knd.hash k,x)) (by lia);have io':relayAll t' (insertAt es (below t.place j) (knd.hash k,x)) (grown (insertAt es (below t.place j) (knd.hash k,x)).size)=(order.filterMap λi=>(insertAt es (below t.place j) (knd.hash k,x))[i]?,t2,false):=by unfold relayAll;rw[r1];dsimp only;rw[if_pos];rw[mS];refine⟨?_,r6.fits⟩;unfold coversAll;rw[List.isPerm_iff];exact r9
    rw[io'];dsimp only;refine aw (bI ?_);obtain⟨eM,ek,pk⟩:=eO r8 aS;refine aw (wpAny_storeSet_of wq rfl ?_ (by rw[r7,yA,jI];lia));refine bI (bI ?_);have HK:=w_.trans (Heap.SameBut.update _ a (Obj.putSet (order.filterMap λi=>(insertAt es (below t.place j) (knd.hash k,x))[i]?) t2));have pe:=Fs (Obj.putSet (order.filterMap λi=>(insertAt es (below t.place j) (knd.hash k,x))[i]?) t2) wq (by rw[putSet_of _ _ rfl];rfl);rw[putSet_of _ _ rfl] at pe;exact h true _ eM HK ⟨⟨_,_,_,_,pe,hex,rfl,r6,r5 (by lia),by rw[r3,tl];exact hL,ek⟩,Qq eM (pk.trans y9),Qp eM (pk.trans y9)⟩ (.inr ⟨ll,pk.trans y9⟩)
   ·rw[if_neg (by simpa using c)];refine bI (bI ?_);have ya:(es.size+1)*5<t.mask*3:=by unfold SetTable.tooFull at c;rw[S9,tm] at c;simpa using c
    exact h true _ _ w_ ⟨⟨_,_,_,_,wq,hex,rfl,T.put V2 n2 V3 tm tp td ya,by rw[tm];exact hM,by rw[tl];exact hL,aS⟩,Qq _ y9,Qp _ y9⟩ (.inr ⟨ll,y9⟩)
  split
  ·refine aw ?_;rw[hashByValue_scannable 8 (uS _ _ hx)];refine bI ?_;split
   ·exact main _ rfl rfl rfl rfl
   ·exact main _ rfl rfl rfl rfl
  ·refine aw (bI ?_);rw[if_pos rfl];exact main _ rfl rfl rfl rfl
end
section
variable {prog:d4}{w:eB}{K:Type}[DecidableEq K]{knd:KeyKind prog w K}{A:fm}{E:ae->ay->Prop}{s:ay}
theorem gF{l:ag}{items:Array ae}{xs:List (K × ae)}{Q:ae->ay->Prop}(hh:A.handled=none)(hl:s.heap.IsList l items)(hi:items.toList=xs.map (·.2))(qq:∀ p∈xs,knd.is p.1 p.2=true) (hz:xs.length<=1000) (uS:∀ k v,knd.is k v=true->v.scannable=true)(h:∀ h' tk ks,Tb knd h' s.heap.objs.size ks->(∀ k,k∈ks.map (·.1)↔k∈xs.map (·.1))->(∀ p∈ks,p∈xs)->(∀ b o,s.heap.get? b=some o->h'.get? b=some o)->Q (.ref s.heap.objs.size) { s with heap:=h',toks:=tk }) :
  aI (aE prog w) A (call (.type "set") [.ref l]) Q E s:=by
 refine iB hh hl (λi h=>∃ ks,Tb knd h s.heap.objs.size ks/\(∀ k,k∈ks.map (·.1)↔k∈(xs.take i).map (·.1))/\(∀ p∈ks,p∈xs)/\ks.length<=i) (λh e k=>?_) (λi h h' ⟨ks,S,m1,m2,m3⟩ k=>?_) (λi v s' E' Q' hv ⟨ks,S,m1,m2,m3⟩ q=>?_) λh' tk ⟨ks,S,m1,m2,m3⟩ k=>?_
 ·exact⟨[],⟨⟨_,#[],0,_,e,⟨rfl,rfl,rfl⟩,rfl,sE _,(by show 7<=8191;decide),rfl,rfl⟩,p9,λp hp=>nomatch hp⟩,λk=>by simp,(λp hp=>nomatch hp),cx _⟩
 ·obtain⟨⟨o,es,ep,t,ho,r⟩,nd,is⟩:=S;exact⟨ks,⟨⟨o,es,ep,t,k _ _ (cx _) ho,r⟩,nd,is⟩,m1,m2,m3⟩
 ·have xa:items.toList[i]? = some v:=by rw[lP];exact hv
  rw[hi,n5] at xa
  cases ex:xs[i]? with
  |none=>rw[ex] at xa;cases xa
  |some p =>
   rw[ex] at xa;cases xa;have hp:=om ex;have hil:i<xs.length:=(jS.mp ex).1;have V6:(xs.take (i+1)).map (·.1)=(xs.take i).map (·.1)++[p.1]:=by rw[D7,ex,AX];rfl
   unfold setAdd;refine tJ (aw (knd.pyHash (k:=p.1) (qq p hp) ?_));refine Fo (s:={ s' with toks:=s'.toks+1 }) S (qq p hp) (by lia) uS λb h' eM sb S' c=>?_;refine q b h' _ sb ⟨eM,S',λk=>?_,λp' iN=>?_,?_⟩
   ·rw[V6,eR,qE,<- m1];rcases c with⟨c1,rfl⟩|⟨c1,c2⟩
    ·exact⟨.inl,λz=>z.elim id λe=>e ▸ c1⟩
    ·rw[(c2.map _).mem_iff,gE,eK];exact⟨λz=>z.symm,λz=>z.symm⟩
   ·rcases c with⟨c1,rfl⟩|⟨c1,c2⟩
    ·exact m2 p' iN
    ·rcases eK.mp (c2.mem_iff.mp iN) with rfl|z
     ·exact hp
     ·exact m2 p' z
   ·rcases c with⟨c1,rfl⟩|⟨c1,c2⟩
    ·exact T_ ‹_›
    ·rw[c2.length_eq];simp;lia
 ·have e:items.size=xs.length:=by have:=congrArg List.length hi;simpa using this
  rw[e,vE] at m1;exact h h' tk ks S m1 m2 λb o ho=>k b o (fh ho) ho
end
end TS
namespace L2
open PySem PySem.Spec PyProof.Rows
def gf(K:aC):V->Hp->VK->Prop:=λx H Q=>match x with
 |.ref p=>∃ (ks:List Key) (b:Bool),fw K H p (ks.map kV)/\ks.length<=1000/\(∀ k∈ks,mE k=b) /\
   ∀ (ms:List Key) (l:ag),ms.Nodup->(∀ k,k∈ms↔k∈ks)->(ms.Pairwise λa b=>nK b a=false)->H l=none->Q (.ref l) (upd H l (.lst (ms.map kV)))
 |_=>False
theorem lL(h:Vals (ks.map kV) vs):∃ xs:List (Key × ae),vs=xs.map (·.2)/\xs.map (·.1)=ks/\∀ p∈xs,RelV (kV p.1) p.2:=by
 induction ks generalizing vs with
 |nil=>exact⟨[],Paired.n0 h,rfl,λp hp=>nomatch hp⟩
 |cons k ks ih =>
  obtain⟨v,vs,rfl,r,rs⟩:=Paired.c h;obtain⟨xs,e1,e2,e3⟩:=ih rs;refine⟨(k,v) :: xs,by rw[e1];rfl,by rw[<- e2];rfl,λp hp=>?_⟩;rcases eK.mp hp with rfl|hp
  ·exact r
  ·exact e3 p hp
section
variable {X:Cx}{e:Expr}{te:TE}{p p2 pos ku:Pos}
theorem rK (hc:X.calm=true) (hg:Gl X "sorted") (hm:X.mg "sorted" = none) (vi:Gl X "set") (i6:X.mg "set" = none) (he:PE X e te)(hv:mM "sorted" = some (.builtin "sorted")) (Qw:mM "set" = some (.type "set"))(kc:cc [e] X.env=(false,dr e X.env) :: cc [] X.env:=by rfl) (hs:cc [.Call (.Name "set" p2) [e] [] ku] X.env=(false,dr (.Call (.Name "set" p2) [e] [] ku) X.env) :: cc [] X.env:=by rfl) :
  PE X (.Call (.Name "sorted" p) [.Call (.Name "set" p2) [e] [] ku] [] pos) (RQ (gf X.K) te):=by
 walk_at"v";refine DU (B7 I hg hm hv ?_ (by decide) (by decide));refine PyProof.Rows.callWith_builtin1 ?_ hs rfl;rw[hs];refine Calls.spliced_cons ?_;refine DU (B7 I vi i6 Qw ?_ (by decide) (by decide));refine PyProof.Rows.callWith_type1 ?_ kc rfl;rw[kc];walk_at"g";have q1:gf X.K x H1 Q:=q1;obtain⟨a,rfl⟩:∃ a,x=.ref a:=by
  unfold gf at q1;split at q1
  ·exact⟨_,rfl⟩
  ·exact q1.elim
 obtain⟨ks,b,hl,Ot,hb,q⟩:=q1;cases r1;obtain⟨vs,rv,pl,hz⟩:=I1.list hl;obtain⟨xs,ex,ek,hx⟩:=lL rv;have E3:X.A.handled=none:=I1.ok.hd hc;have hlen:xs.length=ks.length:=by rw[<- ek,b5]
 have qq:∀ p∈xs,(iL X.prog X.w).is p.1 p.2=true:=λp hp=>by
  obtain⟨k,v⟩:=p;have r:=hx _ hp;rw[WB]
  cases k with
  |inl i=>obtain⟨t,e⟩:=r;rw[show v=_ from e];exact Uj ..
  |inr x=>obtain⟨t,e⟩:=r;rw[show v=_ from e];exact Uk ..
 refine TS.gF (knd:=iL X.prog X.w) E3 pl.isList (by simpa using ex) qq (by lia) oH λh2 tk eM S m1 m2 kp=>?_;refine Calls.spliced_nil ?_;obtain⟨⟨o,es,ep,t,ho,hex,hd,T,hM,hL,BM⟩,nd,is⟩:=S;have V7:es.toList.map (·.2)=eM.map (·.2):=by rw[BM,fo];rfl
 have bg':eM.length<=1000:=by
  have:=TS.b_ nd (m:=ks) λk hk=>by rw[<- ek];exact(m1 k).mp hk
  rw[b5] at this;walk_at "s1"
 have Qx:es.size=eM.length:=by have:=congrArg List.length BM;simpa using this
 have V8:∀ p∈eM,p.1∈ks:=λp hp=>by rw[<- ek];exact cw.mpr ⟨p,m2 p hp,rfl⟩
 have mem:∀ f7:List ae,f7.Perm (eM.map (·.2))->∀ v∈f7,∃ k,RelV (kV k) v/\k∈ks:=λf7 pv v hv=>by obtain⟨p,hp,rfl⟩:=cw.mp (pv.mem_iff.mp hv);exact⟨p.1,hx p (m2 p hp),V8 p hp⟩
 have Qy:s1.heap.objs.size<=h2.objs.size:=oI (fh ho);refine ve.jO (s:={ s1 with heap:=h2,toks:=tk }) (κ:=oneType') (R:=λf7=>f7.Perm (eM.map (·.2))) (r:=λv=>yy (ks.map λk=>[k]) (fO v)) (P:=λv=>∃ k,RelV (kV k) v/\mE k=b/\k∈ks) (λA' E' Q' hA hQ=>TS.jU (s:={ s1 with heap:=h2,toks:=tk }) (hA.trans E3) ho hex hd T.fits T.up T.sz hL (by rw[Qx,jI];walk_at "s4") λh' E2 d f7 zh S_ pv=>hQ f7 h' E2 d (by rw[<- V7];exact pv) zh S_) (λf7 pv=>by rw[pv.length_eq,b5,jI];walk_at "s4") (λf7 pv v hv=>?_) (λf7 pv h2' A' E' s' zh Q' q'=>?_) (λs' zh=>uw) λf7 h' a' out n E2 d pv pm pw zh ha eo=>?_
 ·obtain⟨k,rk,mk⟩:=mem f7 pv v hv;exact⟨k,rk,hb k mk,mk⟩
 ·obtain⟨ms,rm⟩:=jG (ks:=ks) f7 (mem f7 pv);refine pJ (b:=b) rm (λk hk=>?_) h2' q';have:(f7.map fO)=ms.map λk=>[k]:=keys_map rm;have Bi:[k]∈f7.map fO:=by rw[this];exact cw.mpr ⟨k,hk,rfl⟩
  obtain⟨v,hv,e⟩:=cw.mp Bi;obtain⟨k',rk,mk⟩:=mem f7 pv v hv;rw[jZ rk] at e;cases e;exact hb _ mk
 ·have HL:=pm.trans pv;obtain⟨ms,rm⟩:=jG (ks:=ks) out (mem _ HL);have V9:(eM.map (·.2)).map fO=(eM.map (·.1)).map λk=>[k]:=by rw[fo,fo];exact IE λp hp=>jZ (hx p (m2 p hp))
  have pk:ms.Perm (eM.map (·.1)):=pM (by rw[<- keys_map rm,<- V9];exact HL.map _);have hml:ms.length=eM.length:=by simpa using pk.length_eq
  have bj':∀ k∈ms,k∈ks:=λk hk=>by rw[<- ek];exact(m1 k).mp (pk.mem_iff.mp hk)
  refine⟨.ref a',_,(I1.laid (a:=a') (t':=E2) (λb o e=>zh b o (kp b o e)) (iX Qy ha) (show gL X.prog X.w _ h' _ (.lst (ms.map kV)) from⟨by rw[b5,jI];lia,out,n,rm,eo⟩)).drawn,rfl,
   q ms _ (pk.nodup_iff.mpr nd) (λk=>by rw[pk.mem_iff,m1,ek]) ?_ (I1.b6.fresh (iX Qy ha))⟩
  have P5:(out.map fO).Pairwise λx y=>yy (ks.map λk=>[k]) x<=yy (ks.map λk=>[k]) y:=kH.mpr pw;rw[keys_map rm,kH] at P5;refine P5.imp_of_mem λ{x y} mx my hle=>?_;have mx:=bj' x mx;have my:=bj' y my;rw[<- qR,<- lR (L:=ks.map λk=>[k]) (by simp[iq,hb x mx,hb y my]) (cw.mpr ⟨y,my,rfl⟩)];exact decide_eq_false (by lia)
end
end L2
namespace L2.Q
open PySem PySem.Spec PyProof.Rows
section
variable {X:Cx}{K:aC}{e:Expr}{te:WE}{p p2 pos ku:Pos}
theorem ud:mM "set" = some (.type "set"):=by decide +kernel
def gK:W1:=λ_ x Q=>match x with
 |.list xs=>∃ (ks:List (List Key)) (sh:List Bool),xs=ks.map kg/\ks.length<=1000/\(∀ k∈ks,iq k=true :: sh)/\∀ ms:List (List Key),ms.Nodup->(∀ k,k∈ms↔k∈ks)->(ms.Pairwise λa b=>gX b a=false)->Q (.ow true) (.list (ms.map kg))
 |_=>False
def eV:W1:=λ_ x Q=>match x with
 |.list xs=>∃ (ks:List (List Key)) (sh:List Bool),xs=ks.map kg/\ks.length<=1000/\(∀ k∈ks,iq k=false :: sh)/\∀ ms:List (List Key),ms.Nodup->(∀ k,k∈ms↔k∈ks)->(ms.Pairwise λa b=>gX b a=false)->Q (.ow true) (.list (ms.map kg))
 |_=>False
def fj:W1:=λ_ x Q=>match x with
 |.list xs=>∃ (ks:List Key) (b:Bool),xs=ks.map iS/\ks.length<=1000/\(∀ k∈ks,mE k=b)/\∀ ms:List Key,ms.Nodup->(∀ k,k∈ms↔k∈ks)->(ms.Pairwise λa b=>nK b a=false)->Q (.ow true) (.list (ms.map iS))
 |_=>False
theorem rP:N9 K (eQ K) gK:=by
 walk_at"d";have r1:=rx.rep w
 cases r1 with
 |list z s q =>obtain⟨ks,sh,rfl,hz,hs,h⟩:=h;obtain⟨ta,ok⟩:=yp q;have hl:=q.length;rw[b5] at hl;refine⟨_,ks,true,sh,s,by lia,ta,hs,λzs ms l tz nd mm pw V_=>?_⟩;have rr:=gA (K:=K) tz λk hk=>ok k ((mm k).mp hk);have:ms.length<=ks.length:=TS.b_ nd λk hk=>(mm k).mp hk;exact f.lst w (by rw[b5,jI];lia) rr (dM ms) (h ms nd mm pw) l V_
 |_=>exact h.elim
theorem q_:N9 K (eQ K) eV:=by
 walk_at"d";have r1:=rx.rep w
 cases r1 with
 |list z s q =>obtain⟨ks,sh,rfl,hz,hs,h⟩:=h;obtain⟨ta,ok⟩:=yp q;have hl:=q.length;rw[b5] at hl;refine⟨_,ks,false,sh,s,by lia,ta,hs,λzs ms l tz nd mm pw V_=>?_⟩;have rr:=gA (K:=K) tz λk hk=>ok k ((mm k).mp hk);have:ms.length<=ks.length:=TS.b_ nd λk hk=>(mm k).mp hk;exact f.lst w (by rw[b5,jI];lia) rr (dM ms) (h ms nd mm pw) l V_
 |_=>exact h.elim
theorem rG:N9 K (gf K) fj:=by
 walk_at"d";have r1:=rx.rep w
 cases r1 with
 |list z s q =>obtain⟨ks,b,rfl,hz,hb,h⟩:=h;obtain⟨e,ok⟩:=oU q;subst e;refine⟨ks,b,s,hz,hb,λms l nd mm pw hl=>?_⟩;have:ms.length<=ks.length:=TS.b_ nd λk hk=>(mm k).mp hk;exact f.lst w (by rw[b5,jI];lia) (fD λk hk=>ok k ((mm k).mp hk)) (fu ms) (h ms nd mm pw) l hl
 |_=>exact h.elim
theorem vf (hm:X.mg "sorted" = none) (i6:X.mg "set" = none) (he:QE X K e te) (hc:X.calm=true:=by rfl) (hK:X.K=K:=by rfl) (kc:cc [e] X.env=(false,dr e X.env) :: cc [] X.env:=by rfl) (hs:cc [.Call (.Name "set" p2) [e] [] ku] X.env=(false,dr (.Call (.Name "set" p2) [e] [] ku) X.env) :: cc [] X.env:=by rfl) (hu:X.A.units+64<fe:=by assumption) (hg:Gl X "sorted" := by rfl) (vi:Gl X "set" := by rfl) :
  QE X K (.Call (.Name "sorted" p) [.Call (.Name "set" p2) [e] [] ku] [] pos) (i7 gK te):=by
 subst hK;refine PE.imp (jg hc hu hg hm vi i6 he cT ud kc hs) λσ H Qv dQ=>?_;obtain⟨Hs,ρ,ah,Q,sr,h,fin⟩:=dQ;exact⟨Hs,ρ,ah,_,sr,h,λv H1 bE m x As g1 r1 f1 q1=>rP bE H1 m x v As Q Qv g1.wf r1 q1 (Fin.after fin g1)⟩
theorem vG (hm:X.mg "sorted" = none) (i6:X.mg "set" = none) (he:QE X K e te) (hc:X.calm=true:=by rfl) (hK:X.K=K:=by rfl) (kc:cc [e] X.env=(false,dr e X.env) :: cc [] X.env:=by rfl) (hs:cc [.Call (.Name "set" p2) [e] [] ku] X.env=(false,dr (.Call (.Name "set" p2) [e] [] ku) X.env) :: cc [] X.env:=by rfl) (hu:X.A.units+64<fe:=by assumption) (hg:Gl X "sorted" := by rfl) (vi:Gl X "set" := by rfl) :
  QE X K (.Call (.Name "sorted" p) [.Call (.Name "set" p2) [e] [] ku] [] pos) (i7 eV te):=by
 subst hK;refine PE.imp (jg hc hu hg hm vi i6 he cT ud kc hs) λσ H Qv dQ=>?_;obtain⟨Hs,ρ,ah,Q,sr,h,fin⟩:=dQ;exact⟨Hs,ρ,ah,_,sr,h,λv H1 bE m x As g1 r1 f1 q1=>q_ bE H1 m x v As Q Qv g1.wf r1 q1 (Fin.after fin g1)⟩
theorem lN (hm:X.mg "sorted" = none) (i6:X.mg "set" = none) (he:QE X K e te) (hc:X.calm=true:=by rfl) (hK:X.K=K:=by rfl) (kc:cc [e] X.env=(false,dr e X.env) :: cc [] X.env:=by rfl) (hs:cc [.Call (.Name "set" p2) [e] [] ku] X.env=(false,dr (.Call (.Name "set" p2) [e] [] ku) X.env) :: cc [] X.env:=by rfl) (hg:Gl X "sorted" := by rfl) (vi:Gl X "set" := by rfl) :
  QE X K (.Call (.Name "sorted" p) [.Call (.Name "set" p2) [e] [] ku] [] pos) (i7 fj te):=by
 subst hK;refine PE.imp (rK hc hg hm vi i6 he cT ud kc hs) λσ H Qv dQ=>?_;obtain⟨Hs,ρ,ah,Q,sr,h,fin⟩:=dQ;exact⟨Hs,ρ,ah,_,sr,h,λv H1 bE m x As g1 r1 f1 q1=>rG bE H1 m x v As Q Qv g1.wf r1 q1 (Fin.after fin g1)⟩
end
end L2.Q
namespace L2.Q.R
open PySem PySem.Spec PyProof.Rows L2.Q
section
variable {Q:Md->L2.Q.D->Prop}{m:Md}{xs:List L2.Q.D}
theorem Fy:gK m (.list xs) Q = ∃ (ks:List (List Key)) (sh:List Bool),xs=ks.map kg/\ks.length<=1000/\(∀ k∈ks,iq k=true :: sh)/\∀ ms:List (List Key),ms.Nodup->(∀ k,k∈ms↔k∈ks)->(ms.Pairwise λa b=>gX b a=false)->Q (.ow true) (.list (ms.map kg)):=rfl
theorem FJ:eV m (.list xs) Q = ∃ (ks:List (List Key)) (sh:List Bool),xs=ks.map kg/\ks.length<=1000/\(∀ k∈ks,iq k=false :: sh)/\∀ ms:List (List Key),ms.Nodup->(∀ k,k∈ms↔k∈ks)->(ms.Pairwise λa b=>gX b a=false)->Q (.ow true) (.list (ms.map kg)):=rfl
theorem Fz:fj m (.list xs) Q = ∃ (ks:List Key) (b:Bool),xs=ks.map iS/\ks.length<=1000/\(∀ k∈ks,mE k=b)/\∀ ms:List Key,ms.Nodup->(∀ k,k∈ms↔k∈ks)->(ms.Pairwise λa b=>nK b a=false)->Q (.ow true) (.list (ms.map iS)):=rfl
end
end L2.Q.R
namespace L2
open PySem PySem.Spec PyProof.Rows
end L2
namespace L2.Q
open PySem PySem.Spec PyProof.Rows
end L2.Q
namespace L2.Q.R
open PySem PySem.Spec PyProof.Rows L2.Q
end L2.Q.R
namespace L2.Q
open PySem PySem.Spec PyProof.Rows
def QB(m:Md)(d:D)(S:D->D->Prop)(O:D->D->Prop):Prop:=match m,d with
 |.sh,.tup [a,b]=>S a b
 |.ow true,.tup [a,b]=>a.flat=false/\b.flat=false/\O a b
 |_,_=>False
def CP(i j:Nat)(te:WE):WS:=λE ρ=>te ρ λm d=>QB m d (λa b=>E.nx ((ρ.set i (some (.sh a))).set j (some (.sh b)))) λa b=>E.nx ((ρ.set i (some (.ow true a))).set j (some (.ow true b)))
theorem Ck{X:Cx}{K:aC}(hc:X.calm=true)(hN:X.N.Nodup)(hi:X.N[i]? = some x)(hx:Loc X.env.scope x)(hj:X.N[j]? = some y)(hy:Loc X.env.scope y)(he:QE X K e te)(hK:X.K=K:=by rfl) (hf:X.fn x=true\/X.env.scope.names.lookup x=some .local:=by first|exact .inl rfl|exact .inr rfl|assumption) (hf2:X.fn y=true\/X.env.scope.names.lookup y=some .local:=by first|exact .inl rfl|exact .inr rfl|assumption) (hn:(qB [.Name x p1,.Name y p2] X.env).length=2:=by rfl) (nh:(qB [.Name x p1,.Name y p2] X.env).findIdx? (·.1)=none:=by rfl) (hs:swapsWithSole [.Tuple [.Name x p1,.Name y p2] k p3] e pos.line X.env=pure false:=by rfl) (hw:swappedStores [.Tuple [.Name x p1,.Name y p2] k p3] e X.env=pure none:=by rfl) (h1:(qB [.Tuple [.Name x p1,.Name y p2] k p3] X.env).map (·.2)=[assign (.Tuple [.Name x p1,.Name y p2] k p3) X.env]:=by rfl) (h2:(qB [.Name x p1,.Name y p2] X.env).map (·.2)=assign (.Name x p1) X.env :: (qB [.Name y p2] X.env).map (·.2):=by rfl) (h3:(qB [.Name y p2] X.env).map (·.2)=assign (.Name y p2) X.env :: (qB [] X.env).map (·.2):=by rfl) :
  QS X K L (.Assign [.Tuple [.Name x p1,.Name y p2] k p3] e pos) (CP i j te):=by
 subst hK;refine PS.imp (cK' he (W7 hc (Uu (Ut hN hi hx hf) (Uu (Ut hN hj hy hf2) W6 h3) h2) hn nh) hs hw h1) λD σ H hx=>dB hx λHs ρ ah E sr h k1 k2 k3 k4=>?_;refine⟨Hs,ρ,ah,_,sr,h,λv H1 bE m d As g1 r1 f1 q1=>?_⟩;have DH:=sr.grow g1;unfold QB at q1;split at q1
 ·rename_i a b;obtain⟨_,r⟩:=r1
  cases r with
  |tup z e rs =>
   cases rs with
   |cons ra rs=>cases rs with
    |cons rb rs=>cases rs with
     |nil =>obtain⟨t1,m1,s1⟩:=DH.zy i ra;obtain⟨t2,m2,s2⟩:=s1.zy j rb;exact⟨_,_,rfl,.inl (.inl (g1.wf.sub _ _ e)),rfl,_,_,rfl,_,_,rfl,rfl,k1 _ H1 bE _ t2 g1.sh s2 q1⟩
 ·rename_i a b;obtain⟨fa,fb,q1⟩:=q1;obtain⟨r,ne⟩:=r1
  cases r with
  |sh _ _=>exact absurd rfl ne
  |tup z e n rs =>
   cases rs with
   |@cons _ v1 _ _ A1 _ ra rs=>cases rs with
    |@cons _ v2 _ _ A2 _ rb rs=>cases rs with
     |nil =>
      obtain⟨nd,fr⟩:=f1;rw[pV] at nd fr;obtain⟨n1,n2,n3⟩:=ja.mp nd;have dj:∀ c∈A1++A2,c∉ah:=λc hc z=>(sr.sr.own c z).ne (fr c hc).2;obtain⟨t1,a1,b1,c1⟩:=SR.wg (ra.ne fa) ra n1 i DH.sr DH.rj λc hc=>dj c (i9 _ hc);obtain⟨t2,a2,b2,c2⟩:=SR.wg (rb.ne fb) rb n2 j c1 a1 λc hc z=>by
       rcases b1 c z with w|w
       ·exact dj c (fI _ hc) w
       ·exact n3 c w c hc rfl
      refine⟨_,_,rfl,.inl (.inl (g1.wf.sub _ _ e)),rfl,_,_,rfl,_,_,rfl,rfl,k1 _ H1 bE _ t2 g1.sh ⟨c2,g1.wf,a2,λc hc=>?_⟩ q1⟩;rcases b2 c hc with w|w
      ·rcases b1 c w with w|w
       ·exact DH.own c w
       ·exact(fr c (i9 _ w)).1
      ·exact(fr c (fI _ w)).1
 ·exact q1.elim
end L2.Q
namespace L2.Q.R
open PySem PySem.Spec PyProof.Rows L2.Q
section
variable {E:ou}{ρ:Env}{te:WE}{i j:Nat}{x y:L2.Q.D}{S O:L2.Q.D->L2.Q.D->Prop}
theorem Lj:CP i j te E ρ=te ρ λm d=>cp (m,d) (f:=λp=>QB p.1 p.2 (λa b=>E.nx ((ρ.set i (some (.sh a))).set j (some (.sh b)))) λa b=>E.nx ((ρ.set i (some (.ow true a))).set j (some (.ow true b)))) ⟨⟩:=rfl
theorem JR:QB .sh (.tup [x,y]) S O=S x y:=rfl
theorem JL:QB (.ow true) (.tup [x,y]) S O=(x.flat=false/\y.flat=false/\O x y):=rfl
end
end L2.Q.R
namespace L2
open PySem PySem.Spec PyProof.Rows Builtin Builtin.Str Builtin.Int
end L2
namespace L2.Q
open PySem PySem.Spec PyProof.Rows
section
variable {X:Cx}{K:aC}{a:Expr}{ta:WE}
def Tc(t:WE):WE:=λρ Q=>t ρ λm d=>kI m/\Q .sh d
theorem bk'(h:QE X K a ta):QE X K a (Tc ta):=by
 refine PE.imp h λσ H Qv hx=>kN hx λHs ρ ah Q sr h fin=>?_;refine⟨Hs,ρ,ah,_,sr,h,λv H1 bE m d As g1 r1 f1 q1=>?_⟩;obtain⟨nb,q⟩:=q1
 cases m with
 |sh=>exact fin v H1 bE .sh d As g1 r1 f1 q
 |bo=>exact nb.elim
 |ow fl =>
  obtain⟨r,ne⟩:=r1;have hn:∀ a∈As,bE a=none:=λa h=>(f1.2 a h).1;have s:=gB (H:=H1) hn;refine fin v H1 (wx bE H1 As) .sh d [] ⟨g1.all,g1.sh.trans s,wu g1.wf r.own,λc hc=>?_⟩ ⟨rfl,r.rep s λc hc=>by unfold wx;rw[if_pos hc]⟩ ⟨p9,λ_ h=>CY h⟩ q;unfold wx at hc;split at hc
  ·rename_i m;exact .inr (f1.2 c m).2
  ·exact g1.new c hc
def E4(ys:List D)(x:D):Bool:=ys.any λz=>iO z x
def Td(neg:Bool):W2:=λ_ x _ y Q=>∃ ys,(y=.list ys\/y=.tup ys)/\dP 12 x=true/\dP 12 y=true/\Q .sh (.bl (if neg then !E4 ys x else E4 ys x))
def Wa(K:aC)(neg:Bool):R2:=λx y H Q=>∃ d e xs,L2.Rep K H d x/\L2.Rep K H e y/\(e=.list xs\/e=.tuple xs)/\d.canLay0=true/\PyData.canLayAll0 xs=true/\d.depth<=60/\Q (.bl (if neg then !(xs.any λz=>PyData.eqv z d) else xs.any λz=>PyData.eqv z d)) H
theorem xT(hu:X.A.units+64<fe):eI X (hJ .NotIn) (Wa X.K true):=by
 walk_at"c";obtain⟨d,e,xs,h1,h2,h3,h4,h5,h6,q⟩:=h;obtain⟨as,r1⟩:=h1.reads I rx;obtain⟨bs,r2⟩:=h2.reads I ry;rcases h3 with rfl|rfl
 ·exact PySem.SeqAt.notIn_list_reads r2 r1 h5 h4 (by lia) ⟨.bl _,H,I,rfl,q⟩
 ·exact PySem.SeqAt.notIn_tuple_reads r2 r1 h5 h4 (by lia) ⟨.bl _,H,I,rfl,q⟩
theorem Ft(hK:X.K=K:=by rfl)(hu:X.A.units+64<fe:=by assumption):eI X (hJ .NotIn) (Wa K true):=by subst hK;exact xT hu
theorem Fp(ys:List D)(x:D):((nL ys).any λz=>PyData.eqv z x.py)=E4 ys x:=by
 induction ys with
 |nil=>rfl
 |cons y ys ih =>rw[nL,D9,ih];rfl
theorem Gh:k9 K (Wa K neg) (Td neg):=by
 walk_at"a";obtain⟨ys,hy,o1,o2,q⟩:=h;have l1:=iz 12 x o1;have l2:=iz 12 y o2;refine⟨x.py,y.py,nL ys,(rx.rep w).l2 o1,(ry.rep w).l2 o2,?_,l1.1,?_,by lia,?_⟩
 ·rcases hy with rfl|rfl
  ·exact .inl rfl
  ·exact .inr rfl
 ·rcases hy with rfl|rfl
  ·exact l2.1
  ·exact l2.1
 ·rw[Fp];exact f.sh w (.bl _) q
def LN(o:Option (Option Sl))(k:List D->Prop):Prop:=match o with
 |some (some (.ow true (.list xs)))=>k xs
 |_=>False
def intD(y:D)(k:Int->Prop):Prop:=match y with
 |.int i=>k i
 |_=>False
def QC(d:D):Md:=bif d.flat then .sh else .ow true
end
end L2.Q
namespace L2.Q.R
open PySem PySem.Spec PyProof.Rows L2.Q
section
variable {ρ:Env}{te:WE}{m m':Md}{x:L2.Q.D}{ys:List L2.Q.D}{Q:Md->L2.Q.D->Prop}
theorem Kc:LN (some (some (.ow true (.list ys)))) k=k ys:=rfl
theorem K_:intD (.int i) k=k i:=rfl
theorem ir':Tc te ρ Q=te ρ λm d=>kI m/\Q .sh d:=rfl
theorem Lh:Td neg m x m' (.list ys) Q=(dP 12 x=true/\dP 12 (.list ys)=true/\Q .sh (.bl (if neg then !E4 ys x else E4 ys x))):=by apply propext;exact⟨λ⟨zs,h,a,b,c⟩=>by rcases h with h|h<;>cases h;exact⟨a,b,c⟩,λ⟨a,b,c⟩=>⟨ys,.inl rfl,a,b,c⟩⟩
theorem Kf:Td neg m x m' (.tup ys) Q=(dP 12 x=true/\dP 12 (.tup ys)=true/\Q .sh (.bl (if neg then !E4 ys x else E4 ys x))):=by apply propext;exact⟨λ⟨zs,h,a,b,c⟩=>by rcases h with h|h<;>cases h;exact⟨a,b,c⟩,λ⟨a,b,c⟩=>⟨ys,.inr rfl,a,b,c⟩⟩
end
end L2.Q.R
namespace L2
open PySem PySem.Spec PyProof.Rows
section
variable {prog:d4}{w:eB}{A:fm}{E:ae->ay->Prop}{s:ay}
theorem Df{κ:Type}[DecidableEq κ]{kd:HeapKind prog w κ}{d b:ag}{xs:List (κ × ag × ae)}{k:κ}{r:ae}{Q:ae->ay->Prop}(hu:kd.room A)(hk:kd.is s.heap k b)(hm:s.heap.DictOfH kd d xs)(hz:xs.length<=bS)(h1:∀ p,atKey xs k=some p->Q p.2 { s with toks:=s.toks+kd.draws k }) (h2:atKey xs k=none->∀ h',h'.DictOfH kd d (storedH xs k b r)->Heap.SameBut d s.heap h'->Q r { s with heap:=h',toks:=s.toks+kd.draws k }):aI (aE prog w) A (dictSetDefault d (.ref b) r) Q E s:=by
 obtain⟨o,es,ep,ho,hc,hd,he,qq,hn⟩:=hm;unfold dictSetDefault;try with_reducible refine tJ ?_
 refine aw (kd.pyHash hu hk (aw (wpAny_dictFind_heap (s:={ s with toks:=s.toks+kd.draws k }) hu hk ho hd he qq hn (λno=>?_) λj p hj=>?_)))
 ·have nk:=atKey_none_of_get no;refine aw (AQ (aw (wpAny_updateDictKeys (hz:=by have e:=size_of_entries he;lia) (s:={ s with toks:=s.toks+kd.draws k }) ho hd (bI (h2 nk _ ?_ (Heap.SameBut.update ..))))));rw[storedH_new nk];refine⟨_,_,ep+1,Fs _ ho (Obj.isFreed_of_dict (Obj.data_mapDictKeys hd _)),hc.mapDictKeys _,Obj.data_mapDictKeys hd _,by simp[he,entryOfKey],λx hx=>?_,?_⟩
  ·rcases eR.mp hx with q|q
   ·exact kd.keeps (qq x q) ho hd (Heap.SameBut.update ..)
   ·obtain rfl:=qE.mp q;exact kd.keeps hk ho hd (Heap.SameBut.update ..)
  ·rw[AX];refine ja.mpr ⟨hn,by simp,λx hx y hy e=>?_⟩;obtain rfl:y=k:=by simpa using hy
   exact not_mem_keys_of_get no (e ▸ hx)
 ·refine aw (OG (s:={ s with toks:=s.toks+kd.draws k }) ho hd ?_);rw[entry_at he j,hj];exact aw (AQ (bI (h1 _ (atKey_of_get hn hj))))
theorem Ak{κ:Type}[DecidableEq κ](kd:HeapKind prog w κ)(d b:ag)(hd:(d == oB)=false)(r:ae) :
  MeetsIn prog w (Builtin.«dict.setdefault» ⟨[.ref d,.ref b,r],[]⟩) (λA R s=>kd.room A.in1/\∃ k xs,kd.is s.heap k b/\s.heap.DictOfH kd d xs/\xs.length<=bS /\ (∀ p,atKey xs k=some p->R (.ok (.ret p.2)) { s with toks:=s.toks+kd.draws k }) /\ (atKey xs k=none->∀ h',h'.DictOfH kd d (storedH xs k b r)->Heap.SameBut d s.heap h'->R (.ok (.ret r)) { s with heap:=h',toks:=s.toks+kd.draws k })) :=
 .of_wp λA R s dQ=>by obtain⟨hu,k,xs,hk,hm,hz,h1,h2⟩:=dQ;unfold Builtin.«dict.setdefault» Builtin.Dict.keyAndDefault;refine aw (aw (wpAny_notOrdered_dict hm.typeIs ?_));refine(show aI _ _ (pure (d,Value.ref b,some r)) _ _ s from bI ?_);refine(show aI _ _ (if (d == oB)=true then _ else (dictSetDefault d (Value.ref b) r >>= _)) _ _ s from ?_);rw[if_neg (by rw[hd];decide)];exact aw (Df hu hk hm hz (λp q=>bI ⟨p.2,rfl,h1 p q⟩) λq h' a c=>bI ⟨r,rfl,h2 q h' a c⟩)
end
section
variable {X:Cx}{pins:List (ag × Obj)}{σ:St}{H:Hp}{s:ay}{a b:ag}{A:fm}{E:ae->ay->Prop}
theorem Ae(hu:A.units+1<fe)(I:Inv X pins σ H s)(e:H a=some (.dT kvs))(eb:H b=some (.tup (k.map kV)))(hl:kvs.length<bS)(rv:RelV v r)(h1:∀ v' w' s',hV kvs k=some v'->Inv X pins σ H s'->RelV v' w'->Q w' s') (h2:hV kvs k=none->∀ s',Inv X pins σ (upd H a (.dT (putK kvs k v))) s'->Q r s') :
  aI (aE X.prog X.w) A (call (.builtin "dict.setdefault") [.ref a,.ref b,r]) Q E s:=by
 obtain⟨z,hd,xs,rel,dd⟩:=ZO I.b6 e;have hz:xs.length<=bS:=by rw[<- Paired.length rel];exact z
 have hp:(putK kvs k v).length<=bS:=by have:=R4 kvs k v;lia
 have vl:=rel.val k;refine call_meetsIn PySem.F.slot_dict_setdefault dd.typeIs PySem.F.entry_dict_setdefault (PySem.F.args_dict_setdefault_3 _ _ _) (Ak (AR (iL X.prog X.w)) a b hd r) ⟨Iq hu,k,xs,GA I.b6 eb,dd,hz,λp iN=>?_,λhn h' EJ hs=>?_⟩
 ·rw[iN] at vl
  cases ev:hV kvs k with
  |none=>rw[ev] at vl;exact(vl:False).elim
  |some v'=>rw[ev] at vl;exact h1 v' _ _ ev (I.tok _) vl
 ·have ev:hV kvs k=none:=by
   rw[hn] at vl
   cases ev:hV kvs k with
   |none=>rfl
   |some v'=>rw[ev] at vl;exact(vl:False).elim
  refine h2 ev _ ?_;obtain⟨q,es,ep,hq,g2,g3,g4,_,g5⟩:=EJ;refine R5 I (by rw[e];exact True.intro) hs ⟨q,hq⟩ ⟨hp,hd,_,(rel.put k eb rv).keeps λc ys ec=>?_,q,es,ep,hq,g2,g3,g4,g5⟩;rw[cy (WC ec e λz=>nomatch z)];exact ec
end
def tSd(td ty tx:TE):TE:=λσ H Q=>td σ H λx H1=>∃ a,x=.ref a/\PD H1 a/\ty σ H1 λy H2=>tx σ H2 λz H3=>∃ kvs k b,H3 a=some (.dT kvs)/\y=.ref b/\H3 b=some (.tup (k.map kV))/\kvs.length<bS /\ (∀ v,hV kvs k=some v->Q v H3)/\(hV kvs k=none->Q z (upd H3 a (.dT (putK kvs k z))))
theorem Jt {X:Cx} (hu:X.A.units+1<fe) (ho:PE X o td) (he:PE X e ty) (hf:PE X f tx) (m:M2 X o "setdefault" apos e f fE):PE X (.Call (.Attribute o "setdefault" apos) [e,f] [] fE) (tSd td ty tx):=by intro pins s σ H Q I h;refine wpAny_Call_method m.base m.few m.line PySem.F.plainAttrs_dict PySem.F.slot_dict_setdefault PySem.F.type_dict_setdefault (cK (ho pins s σ H _ I h) λu s1 dQ=>?_);obtain⟨x,H1,I1,rx,a,ex,d,q1⟩:=dQ;subst ex;cases (show u=Value.ref a from rx);have td:=U4 I1 d;refine⟨td.1,td.2.1,?_⟩;rw[m.trees];refine Calls.callWith_builtin rfl (Calls.evalArgs_plain (Calls.spliced_cons (cK (he pins s1 σ H1 _ I1 q1) λiv s2 cS=>L2.gI cS λy H2 I2 ry q2=>Calls.spliced_cons (cK (hf pins s2 σ H2 _ I2 q2) λfv s3 ⟨z,H3,I3,rz,kvs,k,b,e1,e2,e3,hl,q3,q4⟩=>Calls.spliced_nil ?_))));subst e2;cases (show iv=Value.ref b from ry);exact Ae hu I3 e1 e3 hl rz (λv' w' s' ev I' r'=>⟨v',H3,I',r',q3 v' ev⟩) λev s' I'=>⟨z,_,I',rz,q4 ev⟩
end L2
namespace L2.Q
open PySem PySem.Spec PyProof.Rows
section
variable {X:Cx}{K:aC}{a b c:Expr}{ta tb tc:WE}{pos apos fE:Pos}
def Te(x:D)(f:List (Key × D)->Prop)(g:List (List Key × D)->Prop):Prop:=match x with
 |.dK kvs=>f kvs
 |.dT kvs=>g kvs
 |_=>False
def QD(y:D)(k:List D->Prop):Prop:=match y with
 |.tup ys=>k ys
 |_=>False
def E5(o:Option D)(m n:Md)(z:D)(Q:Md->D->Prop):Prop:=match o with
 |some d=>Q (nS m d) d
 |none=>Q n z
def Ou(ta tb tc:WE):WE:=λρ Q=>ta ρ λm x=>Te x (λkvs=>tb ρ λ_ y=>tc ρ λn z=>∃ k,y.key1=some k/\E5 (eL kvs k) m n z Q) (λkvs=>tb ρ λ_ y=>tc ρ λn z=>QD y λys=>∃ ks,dN ys=some ks/\E5 (eL kvs ks) m n z Q)
theorem tW(hx:lT K (Ou ta tb tc) σ H Qv):ZS (lT K ta) (lT K tb) (lT K tc) σ H Qv:=kN hx λHs ρ ah Q sr h fin=>by
 walk_at"b"
 have got:∀ {o:Option V} {d? : Option D} {H2 H3 aT eS:Hp} {w:V} {n:Md} {z:D} {Cs:List ag},fS bE H1 aT H2->fS aT H2 eS H3->RM K eS H3 n z w Cs->cD eS H2 Cs->(match d? with
   |some d=>∃ v,o=some v/\Rep K H3 d v/\(m=.sh->Rep K eS d v)
   |none=>o=none)->E5 d? m n z Q->Qv (o.getD w) H3:=by
  intro o d? H2 H3 aT eS w n z Cs g2 g3 r3 f3 l q
  cases d? with
  |none=>rw[show o=none from l];exact fin w H3 eS n z Cs ((g1.trans g2).trans g3) r3 (f3.of (g1.trans g2).all) q
  |some d =>obtain⟨v',e,u1,u2⟩:=l;rw[e];exact(Fin.after fin ((g1.trans g2).trans g3)).nS g3.wf u1 u2 q
 have core:∀ G:Hp,bG G H1->(∀ H3 eS,fS bE H1 eS H3->∀ d v,Rep K G d v->Rep K H3 d v/\(m=.sh->Rep K eS d v))->Rep K G x v->∃ a,v=.ref a/\PD H1 a/\lT K tb σ H1 λy H2=>lT K tc σ H2 λz H3=>∃ o,lh H3 a y o/\Qv (o.getD z) H3:=by
  intro G sg up r
  cases r with
  |dK kk s q =>
   refine⟨_,rfl,.inl ⟨_,bG.rd sg s⟩,bE,ρ,ah,_,sr.grow g1,q1,λu H2 aT n y Bs g2 r2 f2 q2=>⟨aT,ρ,ah,_,(sr.grow g1).grow g2,q2,λw H3 eS n3 z Cs g3 r3 f3 q3=>?_⟩⟩;have ry:=(r2.grow g3).rep g3.wf;obtain⟨k,hk,q4⟩:=q3;have ev:=ry.key hk;subst ev;refine⟨_,lh.k' (bG.rd (g2.trans g3).all (bG.rd sg s)),got g2 g3 r3 f3 ?_ q4⟩;have z:=zip_get (k:=k) q;split
   ·rename_i d e;rw[e] at z;obtain⟨v',e',r'⟩:=z;exact⟨v',e',up _ _ (g2.trans g3) _ _ r'⟩
   ·rename_i e;rw[e] at z;exact z
  |dT kk s q =>
   refine⟨_,rfl,.inr ⟨_,bG.rd sg s⟩,bE,ρ,ah,_,sr.grow g1,q1,λu H2 aT n y Bs g2 r2 f2 q2=>⟨aT,ρ,ah,_,(sr.grow g1).grow g2,q2,λw H3 eS n3 z Cs g3 r3 f3 q3=>?_⟩⟩;have ry:=(r2.grow g3).rep g3.wf
   cases ry with
   |tup t2 e2 p2 =>
    obtain⟨k,hk,q4⟩:=q3;obtain⟨b',eb,e3⟩:=Rep.kg (.tup t2 e2 p2) hk;cases eb;refine⟨_,lh.t' (bG.rd (g2.trans g3).all (bG.rd sg s)) e3,got g2 g3 r3 f3 ?_ q4⟩;have z:=zip_get (k:=k) q;split
    ·rename_i d e;rw[e] at z;obtain⟨v',e',r'⟩:=z;exact⟨v',e',up _ _ (g2.trans g3) _ _ r'⟩
    ·rename_i e;rw[e] at z;exact z
   |_=>exact q3.elim
  |_=>exact q1.elim
 rcases r1.here g1.wf with⟨hm,r⟩|⟨hm,r⟩
 ·exact core bE g1.wf.sub (λH3 eS g d v q=>⟨q.same (g1.wf.sub.trans g.all),λ_=>q.same g.sh⟩) r
 ·exact core H1 (bG.refl H1) (λH3 eS g d v q=>⟨q.same g.all,λz=>absurd z hm⟩) r
theorem Jf (ha:QE X K a ta) (hb:QE X K b tb) (hc:QE X K c tc) (hm:M2 X a "get" apos b c fE:=by exact⟨rfl,rfl,rfl,rfl⟩) (hu:X.A.units+64<fe:=by assumption):QE X K (.Call (.Attribute a "get" apos) [b,c] [] fE) (Ou ta tb tc) :=
 PE.imp (fe' (by lia) ha hb hc hm) λσ H Qv hx=>tW hx
theorem FN (ha:QE X K a ta) (hb:QE X K b tb) (hm:M1 X a "get" apos b fE:=by exact⟨rfl,rfl,rfl,rfl⟩) (hu:X.A.units+64<fe:=by assumption):QE X K (.Call (.Attribute a "get" apos) [b] [] fE) (Ou ta tb (wC .non)) :=
 PE.imp (fd' (by lia) ha hb hm) λσ H Qv hx=>sW (tW hx) λx H1 ⟨a,e,d,q⟩=>⟨a,e,d,sW q λy H2 q2=>kN q2 λHs ρ ah Q sr q f=>f .non H2 Hs .sh .non [] (fS.refl sr.wf) ⟨rfl,.non⟩ ⟨p9,λ_ h=>CY h⟩ q⟩
def QF(d x:D):D:=match d with
 |.list xs=>.list (xs++[x])
 |d=>d
def mI:List (List Key × D)->List Key->D->List (List Key × D)
 |[],k,x=>[(k,.list [x])]
 |p :: r,k,x=>if p.1=k then (p.1,QF p.2 x) :: r else p :: mI r k x
def Ov(kvs:List (List Key × D))(k:List Key):List (List Key × D):=match eL kvs k with
 |some _=>kvs
 |none=>kvs++[(k,.list [])]
def Bp:Option D->Prop
 |none=>True
 |some (.list xs)=>xs.length<bS
 |_=>False
def Tf(o:Option (Option Sl))(k:List (List Key × D)->Prop):Prop:=match o with
 |some (some (.ow true (.dT kvs)))=>k kvs
 |_=>False
def Tg(i:Nat)(tk te:WE):WS:=λE ρ=>Tf ρ[i]? λkvs=>tk ρ λ_ y=>QD y λys=>∃ ks,dN ys=some ks/\kvs.length<bS/\Bp (eL kvs ks) /\
 te (ρ.set i (some (.ow true (.dT (Ov kvs ks))))) λ_ x=>x.flat=true/\E.nx (ρ.set i (some (.ow true (.dT (mI kvs ks x)))))
theorem bj{κ β:Type}[DecidableEq κ](p:κ × β)(r:List (κ × β))(k:κ):eL (p :: r) k=if p.1=k then some p.2 else eL r k:=by by_cases h:p.1=k<;>simp[eL,h]
theorem GR:∀ {kvs:List (List Key × D)},eL kvs k=some d->∃ j,(kvs.map (·.2))[j]? = some d/\(∀ vs:List V,vs.length=kvs.length->hV ((kvs.map (·.1)).zip vs) k=vs[j]?) /\
  ∀ x,(mI kvs k x).map (·.1)=kvs.map (·.1)/\(mI kvs k x).map (·.2)=(kvs.map (·.2)).set j (QF d x)
 |[],h=>by simp[eL] at h
 |p :: kvs,h=>by
  rw[bj] at h;by_cases e:p.1=k
  ·rw[if_pos e] at h;cases h;refine⟨0,rfl,λvs hl=>?_,λx=>?_⟩
   ·cases vs with
    |nil=>cases hl
    |cons v vs=>exact yb (p:=(p.1,v)) e
   ·simp[mI,e]
  ·rw[if_neg e] at h;obtain⟨j,h1,h2,h3⟩:=GR h;refine⟨j+1,by simpa using h1,λvs hl=>?_,λx=>?_⟩
   ·cases vs with
    |nil=>cases hl
    |cons v vs =>show hV ((p.1,v) :: (kvs.map (·.1)).zip vs) k=_;rw[yi (p:=(p.1,v)) e,h2 vs (by simpa using hl)];rfl
   ·simp[mI,e,h3 x]
theorem pO:∀ {kvs:List (List Key × D)},eL kvs k=none->eL (kvs++[(k,d)]) k=some d
 |[],_=>by simp[eL]
 |p :: kvs,h=>by
  rw[bj] at h;by_cases e:p.1=k
  ·rw[if_pos e] at h;cases h
  ·rw[if_neg e] at h;rw[Rg,bj,if_neg e,pO h]
theorem sV:∀ {kvs:List (List Key × D)},eL kvs k=none->mI (kvs++[(k,.list [])]) k x=mI kvs k x
 |[],_=>by simp[mI,QF]
 |p :: kvs,h=>by
  rw[bj] at h;by_cases e:p.1=k
  ·rw[if_pos e] at h;cases h
  ·rw[if_neg e] at h;rw[Rg,mI,mI,if_neg e,if_neg e,sV h]
theorem eC.place(sr:eC K Hs ρ σ H ah)(e:ρ[i]? = some (some (.ow fl d))):∃ v,σ[i]? = some (some v)/\Place K Hs H σ fl d v λfl2 d2=>ρ.set i (some (.ow fl2 d2)):=by obtain⟨v,As,t,e2,ne,r,sb,g⟩:=SR.put i sr.sr e sr.rj;refine⟨v,e2,As,r,ne,sb.nodup sr.rj,λa h=>sr.own a (sb.subset h),λaT H2 fl2 d2 g7 s2 w2 n2 _ r2 ne2 mG o2 st=>?_⟩;obtain⟨t2,x,y,z⟩:=g aT H2 fl2 d2 g7 s2 r2 ne2 mG (λa ha m=>(o2 a ha).2.elim id λq=>absurd q (sr.sr.own a m).ne) λa ha m=>st a (sr.sr.own a ha).ne m;exact⟨t2,z,w2,x,λa h=>(y a h).elim (λq=>n2 a (sr.own a q) (sr.sr.own a q).ne) λq=>(o2 a q).1⟩
theorem rY(sr:eC K Hs ρ σ H ah)(e1:ρ[i]? = some (some (.ow true (.dT kvs))))(hg:eL kvs ks=some (.list xs)) :
  ∃ a Ow c ws,σ[i]? = some (some (.ref a))/\H a=some (.dT Ow)/\hV Ow ks=some (.ref c)/\H c=some (.lst ws)/\ws.length=xs.length /\
   ∀ x y,x.flat=true->Rep K Hs x y->ws.length<bS->∃ e7,eC K Hs (ρ.set i (some (.ow true (.dT (mI kvs ks x))))) σ (upd H c (.lst (ws++[y]))) e7:=by
 obtain⟨v,e2,pl⟩:=sr.place e1;obtain⟨gy,r,ne,nd,own,k⟩:=pl.ex
 cases r with
 |sh hf _=>exact absurd rfl ne
 |@dT a0 vs _ A kk e rs =>
  obtain⟨na,nA⟩:=k7.mp nd;obtain⟨j,ej,ev,es⟩:=GR hg;obtain⟨w,B,e3,r3,sb,g⟩:=rs.at ej nA;have hl:vs.length=kvs.length:=by have:=rs.length;rw[b5] at this;exact this.symm
  cases r3 with
  |sh hf _=>exact absurd (hf rfl) (by simp[D.flat])
  |@list c ws _ B' hz ec HM =>
   have cA:c∈A:=sb.subset cE;refine⟨a0,_,c,ws,e2,e,(ev vs hl).trans e3,ec,HM.length.symm,λx y hx rx hw=>?_⟩;have hca:a0≠c:=λz=>na (z ▸ cA);obtain⟨nc,nB⟩:=k7.mp (sb.nodup nA);have r4:cf K Hs (upd H c (.lst (ws++[y]))) true (.list (xs++[x])) (.ref c) (c :: B'):=by have:=(HM.fA (H':=upd H c (.lst (ws++[y]))) (bG.refl _) λb hb=>cy λz=>nc (z ▸ hb)).append (aB.cons (As:=[]) (.sh (λ_=>hx) rx) .nil);rw[pV,pV] at this;exact .list (by rw[oo];exact hw) ft this
   obtain⟨g7,n2,y2,_,r5⟩:=g Hs (upd H c (.lst (ws++[y]))) true _ _ (bG.refl _) id r4 (sb.nodup nA) (λ_ h _=>h) (λb _ nb=>cy λz=>nb (z ▸ cE));have in2:∀ b∈g7,b∈A:=λb hb=>(y2 b hb).elim (λq=>q.1) λq=>sb.subset q;obtain⟨k1,k2⟩:=es x;have kl:(mI kvs ks x).length=kvs.length:=by have:=congrArg List.length k1;simpa using this
   refine k Hs _ true (.dT (mI kvs ks x)) (a0 :: g7) (bG.refl _) (sI sr.wf (own c (df _ cA)) λ_ z=>nomatch z) (λ_ h _=>h) id (.dT (vs:=vs) ⟨by rw[kl];exact kk.1,λp hp=>?_⟩ (by rw[cy hca,k1];exact e) (by rw[k2];exact r5)) (by simp) (k7.mpr ⟨λz=>na (in2 _ z),n2⟩) (λb hb=>?_) λb _ nb=>cy λz=>nb (z ▸ df _ cA)
   ·have:p.1∈kvs.map (·.1):=k1 ▸ List.mem_map_of_mem hp;obtain⟨p',iN,e'⟩:=cw.mp this;rw[<- e'];exact kk.2 p' iN
   ·have DI:b∈a0 :: A:=(eK.mp hb).elim (λz=>z ▸ cE) λz=>df _ (in2 b z);exact⟨own b DI,.inl DI⟩
theorem BK{te:WE}{Hs H:Hp}{ρ:Env}{σ:St}{ah:List ag}{i:Nat}{kvs:List (List Key × D)}{ks:List Key}{xs:List D}{a:ag}{Ow:List (List Key × V)}{v':V}{R:Env->Prop}{G:Hp->Prop}(sr:eC K Hs ρ σ H ah)(e1:ρ[i]? = some (some (.ow true (.dT kvs))))(hg:eL kvs ks=some (.list xs))(hz:xs.length<bS)(eσ:σ[i]? = some (some (.ref a))) (eH:H a=some (.dT Ow)) (ev:hV Ow ks=some v') (q:te ρ λ_ x=>x.flat=true/\R (ρ.set i (some (.ow true (.dT (mI kvs ks x)))))) (k1:∀ H' ax b4 cv,bG Hs ax->eC K ax b4 σ H' cv->R b4->G H') :
  R1 K "list" v' H/\UK (lT K te) UJ σ H λus H2=>ZI v' us H2 λ_ H3=>G H3:=by
 obtain⟨a',kv',c,ws,f1,f2,f3,f4,f5,f6⟩:=rY sr e1 hg;have ea:a'=a:=by rw[f1] at eσ;cases eσ;rfl
 subst ea;have ek:kv'=Ow:=by rw[f2] at eH;cases eH;rfl
 subst ek;have e':v'=.ref c:=by rw[f3] at ev;cases ev;rfl
 subst e';refine⟨.inl ⟨rfl,_,.inl (.inl f4)⟩,Hs,ρ,ah,_,sr,q,λy H2 aT m x Cs g2 r2 fr2 q2=>?_⟩;obtain⟨hx,q2⟩:=q2;obtain⟨b',kv2,c2,ws2,h1,h2,h3,h4,h5,h6⟩:=rY (sr.grow g2) e1 hg;have ea:b'=a':=by rw[f1] at h1;cases h1;rfl
 subst ea;have ek:kv2=kv':=by rw[g2.all _ _ f2] at h2;cases h2;rfl
 subst ek;have e':c2=c:=by rw[f3] at h3;cases h3;rfl
 subst e';obtain⟨e7,hU⟩:=h6 x y hx (r2.flat g2.wf hx) (by lia);exact⟨c2,ws2,y,rfl,rfl,h4,by lia,k1 _ aT _ e7 g2.sh hU q2⟩
theorem set_own{α:Type}{ρ:List α}{i:Nat}{x:α}(h:ρ[i]? = some x):ρ.set i x=ρ:=by
 apply B5;intro j;rw[List.getElem?_set];split
 ·rename_i e;subst e;have:=(jS.mp h).1;rw[if_pos this,h]
 ·rfl
theorem JZ {L:Str->Hp->Prop} {i:Nat} {p1 p2 p3 p4 p5:Pos} (he:PE X a (FK i)) (hb:QE X K b tb) (hc:QE X K c tc) (hK:X.K=K:=by rfl) (hm:M2 X a "setdefault" p1 b (.List [] p2) p3:=by exact⟨rfl,rfl,rfl,rfl⟩) (hs:xA (.Call (.Attribute (.Call (.Attribute a "setdefault" p1) [b,.List [] p2] [] p3) "append" p4) [c] [] p5) none pos.line X.env=pure false:=by rfl) (x8:B4 (.Call (.Attribute a "setdefault" p1) [b,.List [] p2] [] p3) "append" X.env (dr (.Call (.Attribute a "setdefault" p1) [b,.List [] p2] [] p3) X.env)=dr (.Call (.Attribute a "setdefault" p1) [b,.List [] p2] [] p3) X.env:=by rfl) (ya:((k6 p5 (cc [c] X.env)).all (λx=>!x.1) && (backToKw p5 (Fh [] X.env)).all (λx=>x.1.isSome)
   && decide ([c].length+([]:List sD).length+(if ([]:List sD).isEmpty then 0 else 1)<30))=true:=by rfl)
  (hline:(p4.endLine == p5.line)=true:=by rfl) (AI:cc (c :: []) X.env=(false,dr c X.env) :: cc [] X.env:=by rfl) (EH:(k6 p5 (cc [] X.env)).any (·.1)=false:=by rfl) (hu:X.A.units+64<fe:=by assumption) :
  QS X K L (.Expr (.Call (.Attribute (.Call (.Attribute a "setdefault" p1) [b,.List [] p2] [] p3) "append" p4) [c] [] p5) pos) (Tg i tb tc):=by
 subst hK;refine PS.imp (RH (Py PySem.F.plainAttrs_list PySem.F.slot_list_append PySem.F.type_list_append R3 (Jt (by lia) he hb (iH (K:=X.K) au) hm) (tT hc x5 AI) x8 ya hline AI EH) hs) λD σ H hx=>dB hx λHs ρ ah E sr h k1 k2 k3 k4=>?_;unfold Tg Tf at h;split at h
 ·rename_i kvs e1;obtain⟨v,e2,pl⟩:=sr.place e1;obtain⟨gy,r,ne,nd,own,k⟩:=pl.ex;have lv:∀ x∈gy,Hs x=none/\H x≠none:=λx hx=>⟨own x hx,(r.own x hx).ne⟩
  cases r with
  |sh hf _=>exact absurd rfl ne
  |@dT a0 vs _ A kk e rs =>
   refine⟨_,e2,a0,rfl,.inr ⟨_,.inl e⟩,Hs,ρ,ah,_,sr,h,λu H2 aT m y Bs g2 r2 f2 q2=>?_⟩;refine⟨aT,ρ,ah,λm d=>m=.ow true/\d=.list [],sr.grow g2,⟨fz _,rfl,rfl⟩,λw H3 eS n z Cs g3 r3 f3 q3=>?_⟩;obtain⟨rfl,rfl⟩:=q3;have ry:=(r2.grow g3).rep g3.wf
   cases ry with
   |tup t2 ey p2 =>
    obtain⟨ks,hk,hz,ui,q⟩:=q2;obtain⟨b',eb,e3⟩:=Rep.kg (.tup t2 ey p2) hk;cases eb;have g:=g2.trans g3;have hl:kvs.length=vs.length:=by have:=rs.length;rwa[b5] at this
    have srg:=sr.grow g;have zg:=zip_get (k:=ks) (rs.reps (G:=H) sr.wf.sub λ_ _=>rfl);refine⟨_,ks,_,g.all _ _ e,rfl,e3,by rw[OZ,b5,<- hl,O3];exact hz,λv' ev=>?_,λev=>?_⟩
    ·cases hg:eL kvs ks with
     |none=>rw[hg] at zg;rw[zg] at ev;cases ev
     |some d =>
      rw[hg] at ui
      cases d with
      |list xs =>rw[show Ov kvs ks=kvs by unfold Ov;rw[hg],set_own e1] at q;exact BK (G:=λH'=>D.nx σ H') srg e1 hg ui e2 (g.all _ _ e) ev q λH' ax b4 cv s1 s2 q'=>k1 σ H' ax b4 cv (g.sh.trans s1) s2 q'
      |_=>exact ui.elim
    ·have hg:eL kvs ks=none:=by
      cases hg:eL kvs ks with
      |none=>rfl
      |some d=>rw[hg] at zg;obtain⟨v',z,_⟩:=zg;rw[z] at ev;cases ev
     rw[show Ov kvs ks=kvs++[(ks,.list [])] by unfold Ov;rw[hg]] at q;obtain⟨r3,_⟩:=r3
     cases r3 with
     |sh hf _=>exact absurd (hf rfl) (by simp[Q.D.flat])
     |@list c ws _ B' hw ec HM =>
      cases HM;obtain⟨na,nA⟩:=k7.mp nd;have fc:=f3.2 c cE;have Ti:H c=none:=g2.all.free fc.2;have cA:∀ b∈a0 :: A,b≠c:=λb hb z=>by
       subst z;rcases eK.mp hb with rfl|hb
       ·rw[e] at Ti;cases Ti
       ·exact(rs.own _ hb).ne Ti
      have ek:putK ((kvs.map (·.1)).zip vs) ks (V.ref c)=((kvs++[(ks,Q.D.list [])]).map (·.1)).zip (vs++[V.ref c]):=by have:=Pz ks ((kvs.map (·.1)).zip vs);rw[ev] at this;unfold putK;rw[this,if_neg (by decide),AX,List.zip_append (by rw[b5];exact hl)];rfl
      obtain⟨kl,ko⟩:=tY p2 hk;have l1:=p2.length;have rs3:=rs.grow g.sh g.all;have rs4:aB X.K eS (upd H3 a0 (.dT (((kvs++[(ks,Q.D.list [])]).map (·.1)).zip (vs++[V.ref c])))) true ((kvs++[(ks,Q.D.list [])]).map (·.2)) (vs++[V.ref c]) (A++[c]):=by have q1:=rs3.fA (H':=upd H3 a0 (.dT (((kvs++[(ks,Q.D.list [])]).map (·.1)).zip (vs++[V.ref c])))) (bG.refl _) λb hb=>cy λz=>na (z ▸ hb);have q2:=q1.append (aB.cons (cf.list (ds:=[]) (As:=[]) hw ((cy λz=>cA a0 cE z.symm).trans ec) .nil) .nil);rw[show(kvs++[(ks,Q.D.list [])]).map (·.2)=kvs.map (·.2)++[Q.D.list []] by simp];exact q2
      obtain⟨e7,hU⟩:=k.node (fl2:=true) (d2:=.dT (kvs++[(ks,.list [])])) (C:=A++[c]) g lv (λ_ z=>by cases z) id (.dT ⟨by rw[oo];exact hz,λp hp=>(eR.mp hp).elim (kk.2 p) λz=>by
        obtain rfl:p=(ks,.list []):=by simpa using z
        exact⟨by show ks.length<=_;lia,ko⟩⟩ ft rs4)
       (ja.mpr ⟨nA,by simp,λx hx y hy z=>cA x (df _ hx) (by rw[z];simpa using hy)⟩) (λz=>(eR.mp z).elim na λz=>cA a0 cE (by simpa using z))
       (λx hx=>(eR.mp hx).imp id λz=>by
        obtain rfl:x=c:=by simpa using z
        exact⟨fc.1,Ti⟩)
      rw[ek];have hi:i<ρ.length:=(jS.mp e1).1;refine BK (G:=λH'=>D.nx σ H') (R:=E.nx) (kvs:=kvs++[(ks,.list [])]) (xs:=[]) hU (by simp[hi]) (pO hg) (by rw[jI];decide) e2 ft (by rw[<- ek,eF',if_pos rfl]) ?_ λH' ax b4 cv s1 s2 q'=>k1 σ H' ax b4 cv (g.sh.trans s1) s2 q';simp only[List.set_set,sV hg];exact q
   |_=>exact q2.elim
 ·exact h.elim
end
end L2.Q
namespace L2
open PySem PySem.Spec PyProof.Rows
end L2
namespace L2.Q
open PySem PySem.Spec PyProof.Rows
section
variable {K:aC}{a b c:Expr}
def iA'(d:D)(k:List (Key × D)->Prop):Prop:=match d with
 |.dK kvs=>k kvs
 |_=>False
theorem SR.take(i:Nat)(s:SR K Hs H ρ σ ah):ρ[i]? = some (some (.ow fl d))->ah.Nodup ->
  ∃ (v:V) (As cv:List ag),σ[i]? = some (some v)/\cf K Hs H fl d v As/\As.Sublist ah/\cv.Sublist ah/\(∀ a∈As,a∉cv)/\SR K Hs H (ρ.set i none) σ cv:=by
 induction s generalizing i with
 |nil=>intro e;simp at e
 |non q ih =>
  intro e n
  cases i with
  |zero=>simp at e
  |succ i =>obtain⟨v,As,t,o,a,b,c,d,f⟩:=ih i e n;exact⟨v,As,t,o,a,b,c,d,.non f⟩
 |sh r q ih =>
  intro e n
  cases i with
  |zero=>simp at e
  |succ i =>obtain⟨v,As,t,o,a,b,c,d,f⟩:=ih i e n;exact⟨v,As,t,o,a,b,c,d,.sh r f⟩
 |xc q ih =>
  intro e n
  cases i with
  |zero=>simp at e
  |succ i =>obtain⟨v,As,t,o,a,b,c,d,f⟩:=ih i e n;exact⟨v,As,t,o,a,b,c,d,.xc f⟩
 |ow ne r q ih =>
  intro e n;walk_at"e"
  cases i with
  |zero =>simp at e;obtain⟨rfl,rfl⟩:=e;exact⟨_,_,_,rfl,r,OL _ _,n4 _ _,λa h m=>n3 a h a m rfl,.non q⟩
  |succ i =>obtain⟨v,As,t,o,a,b,c,d,f⟩:=ih i e n2;exact⟨v,As,_,o,a,b.trans (n4 _ _),c.append_left _,gQ n b d,.ow ne r f⟩
 |lk ne r q ih =>
  intro e n;walk_at"e"
  cases i with
  |zero=>simp at e
  |succ i =>obtain⟨v,As,t,o,a,b,c,d,f⟩:=ih i e n2;exact⟨v,As,_,o,a,b.trans (n4 _ _),c.append_left _,gQ n b d,.lk ne r f⟩
 |ob r q ih =>
  intro e n;walk_at"e"
  cases i with
  |zero=>simp at e
  |succ i =>obtain⟨v,As,t,o,a,b,c,d,f⟩:=ih i e n2;exact⟨v,As,_,o,a,b.trans (n4 _ _),c.append_left _,gQ n b d,.ob r f⟩
theorem Bt(h:LN o k):∃ xs,o=some (some (.ow true (.list xs)))/\k xs:=by
 unfold LN at h;split at h
 ·exact⟨_,rfl,h⟩
 ·exact h.elim
theorem Dg(kQ:i≠j)(sr:eC K Hs ρ σ H ah)(ei:ρ[i]? = some (some (.ow true (.list hs))))(ej:ρ[j]? = some (some (.ow true (.list xs))))(fl:dS xs=true) (Ot:hs.length<bS) :
  ∃ a ws c vs e7,σ[i]? = some (some (.ref a))/\H a=some (.lst ws)/\ws.length<bS/\σ[j]? = some (some (.ref c))/\upd H a (.lst (ws++[.ref c])) c=some (.lst vs)/\bT K Hs xs vs/\vs.length<=bS /\
   eC K Hs ((ρ.set j none).set i (some (.ow true (.list (hs++[.list xs]))))) σ (upd H a (.lst (ws++[.ref c]))) e7:=by
 obtain⟨v,As,cv,e1,r,sb,st,dj,s1⟩:=SR.take j sr.sr ej sr.rj;have ei':(ρ.set j none)[i]? = some (some (.ow true (.list hs))):=by rw[Q_ (Ne.symm kQ)];exact ei
 obtain⟨u,Ai,_,e2,ne,ri,si,g⟩:=SR.put i s1 ei' (st.nodup sr.rj)
 cases r with
 |sh hf _=>exact absurd (hf rfl) (by simp[D.flat])
 |@list c vs _ B hz ec rs =>
  cases ri with
  |sh _ _=>exact absurd rfl ne
  |@list a ws _ A hw ea ra =>
   have hac:c≠a:=λz=>dj c cE (si.subset (z ▸ cE));have nd1:=si.nodup (st.nodup sr.rj);obtain⟨na,nA⟩:=k7.mp nd1;have ndj:=sb.nodup sr.rj;have dA:∀ x∈c :: B,x∉a :: A:=λx hx m=>dj x hx (si.subset m);have nB:∀ x∈c :: B,x≠a:=λx hx z=>dA x hx (z ▸ cE);have hl:=ra.length;have r3:cf K Hs (upd H a (.lst (ws++[.ref c]))) true (.list (hs++[.list xs])) (.ref a) (a :: (A++((c :: B)++[]))):=by refine .list (by rw[oo,<- hl];exact Ot) ft ((ra.fA (H':=upd H a (.lst (ws++[.ref c]))) (bG.refl _) λb hb=>cy λz=>na (by subst z;exact hb)).append (.cons (.list hz ((cy hac).trans ec) (rs.fA (bG.refl _) λb hb=>cy (nB b (df _ hb)))) .nil))
   obtain⟨e7,n2,i2,s2⟩:=g Hs _ true _ _ (bG.refl _) r3 (by simp) (k7.mpr ⟨λm=>(eR.mp m).elim na λm=>nB a (by simpa using m) rfl,ja.mpr ⟨nA,by simpa using ndj,λx hx y hy e=>dA y (by simpa using hy) (e ▸ df _ hx)⟩⟩) (λb hb m=>by
     rcases eK.mp hb with rfl|hb
     ·exact cE
     ·rcases eR.mp hb with hb|hb
      ·exact df _ hb
      ·exact absurd m (dj b (by simpa using hb)))
    (λb _ nb=>cy λz=>nb (z ▸ cE))
   have Ha:Hs a=none:=sr.own a (st.subset (si.subset cE));refine⟨a,ws,c,vs,e7,e2,ea,by lia,e1,(cy hac).trans ec,(rs.reps sr.wf.sub λ_ _=>rfl).eY sr.wf.i3 fl,hz,s2,sI sr.wf Ha (λ_ z=>nomatch z),n2,λb hb=>?_⟩;rcases i2 b hb with m|m
   ·exact sr.own b (st.subset m)
   ·rcases eK.mp m with rfl|m
    ·exact Ha
    ·rcases eR.mp m with m|m
     ·exact sr.own b (st.subset (si.subset (df _ m)))
     ·exact sr.own b (sb.subset (by simpa using m))
end
end L2.Q
namespace L2.Q.R
open PySem PySem.Spec PyProof.Rows L2.Q
section
variable {ρ:Env}{E:ou}{te tb tc tk:WE}{m:Md}{x y:L2.Q.D}{ys:List L2.Q.D}{Q:Md->L2.Q.D->Prop}{i k:Nat}
theorem NT{kvs:List (Key × L2.Q.D)}{k:List (Key × L2.Q.D)->Prop}:iA' (.dK kvs) k=k kvs:=rfl
theorem NP:Ou te tb tc ρ Q=te ρ λm x=>cp x (f:=λx=>Te x (λkvs=>tb ρ λ_ y=>tc ρ λn z=>∃ k,y.key1=some k/\E5 (eL kvs k) m n z Q) (λkvs=>tb ρ λ_ y=>tc ρ λn z=>cp y (f:=λy=>QD y λys=>∃ ks,dN ys=some ks/\E5 (eL kvs ks) m n z Q) ⟨⟩)) ⟨⟩:=rfl
theorem M8:Te (.dK kvs) f g=f kvs:=rfl
theorem Nm:Te (.dT kvs) f g=g kvs:=rfl
theorem MT{k:List L2.Q.D->Prop}:QD (.tup ys) k=k ys:=rfl
theorem iE':Tg i tk te E ρ=cp ρ[i]? (f:=λo=>Tf o λkvs=>tk ρ λ_ y=>cp y (f:=λy=>QD y λys=>∃ ks,dN ys=some ks/\kvs.length<bS/\Bp (eL kvs ks) /\
 te (ρ.set i (some (.ow true (.dT (Ov kvs ks))))) λ_ x=>x.flat=true/\E.nx (ρ.set i (some (.ow true (.dT (mI kvs ks x)))))) ⟨⟩) ⟨⟩:=rfl
theorem Nz{kvs:List (List Key × L2.Q.D)}{k:List (List Key × L2.Q.D)->Prop}:Tf (some (some (.ow true (.dT kvs)))) k=k kvs:=rfl
end
end L2.Q.R
namespace L2
open PySem PySem.Spec PyProof.Rows
section
variable {X:Cx}
def Tj(K:aC):List V->Hp->VK->Prop:=λxs H Q=>match xs with
 |[.ref a]=>∃ bs:List Bool,fw K H a (bs.map V.bl)/\Q (.bl (bs.any id)) H
 |_=>False
theorem wY (hc:X.calm=true):kC X (.builtin "any") (Tj X.K):=by
 walk_at"f";unfold Tj at h;split at h
 ·rename_i a;obtain⟨bs,e,q⟩:=h;obtain⟨u,rfl,ru⟩:=Vals.one r;cases ru;obtain⟨its,rv,pl,hz⟩:=I.list e;have hl:s.heap.IsList a its.toArray:=pl.isList;obtain⟨o,ho,RD,n,Kx⟩:=id hl;have hlen:=rv.length;rw[b5] at hlen;refine call_any_walk (wpAny_pyIter_list hl ?_);have kf:a≠s.heap.objs.size:=gi (fh ho);have E3:X.A.in1.handled=none:=I.ok.hd hc;refine⟨s.heap.objs.size,_,_,_,_,_,λi=>bs.getD i false,rfl,Walks.list E3 s.heap.objs.size a kf its.toArray,⟨⟨_,kK _ rfl,rfl,rfl⟩,⟨_,gd _ ho,RD,n,Kx⟩⟩,?_,λh' tk hk=>?_⟩
  ·intro i v s' Q' E' hv hq;have xa:its[i]? = some v:=by simpa using (show its.toArray[i]? = some v from hv)
   have hi:i<bs.length:=by have:=(jS.mp xa).1;lia
   obtain⟨w',e1,r1⟩:=rv.get (i:=i) (x:=V.bl bs[i]) (by simp[hi]);rw[xa] at e1;cases e1;cases (show v=Value.bool bs[i] from r1);have hq:Q' (bs.getD i false) s':=hq;rw[show bs.getD i false=bs[i] by simp[List.getD,hi]] at hq;exact Iy hq
  ·have e3:((List.range its.toArray.size).any λi=>bs.getD i false)=bs.any id:=by
    rw[kA,<- hlen];apply zv.mpr;simp only[OY,sF,id];constructor
    ·rintro⟨i,hi,h⟩;exact⟨bs[i],AW hi,by simpa[List.getD,hi] using h⟩
    ·rintro⟨b,hb,h⟩;obtain⟨i,hi,rfl⟩:=Rb.mp hb;exact⟨i,hi,by simpa[List.getD,hi] using h⟩
   rw[e3];refine⟨.bl (bs.any id),H,?_,rfl,q⟩;exact I.kept (t':=tk) λb o e=>hk b o (by simp;exact gi (fh e)) (gd _ e)
 ·exact h.elim
end
end L2
namespace L2.Q
open PySem PySem.Spec PyProof.Rows
section
variable {X:Cx}{K:aC}
theorem Wb (hc:X.calm=true:=by rfl) (hK:X.K=K:=by rfl):kC X (.builtin "any") (Tj K):=by subst hK;exact wY hc
theorem yP:mM "any" = some (.builtin "any"):=by decide +kernel
def QH:W1:=λ_ x Q=>match x with
 |.list xs=>∃ bs:List Bool,xs=bs.map D.bl/\Q .sh (.bl (bs.any (λb=>b)))
 |_=>False
theorem vQ:BG K (Tj K) QH:=by
 walk_at"d";have r1:=rx.rep w
 cases r1 with
 |list z s q =>obtain⟨bs,rfl,h⟩:=h;cases Hj q;exact⟨bs,s,f.sh w (.bl _) h⟩
 |_=>exact h.elim
theorem BJ:mM "int" = some (.type "int"):=by decide +kernel
def Tn:W1:=λ_ x Q=>match x with
 |.int i=>Q .sh (.int i)
 |.bl b=>Q .sh (.int (if b then 1 else 0))
 |_=>False
theorem Gj:BG K (λxs H Q=>(∃ i,xs=[.int i]/\Q (.int i) H)\/∃ k,xs=[.bl k]/\Q (.int (if k then 1 else 0)) H) Tn:=by
 walk_at"d";have r1:=rx.rep w
 cases r1 with
 |int i=>exact .inl ⟨i,rfl,f.sh w (.int _) h⟩
 |bl b=>exact .inr ⟨b,rfl,f.sh w (.int _) h⟩
 |_=>exact h.elim
end
end L2.Q
namespace L2.Q.R
open PySem PySem.Spec PyProof.Rows L2.Q
section
variable {m:Md}{Q:Md->L2.Q.D->Prop}{xs:List L2.Q.D}{k:List L2.Q.D->Prop}
def iF'(d:L2.Q.D)(k:List L2.Q.D->Prop):Prop:=match d with
 |.list xs=>k xs
 |_=>False
theorem N6:iF' (.list xs) k=k xs:=rfl
theorem K7:E5 (some d) m n z Q=Q (nS m d) d:=rfl
theorem Lb:E5 none m n z Q=Q n z:=rfl
theorem KY:Tn m (.int i) Q=Q .sh (.int i):=rfl
theorem K4:Tn m (.bl b) Q=Q .sh (.int (if b then 1 else 0)):=rfl
theorem MJ:QH m (.list xs) Q = ∃ bs:List Bool,xs=bs.map L2.Q.D.bl/\Q .sh (.bl (bs.any (λb=>b))):=rfl
end
end L2.Q.R
namespace PySem.SeqAt
open AutoSeq1 (wpAny_loadPart')
open MeetsSeq MeetsSeq2 MeetsSeq3 SeqRoads2
def oy(A:fm)(s:ay)(u v:ae)(b:Bool):Prop:=∀ (prog:d4) (w:eB) (Q:ae->ay->Prop) (E:ae->ay->Prop),Q (.bool b) s->aI (aE prog w) A (richCompare .Lt u v) Q E s
def xh(e f:Nat->Bool)(m n:Nat):Nat->Nat->Bool
 |0,_=>decide (m<n)
 |k+1,i=>if e i then xh e f m n k (i+1) else f i
theorem xm(l b:ag)(items eP:Array ae)(n n2:Nat)(dd t9:Option ag)(sl ua:Array (Option ae))(e f:Nat->Bool)(k:Nat) :
  ∀ i:Nat,min items.size eP.size-i=k->i<=min items.size eP.size->Meets (Builtin.«list.__eq__.loop» ⟨[.ref l,.ref b,mr i,mr 0],[]⟩) (λA R s=>s.heap.get? l=some { cls:=.type "list",dict:=dd,data:=.seq items n,slots:=sl }/\s.heap.get? b=some { cls:=.type "list",dict:=t9,data:=.seq eP n2,slots:=ua } /\ (∀ j (h1:j<items.size) (h2:j<eP.size),EqAt A.in1 s items[j] eP[j] (e j))/\(∀ j (h1:j<items.size) (h2:j<eP.size),e j=false->oy A.in1 s items[j] eP[j] (f j)) /\
    R (.ok (.ret (.bool (xh e f items.size eP.size k i)))) s):=by
 induction k with
 |zero =>
  intro i hk hle prog w A R s h;obtain⟨hp,g,d,tk,os⟩:=s;obtain⟨hl,hb,he,hf,h⟩:=h
  wp_walk using wpAny_loadPart' hl,wpAny_loadPart' hb
  rcases (show items.size<=i\/eP.size<=i by lia) with z|z
  ·have nI:items[((i:Nat):Int).toNat]? = none:=by simp;lia
   rw[nI]
   wp_walk using wpAny_loadPart' hl,wpAny_loadPart' hb
   exact h
  ·have kP:eP[((i:Nat):Int).toNat]? = none:=by simp;lia
   rw[kP];cases items[((i:Nat):Int).toNat]?<;>wp_walk using wpAny_loadPart' hl,wpAny_loadPart' hb<;>exact h
 |succ k ih =>
  intro i hk hle prog w A R s h;obtain⟨hp,g,d,tk,os⟩:=s;obtain⟨hl,hb,he,hf,h⟩:=h
  wp_walk using wpAny_loadPart' hl,wpAny_loadPart' hb
  have d5:i<items.size:=by lia
  have Wc:i<eP.size:=by lia
  have nI:items[((i:Nat):Int).toNat]? = some items[i]:=by simp[d5]
  have kP:eP[((i:Nat):Int).toNat]? = some eP[i]:=by simp[Wc]
  have hc:((i:Int)+1)=((i+1:Nat):Int):=by push_cast;rfl
  rw[nI,kP];refine aw (he i d5 Wc prog w _ _ ?_)
  cases DI:e i with
  |true =>
   rw[xh,DI,if_pos rfl] at h
   wp_walk
   rw[hc];exact⟨Fc plain_eq_loop _,B3 entry_eq_loop (by
    rw[Around.under_plainId plain_eq_loop _];exact ih (i+1) (by lia) (by lia) prog w A R _ ⟨hl,hb,he,hf,h⟩)⟩
  |false =>
   rw[xh,DI,if_neg kB] at h
   wp_walk using wpAny_loadPart' hl,wpAny_loadPart' hb
   rw[nI,kP];refine aw (hf i d5 Wc DI prog w _ _ ?_)
   wp_walk
   exact h
theorem xF(l b:ag)(items eP:Array ae)(n n2:Nat)(dd t9:Option ag)(sl ua:Array (Option ae))(e f:Nat->Bool) :
  Meets (Builtin.«list.__lt__» ⟨[.ref l,.ref b],[]⟩) (λA R s=>s.heap.get? l=some { cls:=.type "list",dict:=dd,data:=.seq items n,slots:=sl }/\s.heap.get? b=some { cls:=.type "list",dict:=t9,data:=.seq eP n2,slots:=ua } /\ (∀ j (h1:j<items.size) (h2:j<eP.size),EqAt A.in1 s items[j] eP[j] (e j))/\(∀ j (h1:j<items.size) (h2:j<eP.size),e j=false->oy A.in1 s items[j] eP[j] (f j)) /\
    R (.ok (.ret (.bool (xh e f items.size eP.size (min items.size eP.size) 0)))) s):=by
 intro prog w A R s h;obtain⟨hp,g,d,tk,os⟩:=s;obtain⟨hl,hb,he,hf,h⟩:=h;have f3:=AutoSeq1.sub_list_list
 wp_walk using wpAny_loadPart' hl,wpAny_loadPart' hb
 exact⟨Fc plain_eq_loop _,B3 entry_eq_loop (by
  rw[Around.under_plainId plain_eq_loop _];exact xm l b items eP n n2 dd t9 sl ua e f _ 0 (Nat.sub_zero _) (fz _) prog w A R _ ⟨hl,hb,he,hf,h⟩)⟩
theorem uF(l b:ag)(items eP:Array ae)(n n2:Nat)(dd t9:Option ag)(sl ua:Array (Option ae))(e f:Nat->Bool) :
  Meets (Builtin.«tuple.__lt__» ⟨[.ref l,.ref b],[]⟩) (λA R s=>s.heap.get? l=some { cls:=.type "tuple",dict:=dd,data:=.seq items n,slots:=sl }/\s.heap.get? b=some { cls:=.type "tuple",dict:=t9,data:=.seq eP n2,slots:=ua } /\ (∀ j (h1:j<items.size) (h2:j<eP.size),EqAt A.in1 s items[j] eP[j] (e j))/\(∀ j (h1:j<items.size) (h2:j<eP.size),e j=false->oy A.in1 s items[j] eP[j] (f j)) /\
    R (.ok (.ret (.bool (xh e f items.size eP.size (min items.size eP.size) 0)))) s) :=
 .of_wp λprog w A R s h=>by
  obtain⟨hp,g,d,tk,os⟩:=s;obtain⟨hl,hb,he,hf,h⟩:=h;have f2:=AutoSeq1.sub_tuple_tuple;have hZ:(items.toList.zip eP.toList).length=min items.size eP.size:=by simp
  wp_walk using wpAny_loadPart' hl,wpAny_loadPart' hb,wpAny_forIn_list _ (λrest b s'=>b.1=none/\s'=⟨hp,g,d,tk,os⟩/\∃ i,rest=(items.toList.zip eP.toList).drop i/\i<=min items.size eP.size /\
   R (.ok (.ret (.bool (xh e f items.size eP.size (min items.size eP.size-i) i)))) ⟨hp,g,d,tk,os⟩) _
  case turn =>
   rintro⟨y,x⟩ rest b s' ⟨DI,rfl,i,hz,hi,hR⟩;have d5:i<(items.toList.zip eP.toList).length:=by
    rcases MR i (items.toList.zip eP.toList).length with h'|h'
    ·exact h'
    ·rw[TX h'] at hz;cases hz
   have hm:i<min items.size eP.size:=hZ ▸ d5;have h1:i<items.size:=oq hm (Nat.min_le_left _ _);have h2:i<eP.size:=oq hm (Nat.min_le_right _ _);rw[xB d5] at hz;injection hz with hyx iG';have hy:y=items[i]:=by have:=congrArg Prod.fst hyx;simpa using this
   have hx:x=eP[i]:=by have:=congrArg Prod.snd hyx;simpa using this
   subst hy hx;rw[show min items.size eP.size-i=(min items.size eP.size-(i+1))+1 by lia,xh] at hR;refine aw (he i h1 h2 prog w _ _ ?_)
   cases hy:e i with
   |true =>
    rw[hy,if_pos rfl] at hR
    wp_walk
    exact⟨rfl,rfl,i+1,iG',hm,hR⟩
   |false =>
    rw[hy,if_neg kB] at hR;simp only[Bool.not_false,if_true];refine aw (AQ ?_);refine aw (hf i h1 h2 hy prog w _ _ ?_)
    wp_walk
    exact⟨_,rfl,hR⟩
  case fin =>
   rintro⟨b1,b2⟩ s' ⟨DI,rfl,i,hz,hi,hR⟩;simp only at DI;subst DI;have rg:min items.size eP.size<=i:=by
    rcases MR i (items.toList.zip eP.toList).length with h'|h'
    ·rw[xB h'] at hz;cases hz
    ·exact hZ ▸ h'
   rw[show min items.size eP.size-i=0 by lia,xh] at hR
   wp_walk
   exact⟨_,rfl,by simpa[Builtin.Tuple.tupleCompareSizes] using hR⟩
  case h =>
   exact⟨rfl,rfl,0,rfl,fz _,h⟩
section
variable {A:fm}{s:ay}
theorem oy.tuples(hl:s.heap.IsTuple l items)(hb:s.heap.IsTuple b eP)(hu:A.units<fe)(he:∀ j (h1:j<items.size) (h2:j<eP.size),EqAt A.in1 s items[j] eP[j] (e j)) (hf:∀ j (h1:j<items.size) (h2:j<eP.size),e j=false->oy A.in1 s items[j] eP[j] (f j)) :
  oy A s (.ref l) (.ref b) (xh e f items.size eP.size (min items.size eP.size) 0):=λprog w Q E h=>by
 obtain⟨⟨cls,dd,data,sl⟩,ho,hc,n,hd⟩:=id hl;obtain⟨⟨UO,t9,data2,ua⟩,pe,A6,n2,hd2⟩:=id hb;simp only at hc hd A6 hd2;subst hc hd A6 hd2;exact richCompare_meets_room (op:=.Lt) ⟨_,ho,rfl⟩ ⟨_,pe,rfl⟩ F.slot_tuple_lt F.entry_tuple_lt (F.args_tuple_lt_2 _ _) (uF l b items eP n n2 dd t9 sl ua e f) ⟨ho,pe,he,hf,show Value.bool _≠Value.notImplemented/\Q (.bool _) s from⟨(λx=>nomatch x),h⟩⟩ hu
theorem oy.lists(hl:s.heap.IsList l items)(hb:s.heap.IsList b eP)(hu:A.units<fe)(he:∀ j (h1:j<items.size) (h2:j<eP.size),EqAt A.in1 s items[j] eP[j] (e j)) (hf:∀ j (h1:j<items.size) (h2:j<eP.size),e j=false->oy A.in1 s items[j] eP[j] (f j)) :
  oy A s (.ref l) (.ref b) (xh e f items.size eP.size (min items.size eP.size) 0):=λprog w Q E h=>by
 obtain⟨⟨cls,dd,data,sl⟩,ho,hc,n,hd⟩:=id hl;obtain⟨⟨UO,t9,data2,ua⟩,pe,A6,n2,hd2⟩:=id hb;simp only at hc hd A6 hd2;subst hc hd A6 hd2;exact richCompare_meets_room (op:=.Lt) ⟨_,ho,rfl⟩ ⟨_,pe,rfl⟩ F.slot_list_lt F.entry_list_lt (F.args_list_lt_2 _ _) (xF l b items eP n n2 dd t9 sl ua e f) ⟨ho,pe,he,hf,show Value.bool _≠Value.notImplemented/\Q (.bool _) s from⟨(λx=>nomatch x),h⟩⟩ hu
theorem oy.int(a:Int)(t:Tok)(b:Int)(u:Tok):oy A s (.int a t) (.int b u) (decide (a<b)):=λprog w Q E h=>(show aI _ _ (hJ .Lt _ _) _ _ _ from PyProof.Rows.lt_int h)
theorem oy.str(a:Str)(t:Tok)(b:Str)(u:Tok):oy A s (.str a t) (.str b u) (decide (a.cps.toList<b.cps.toList)):=λprog w Q E h=>(show aI _ _ (hJ .Lt _ _) _ _ _ from PySem.P.lt_str h)
end
def oz(lt:dE->dE->Bool):List dE->List dE->Bool
 |[],ys=>!ys.isEmpty
 |_ :: _,[]=>false
 |x :: xs,y :: ys=>if PyData.eqv x y then oz lt xs ys else lt x y
def dv:Nat->dE->dE->Bool
 |_,.int i,.int j=>decide (i<j)
 |_,.str x,.str y=>decide (x.cps.toList<y.cps.toList)
 |n+1,.list xs,.list ys=>oz (dv n) xs ys
 |n+1,.tuple xs,.tuple ys=>oz (dv n) xs ys
 |_,_,_=>false
def qA:Nat->dE->dE->Prop
 |_,.int _,.int _=>True
 |_,.str _,.str _=>True
 |n+1,.list xs,.list ys=>∀ (j:Nat) (x y:dE),xs[j]? = some x->ys[j]? = some y->PyData.eqv x y=false->qA n x y
 |n+1,.tuple xs,.tuple ys=>∀ (j:Nat) (x y:dE),xs[j]? = some x->ys[j]? = some y->PyData.eqv x y=false->qA n x y
 |_,_,_=>False
def at2(g:dE->dE->Bool)(xs ys:List dE)(j:Nat):Bool:=match xs[j]?,ys[j]? with
 |some x,some y=>g x y
 |_,_=>false
theorem lu(hx:xs[j]? = some x)(hy:ys[j]? = some y):at2 g xs ys j=g x y:=by unfold at2;rw[hx,hy]
theorem BL(lt:dE->dE->Bool)(xs ys:List dE)(k:Nat):∀ i,min xs.length ys.length-i=k->i<=min xs.length ys.length->xh (at2 PyData.eqv xs ys) (at2 lt xs ys) xs.length ys.length k i=oz lt (xs.drop i) (ys.drop i):=by
 induction k with
 |zero =>
  intro i hk hi;rw[xh];rcases MR xs.length ys.length with z|z
  ·rw[decide_eq_true z,TX (show xs.length<=i by lia),xB (show i<ys.length by lia)];rfl
  ·rw[decide_eq_false (by lia),TX (show ys.length<=i by lia)];cases xs.drop i<;>rfl
 |succ k ih =>
  intro i hk hi;have h1:i<xs.length:=by lia
  have h2:i<ys.length:=by lia
  rw[xh,lu (mw h1) (mw h2),lu (mw h1) (mw h2),ih (i+1) (by lia) (by lia),
   xB h1,xB h2,oz]
theorem cR:∀ {vs:List ae} {as:List ag},ReadsAll h vs xs as->∀ (j:Nat) (v:ae),vs[j]? = some v->∃ x bs,xs[j]? = some x/\Reads h v x bs:=by
 induction xs with
 |nil =>intro vs as r j v hv;cases r;simp at hv
 |cons x xs ih =>
  intro vs as r j v hv
  cases r with
  |cons r rs =>
   cases j with
   |zero =>simp at hv;subst hv;exact⟨x,_,rfl,r⟩
   |succ j=>exact ih rs j v (by simpa using hv)
theorem ir{xs:List dE}(h:PyData.canLayAll0 xs=true){j:Nat}{x:dE}(hx:xs[j]? = some x):x.canLay0=true:=by
 induction xs generalizing j with
 |nil=>simp at hx
 |cons y xs ih =>
  have h:y.canLay0=true/\PyData.canLayAll0 xs=true:=by simpa[PyData.canLayAll0] using h
  cases j with
  |zero=>simp at hx;subst hx;exact h.1
  |succ j=>exact ih h.2 (by simpa using hx)
theorem mZ{xs:List dE}{j:Nat}{x:dE}(hx:xs[j]? = some x):x.depth<=PyData.depthAll xs:=by
 induction xs generalizing j with
 |nil=>simp at hx
 |cons y xs ih =>
  simp only[PyData.depthAll]
  cases j with
  |zero=>simp at hx;subst hx;lia
  |succ j=>have:=ih (j:=j) (by simpa using hx);lia
theorem z_(n:Nat):∀ (d e:dE) (A:fm) (s:ay) (a b:ae) (as bs:List ag),Reads s.heap a d as->Reads s.heap b e bs->d.canLay0=true->e.canLay0=true->qA n d e->d.depth<=20->A.units+n+30<fe->oy A s a b (dv n d e):=by
 induction n with
 |zero =>intro d e A s a b as bs ra rb _ _ c _ _;cases ra<;>cases rb<;>first|(rw[dv];exact oy.int _ _ _ _)|(rw[dv];exact oy.str _ _ _ _)|exact absurd c (by simp[qA])
 |succ n ih =>
  intro d e A s a b as bs ra rb la lb c dd hu
  cases ra with
  |int i t=>cases rb<;>first|(rw[dv];exact oy.int _ _ _ _)|exact absurd c (by simp[qA])
  |str x t=>cases rb<;>first|(rw[dv];exact oy.str _ _ _ _)|exact absurd c (by simp[qA])
  |@list l o vs m xs Wd h1 h2 h3 h4 =>
   cases rb with
   |@list l' o' f7 m' ys bs1 k1 k2 k3 k4 =>
    have n1:vs.size=xs.length:=by simpa using ReadsAll.length _ _ _ h4
    have n2:f7.size=ys.length:=by simpa using ReadsAll.length _ _ _ k4
    have QJ:∀ j (h1:j<vs.size),∃ x cs,xs[j]? = some x/\Reads s.heap vs[j] x cs:=λj hj=>cR h4 j vs[j] (by simp[hj]);have QK:∀ j (h1:j<f7.size),∃ x cs,ys[j]? = some x/\Reads s.heap f7[j] x cs:=λj hj=>cR k4 j f7[j] (by simp[hj]);have dx:PyData.depthAll xs<20:=by simp only[PyData.depth] at dd;lia
    have:=oy.lists (A:=A) (s:=s) (e:=at2 PyData.eqv xs ys) (f:=at2 (dv n) xs ys) ⟨_,h1,h2,_,h3⟩ ⟨_,k1,k2,_,k3⟩ (by lia) (λj j1 j2=>by
     obtain⟨x,cs,ex,rx⟩:=QJ j j1;obtain⟨y,Wg,ey,ry⟩:=QK j j2;rw[lu ex ey];have:=mZ ex;exact eqAt_reads x y A.in1 s _ _ _ _ rx ry (ir la ex) (ir lb ey) (by show A.units+1+_<fe;lia)) (λj j1 j2 ne=>by
     obtain⟨x,cs,ex,rx⟩:=QJ j j1;obtain⟨y,Wg,ey,ry⟩:=QK j j2;rw[lu ex ey] at ne ⊢;have:=mZ ex;exact ih x y A.in1 s _ _ _ _ rx ry (ir la ex) (ir lb ey) (c j x y ex ey ne) (by lia) (by show A.units+1+n+30<fe;lia))
    rw[n1,n2,BL (dv n) xs ys _ 0 (Nat.sub_zero _) (fz _)] at this;exact this
   |_=>exact absurd c (by simp[qA])
  |@tuple l o vs m xs Wd h1 h2 h3 h4 =>
   cases rb with
   |@tuple l' o' f7 m' ys bs1 k1 k2 k3 k4 =>
    have n1:vs.size=xs.length:=by simpa using ReadsAll.length _ _ _ h4
    have n2:f7.size=ys.length:=by simpa using ReadsAll.length _ _ _ k4
    have QJ:∀ j (h1:j<vs.size),∃ x cs,xs[j]? = some x/\Reads s.heap vs[j] x cs:=λj hj=>cR h4 j vs[j] (by simp[hj]);have QK:∀ j (h1:j<f7.size),∃ x cs,ys[j]? = some x/\Reads s.heap f7[j] x cs:=λj hj=>cR k4 j f7[j] (by simp[hj]);have dx:PyData.depthAll xs<20:=by simp only[PyData.depth] at dd;lia
    have:=oy.tuples (A:=A) (s:=s) (e:=at2 PyData.eqv xs ys) (f:=at2 (dv n) xs ys) ⟨_,h1,h2,_,h3⟩ ⟨_,k1,k2,_,k3⟩ (by lia) (λj j1 j2=>by
     obtain⟨x,cs,ex,rx⟩:=QJ j j1;obtain⟨y,Wg,ey,ry⟩:=QK j j2;rw[lu ex ey];have:=mZ ex;exact eqAt_reads x y A.in1 s _ _ _ _ rx ry (ir la ex) (ir lb ey) (by show A.units+1+_<fe;lia)) (λj j1 j2 ne=>by
     obtain⟨x,cs,ex,rx⟩:=QJ j j1;obtain⟨y,Wg,ey,ry⟩:=QK j j2;rw[lu ex ey] at ne ⊢;have:=mZ ex;exact ih x y A.in1 s _ _ _ _ rx ry (ir la ex) (ir lb ey) (c j x y ex ey ne) (by lia) (by show A.units+1+n+30<fe;lia))
    rw[n1,n2,BL (dv n) xs ys _ 0 (Nat.sub_zero _) (fz _)] at this;exact this
   |_=>exact absurd c (by simp[qA])
  |_=>cases rb<;>exact absurd c (by simp[qA])
end PySem.SeqAt
namespace L2
open PySem PySem.Spec PyProof.Rows PySem.SeqAt
structure kG(lt:dE->dE->Bool)(S:dE->Prop):Prop where
 zi:∀ x,S x->lt x x=false
 tr:∀ x y z,S x->S y->S z->lt x y=true->lt y z=true->lt x z=true
 ah:∀ x y,S x->S y->lt x y=false->lt y x=false->x=y
 eqv:∀ x y,S x->S y->(PyData.eqv x y=true↔x=y)
theorem kG.int(n:Nat):kG (dv n) λx=>∃ i,x=.int i where
 zi:=by rintro x ⟨i,rfl⟩;rw[dv];simp
 tr:=by rintro x y z ⟨i,rfl⟩ ⟨j,rfl⟩ ⟨k,rfl⟩;rw[dv,dv,dv];simp only[decide_eq_true_eq];lia
 ah:=by rintro x y ⟨i,rfl⟩ ⟨j,rfl⟩;rw[dv,dv];simp only[decide_eq_false_iff_not,PyData.int.injEq];lia
 eqv:=by rintro x y ⟨i,rfl⟩ ⟨j,rfl⟩;simp[PyData.eqv]
theorem kG.str(n:Nat):kG (dv n) λx=>∃ s,x=.str s where
 zi:=by rintro x ⟨i,rfl⟩;rw[dv];exact vM i
 tr:=by rintro x y z ⟨i,rfl⟩ ⟨j,rfl⟩ ⟨k,rfl⟩;rw[dv,dv,dv];exact λh g=>BR (y:=j) h g
 ah:=by rintro x y ⟨i,rfl⟩ ⟨j,rfl⟩;rw[dv,dv];exact λh g=>by rw[xW (x:=i) (y:=j) h g]
 eqv:=by rintro x y ⟨i,rfl⟩ ⟨j,rfl⟩;simp[PyData.eqv]
section
variable {lt:dE->dE->Bool}{S:dE->Prop}
theorem Az(T:kG lt S)(xs:List dE)(h:∀ x∈xs,S x):oz lt xs xs=false:=by
 induction xs with
 |nil=>rfl
 |cons x xs ih =>rw[oz,if_pos ((T.eqv x x (h x cE) (h x cE)).mpr rfl)];exact ih λy hy=>h y (df _ hy)
open Classical in
theorem cP(T:kG lt S)(hx:S x)(hy:S y):oz lt (x :: xs) (y :: ys)=if x=y then oz lt xs ys else lt x y:=by
 rw[oz];by_cases e:x=y
 ·rw[if_pos e,if_pos ((T.eqv x y hx hy).mpr e)]
 ·rw[if_neg e,if_neg λz=>e ((T.eqv x y hx hy).mp z)]
theorem Ba(T:kG lt S)(xs:List dE):∀ ys:List dE,(∀ x∈xs,S x)->(∀ y∈ys,S y)->oz lt xs ys=false->oz lt ys xs=false->xs=ys:=by
 induction xs with
 |nil =>
  intro ys _ _ h _
  cases ys with
  |nil=>rfl
  |cons y ys=>cases h
 |cons x xs ih =>
  intro ys hx hy h1 h2
  cases ys with
  |nil=>cases h2
  |cons y ys =>
   have sx:=hx x cE;have sy:=hy y cE;rw[cP T sx sy] at h1;rw[cP T sy sx] at h2;by_cases e:x=y
   ·subst e;rw[if_pos rfl] at h1 h2;rw[ih ys (λz hz=>hx z (df _ hz)) (λz hz=>hy z (df _ hz)) h1 h2]
   ·rw[if_neg e] at h1;rw[if_neg λz=>e z.symm] at h2;exact absurd (T.ah x y sx sy h1 h2) e
theorem DX(T:kG lt S)(xs:List dE):∀ ys zs:List dE,(∀ x∈xs,S x)->(∀ y∈ys,S y)->(∀ z∈zs,S z)->oz lt xs ys=true->oz lt ys zs=true->oz lt xs zs=true:=by
 induction xs with
 |nil =>
  intro ys zs _ _ _ h1 h2
  cases zs with
  |cons z zs=>rfl
  |nil =>
   cases ys with
   |nil=>cases h1
   |cons y ys=>cases h2
 |cons x xs ih =>
  intro ys zs hx hy hz h1 h2
  cases ys with
  |nil=>cases h1
  |cons y ys =>
   cases zs with
   |nil=>cases h2
   |cons z zs =>
    have sx:=hx x cE;have sy:=hy y cE;have sz:=hz z cE;rw[cP T sx sy] at h1;rw[cP T sy sz] at h2;rw[cP T sx sz];have tl:=ih ys zs (λz hz=>hx z (df _ hz)) (λz hz=>hy z (df _ hz)) λw hw=>hz w (df _ hw);by_cases e1:x=y
    ·subst e1;rw[if_pos rfl] at h1;by_cases e2:x=z
     ·subst e2;rw[if_pos rfl] at h2 ⊢;exact tl h1 h2
     ·rw[if_neg e2] at h2 ⊢;exact h2
    ·rw[if_neg e1] at h1;by_cases e2:y=z
     ·subst e2;rw[if_neg e1];exact h1
     ·rw[if_neg e2] at h2;have t:=T.tr x y z sx sy sz h1 h2;by_cases e3:x=z
      ·subst e3;rw[T.zi x sx] at t;cases t
      ·rw[if_neg e3];exact t
theorem uC(T:kG lt S)(xs:List dE):∀ ys:List dE,(∀ x∈xs,S x)->(∀ y∈ys,S y)->(PyData.eqvAll xs ys=true↔xs=ys):=by
 induction xs with
 |nil=>intro ys _ _;cases ys<;>simp[PyData.eqvAll]
 |cons x xs ih =>
  intro ys hx hy
  cases ys with
  |nil=>simp[PyData.eqvAll]
  |cons y ys =>have h1:=T.eqv x y (hx x cE) (hy y cE);have h2:=ih ys (λz hz=>hx z (df _ hz)) λz hz=>hy z (df _ hz);simp only[PyData.eqvAll,mS,List.cons.injEq];exact and_congr h1 h2
end
theorem kG.list{S:dE->Prop}(T:kG (dv n) S):kG (dv (n+1)) λx=>∃ xs,x=.list xs/\∀ y∈xs,S y where
 zi:=by rintro x ⟨xs,rfl,h⟩;rw[dv];exact Az T xs h
 tr:=by rintro x y z ⟨xs,rfl,h⟩ ⟨ys,rfl,h'⟩ ⟨zs,rfl,h''⟩;rw[dv,dv,dv];exact DX T xs ys zs h h' h''
 ah:=by rintro x y ⟨xs,rfl,h⟩ ⟨ys,rfl,h'⟩;rw[dv,dv];exact λh1 h2=>by rw[Ba T xs ys h h' h1 h2]
 eqv:=by rintro x y ⟨xs,rfl,h⟩ ⟨ys,rfl,h'⟩;rw[PyData.list.injEq];exact uC T xs ys h h'
open Classical in
theorem dJ{S U:dE->Prop}(T:kG (dv n) S)(T2:kG (dv n) U)(ha:S a)(hb:U b)(hc:S c)(hd:U d):oz (dv n) [a,b] [c,d]=if a=c then dv n b d else dv n a c:=by
 rw[cP T ha hc,cP T2 hb hd];by_cases e:b=d
 ·subst e;rw[if_pos rfl,show oz (dv n) [] []=false from rfl,T2.zi b hb]
 ·rw[if_neg e]
theorem kG.pair{S U:dE->Prop}(T:kG (dv n) S)(T2:kG (dv n) U):kG (dv (n+1)) λx=>∃ a b,x=.tuple [a,b]/\S a/\U b where
 zi:=by rintro x ⟨a,b,rfl,ha,hb⟩;rw[dv,dJ T T2 ha hb ha hb,if_pos rfl];exact T2.zi b hb
 tr:=by
  rintro x y z ⟨a,b,rfl,ha,hb⟩ ⟨c,d,rfl,hc,hd⟩ ⟨e,f,rfl,he,hf⟩;rw[dv,dv,dv,dJ T T2 ha hb hc hd,dJ T T2 hc hd he hf,dJ T T2 ha hb he hf];intro h1 h2;by_cases e1:a=c
  ·subst e1;rw[if_pos rfl] at h1;by_cases e2:a=e
   ·subst e2;rw[if_pos rfl] at h2 ⊢;exact T2.tr b d f hb hd hf h1 h2
   ·rw[if_neg e2] at h2 ⊢;exact h2
  ·rw[if_neg e1] at h1;by_cases e2:c=e
   ·subst e2;rw[if_neg e1];exact h1
   ·rw[if_neg e2] at h2;have t:=T.tr a c e ha hc he h1 h2;by_cases e3:a=e
    ·subst e3;rw[T.zi a ha] at t;cases t
    ·rw[if_neg e3];exact t
 ah:=by
  rintro x y ⟨a,b,rfl,ha,hb⟩ ⟨c,d,rfl,hc,hd⟩;rw[dv,dv,dJ T T2 ha hb hc hd,dJ T T2 hc hd ha hb];intro h1 h2;by_cases e:a=c
  ·subst e;rw[if_pos rfl] at h1 h2;rw[T2.ah b d hb hd h1 h2]
  ·rw[if_neg e] at h1;rw[if_neg λz=>e z.symm] at h2;exact absurd (T.ah a c ha hc h1 h2) e
 eqv:=by rintro x y ⟨a,b,rfl,ha,hb⟩ ⟨c,d,rfl,hc,hd⟩;have h1:=T.eqv a c ha hc;have h2:=T2.eqv b d hb hd;simp only[PyData.eqv,PyData.eqvAll,mS,Rt,PyData.tuple.injEq,List.cons.injEq,and_true];exact and_congr h1 h2
section
variable {prog:d4}{w:eB}{A:fm}{E:ae->ay->Prop}{s:ay}{Q:Bool->ay->Prop}
theorem yS(xs:List dE):∀ (ys:List dE) (us vs:List ae) (as bs:List ag) (i:Nat),ReadsAll s.heap us xs as->ReadsAll s.heap vs ys bs->PyData.canLayAll0 xs=true->PyData.canLayAll0 ys=true->PyData.depthAll xs<=20 -> (∀ (j:Nat) (x y:dE),xs[j]? = some x->ys[j]? = some y->PyData.eqv x y=false->qA n x y)->(i=0->∀ x y,xs[0]? = some x->ys[0]? = some y->(∃ k,x=.int k)/\∃ k,y=.int k)->xs.length=ys.length->A.units+n+30<fe->Q (oz (dv n) xs ys) s ->
  PySem.W.KatLex prog w A true false Q (us.zip vs) i s:=by
 induction xs with
 |nil =>
  intro ys us vs as bs i ra rb _ _ _ _ _ hl _ q
  cases ys with
  |cons y ys=>cases hl
  |nil =>cases ra;exact PySem.W.kat_nil q
 |cons x xs ih =>
  intro ys us vs as bs i ra rb la lb dp c hi hl hu q
  cases ys with
  |nil=>cases hl
  |cons y ys =>
   cases ra with
   |cons r rs =>
    cases rb with
    |cons r' HM =>
     have Wh:x.canLay0=true/\PyData.canLayAll0 xs=true:=by simpa[PyData.canLayAll0] using la
     have Wi:y.canLay0=true/\PyData.canLayAll0 ys=true:=by simpa[PyData.canLayAll0] using lb
     have dp':x.depth<=20/\PyData.depthAll xs<=20:=by simp only[PyData.depthAll] at dp;lia
     rw[D6];rw[oz] at q;refine PySem.W.kat_cons (eqAt_reads x y A s _ _ _ _ r r' Wh.1 Wi.1 (by lia) prog w _ _ (PySem.W.kat_go (λh=>PySem.W.kat_yes ?_) (λh=>PySem.W.kat_no ?_)))
     ·rw[if_pos h] at q;exact ih ys _ _ _ _ (i+1) rs HM Wh.2 Wi.2 dp'.2 (λj=>c (j+1)) (λz=>by lia) (by simpa using hl) hu q
     ·rw[if_neg (by rw[h];exact kB)] at q;by_cases h0:i=0
      ·obtain⟨⟨a,rfl⟩,⟨b,rfl⟩⟩:=hi h0 x y rfl rfl;subst h0;cases r;cases r';rw[dv] at q;exact oneLt_int q
      ·rw[show(true && i == 0)=false by simp[h0]];exact PySem.W.kat_one _ _ (z_ n x y A s _ _ _ _ r r' Wh.1 Wi.1 (c 0 x y rfl rfl h) dp'.1 (by lia) prog w _ _ q)
structure LP(n:Nat)(S:dE->Prop):Prop where
 ah:kG (dv (n+1)) S
 tup:∀ x,S x->∃ i xs,x=.tuple (.int i :: xs)/\x.canLay0=true/\x.depth<=20
 len:∀ xs ys,S (.tuple xs)->S (.tuple ys)->xs.length=ys.length
 cm:∀ x y,S x->S y->qA (n+1) x y
open Classical in
def jx(h:dy)(v:ae):dE:=if z:∃ d as,Reads h v d as/\d.canLay0=true then z.choose else .none
theorem fC(r:Reads h v d as)(l:d.canLay0=true):jx h v=d:=by
 have z:∃ d as,Reads h v d as/\d.canLay0=true:=⟨d,as,r,l⟩
 unfold jx;rw[dif_pos z];obtain⟨bs,r2,l2⟩:=z.choose_spec;exact Reads.unique _ _ _ _ _ l2 r2 r
def LS(n:Nat)(L:List dE)(d:dE):Int:=(L.countP λe=>dv n e d:Nat)
theorem Bq{S:dE->Prop}(T:kG (dv n) S)(hL:∀ d∈L,S d)(ha:a∈L)(hb:S b):decide (LS n L a<LS n L b)=dv n a b:=by
 have sa:=hL a ha;unfold LS
 cases h:dv n a b with
 |true =>have:=mC (λj=>dv n j a) (λj=>dv n j b) a (T.zi a sa) h L ha λx hx z=>T.tr x a b (hL x hx) sa hb z h;exact decide_eq_true (by lia)
 |false =>
  refine decide_eq_false ?_
  cases g:dv n b a with
  |false =>rw[T.ah a b sa hb h g];lia
  |true =>have:=count_le (λj=>dv n j b) (λj=>dv n j a) L λx hx z=>T.tr x b a (hL x hx) hb sa z g;lia
theorem zz{S:dE->Prop}(K:LP n S)(kp:∀ b o,h0.get? b=some o->s.heap.get? b=some o)(hL:∀ d∈L,S d)(hu:A.units+n+31<fe) :
  ve.ny prog w A s (tuples' true) (λv=>LS (n+1) L (jx h0 v)) (λv=>∃ d as,d∈L/\Reads h0 v d as):=by
 rintro x y ⟨d,as,md,rd⟩ ⟨e,bs,me,re⟩ Q E q;have sd:=hL d md;have se:=hL e me;obtain⟨i,xs,rfl,ld,dd⟩:=K.tup d sd;obtain⟨j,ys,rfl,le,de⟩:=K.tup e se
 replace q:Q (decide (LS (n+1) L (jx h0 x)<LS (n+1) L (jx h0 y))) s:=q
 rw[fC rd ld,fC re le,Bq K.ah hL md se,dv] at q;have rd':=PyProof.Rows.Reads.keeps kp rd;have re':=PyProof.Rows.Reads.keeps kp re;have cm:=K.cm _ _ sd se;have hl:=K.len _ _ sd se
 cases rd' with
 |@tuple a o us m _ Wd h1 h2 h3 h4 =>
  cases re' with
  |@tuple b o' vs m' _ bs1 k1 k2 k3 k4 =>
   have n1:us.size=(PyData.int i :: xs).length:=by simpa using ReadsAll.length _ _ _ h4
   have n2:vs.size=(PyData.int j :: ys).length:=by simpa using ReadsAll.length _ _ _ k4
   refine PySem.W.kat_lt h1 h3 k1 k3 ?_;rw[show decide (us.size<vs.size)=false from decide_eq_false (by lia)];exact yS (n:=n) _ _ _ _ _ _ 0 h4 k4 ld le (by simp only[PyData.depth] at dd;lia) cm (λ_ x y hx hy=>by cases hx;cases hy;exact⟨⟨_,rfl⟩,_,rfl⟩) hl (by lia) q
end
section
variable {X:Cx}{pins:List (ag × Obj)}{σ:St}{H:Hp}{s:ay}
theorem wU(I:Inv X pins σ H s):∀ {ds:List dE} {ys:List V} {vs:List ae},bT X.K H ds ys->Vals ys vs->∀ v∈vs,∃ d y as,d∈ds/\Rep X.K H d y/\RelV y v/\Reads s.heap v d as
 |_,_,_,.nil,.nil,v,hv=>nomatch hv
 |_,_,_,.cons r rs,.cons q qs,v,hv=>by
  rcases eK.mp hv with rfl|hv
  ·obtain⟨as,z⟩:=r.reads I q;exact⟨_,_,as,cE,r,q,z⟩
  ·obtain⟨d,y,as,a,b,c,z⟩:=wU I rs qs v hv;exact⟨d,y,as,df _ a,b,c,z⟩
theorem ue{S:dE->Prop}(K:LP n S):∀ (vs:List ae),(∀ v∈vs,∃ d as,S d/\Reads h0 v d as)->∃ fs:List ae,PySem.W.KatTups h0 vs fs/\fs.length=vs.length/\∀ f∈fs,∃ i t,f=Value.int i t
 |[],_=>⟨[],.nil,rfl,λf hf=>nomatch hf⟩
 |v :: vs,h=>by
  obtain⟨fs,f1,f2,f3⟩:=ue K vs λu hu=>h u (df _ hu);obtain⟨d,as,sd,r⟩:=h v cE;obtain⟨i,xs,rfl,_,_⟩:=K.tup d sd
  cases r with
  |@tuple a o us m _ Wd h1 h2 h3 h4 =>
   obtain⟨us⟩:=us
   cases h4 with
   |cons r rs =>
    cases r with
    |int _ t =>
     exact⟨_ :: fs,.cons h1 h2 h3 rfl f1,by simp[f2],λf hf=>by
      rcases eK.mp hf with rfl|hf
      ·exact⟨_,_,rfl⟩
      ·exact f3 f hf⟩
def LV:ae->V
 |.ref a=>.ref a
 |_=>.non
theorem xZ{S:dE->Prop}(K:LP n S)(sd:S d)(q:RelV y v)(r:Reads h0 v d as):LV v=y:=by
 obtain⟨i,xs,rfl,_,_⟩:=K.tup d sd
 cases r with
 |tuple h1 h2 h3 h4 =>
  cases y with
  |ref b=>cases (show Value.ref _=Value.ref b from q);rfl
  |_=>simp[RelV] at q
theorem tU{S:dE->Prop}(K:LP n S)(I:Inv X pins σ H s):∀ {ds:List dE} {ys:List V} {vs:List ae},bT X.K H ds ys->Vals ys vs->(∀ d∈ds,S d)->vs.map (λv=>(jx s.heap v,LV v))=ds.zip ys
 |_,_,_,.nil,.nil,_=>rfl
 |_,_,_,.cons r rs,.cons q qs,h=>by obtain⟨as,z⟩:=r.reads I q;have sd:=h _ cE;obtain⟨_,_,_,l,_⟩:=K.tup _ sd;rw[gE,fC z l,xZ K sd q z,tU K I rs qs λd hd=>h d (df _ hd),D6]
def lK(K:aC)(n:Nat)(S:dE->Prop):List V->Hp->VK->Prop:=λxs H Q=>match xs with
 |[.ref p]=>∃ ys ds,fw K H p ys/\bT K H ds ys/\(∀ d∈ds,S d)/\∀ (ps:List (dE × V)) l,ps.Perm (ds.zip ys)->(ps.Pairwise λa b=>dv (n+1) b.1 a.1=false)->H l=none->Q (.ref l) (upd H l (.lst (ps.map (·.2))))
 |_=>False
theorem uK {S:dE->Prop} (K:LP n S) (hu:X.A.units+n+40<fe):kC X (.builtin "sorted") (lK X.K n S):=by
 walk_at"f";unfold lK at h;split at h
 ·rename_i p;obtain⟨ys,ds,hl,hr,hS,q⟩:=h;obtain⟨u,rfl,ru⟩:=Vals.one r;cases ru;obtain⟨vs,rv,pl,hz⟩:=I.list hl;have lay:∀ d∈ds,d.canLay0=true:=λd hd=>by obtain⟨_,_,_,l,_⟩:=K.tup d (hS d hd);exact l
  have mem:=wU I hr rv;have hlen:=rv.length;refine ve.wJ (κ:=tuples' true) (r:=λv=>LS (n+1) ds (jx s.heap v)) (P:=λv=>∃ d as,d∈ds/\Reads s.heap v d as) pl.isList (by lia) (λv hv=>?_) (λh2 A' E' s' kp Q' q'=>?_) (λh2 s' kp=>zz K kp hS (by show X.A.units+1+1+n+31<fe;lia)) λh' out m pm pw kp eo=>?_
  ·obtain⟨d,y,as,a,b,c,z⟩:=mem v hv;exact⟨d,as,a,z⟩
  ·obtain⟨fs,f1,f2,f3⟩:=ue (h0:=s'.heap) K vs λv hv=>by obtain⟨d,y,as,a,b,c,z⟩:=mem v hv;exact⟨d,as,hS d a,PyProof.Rows.Reads.keeps kp z⟩
   refine OJ (T:=.type "int") f1 (by lia) (λf hf=>?_) (by decide) q';obtain⟨i,t,rfl⟩:=f3 f hf;exact .now
  ·have back:∀ v∈out,∃ d y as,d∈ds/\Rep X.K H d y/\RelV y v/\Reads s.heap v d as:=λv hv=>mem v (pm.mem_iff.mp hv);have rel:∀ l:List ae,(∀ v∈l,v∈out)->Vals (l.map LV) l:=by
    intro l
    induction l with
    |nil=>exact λ_=>.nil
    |cons v l ih =>intro hm;obtain⟨d,y,as,a,b,c,z⟩:=back v (hm v cE);exact .cons (by rw[xZ K (hS d a) c z];exact c) (ih λu hu=>hm u (df _ hu))
   have z2:=rel out λ_ h=>h;have ol:=pm.length_eq;have e2:(out.map λv=>(jx s.heap v,LV v)).map (·.2)=out.map LV:=by rw[fo];rfl
   have q':=q (out.map λv=>(jx s.heap v,LV v)) (s.heap.objs.size+1) (by rw[<- tU K I hr rv hS];exact pm.map _) ?_ (I.b6.fresh (O4 _))
   ·rw[e2] at q';exact⟨.ref (s.heap.objs.size+1),_,I.laid (a:=s.heap.objs.size+1) (t':=s.toks) kp (O4 _) (show gL X.prog X.w _ h' _ (.lst (out.map LV)) from⟨by rw[b5];lia,out,m,z2,eo⟩),rfl,q'⟩
   rw[kH];refine pw.imp_of_mem λ{x y} mx my hle=>?_;obtain⟨d,_,as,md,_,_,rd⟩:=back x mx;obtain⟨e,_,bs,me,_,_,re⟩:=back y my;rw[fC rd (lay d md),fC re (lay e me)] at *
   have:=Bq K.ah hS me (hS d md);rw[<- this];exact decide_eq_false (by lia)
 ·exact h.elim
end
end L2
namespace L2.Q
open PySem PySem.Spec PyProof.Rows PySem.SeqAt
section
variable {X:Cx}{K:aC}{Hs H:Hp}
theorem il(xs:List D):nL xs=xs.map D.py:=by
 induction xs with
 |nil=>rfl
 |cons x xs ih=>rw[nL,ih];rfl
theorem zj:∀ {vs:List V},bT K H xs vs->∀ p∈xs.zip vs,Rep K H p.1 p.2:=by
 induction xs with
 |nil=>intro vs r p hp;simp at hp
 |cons x xs ih =>
  intro vs r p hp;obtain⟨u,us,rfl,r1,rs⟩:=r.c;rw[D6] at hp;rcases eK.mp hp with rfl|hp
  ·exact r1
  ·exact ih rs p hp
theorem vd(l:List (D × V))(h:∀ p∈l,Rep K H p.1 p.2):bT K H (l.map (·.1)) (l.map (·.2)):=by
 induction l with
 |nil=>exact .nil
 |cons p l ih=>exact .cons (h p cE) (ih λq hq=>h q (df _ hq))
def BV(n:Nat)(S:dE->Prop):W1:=λm x Q=>match x with
 |.list xs=>m=.sh/\(∀ d∈xs,dP 12 d=true/\S d.py)/\∀ ms:List D,ms.Perm xs->(ms.Pairwise λa b=>dv (n+1) b.py a.py=false)->Q (.ow false) (.list ms)
 |_=>False
theorem zR{S:dE->Prop}:BG K (lK K n S) (BV n S):=by
 walk_at"d";have r1:=rx.rep w
 cases r1 with
 |@list _ _ To z s q =>
  obtain⟨rfl,hS,h⟩:=h;obtain⟨_,rx⟩:=rx
  cases rx with
  |@list _ f7 _ z' s' q' =>
   have hl:=q'.length;have ez:(nL To).zip f7=(To.zip f7).map λp=>(p.1.py,p.2):=by rw[il,List.zip_map_left];rfl
   refine⟨_,nL To,bG.seq w.sub s',Rep.P7.2 (q'.same w.sub) 12 λd hd=>(hS d hd).1,λd hd=>?_,λps l hp hw hn=>?_⟩
   ·rw[il] at hd;obtain⟨e,he,rfl⟩:=cw.mp hd;exact(hS e he).2
   ·obtain⟨m',rfl,pm⟩:=TS.eO hp ez;have p1:(m'.map (·.1)).Perm To:=by have:=pm.map (·.1);rwa[IH (IY hl)] at this
    have rr:=vd (K:=K) (H:=Hs) m' λp hp=>zj q' p (pm.mem_iff.mp hp);rw[show(m'.map λp=>(p.1.py,p.2)).map (·.2)=m'.map (·.2) by rw[fo];rfl];refine f.P8 w (by rw[p1.length_eq];lia) rr (h _ p1 ?_) l hn;rw[kH] at hw ⊢;exact hw
 |_=>exact h.elim
theorem G4 {S:dE->Prop} (KS:LP n S) (hu:X.A.units+n+40<fe) (hK:X.K=K:=by rfl):kC X (.builtin "sorted") (lK K n S):=by subst hK;exact uK KS hu
end
end L2.Q
namespace L2
open PySem PySem.Spec PyProof.Rows PySem.SeqAt
section
variable {X:Cx}
def DP(K:aC):V->List V->Hp->VK->Prop:=λx xs H Q=>∃ l ys ds y d,∃ j:Nat,x=.ref l/\xs=[y]/\fw K H l ys/\bT K H ds ys/\Rep K H d y/\(∀ e∈ds,e.canLay0=true/\e.depth<=20)/\d.canLay0=true /\ (∃ e,ds[j]? = some e/\PyData.eqv e d=true)/\(∀ (m:Nat) e,m<j->ds[m]? = some e->PyData.eqv e d=false)/\Q (.int j) H
theorem z7 (hu:X.A.units+64<fe):RZ X "list.index" (DP X.K):=by
 intro pins s σ H x vs v us Q I rx rv h;obtain⟨l,ys,ds,y,d,j,rfl,rfl,hl,hr,hd,hS,ld,⟨e,ej,eq⟩,FX,q⟩:=h;cases rx;obtain⟨u,rfl,ru⟩:=Vals.one rv;obtain⟨its,rv',pl,hz⟩:=I.list hl;obtain⟨as,rd⟩:=hd.reads I ru;obtain⟨bs,ra⟩:=bT.reads I hr rv';have len:its.length=ds.length:=ReadsAll.length _ _ _ ra;have at':∀ (m:Nat) (v:ae),its[m]? = some v->∃ e cs,ds[m]? = some e/\Reads s.heap v e cs/\jx s.heap v=e:=λm v hv=>by obtain⟨e,cs,h1,h2⟩:=cR ra m v hv;exact⟨e,cs,h1,h2,fC h2 (hS e (om h1)).1⟩
 have jl:j<ds.length:=(jS.mp ej).1;have jl':j<its.toArray.size:=by rw[kA];lia
 have zs:bS<2 ^ 62:=by rw[jI];decide
 have hlen:=rv'.length;obtain⟨⟨cls,dd,data,sl⟩,ho,hc,n,hdt⟩:=id pl.isList;simp only at hc hdt;subst hc hdt;refine call_meets F.slot_list_index ⟨_,ho,rfl⟩ F.entry_list_index (F.args_list_index_2 _ _) (list_indexAt l its.toArray n dd sl u (λv=>PyData.eqv (jx s.heap v) d) j jl' (by lia) ?_ λm hm h'=>?_) ⟨ho,λv hv=>?_,⟨.int j,H,I.tok _,⟨_,rfl⟩,q⟩⟩
 ·obtain⟨e',cs,h1,_,h3⟩:=at' j its.toArray[j] (by simp at jl' ⊢);rw[h3];rw[ej] at h1;cases h1;exact eq
 ·obtain⟨e',cs,h1,_,h3⟩:=at' m its.toArray[m] (by simp at hm ⊢);rw[h3];exact FX m e' h' h1
 ·obtain⟨m,hm⟩:=Mk.mp (show v∈its by simpa using hv);obtain⟨e',cs,h1,h2,h3⟩:=at' m v hm;rw[h3];have:=hS e' (om h1);exact eqAt_reads e' d X.A.in1 s _ _ _ _ h2 rd this.1 ld (by show X.A.units+1+_<fe;lia)
def mQ:List V->Hp->VK->Prop:=λxs H Q=>match xs with
 |[.ref p]=>∃ kvs b0 sh,Rd H p (.dT kvs)/\(∀ k∈kvs.map (·.1),iq k=b0 :: sh) /\
   ∀ zs ms l,bR H zs ms->ms.Perm (kvs.map (·.1))->(ms.Pairwise λa b=>gX b a=false)->H l=none->Q (.ref l) (upd H l (.lst zs))
 |_=>False
theorem qO (hc:X.calm=true):kC X (.builtin "sorted") mQ:=by
 walk_at"f";unfold mQ at h;split at h
 ·rename_i p;obtain⟨kvs,b0,sh,e,hs,q⟩:=h;obtain⟨u,rfl,ru⟩:=Vals.one r;cases ru;obtain⟨z,y,ps,rel,o,es,ep,h1,h2,h3,h4,h5⟩:=(show gL X.prog X.w H s.heap p (.dT kvs) from I.rd e)
  obtain⟨ta,va⟩:=qQ (prog:=X.prog) (w:=X.w) rel;have hlen:es.size=kvs.length:=by have:=congrArg List.length h4;rw[xD,b5] at this;rw[this];exact rel.length.symm
  have pd:ps.length=kvs.length:=rel.length.symm;refine ve.lC (κ:=tuples' true) (R:=λvs=>Vals (ps.map λq=>V.ref q.2.1) vs) (r:=λv=>yy (kvs.map (·.1)) (k_ H v)) (P:=λv=>∃ b k,v=.ref b/\H b=some (.tup (k.map kV))/\iq k=b0 :: sh/\k∈kvs.map (·.1)) (λA' E' Q' hA hQ=>?_) (λvs rv=>?_) (λvs rv v hv=>?_) (λvs rv h2 A' E' s' kp Q' q'=>?_) (λs' kp=>sU I kp) λvs h' a out n tk rv pm pw kp ha eo=>?_
  ·refine ve.jw (yH (es:=es) (ep:=ep) y) (hA.trans (I.ok.hd hc)) ⟨o,h1,h2,h3⟩ (by lia) λh' tk acc kp hz u0=>hQ _ h' tk ?_ kp hz;have hv:acc.toList=(ps.map (entryOfKey (AR (iL X.prog X.w)))).map (·.key):=by
    apply B5;intro i;by_cases hi:i<es.size
    ·have kP:i<acc.size:=by rw[u0.1];exact hi
     obtain⟨en,e1,e2⟩:=u0.2 i acc[i] (by simp[kP]);rw[<- h4,n5,lP,lP,e1];simp[kP,e2]
    ·rw[<- h4,n5,lP,lP,FD (by rw[u0.1];lia),FD (by lia)];rfl
   rw[hv];exact va
  ·have:=rv.length;rw[b5] at this;lia
  ·obtain⟨_,mem⟩:=ta.keys rv;obtain⟨b,k,e1,e2,e3⟩:=mem v hv;exact⟨b,k,e1,e2,hs k e3,e3⟩
  ·obtain⟨fs,f1,f2,f3⟩:=kat_tups I kp ta rv hs
   cases b0 with
   |true =>refine OJ (T:=.type "int") f1 (by lia) (λf hf=>?_) (by decide) q';obtain⟨i,t,rfl⟩:=(f3 f hf).1 rfl;exact .now
   |false =>refine OJ (T:=.type "str") f1 (by lia) (λf hf=>?_) (by decide) q';obtain⟨i,t,rfl⟩:=(f3 f hf).2 rfl;exact .now
  ·obtain⟨ek,mem⟩:=ta.keys rv;obtain⟨zs,z1,z2⟩:=bR.of (H:=H) (ks:=kvs.map (·.1)) out λv hv=>mem v (pm.mem_iff.mp hv);have zl:=z2.length;have ol:=pm.length_eq;have vl:=rv.length;rw[b5] at vl;have Ta:(out.map (k_ H)).Perm (kvs.map (·.1)):=by rw[<- ek];exact pm.map _
   refine⟨.ref a,_,I.laid (a:=a) (t':=tk) kp ha (show gL X.prog X.w _ h' _ (.lst zs) from⟨by lia,out,n,z2,eo⟩),rfl,q zs _ _ z1 Ta ?_ (I.b6.fresh ha)⟩;rw[kH];refine pw.imp_of_mem λ{x y} mx my hle=>?_;obtain⟨b,k,rfl,hb,kk⟩:=mem x (pm.mem_iff.mp mx);obtain⟨c,m,rfl,hc,km⟩:=mem y (pm.mem_iff.mp my);rw[b7 hb,b7 hc] at *
   have:=lR (L:=kvs.map (·.1)) ((hs m km).trans (hs k kk).symm) km;rw[<- this];exact decide_eq_false (by lia)
 ·exact h.elim
end
end L2
namespace L2.Q
open PySem PySem.Spec PyProof.Rows PySem.SeqAt
section
variable {X:Cx}{K:aC}
def rN:W1:=λ_ x Q=>match x with
 |.dT kvs=>∃ b0 sh,(∀ p∈kvs,iq p.1=b0 :: sh)/\∀ ms:List (List Key),ms.Perm (kvs.map (·.1))->(ms.Pairwise λa b=>gX b a=false)->Q (.ow true) (.list (ms.map kg))
 |_=>False
theorem vP:BG K mQ rN:=by
 walk_at"d";have r1:=rx.rep w
 cases r1 with
 |@dT a vs kvs kk e q =>
  obtain⟨b0,sh,hs,h⟩:=h;have hlen:=q.length;rw[b5] at hlen;have ez:((kvs.map (·.1)).zip vs).map (·.1)=kvs.map (·.1):=IH (by rw[b5];exact IY hlen);refine⟨_,b0,sh,e,λk hk=>?_,λzs ms l tz pm pw hl=>?_⟩
  ·rw[ez] at hk;obtain⟨p,hp,rfl⟩:=cw.mp hk;exact hs p hp
  ·rw[ez] at pm;refine f.lst w (by rw[b5,pm.length_eq,b5];exact kk.1) (gA (K:=K) tz λk hk=>?_) (dM ms) (h ms pm pw) l hl;obtain⟨p,hp,rfl⟩:=cw.mp (pm.mem_iff.mp hk);exact kk.2 p hp
 |_=>exact h.elim
theorem Fg (hc:X.calm=true:=by rfl):kC X (.builtin "sorted") mQ:=qO hc
end
end L2.Q
namespace L2.Q.R
open PySem PySem.Spec PyProof.Rows L2.Q PySem.SeqAt
section
variable {Q:Md->L2.Q.D->Prop}{m:Md}
theorem Iw:rN m (.dT kvs) Q = ∃ b0 sh,(∀ p∈kvs,iq p.1=b0 :: sh)/\∀ ms:List (List Key),ms.Perm (kvs.map (·.1))->(ms.Pairwise λa b=>gX b a=false)->Q (.ow true) (.list (ms.map kg)):=rfl
end
end L2.Q.R
namespace L2
open PySem PySem.Spec PyProof.Rows PySem.SeqAt
section
variable {X:Cx}
def Cv(K:aC):R2:=λx y H Q=>∃ l xs n,x=.ref l/\y=.int n/\fw K H l xs/\0<=n/\n<=4000/\xs.length<=1000/\∀ p,H p=none->Q (.ref p) (upd H p (.lst (List.replicate n.toNat xs).flatten))
theorem Ag(h:Vals xs vs)(k:Nat):Vals (List.replicate k xs).flatten (List.replicate k vs).flatten:=by
 induction k with
 |zero=>exact .nil
 |succ k ih=>rw[Fm,Fm,IG,IG];exact h.append ih
theorem rZ{α:Type}(xs:List α)(k:Nat):(List.replicate k xs).flatten.length=xs.length*k:=by
 induction k with
 |zero=>rfl
 |succ k ih=>rw[Fm,IG,oo,ih,Nat.mul_succ];lia
theorem Dr:eI X (oC .Mult) (Cv X.K):=by
 walk_at"c";obtain⟨l,xs,n,rfl,rfl,hH,h0,h1,h2,q⟩:=h;cases rx;obtain⟨t,rfl⟩:=ry;obtain⟨its,r,pl,z⟩:=I.list hH;have hl:=r.length;obtain⟨⟨cls,dd,data,sl⟩,ho,hc,k,hd⟩:=id pl.isList;simp only at hc hd;subst hc hd;have hm:its.toArray.size*n.toNat<=1000*4000:=Nat.mul_le_mul (by rw[kA];lia) (by lia);have hsz:=jI;refine wpAny_binaryOp_repeat_ref (T := "list") (U := "int") (by decide) ⟨_,ho,rfl⟩ (λs'=>typeIs_int s' n t) noFill_list_mul PySem.F.fills_int_mul PySem.F.slot_int_rmul repeat_list PySem.F.slot_int_index.lookup (call_meets PySem.F.slot_int_rmul (typeIs_int s n t) PySem.F.entry_int_rmul (PySem.F.args_int_rmul_2 _ _) (lm_int_rmul_list_any n t l its.toArray k dd sl) ⟨ho,rfl,⟨_,ho,rfl⟩,call_meets PySem.F.slot_list_mul ⟨_,ho,rfl⟩ PySem.F.entry_list_mul (PySem.F.args_list_mul_2 _ _) (lm_list_mul_any l its.toArray k dd sl n t (by simp[Builtin.List.listFitsIndex];lia) (by lia) (by simp only[Builtin.List.listTooLong,decide_eq_true_eq];lia)) ⟨ho,?_⟩⟩)
 rw[listMul_foldl_if];exact⟨.ref _,_,I.UX (t':=s.toks) (Ag r _) (by
  rw[rZ];have:xs.length*n.toNat<=1000*4000:=Nat.mul_le_mul h2 (by lia);lia),rfl,q _ I.fresh⟩
end
theorem kG.sub{S U:dE->Prop}(T:kG lt S)(h:∀ x,U x->S x):kG lt U :=
 ⟨λx a=>T.zi x (h x a),λx y z a b c=>T.tr x y z (h x a) (h y b) (h z c),λx y a b=>T.ah x y (h x a) (h y b),λx y a b=>T.eqv x y (h x a) (h y b)⟩
def j9(p:Str × Int):dE:=.tuple [.str p.1,.int p.2]
def xi(x:dE):Prop:=∃ (i:Int) (ps:List (Str × Int)),x=.tuple [.int i,.list (ps.map j9)]/\∀ p∈ps,PyData.strOk p.1=true
theorem DG(p q:Str × Int):qA 1 (j9 p) (j9 q):=by
 unfold j9;rw[qA];intro j x y hx hy _
 match j with
 |0=>cases hx;cases hy;rw[qA];trivial
 |1=>cases hx;cases hy;rw[qA];trivial
 |j+2=>simp at hx
theorem CJ(ps:List (Str × Int))(h:∀ p∈ps,PyData.strOk p.1=true):PyData.canLayAll0 (ps.map j9)=true/\PyData.depthAll (ps.map j9)<=2:=by
 induction ps with
 |nil=>exact⟨rfl,by simp[PyData.depthAll]⟩
 |cons p ps ih =>
  have ih:=ih λq hq=>h q (df _ hq);have hp:=h p cE;rw[gE];constructor
  ·simp only[PyData.canLayAll0,mS];refine⟨?_,ih.1⟩;simp[j9,PyData.canLay0,PyData.canLayAll0,hp]
  ·have h2:=ih.2;simp only[PyData.depthAll];have:(j9 p).depth<=2:=by simp[j9,PyData.depth,PyData.depthAll]
   lia
theorem Tp:LP 2 xi where
 ah:=((kG.pair (kG.int 2) (kG.list (kG.pair (kG.str 0) (kG.int 0)))).sub) λx ⟨i,ps,e,_⟩=>⟨_,_,e,⟨i,rfl⟩,_,rfl,λy hy=>by
  obtain⟨p,_,rfl⟩:=cw.mp hy;exact⟨_,_,rfl,⟨_,rfl⟩,_,rfl⟩⟩
 tup:=by
  rintro x ⟨i,ps,rfl,h⟩;have:=CJ ps h;refine⟨i,_,rfl,?_,?_⟩
  ·simp[PyData.canLay0,PyData.canLayAll0,this.1]
  ·simp only[PyData.depth,PyData.depthAll];lia
 len:=by rintro xs ys ⟨i,ps,e,_⟩ ⟨j,qs,e2,_⟩;cases e;cases e2;rfl
 cm:=by
  rintro x y ⟨i,ps,rfl,_⟩ ⟨j,qs,rfl,_⟩;rw[qA];intro k x y hx hy _
  match k with
  |0=>cases hx;cases hy;rw[qA];trivial
  |1 =>cases hx;cases hy;rw[qA];intro k x y hx hy _;obtain⟨p,_,rfl⟩:=cw.mp (om hx);obtain⟨q,_,rfl⟩:=cw.mp (om hy);exact DG p q
  |k+2=>simp at hx
end L2
namespace L2.Q
open PySem PySem.Spec PyProof.Rows PySem.SeqAt
section
variable {X:Cx}{K:aC}{a b:Expr}{ta tb:WE}{pos:Pos}
def zu:W2:=λ_ x _ y Q=>match x with
 |.list xs=>match y with
  |.int n=>(0<=n/\n<=4000/\xs.length<=1000)/\dS xs=true/\Q (.ow true) (.list (List.replicate n.toNat xs).flatten)
  |_=>False
 |_=>False
theorem zV(h:bT K H xs vs)(k:Nat):bT K H (List.replicate k xs).flatten (List.replicate k vs).flatten:=by
 induction k with
 |zero=>exact .nil
 |succ k ih=>rw[Fm,Fm,IG,IG];exact h.append ih
theorem wN(h:dS xs=true)(k:Nat):dS (List.replicate k xs).flatten=true:=by
 induction k with
 |zero=>rfl
 |succ k ih=>rw[Fm,IG,eU,h,ih];rfl
theorem Dl:k9 K (Cv K) zu:=by
 walk_at"a";have r1:=rx.rep w;have r2:=ry.rep w
 cases r1 with
 |list z s q=>cases r2 with
  |int n =>obtain⟨⟨h0,h1,h2⟩,fl,h⟩:=h;have hl:=q.length;refine⟨_,_,_,rfl,rfl,s,h0,h1,by lia,?_⟩;refine f.lst w ?_ (zV q _) (wN fl _) h;rw[rZ,jI];have:List.length _*n.toNat<=1000*4000:=Nat.mul_le_mul h2 (by lia);exact iX this (by decide)
  |_=>exact h.elim
 |_=>exact h.elim
theorem J1(hK:X.K=K:=by rfl):eI X (oC .Mult) (Cv K):=by subst hK;exact Dr
theorem Hi(ha:QE X K a ta)(hb:QE X K b tb)(hK:X.K=K:=by rfl):QE X K (.BinOp a .Mult b pos) (bp zu ta tb):=Od (J1 hK) Dl ha hb
def t6(to te:WE):WE:=λρ Q=>to ρ λ_ x=>match x with
 |.list xs=>te ρ λ_ y=>dP 12 (.list xs)=true/\dP 12 y=true/\∃ j:Nat,(∃ z,xs[j]? = some z/\iO z y=true)/\(∀ (i:Nat) z,i<j->xs[i]? = some z->iO z y=false)/\Q .sh (.int j)
 |_=>False
theorem Dv(ho:QE X K o to)(he:QE X K e te)(hK:X.K=K:=by rfl) (x8:B4 o "index" X.env (dr o X.env)=dr o X.env:=by rfl) (ya:((k6 fE (cc [e] X.env)).all (λx=>!x.1) && (backToKw fE (Fh [] X.env)).all (λx=>x.1.isSome)
   && decide ([e].length+([]:List sD).length+(if ([]:List sD).isEmpty then 0 else 1)<30))=true:=by rfl)
  (hline:(apos.endLine == fE.line)=true:=by rfl) (AI:cc (e :: []) X.env=(false,dr e X.env) :: cc [] X.env:=by rfl) (EH:(k6 fE (cc [] X.env)).any (·.1)=false:=by rfl) (hu:X.A.units+64<fe:=by assumption) :
  QE X K (.Call (.Attribute o "index" apos) [e] [] fE) (t6 to te):=by
 subst hK;refine PE.imp (Py PySem.F.plainAttrs_list PySem.F.slot_list_index PySem.F.type_list_index (z7 hu) ho (tT he x5 AI) x8 ya hline AI EH) λσ H Qv hx=>kN hx λHs ρ ah Q sr h f=>?_;walk_at"b";have r:=r1.rep g1.wf
 cases r with
 |list hz s rs =>
  refine⟨.inl ⟨rfl,_,s⟩,bE,ρ,ah,_,sr.grow g1,q1,λy H2 aT m2 x2 g7 g2 r2 f2 q2=>?_⟩;obtain⟨o1,o2,j,⟨z,ez,eq⟩,FX,q⟩:=q2;have rr:=(r1.grow g2).rep g2.wf
  cases rr with
  |list S_ s' HM =>
   have l2:=iz 12 _ o2;have o1':∀ d∈_,dP 11 d=true:=My.mp (show List.all _ (dP 11)=true from o1);refine⟨_,_,_,_,_,j,rfl,rfl,s',Rep.P7.2 HM 11 o1',(r2.rep g2.wf).l2 o2,λe he=>?_,l2.1,⟨z.py,?_,eq⟩,λm e hm he=>?_,Fin.sh (Fin.after f (g1.trans g2)) g2.wf (.int _) q⟩
   ·rw[il] at he;obtain⟨d,hd,rfl⟩:=cw.mp he;have:=iz 11 d (o1' d hd);exact⟨this.1,by lia⟩
   ·rw[il,n5,ez];rfl
   ·rw[il,n5] at he;obtain⟨d,hd,rfl⟩:=Uh.mp he;exact FX m d hm hd
 |_=>exact q1.elim
abbrev wI:W1:=BV 2 xi
theorem Hc (hK:X.K=K:=by rfl) (hu:X.A.units+64<fe:=by assumption):kC X (.builtin "sorted") (lK K 2 xi):=G4 Tp (by lia) hK
theorem Am:BG K (lK K 2 xi) wI:=zR
end
end L2.Q
namespace L2.Q.R
open PySem PySem.Spec PyProof.Rows L2.Q PySem.SeqAt
section
variable {Q:Md->L2.Q.D->Prop}{m m':Md}{x y:L2.Q.D}{xs:List L2.Q.D}{Ql te:WE}{ρ:Env}{a:Int}
theorem Ko:zu m (.list xs) m' (.int a) Q=((0<=a/\a<=4000/\xs.length<=1000)/\dS xs=true/\Q (.ow true) (.list (List.replicate a.toNat xs).flatten)):=rfl
theorem J9:t6 Ql te ρ Q=Ql ρ λ_ x=>cp x (f:=λx=>rV x λxs=>te ρ λ_ y=>dP 12 (.list xs)=true/\dP 12 y=true/\∃ j:Nat,(∃ z,xs[j]? = some z/\iO z y=true)/\(∀ (i:Nat) z,i<j->xs[i]? = some z->iO z y=false)/\Q .sh (.int j)) ⟨⟩:=by unfold t6 cp rV;rfl
theorem Ju:wI m (.list xs) Q=(m=.sh/\(∀ d∈xs,dP 12 d=true/\xi d.py)/\∀ ms:List L2.Q.D,ms.Perm xs->(ms.Pairwise λa b=>PySem.SeqAt.dv 3 b.py a.py=false)->Q (.ow false) (.list ms)):=rfl
end
end L2.Q.R
namespace L2
open PySem PySem.Spec PyProof.Rows
def iU(K:aC):V->Hp->VK->Prop:=λx H Q=>match x with
 |.ref p=>∃ ks:List Key,fw K H p (ks.map kV)/\ks.length<=1000/\∀ ms:List Key,ms.Nodup->(∀ k,k∈ms↔k∈ks)->Q (.int ms.length) H
 |_=>False
section
variable {X:Cx}{e:Expr}{te:TE}{p p2 pos ku:Pos}
theorem vo (hc:X.calm=true) (hg:Gl X "len") (hm:X.mg "len" = none) (vi:Gl X "set") (i6:X.mg "set" = none) (he:PE X e te)(hv:mM "len" = some (.builtin "len")) (Qw:mM "set" = some (.type "set"))(kc:cc [e] X.env=(false,dr e X.env) :: cc [] X.env:=by rfl) (hs:cc [.Call (.Name "set" p2) [e] [] ku] X.env=(false,dr (.Call (.Name "set" p2) [e] [] ku) X.env) :: cc [] X.env:=by rfl) :
  PE X (.Call (.Name "len" p) [.Call (.Name "set" p2) [e] [] ku] [] pos) (RQ (iU X.K) te):=by
 walk_at"v";refine DU (B7 I hg hm hv ?_ (by decide) (by decide));refine PyProof.Rows.callWith_builtin1 ?_ hs rfl;rw[hs];refine Calls.spliced_cons ?_;refine DU (B7 I vi i6 Qw ?_ (by decide) (by decide));refine PyProof.Rows.callWith_type1 ?_ kc rfl;rw[kc];walk_at"g";have q1:iU X.K x H1 Q:=q1;obtain⟨a,rfl⟩:∃ a,x=.ref a:=by
  unfold iU at q1;split at q1
  ·exact⟨_,rfl⟩
  ·exact q1.elim
 obtain⟨ks,hl,Ot,q⟩:=q1;cases r1;obtain⟨vs,rv,pl,hz⟩:=I1.list hl;obtain⟨xs,ex,ek,hx⟩:=lL rv;have E3:X.A.handled=none:=I1.ok.hd hc;have hlen:xs.length=ks.length:=by rw[<- ek,b5]
 have qq:∀ p∈xs,(iL X.prog X.w).is p.1 p.2=true:=λp hp=>by
  obtain⟨k,v⟩:=p;have r:=hx _ hp;rw[WB]
  cases k with
  |inl i=>obtain⟨t,e⟩:=r;rw[show v=_ from e];exact Uj ..
  |inr x=>obtain⟨t,e⟩:=r;rw[show v=_ from e];exact Uk ..
 refine TS.gF (knd:=iL X.prog X.w) E3 pl.isList (by simpa using ex) qq (by lia) oH λh2 tk eM S m1 m2 kp=>?_;refine Calls.spliced_nil ?_;obtain⟨⟨o,es,ep,t,ho,hex,hd,T,hM,hL,BM⟩,nd,is⟩:=S;have bg':eM.length<=1000:=by
  have:=TS.b_ nd (m:=ks) λk hk=>by rw[<- ek];exact(m1 k).mp hk
  rw[b5] at this;lia
 have Qx:es.size=eM.length:=by have:=congrArg List.length BM;simpa using this
 refine call_len_set (s:={ s1 with heap:=h2,toks:=tk }) ho hex hd T.fits (by lia) ?_;have I2:Inv X pins σ H1 { s1 with heap:=h2,toks:=tk+1+1 }:=I1.kept kp;refine⟨.int eM.length,H1,I2,⟨_,by rw[Qx]⟩,?_⟩;have:=q (eM.map (·.1)) nd λk=>by rw[m1,ek]
 rwa[b5] at this
end
end L2
namespace L2.Q
open PySem PySem.Spec PyProof.Rows
section
variable {X:Cx}{K:aC}{a b c e:Expr}{ta tb te:WE}{pos p p2 ku:Pos}
def n8:W1:=λ_ x Q=>match x with
 |.list xs=>∃ ks:List Key,xs=ks.map iS/\ks.length<=1000/\∀ ms:List Key,ms.Nodup->(∀ k,k∈ms↔k∈ks)->Q .sh (.int ms.length)
 |_=>False
theorem yN:N9 K (iU K) n8:=by
 walk_at"d";have r1:=rx.rep w
 cases r1 with
 |list z s q =>obtain⟨ks,rfl,hz,h⟩:=h;obtain⟨e,ok⟩:=oU q;subst e;exact⟨ks,s,hz,λms nd mm=>f.sh w (.int _) (h ms nd mm)⟩
 |_=>exact h.elim
theorem zJ (hg:Gl X "len") (hm:X.mg "len" = none) (vi:Gl X "set") (i6:X.mg "set" = none) (he:QE X K e te) (hc:X.calm=true:=by rfl) (hK:X.K=K:=by rfl) (kc:cc [e] X.env=(false,dr e X.env) :: cc [] X.env:=by rfl) (hs:cc [.Call (.Name "set" p2) [e] [] ku] X.env=(false,dr (.Call (.Name "set" p2) [e] [] ku) X.env) :: cc [] X.env:=by rfl) :
  QE X K (.Call (.Name "len" p) [.Call (.Name "set" p2) [e] [] ku] [] pos) (i7 n8 te):=by
 subst hK;refine PE.imp (vo hc hg hm vi i6 he lM ud kc hs) λσ H Qv dQ=>?_;obtain⟨Hs,ρ,ah,Q,sr,h,fin⟩:=dQ;exact⟨Hs,ρ,ah,_,sr,h,λv H1 bE m x As g1 r1 f1 q1=>yN bE H1 m x v As Q Qv g1.wf r1 q1 (Fin.after fin g1)⟩
def Tq(ta tb:WE):WE:=λρ Q=>ta ρ λm x=>m=.ow true/\match x with
 |.list xs=>tb ρ λ_ y=>intD y λk=>∃ d,L2.gS xs k=some d/\Q (QC d) d
 |_=>False
theorem JQ(ha:QE X K a ta)(hb:QE X K b tb)(hs:RX b:=by exact λ_ _=>rfl)(hK:X.K=K:=by rfl):QE X K (.Subscript a b pos) (Tq ta tb):=by
 refine PE.imp (UU (kIx hK) ha hb hs) λσ H Qv hx=>kN hx λHs ρ ah Q sr h f=>?_;walk_at"b";obtain⟨rfl,q1⟩:=q1;obtain⟨r1,ne⟩:=r1
 cases r1 with
 |sh _ r=>exact absurd rfl ne
 |@list a vs xs As z e rs =>
  refine⟨bE,ρ,ah,_,sr.grow g1,q1,λu H2 aT m2 y Bs g2 r2 f2 q2=>?_⟩;have ry:=r2.rep g2.wf
  cases ry with
  |int k =>
   obtain⟨d,e3,q⟩:=q2;obtain⟨j,ej,ed⟩:=Ib e3;have nd:As.Nodup:=(k7.mp f1.1).2;obtain⟨w,B,ew,lS,sB,_⟩:=rs.at ed nd;have r3:=lS.grow g2.sh g2.all;refine .inl ⟨vs,w,.inl (.inl (g2.all _ _ e)),uX (by rw[<- rs.length];exact ej) ew,?_⟩
   cases hf:d.flat with
   |true =>rw[QC,hf] at q;exact f w H2 aT .sh d [] (g1.trans g2) ⟨rfl,(r3.rep g2.wf.sub λ_ _=>rfl).eY g2.wf.i3 hf⟩ ⟨p9,λ_ h=>CY h⟩ q
   |false =>rw[QC,hf] at q;refine f w H2 aT (.ow true) d B (g1.trans g2) ⟨r3,r3.ne hf⟩ ⟨sB.nodup nd,λc hc=>?_⟩ q;have:=f1.2 c (df _ (sB.subset hc));exact⟨g2.pj this.1 (lS.own c hc).ne,this.2⟩
  |_=>exact q2.elim
 |_=>exact q1.elim
theorem SR.view(G:Hp)(s:bG Hs H)(r:SR K Hs H ρ σ ah):SR K H G (ρ.map (Option.map Qf)) σ []:=by
 induction r with
 |nil=>exact .nil
 |non _ ih=>exact .non ih
 |sh r _ ih=>exact .sh (r.same s) ih
 |xc _ ih=>exact .xc ih
 |ow _ r _ ih=>exact .sh (r.rep s λ_ _=>rfl) ih
 |lk _ r _ ih=>exact .sh (r.rep s λ_ _=>rfl) ih
 |ob _ _ ih=>exact .xc ih
def Tr(i j:Nat)(hs xs:List D)(ρ:Env):Env:=(ρ.set j none).set i (some (.ow true (.list (hs++[.list xs]))))
def Wj(i j:Nat)(hs xs:List D)(ρ:Env):Env:=((Tr i j hs xs ρ).map (Option.map Qf)).set j (some (.sh (.list xs)))
def iK'(o:Option Sl)(k:Sl->Prop):Prop:=match o with
 |some s=>k s
 |none=>False
def vO(i j:Nat)(te:WE):WS:=λE ρ=>LN ρ[i]? λhs=>LN ρ[j]? λxs=>dS xs=true/\hs.length<bS /\
 te (Wj i j hs xs ρ) λm d=>iK' (asg (He m d) d) λsl=>E.nx ((Tr i j hs xs ρ).set j (some sl))
theorem yW(hN:X.N.Nodup)(hj0:X.N[j]? = some x)(hx:Loc X.env.scope x)(hi:PE X a (FK i))(hj:PE X b (FK j))(he:QE X K e te)(kf:i≠j:=by decide)(hK:X.K=K:=by rfl) (s1:xA (.Call (.Attribute a "append" p1) [b] [] p2) none pos.line X.env=pure false:=by rfl) (b1:B4 a "append" X.env (dr a X.env)=dr a X.env:=by rfl) (f1:((k6 p2 (cc [b] X.env)).all (λx=>!x.1) && (backToKw p2 (Fh [] X.env)).all (λx=>x.1.isSome) && decide ([b].length+([]:List sD).length+(if ([]:List sD).isEmpty then 0 else 1)<30))=true:=by rfl) (l1:(p1.endLine == p2.line)=true:=by rfl) (t1:cc (b :: []) X.env=(false,dr b X.env) :: cc [] X.env:=by rfl) (q1:(k6 p2 (cc [] X.env)).any (·.1)=false:=by rfl) (hs:xA e (some (.Name x p3)) pos'.line X.env=pure false:=by rfl) (hf:X.fn x=true\/X.env.scope.names.lookup x=some .local:=by first|exact .inl rfl|exact .inr rfl|assumption) :
  yT X K L [.Expr (.Call (.Attribute a "append" p1) [b] [] p2) pos,.Assign [.Name x p3] e pos'] (vO i j te):=by
 subst hK;refine ng.imp (W3 (RH (Py PySem.F.plainAttrs_list PySem.F.slot_list_append PySem.F.type_list_append R3 hi (tT hj x5 t1) b1 f1 l1 t1 q1) s1) (W4 (Uw hN hj0 hx he hs hf))) λD σ H hx=>dB hx λHs ρ ah E sr h k1 k2 k3 k4=>?_
 obtain⟨hs,ei,h⟩:=Bt h;obtain⟨xs,ej,fl,Ot,h⟩:=Bt h;obtain⟨a,ws,c,vs,e7,u1,u2,u3,u4,u5,u6,u7,hU⟩:=Dg kf sr ei ej fl Ot;refine⟨_,u1,.inl ⟨rfl,_,.inl (.inl u2)⟩,_,u4,a,ws,_,rfl,rfl,u2,u3,?_⟩;have rc:Rep X.K (upd H a (.lst (ws++[.ref c]))) (.list xs) (.ref c):=.list u7 (.inl (.inl u5)) (u6.same hU.wf.sub);have v0:=SR.view (upd H a (.lst (ws++[.ref c]))) hU.wf.sub hU.sr;obtain⟨t,st,v1⟩:=v0.xN rc j;have e0:σ.set j (some (.ref c))=σ:=by
  apply B5;intro m;by_cases hm:j=m
  ·subst hm;rw[TR (by have:=(jS.mp u4).1;exact this),u4]
  ·rw[Q_ hm]
 rw[e0] at v1;have et:t=[]:=List.eq_nil_of_subset_nil st.subset;subst et;refine⟨upd H a (.lst (ws++[.ref c])),_,[],_,⟨v1,⟨bG.refl _,λ_ _ z=>z⟩,p9,λ_ h=>CY h⟩,h,λv H1 bE m d As g1 r1 f1 q1=>?_⟩;obtain⟨gy,r',fr⟩:=jY hU.wf g1.sh g1.wf r1 f1.1 λa ha=>(f1.2 a ha).1;have gb:=dI hU.wf g1.sh g1.wf
 cases ea:asg (He m d) d with
 |none=>rw[ea] at q1;exact q1.elim
 |some sl =>rw[ea] at q1;obtain⟨cv,s'⟩:=(hU.grow gb).set j r' fr.1 (λa ha=>⟨(fr.2 a ha).1,λm=>(hU.sr.own a m).ne (fr.2 a ha).2⟩) ea;exact k1 _ H1 _ _ cv gb.sh s' q1
end
end L2.Q
namespace L2.Q.R
open PySem PySem.Spec PyProof.Rows L2.Q
section
variable {Q:Md->L2.Q.D->Prop}{m:Md}{x y:L2.Q.D}{xs:List L2.Q.D}{ta tb te:WE}{ρ:L2.Q.Env}{E:ou}{i j:Nat}
theorem Il:n8 m (.list xs) Q = ∃ ks:List Key,xs=ks.map iS/\ks.length<=1000/\∀ ms:List Key,ms.Nodup->(∀ k,k∈ms↔k∈ks)->Q .sh (.int ms.length):=rfl
theorem Mv:Tq ta tb ρ Q=ta ρ λm x=>m=.ow true/\cp x (f:=λx=>rV x λxs=>tb ρ λ_ y=>cp y (f:=λy=>intD y λk=>∃ d,L2.gS xs k=some d/\cp d (f:=λd=>Q (QC d) d) ⟨⟩) ⟨⟩) ⟨⟩:=by unfold Tq cp rV;rfl
theorem Jq:vO i j te E ρ=cp ρ[i]? (f:=λo=>LN o λhs=>cp ρ[j]? (f:=λo=>LN o λxs=>dS xs=true/\hs.length<bS /\
 te (Wj i j hs xs ρ) λm d=>cp (asg (He m d) d) (f:=λo=>put o λsl=>E.nx ((Tr i j hs xs ρ).set j (some sl))) ⟨⟩) ⟨⟩) ⟨⟩:=rfl
end
end L2.Q.R
namespace L2.Q
open PySem PySem.Spec PyProof.Rows
structure BO(H G:Hp):Prop where
 tup:∀ a vs,H a=some (.tup vs)->G a=some (.tup vs)
 lst:∀ a vs,Rd H a (.lst vs)->Rd G a (.lst vs)
 dct:∀ a u,gR u->Rd H a u->Rd G a u
 els:Vy H G
section
variable {K:aC}{H G Hs Gs:Hp}{p:ag}{u:HO}{o:Obj}
theorem BO.rep2(s:BO H G):(∀ {d:D} {v:V},Rep K H d v->Rep K G d v)/\∀ {ds:List D} {vs:List V},bT K H ds vs->bT K G ds vs :=
 Rep.ind .non .bl .int (λ_ h=>.str h) (λ_ _ _ z h _ ih=>.list z (h.imp (s.lst _ _) id) ih) (λ_ _ _ z h _ ih=>.tup z (s.tup _ _ h) ih) (λ_ _ _ kk h _ ih=>.dK kk (s.dct _ _ trivial h) ih) (λ_ _ _ kk h _ ih=>.dT kk (s.dct _ _ trivial h) ih) .nil λ_ _ _ _ _ _ a b=>.cons a b
theorem BO.rep(s:BO H G)(r:Rep K H d v):Rep K G d v:=s.rep2.1 r
theorem BO.Ez(s:BO Hs Gs):(∀ {d:D} {v:V} {As:List ag},cf K Hs H fl d v As->(∀ a∈As,G a=H a)->cf K Gs G fl d v As)/\∀ {ds:List D} {vs:List V} {As:List ag},aB K Hs H fl ds vs As->(∀ a∈As,G a=H a)->aB K Gs G fl ds vs As :=
 cf.ind (m1:=λd v As=>(∀ a∈As,G a=H a)->cf K Gs G fl d v As) (m2:=λds vs As=>(∀ a∈As,G a=H a)->aB K Gs G fl ds vs As) (λ_ _ f r _=>.sh f (s.rep r)) (λ_ _ _ _ z e _ ih k=>.list z ((k _ cE).trans e) (ih λa h=>k a (df _ h))) (λ_ _ _ _ z e n _ ih k=>.tup z (s.tup _ _ e) n (ih k)) (λ_ _ _ _ z e _ ih k=>.dK z ((k _ cE).trans e) (ih λa h=>k a (df _ h))) (λ_ _ _ _ z e _ ih k=>.dT z ((k _ cE).trans e) (ih λa h=>k a (df _ h))) (λ_=>.nil) λ_ _ _ _ _ _ _ _ i1 i2 k=>.cons (i1 λa h=>k a (i9 _ h)) (i2 λa h=>k a (fI _ h))
theorem BO.sr(s:BO Hs Gs)(r:SR K Hs H ρ σ ah):(∀ a∈ah,G a=H a)->SR K Gs G ρ σ ah:=by
 induction r with
 |nil=>exact λ_=>.nil
 |non _ ih=>exact λk=>.non (ih k)
 |sh h _ ih=>exact λk=>.sh (s.rep h) (ih k)
 |xc _ ih=>exact λk=>.xc (ih k)
 |ow ne h _ ih=>exact λk=>.ow ne (s.Ez.1 h λa m=>k a (i9 _ m)) (ih λa m=>k a (fI _ m))
 |lk ne h _ ih=>exact λk=>.lk ne (s.Ez.1 h λa m=>k a (i9 _ m)) (ih λa m=>k a (fI _ m))
 |@ob _ _ _ _ _ p h _ ih=>exact λk=>.ob (p.fA s.els (λa m=>k a (i9 _ m)) h) (ih λa m=>k a (fI _ m))
theorem mX(hu:gR u)(e:H p=some u):BO H (upd H p (.fN o u)):=by
 have ne:∀ {a:ag} {w:HO},(w≠u)->Rd H a w->a≠p:=λhw h z=>by
  subst z;rcases h with h|⟨ob,h⟩
  ·rw[e] at h;cases h;exact hw rfl
  ·rw[e] at h;cases h;exact hu
 have mv:∀ {a:ag} {w:HO},a≠p->Rd H a w->Rd (upd H p (.fN o u)) a w:=λn h=>h.imp (λh=>by rw[cy n];exact h) λ⟨ob,h⟩=>⟨ob,by rw[cy n];exact h⟩
 refine⟨λa vs h=>?_,λa vs h=>mv (ne (λz=>by subst z;exact hu) h) h,λa w hw h=>?_,λa w hw h=>by rw[cy λz=>by subst z;rw[e] at h;cases h;cases u<;>first|exact hw|exact hu];exact h⟩
 ·rw[cy (ne (w:=.tup vs) (λz=>by subst z;exact hu) (.inl h))];exact h
 ·by_cases z:a=p
  ·subst z;rcases h with h|⟨ob,h⟩
   ·rw[e] at h;cases h;exact .inr ⟨o,ft⟩
   ·rw[e] at h;cases h;exact hu.elim
  ·exact mv z h
theorem nY(hu:gR u)(e:H p=some (.fN o u)):BO H (upd H p u):=by
 have ne:∀ {a:ag} {w:HO},(w≠u)->(∀ ob x,w≠.fN ob x)->Rd H a w->a≠p:=λhw hf h z=>by
  subst z;rcases h with h|⟨ob,h⟩
  ·rw[e] at h;cases h;exact hf _ _ rfl
  ·rw[e] at h;cases h;exact hw rfl
 have mv:∀ {a:ag} {w:HO},a≠p->Rd H a w->Rd (upd H p u) a w:=λn h=>h.imp (λh=>by rw[cy n];exact h) λ⟨ob,h⟩=>⟨ob,by rw[cy n];exact h⟩
 refine⟨λa vs h=>?_,λa vs h=>mv (ne (w:=.lst vs) (λz=>by subst z;exact hu) (λ_ _ z=>nomatch z) h) h,λa w hw h=>?_,λa w hw h=>by rw[cy λz=>by subst z;rw[e] at h;cases h;exact hw];exact h⟩
 ·rw[cy (ne (w:=.tup vs) (λz=>by subst z;exact hu) (λ_ _ z=>nomatch z) (.inl h))];exact h
 ·by_cases z:a=p
  ·subst z;rcases h with h|⟨ob,h⟩
   ·rw[e] at h;cases h;exact hw.elim
   ·rw[e] at h;cases h;exact .inl ft
  ·exact mv z h
theorem eC.lW(s:eC K Hs ρ σ H ah)(e:Hs p=some w)(hw:∀ vs,w≠.tup vs)(hx:∀ vs,x≠.tup vs)(m:BO Hs (upd Hs p x)):eC K (upd Hs p x) ρ σ (upd H p x) ah:=by
 have np:∀ a∈ah,a≠p:=λa h z=>by subst z;rw[s.own a h] at e;cases e
 refine⟨m.sr s.sr λa h=>cy (np a h),⟨λa o h=>?_,λa vs h=>?_⟩,s.rj,λa h=>by rw[cy (np a h)];exact s.own a h⟩
 ·by_cases z:a=p
  ·subst z;rw[ft] at h ⊢;exact h
  ·rw[cy z] at h ⊢;exact s.wf.sub a o h
 ·by_cases z:a=p
  ·subst z;rw[ft] at h;cases h;exact absurd rfl (hx _)
  ·rw[cy z] at h ⊢;exact s.wf.i3 a vs h
theorem RM.thw(hu:gR u)(e:Hs p=some (.fN o u))(w:Wf Hs H)(hn:∀ a∈As,Hs a=none)(r:RM K Hs H m d v As):RM K (upd Hs p u) (upd H p u) m d v As:=by
 cases m with
 |sh=>exact⟨r.1,(nY hu e).rep r.2⟩
 |bo=>exact⟨r.1,(nY hu (w.sub _ _ e)).rep r.2⟩
 |ow fl=>exact⟨(nY hu e).Ez.1 r.1 (λa h=>cy λz=>by subst z;rw[hn a h] at e;cases e),r.2⟩
theorem mU(e:Hs p=some u)(s:bG (upd Hs p (.fN o u)) aT):bG Hs (upd aT p u):=λa w h=>by
 by_cases z:a=p
 ·subst z;rw[e] at h;cases h;exact ft
 ·rw[cy z];exact s a w (by rw[cy z];exact h)
theorem f9.dct(e:Hs p=some (.fN o u))(rs:bT K Hs ds ks):f9 K (Lc p o ks) ds λG _=>bG Hs G where
 go:=λi G H s w h=>⟨by rw[<- rs.length];exact h,u,w.sub _ _ (s _ _ e)⟩
 mz:=λi G H x H' d s w h y=>by obtain⟨y1,y2⟩:=y;subst y1;obtain⟨v,ev,r⟩:=rs.get h;rw[y2] at ev;cases ev;exact⟨G,fS.refl w,r.same s⟩
 stop:=λG H s w=>⟨rs.length,u,w.sub _ _ (s _ _ e)⟩
end
def Aa:D->Option (List D)
 |.dK kvs=>some (kvs.map λkv=>iS kv.1)
 |.dT kvs=>some (kvs.map λkv=>kg kv.1)
 |_=>none
def zQ(te:WE)(g:WG)(b:WS):WS:=λE ρ=>te ρ λm x=>m=.sh/\∃ ds,Aa x=some ds/\ie g b E ds ρ
section
variable {X:Cx}{K:aC}{L:Str->Hp->Prop}{e tg:Expr}{pos:Pos}{te:WE}{g:WG}{b:WS}{body:List Stmt}
theorem pY{J:It}(S:f9 K J ds λG _=>bG bE G)(sr:eC K bE ρ σ H1 ah)(q1:ie g b E ds ρ)(hL:∀ n H,L n H)(k1:∀ b9 H' ax b4 cv,bG bE ax->eC K ax b4 b9 H' cv->E.nx b4->D'.nx b9 H')(k4:∀ v H' ax m d As,bG bE ax->Wf ax H'->RM K ax H' m d v As->As.Nodup->(∀ a∈As,ax a=none)->E.rt m d->D'.rt v H'):Sf J (Oj K g) (yB K L b) D' σ H1:=by
 refine⟨λi m σ H=>m=ds.length-i/\i<=ds.length/\∃ ax b4 cv,bG bE ax/\eC K ax b4 σ H cv/\ie g b E (ds.drop i) b4,⟨ds.length,by simp,fz _,bE,ρ,ah,bG.refl _,sr,by simpa using q1⟩,?_⟩;rintro i m kM H2 ⟨rfl,hi,aT,gu,e7,s2,hU,q2⟩;by_cases d5:i<ds.length
 ·walk_at"m";obtain⟨eS,g3,rd⟩:=S.mz i aT H2 x H3 ds[i] s2 hU.wf (by simp[d5]) y;rw[xB d5] at q2;have s3:=s2.trans g3.sh;refine⟨eS,gu,e7,ds[i],_,hU.grow g3,rd,q2,λσ4 kS LG EZ _ q4=>?_⟩;refine⟨eS,kS,LG,_,EZ,q4,?_,?_,?_,?_,λn H5 _ _=>hL n H5⟩
  ·exact λBI H5 kE rq rL s5 rS q5=>⟨kE,rq,rL,s3.trans s5,rS,q5⟩
  ·exact λBI H5 kE rq rL s5 rS q5=>k1 BI H5 kE rq rL (s3.trans s5) rS q5
  ·exact λBI H5 kE rq rL s5 rS q5=>⟨kE,rq,rL,s3.trans s5,rS,q5⟩
  ·exact λv H5 kE m d As s5=>k4 v H5 kE m d As (s3.trans s5)
 ·have e:i=ds.length:=by lia
  subst e;refine .inl ⟨S.stop aT H2 s2 hU.wf,?_⟩;rw[OX] at q2;exact k1 kM H2 aT gu e7 s2 hU q2
theorem n6(r:Rep K Hs x (.ref a))(w:Wf Hs H)(sM:Aa x=some ds)(hu:gR u)(e:Rd Hs a u)(h:lB H u ks):bT K Hs ds ks:=by
 have one:∀ {w:HO},gR w->Rd Hs a w->w=u:=λ{w} hw r2=>by
  rcases e with e|⟨o,e⟩<;>rcases r2 with z|⟨o2,z⟩<;>rw[e] at z<;>cases z
  ·rfl
  ·exact hu.elim
  ·exact hw.elim
  ·rfl
 cases r with
 |@dK _ vs kvs kk rd q =>cases sM;have:=one (w:=.dK _) trivial rd;subst this;have h:ks=_:=h;have hl:=q.length;rw[b5] at hl;have e1:((kvs.map (·.1)).zip vs).map (·.1)=kvs.map (·.1):=IH (by rw[b5];exact IY hl);have e2:=congrArg (List.map kV) e1;rw[fo] at e2;rw[h,show(kvs.map λkv=>iS kv.1)=(kvs.map (·.1)).map iS by rw[fo];rfl];refine(show bT K Hs _ (((kvs.map (·.1)).zip vs).map (kV ∘ λx=>x.1)) from ?_);rw[e2];exact fD λk hk=>by obtain⟨p,hp,rfl⟩:=cw.mp hk;exact kk.2 p hp
 |@dT _ vs kvs kk rd q =>cases sM;have:=one (w:=.dT _) trivial rd;subst this;have h:bR H ks _:=h;have hl:=q.length;rw[b5] at hl;rw[IH (by rw[b5];exact IY hl)] at h;rw[show(kvs.map λkv=>kg kv.1)=(kvs.map (·.1)).map kg by rw[fo];rfl];exact(gA (K:=K) h λk hk=>by obtain⟨p,hp,rfl⟩:=cw.mp hk;exact kk.2 p hp).eY w.i3 (dM _)
 |_=>cases sM
theorem v9(he:QE X K e te)(hg:QG X K tg g)(hb:yT X K L body b)(hL:∀ n H,L n H)(hs:∀ x,DV e X.env x=pure x:=by intro _;rfl)(hp:PassesOwn (aE X.prog X.w) X.A X.env X.xe:=by first|exact PassesOwn.never|exact PassesOwn.leaving)(hc:X.calm=true:=by rfl) :
  QS X K L (.For tg e body [] pos) (zQ te g b):=by
 refine PS.imp (Cz (W_ hp hc (xM he) hg hb hs)) λD σ H hx=>jP hx λHs ρ ah E sr h k1 k2 k3 k4 kx=>?_;rw[xf];refine⟨Hs,ρ,ah,_,sr,h,λv H1 bE m x As g1 r1 f1 q1=>?_⟩;obtain⟨rfl,ds,sM,q1⟩:=q1;obtain⟨rfl,r1⟩:=r1;have DH:=sr.grow g1;have go:∀ {a:ag} {u:HO},v=.ref a->gR u->Rd bE a u->∃ p u,v=.ref p/\gR u/\((H1 p=some u/\∀ o ks,(∀ o' w,X.oP p≠some (.fN o' w))->(∀ ps,X.oP p≠some (.v3 ps))->lB H1 u ks->Sf (Lc p o ks) (Oj K g) (yB K L b) { D with nx:=EX X D.nx,bk:=EX X D.bk,ct:=EX X D.ct,rt:=Sy X D.rt } σ (upd H1 p (.fN o u))) \/
   ∃ o,H1 p=some (.fN o u)/\∀ ks,lB H1 u ks->Sf (Lc p o ks) (Oj K g) (yB K L b) { D with nx:=EX X D.nx,bk:=EX X D.bk,ct:=EX X D.ct,rt:=Sy X D.rt } σ H1):=by
  intro a u ev hu rd;subst ev;refine⟨a,u,rfl,hu,?_⟩;rcases rd with rd|⟨o,rd⟩
  ·refine .inl ⟨g1.wf.sub _ _ rd,λo ks nf nb hk=>?_⟩;have rs:=(mX (o:=o) hu rd).rep2.2 (n6 r1 g1.wf sM hu (.inl rd) hk);have sf:=DH.lW (x:=.fN o u) rd (λvs z=>by subst z;exact hu) (λvs z=>nomatch z) (mX hu rd);refine pY (.dct ft rs) sf q1 hL (λb9 H' ax b4 cv s' G0 n=>.inr ⟨a,u,o,?_,nf,nb,?_⟩) λv H' ax m d As s' w' r' BQ ED n=>.inr ⟨a,u,o,?_,nf,nb,?_⟩
   ·exact G0.wf.sub _ _ (s' _ _ ft)
   ·have e:=s' _ _ (ft (H:=bE) (a:=a) (o:=HO.fN o u));exact k1 b9 _ _ b4 cv (g1.sh.trans (mU rd s')) (G0.lW e (λvs z=>nomatch z) (λvs z=>by subst z;exact hu) (nY hu e)) n
   ·exact w'.sub _ _ (s' _ _ ft)
   ·have e:=s' _ _ (ft (H:=bE) (a:=a) (o:=HO.fN o u));refine k4 v _ _ m d As (g1.sh.trans (mU rd s')) ⟨λb ob h=>?_,λb vs h=>?_⟩ (r'.thw hu e w' ED) BQ (λb hb=>?_) n
    ·by_cases z:b=a
     ·subst z;rw[ft] at h ⊢;exact h
     ·rw[cy z] at h ⊢;exact w'.sub b ob h
    ·by_cases z:b=a
     ·subst z;rw[ft] at h;cases h;exact hu.elim
     ·rw[cy z] at h ⊢;exact w'.i3 b vs h
    ·rw[cy λz=>by subst z;rw[ED _ hb] at e;cases e];exact ED b hb
  ·refine .inr ⟨o,g1.wf.sub _ _ rd,λks hk=>?_⟩;have rs:=n6 r1 g1.wf sM hu (.inr ⟨o,rd⟩) hk;exact pY (.dct rd rs) DH q1 hL (λb9 H' ax b4 cv s' G0 n=>.inl (k1 b9 H' ax b4 cv (g1.sh.trans s') G0 n)) λv H' ax m d As s' w' r' BQ ED n=>.inl (k4 v H' ax m d As (g1.sh.trans s') w' r' BQ ED n)
 cases r1 with
 |dK kk rd q=>exact go (u:=.dK _) rfl trivial rd
 |dT kk rd q=>exact go (u:=.dT _) rfl trivial rd
 |_=>cases sM
end
end L2.Q
namespace L2.Q.R
open PySem PySem.Spec PyProof.Rows L2.Q
section
variable {E:ou}{ρ:Env}{te:WE}{g:WG}{b:WS}{ks:List (Key × L2.Q.D)}{ts:List (List Key × L2.Q.D)}{P:List L2.Q.D->Prop}
def Ts(d:L2.Q.D)(P:List L2.Q.D->Prop):Prop:=∃ ds,Aa d=some ds/\P ds
theorem KD:Ts (.dK ks) P=P (ks.map λkv=>iS kv.1):=propext ⟨λ⟨_,e,h⟩=>by cases e;exact h,λh=>⟨_,rfl,h⟩⟩
theorem LR:Ts (.dT ts) P=P (ts.map λkv=>kg kv.1):=propext ⟨λ⟨_,e,h⟩=>by cases e;exact h,λh=>⟨_,rfl,h⟩⟩
theorem Lf:zQ te g b E ρ=te ρ λm x=>m=.sh/\cp x (f:=λx=>Ts x λds=>ie g b E ds ρ) ⟨⟩:=rfl
end
end L2.Q.R
namespace L2.Q
open PySem PySem.Spec PyProof.Rows
theorem VH.mk{P:d4}{w:eB}{K:aC}{mg:Str->Option ae}{base:dy}{x:Str}{st:Stmt}{f:ag}{fd:FuncData}{sp:kr}{t:WS}(m:mg x=some (.ref f))(F:CF K x x st f fd)(N:List Str)(n k:Nat)(len:∀ ds Q,sp ds Q->ds.length=n)(hp:∀ ds Q,sp ds Q->t { nx:=λ_=>Q .sh .non,rt:=Q } (aL N.length ds)) (hb:∀ {gp:ae} {A:fm} {outer:List PySem.Env} {s:ay} {H:Hp} {E:XK},{_:nv k (A.deeper (envOfC x (mB st) s.heap.objs.size f gp))}->{_:(A.deeper (envOfC x (mB st) s.heap.objs.size f gp)).units+64<fe}->{_:N.Nodup} -> {_:(Cb wc P w K mg base N x (mB st) f gp A outer s H E).FL.env.scope=mB st/\(Cb wc P w K mg base N x (mB st) f gp A outer s H E).FL.N=N}->yT (Cb wc P w K mg base N x (mB st) f gp A outer s H E).FL K L0 (yk st) t) (S:Pn N (N.take n) (mB st):=by exact⟨rfl,rfl,rfl,by decide +kernel,rfl,by decide +kernel,by decide +kernel⟩) (hl:(N.take n).length=n:=by rfl) (bi:∀ (kV doc pm:ae) (an:Option ag) (gp ct:ae) (us:List ae),us.length=(N.take n).length->bindArgs (zk x x (CD st) (yk st) (mB st) .none kV doc pm an gp ct) ⟨us,[]⟩=pure ((N.take n).zip us):=by
   intro _ _ _ _ _ _ us h;iterate 13 all_goals rcases us with _|⟨_,us⟩<;>first|rfl|(simp at h;done)|skip):Si P w K mg base (k+1) x (N.take n) (fJ K sp)/\AB P w K mg base wc (k+1) f fd (N.take n) (fJ K sp) :=
 have G:=VH.ok F S (λds Q h=>(len ds Q h).trans hl.symm) (λ_ _ _ _ _ _ hr=>@hb _ _ _ _ _ _ hr hr.units S.nd ⟨rfl,rfl⟩) hp
 ⟨F.cal m G bi,G⟩
section
variable {X:Cx}{K:aC}
theorem Bm:eI X (hJ .Is) (λx y H Q=>∃ i j,x=.bl i/\y=.bl j/\Q (.bl (i == j)) H):=by intro pins s σ H x y v u Q I rx ry h;obtain⟨i,j,rfl,rfl,q⟩:=h;cases rx;cases ry;exact is_bool (iA I q rfl)
def Tt:W2:=λ_ x _ y Q=>match x,y with
 |.bl i,.bl j=>Q .sh (.bl (i == j))
 |_,_=>False
theorem Bo:k9 K (λx y H Q=>∃ i j,x=.bl i/\y=.bl j/\Q (.bl (i == j)) H) Tt:=by
 walk_at"a";have r1:=rx.rep w;have r2:=ry.rep w
 cases r1 with
 |bl i=>cases r2 with
  |bl j=>exact⟨i,j,rfl,rfl,f.sh w (.bl _) h⟩
  |_=>exact h.elim
 |_=>exact h.elim
end
namespace R
theorem Nt:Tt m (.bl i) m' (.bl j) Q=Q .sh (.bl (i == j)):=rfl
theorem Ls:DB m (.bl i) m' (.bl j) Q=Q .sh (.bl (!decide (i=j))):=rfl
end R
end L2.Q
namespace L2
open PySem PySem.Spec PyProof.Rows
theorem Cj{X:Cx}(h:PE X e t):PE X e (λσ H Q=>t σ H (Sy X Q)):=by
 intro pins s σ H Q I q;refine cK (h pins s σ H _ I q) λv s1 cS=>L2.gI cS λx H1 I1 r1 n=>?_;rcases n with n|⟨p,u,o,e,nf,nb,n⟩
 ·exact⟨x,H1,I1,r1,n⟩
 ·exact⟨x,_,I1.P6 e nf nb,r1,n⟩
end L2
namespace L2.Q
open PySem PySem.Spec PyProof.Rows
section
variable {X:Cx}{K:aC}
theorem qC{J:It}{bE Hf:Hp}{ρ:Env}{σ:St}{ah:List ag}{ds:List D}{g:WG}{tc:WT}{te:WE}{tn:Nat}{ix:List Nat}{Q:Md->D->Prop}{R:V->Hp->Prop}{b:ag}(S:uf K Hf J ds) (sr:eC K bE ρ σ Hf ah) (hz:ds.length<=bS) (q1:cU g tc te ds (qK tn ix ρ) λout=>Q (.ow true) (.list out)) (hb:Hf b=none)(fin:∀ acc H2 aT As,bG Hf aT->Wf aT H2->RM K aT H2 (.ow true) (.list acc) (.ref b) (b :: As)->(b :: As).Nodup->(∀ a∈b :: As,aT a=none)->Q (.ow true) (.list acc)->R (.ref b) H2) :
  ∃ W:Nat->Nat->St->Hp->Prop,(∃ m,W 0 m (jC tn ix σ) (upd Hf b (.lst [])))/\∀ i m τ H,W i m τ H -> (J.stop i H/\R (.ref b) H)\/(J.go i H/\∃ (N1:St->V->Hp->Prop) (N2:St->Hp->Prop), (∀ i5 v H4,N1 i5 v H4->∃ ys m',H4 b=some (.lst ys)/\ys.length<bS/\m'<m/\W (i+1) m' i5 (upd H4 b (.lst (ys++[v])))) /\ (∀ i5 H3,N2 i5 H3->∃ m',m'<m/\W (i+1) m' i5 H3) /\
    ∀ x H',J.mz i H x H'->Oj K g x τ H' λi5 H2=>Dx K tc i5 H2 λb H3=>if b=true then lT K te i5 H3 (N1 i5) else N2 i5 H3):=by
 have st:CompI K Hf b [] [] [] Hf (qK tn ix ρ) (jC tn ix σ) (upd Hf b (.lst [])):=by
  refine⟨bG.refl _,⟨jA (g8 (G:=Hf) sr _ ix) tn,⟨(bG.refl Hf).upd hb,λa xs e=>?_⟩,p9,λa h=>nomatch h⟩,ft,hb,.nil,by simp,λa h=>nomatch h⟩;by_cases ha:a=b
  ·subst ha;rw[ft] at e;cases e
  ·rw[cy ha] at e;exact e
 refine⟨λi m τ H2=>m=ds.length-i/\i<=ds.length/\∃ aT gu acc ys As,CompI K Hf b acc ys As aT gu τ H2/\acc.length<=i/\cU g tc te (ds.drop i) gu (λout=>Q (.ow true) (.list (acc++out))), ⟨ds.length,by simp,fz _,Hf,_,[],[],[],st,cx _,by simpa using q1⟩,?_⟩
 rintro i m τ H2 ⟨rfl,hi,aT,gu,acc,ys,As,c,la,q2⟩;by_cases d5:i<ds.length
 ·refine .inr ⟨S.go i aT H2 c.sm c.sr.wf d5,
   λy8 v H4=>∃ BE kS d,CompI K Hf b acc ys As BE kS y8 H4/\(∃ gy,CompI K Hf b (acc++[d]) (ys++[v]) gy BE kS y8 (upd H4 b (.lst (ys++[v]))))/\cU g tc te (ds.drop (i+1)) kS (λout=>Q (.ow true) (.list (acc++d :: out))),
   λy8 H3=>∃ eS BH,CompI K Hf b acc ys As eS BH y8 H3/\cU g tc te (ds.drop (i+1)) BH (λout=>Q (.ow true) (.list (acc++out))),?_,?_,?_⟩
  ·rintro y8 v H4 ⟨BE,kS,d,c4,⟨gy,c5⟩,q4⟩;have VM:=c4.ra.length;exact⟨ys,ds.length-(i+1),c4.eD,by lia,by lia,rfl,d5,BE,kS,acc++[d],ys++[v],gy,c5,by rw[oo];simpa using la,by simpa using q4⟩
  ·rintro y8 H3 ⟨eS,BH,c3,q3⟩;exact⟨ds.length-(i+1),by lia,rfl,d5,eS,BH,acc,ys,As,c3,by lia,q3⟩
  ·intro x H3 y;obtain⟨eS,g3,rd⟩:=S.mz i aT H2 x H3 ds[i] c.sm c.sr.wf (by simp[d5]) y;rw[xB d5] at q2;have c3:=c.grow g3;refine⟨eS,gu,[],ds[i],_,c3.sr,rd,q2,λVN kS LG EZ m4 q4=>?_⟩;have t4:LG=[]:=Wx.mpr λa ha=>nomatch m4 a ha;subst t4;have c4:CompI K Hf b acc ys As eS kS VN H3:=⟨c3.sm,EZ,c3.eD,c3.nD,c3.ra,c3.nd,c3.own⟩
   refine⟨eS,kS,[],_,EZ,q4,λk H5 kE g5 q5=>?_⟩;have c5:=c4.grow g5
   cases k with
   |false=>exact⟨kE,kS,c5,q5⟩
   |true =>
    refine⟨kE,kS,[],_,c5.sr,q5,λv H6 VP m6 d6 As6 g6 r6 f6 q6=>?_⟩;have c6:=c5.grow g6;refine⟨VP,kS,d6,c6,c6.push r6 q6.1 f6.1 λa ha=>⟨(f6.2 a ha).1,λm=>?_⟩,q6.2⟩;rcases eK.mp m with rfl|m
    ·have:=(f6.2 _ ha).2;rw[c5.eD] at this;cases this
    ·exact(c5.ra.own a m).ne (f6.2 a ha).2
 ·have e:i=ds.length:=by lia
  subst e;refine .inl ⟨S.stop aT H2 c.sm c.sr.wf,?_⟩;rw[OX] at q2;have q2:Q (.ow true) (.list (acc++[])):=q2;rw[pV] at q2;have VM:=c.ra.length;have rm:RM K aT H2 (.ow true) (.list acc) (.ref b) (b :: As):=⟨.list (by lia) c.eD c.ra,by simp⟩
  exact fin acc H2 aT As c.sm c.sr.wf rm c.nd (λa ha=>(eK.mp ha).elim (λz=>z ▸ c.nD) (c.own a)) q2
def vL(t0:WE)(g:WG)(tc:WT)(te:WE)(tn:Nat)(ix:List Nat):WE:=λρ Q=>t0 ρ λm x=>m=.sh/\∃ ds,Aa x=some ds/\ds.length<=bS/\cU g tc te ds (qK tn ix ρ) λout=>Q (.ow true) (.list out)
theorem Eo(h0:QE X K iter t0)(hg:∀ {C fp g9 hX} {q:(tn++cn).Nodup},QG (aQ X scope C (tn++cn) fp g9 hX) K tg g) (pf:∀ {C fp g9 hX},Qh (aQ X scope C (tn++cn) fp g9 hX) K ifs tc) (he:∀ {C fp g9 hX},QE (aQ X scope C (tn++cn) fp g9 hX) K elt te)(hs:∀ x,DV iter X.env x=pure x:=by intro _;rfl) (nd:(tn++cn).Nodup:=by decide +kernel) (O:dg X scope tn cn ix:=by exact dg.by (by assumption) (by decide +kernel)) (hc:X.calm=true:=by rfl):QE X K (.ListComp elt [⟨tg,iter,ifs,0⟩] scope pos) (vL t0 g tc te tn.length ix):=by
 refine PE.imp (Cj (wz hc (xM h0) O (λ_ _ _ _=>hg (q:=nd)) (λ_ _ _ _=>pf) (λ_ _ _ _=>he) hs)) λσ H Qv hx=>kN hx λHs ρ ah Q sr h fin=>?_;rw[um];walk_at"b";obtain⟨rfl,ds,sM,hz,q1⟩:=q1;obtain⟨rfl,r1⟩:=r1;have DH:=sr.grow g1;obtain⟨a,u,ev,hu,rd⟩:∃ p w,v=.ref p/\gR w/\Rd bE p w:=by
  cases r1 with
  |dK kk rd q=>exact⟨_,.dK _,rfl,trivial,rd⟩
  |dT kk rd q=>exact⟨_,.dT _,rfl,trivial,rd⟩
  |_=>cases sM
 subst ev;refine⟨a,u,rfl,hu,?_⟩;rcases rd with rd|⟨o,rd⟩
 ·refine .inl ⟨g1.wf.sub _ _ rd,λo ks nf nb hk b hb=>?_⟩;have rs:=(mX (o:=o) hu rd).rep2.2 (n6 r1 g1.wf sM hu (.inl rd) hk);have sf:=DH.lW (x:=.fN o u) rd (λvs z=>by subst z;exact hu) (λvs z=>nomatch z) (mX hu rd);refine qC ((f9.dct ft rs).imp λG H s=>sf.wf.sub.trans s) sf hz q1 hb λacc H2 aT As sm wf rm nd own q2=>.inr ⟨a,u,o,wf.sub _ _ (sm _ _ ft),nf,nb,?_⟩;have e:=sm _ _ (ft (H:=H1) (a:=a) (o:=HO.fN o u));have sm':bG H1 (upd aT a u):=mU (g1.wf.sub _ _ rd) sm;have wf':Wf (upd aT a u) (upd H2 a u):=by
   refine⟨λb ob h=>?_,λb vs h=>?_⟩
   ·by_cases z:b=a
    ·subst z;rw[ft] at h ⊢;exact h
    ·rw[cy z] at h ⊢;exact wf.sub b ob h
   ·by_cases z:b=a
    ·subst z;rw[ft] at h;cases h;exact hu.elim
    ·rw[cy z] at h ⊢;exact wf.i3 b vs h
  obtain⟨gy,r',fr⟩:=jY g1.wf sm' wf' (rm.thw hu e wf own) nd λc hc=>by rw[cy λz=>by subst z;rw[own _ hc] at e;cases e];exact own c hc
  exact Fin.after fin g1 (.ref b) _ _ (.ow true) (.list acc) gy (dI g1.wf sm' wf') r' fr q2
 ·refine .inr ⟨o,g1.wf.sub _ _ rd,λks hk b hb=>?_⟩;have rs:=n6 r1 g1.wf sM hu (.inr ⟨o,rd⟩) hk;refine qC ((f9.dct rd rs).imp λG H s=>g1.wf.sub.trans s) DH hz q1 hb λacc H2 aT As sm wf rm nd own q2=>.inl ?_;obtain⟨gy,r',fr⟩:=jY g1.wf sm wf rm nd own;exact Fin.after fin g1 (.ref b) H2 _ (.ow true) (.list acc) gy (dI g1.wf sm wf) r' fr q2
end
namespace R
theorem Jd:vL t0 g tc te tn ix ρ Q=t0 ρ λm x=>m=.sh/\cp x (f:=λx=>Ts x λds=>ds.length<=bS/\cU g tc te ds (qK tn ix ρ) λout=>Q (.ow true) (.list out)) ⟨⟩:=rfl
end R
end L2.Q
local macro_rules | `(tactic| walk_at "q") => do
 let nm (s:String):Lean.Ident:=Lean.mkIdent ((s.splitOn ".").foldl Lean.Name.mkStr .anonymous)
 let ds ← ("Lk N5 Mi Kw I_ K3 Np M9 JS Im KN K6 Li Kd Lp K1 MN Mf K8 LC N6 K7 Lb KY K4 MJ NT NP M8 Nm MT iE' Nz Mm N7 Kp Lg Ku Mq Ny J2 KR Ip Nb Lq wB_ Ng NB NZ gV' Oa N8 J8 Jw wC_ gX' gY' Jz Ln Lr Mw Nf Mt Ks JW Ji Jl J7 Jh J4 Jg J5 L_ LK Mh KH Kr Lz KZ Kg Ml MK N_ K5 Kz Nv Nq Ms Kl Fy FJ Ko J9 Iw Ju Il Mv Jq Lf Jd KD LR Fz Nt Ls Ma Mu Ob Nx Ni Mp Oc NK Mr Mz M7 Mj Lx Lw KQ Kq KJ JB Jo Jx gZ' Ke K9 M_ Nj Nr La Js Jr ha' Ij M6 JD MP Nh Kh MF Jb Ka JP Ir Ik Iu gN_ gT_ KC NQ Ly J_ Kv JF Io hw' Nu JN Je JT Nk Ld Km Lj JR JL Kc K_ ir' Lh Kf".splitOn " ").toArray.mapM fun s=>`(Lean.Parser.Tactic.simpLemma| ↓$(nm ("L2.Q.R." ++ s)):ident)
 let us ← ("L2.Q.Tr L2.Q.Wj L2.Q.gP' L2.Q.QC L2.Q.Ds L2.Q.DK L2.Q.DC L2.Q.Oi L2.Q.LB L2.Q.He L2.Q.iR L2.Q.Qg L2.Q.sR L2.Q.Qf L2.Q.lQ L2.Q.qK L2.Q.asg L2.Q.nS L2.Q.aL L2.Q.D.flat L2.Q.dS L2.Q.D.GW L2.Q.D.ty L2.Q.SK L2.Q.D.key1 L2.Q.dN L2.Q.HW L2.Q.pL List.length_map List.map_cons List.map_nil List.length_cons List.length_nil List.replicate_succ List.replicate_zero List.cons_append List.nil_append List.append_nil List.getElem?_cons_zero List.getElem?_cons_succ List.getElem?_nil List.set_cons_zero List.set_cons_succ List.all_cons List.all_nil Option.some.injEq Option.join_some Option.map_some Option.map_none Nat.reduceAdd Nat.reduceSub true_and and_true Bool.and_true Bool.true_and Bool.and_false Bool.false_and Bool.not_true Bool.not_false Bool.false_eq_true if_true if_false decide_true decide_false reduceIte cond_true cond_false PySem.sizeLine_eq L2.Q.gQ' L2.Q.gR' L2.Q.gS' L2.Q.cN L2.Q.Hd L2.Q.empty_app Nat.zero_add exists_eq_left' Int.reduceLT Int.reduceLE Int.reducePow Int.reduceNeg Int.reduceToNat Int.reduceAdd Int.reduceMul Int.reduceSub Nat.reduceLeDiff Nat.reduceLT false_or or_false and_self L2.Mx".splitOn " ").toArray.mapM fun s=>`(Lean.Parser.Tactic.simpLemma| $(nm s):ident)
 let as:Lean.TSyntaxArray [`Lean.Parser.Tactic.simpStar,`Lean.Parser.Tactic.simpErase,`Lean.Parser.Tactic.simpLemma]:=(ds++us).map fun x=>⟨x.raw⟩
 `(tactic| simp -dsimp only [$as,*])
local macro_rules | `(tactic| walk_at "o") => `(tactic| repeat (refine And.intro (by first | omega | exact ⟨by omega, by omega⟩ | decide) ?_))
namespace L2.Q.Tv
open PySem PySem.Spec PyProof.Rows
theorem small{n:Nat}(h:n<=10000):n<=bS:=iX h (by decide)
theorem Gy{n:Nat}(h:n<=10000):n<bS:=xdM h (by decide)
def isLet(c:Nat):Bool:=decide (97<=c/\c<=122)
abbrev abc:Str := "abcdefghijklmnopqrstuvwxyz"
theorem yZ:sg abc=(List.range 26).map (97 + ·):=by decide +kernel
theorem yL{i:Int}(h0:0<=i)(h1:i<26):∃ c,gS (sg abc) i=some c/\isLet c=true:=by
 refine⟨97+i.toNat,?_,?_⟩
 ·have:gS (sg abc) ((i.toNat:Nat):Int)=some (97+i.toNat):=NF (by
   rw[yZ];have:i.toNat<26:=by lia
   simp[this])
  rwa[I0 h0] at this
 ·simp[isLet];lia
theorem qI(x:Int):∃ c,gS (sg abc) (x % 26)=some c/\isLet c=true:=yL (Int.emod_nonneg _ (by decide)) (Ue _ (by decide))
def lets(x:Str):Prop:=∀ c∈sg x,isLet c=true
def Open(x:Str):Prop:=1<=x.length/\x.length<=6/\lets x
def QL (x:Str):Prop:=x = "*"\/Open x
theorem Ad{x y:Str}(hx:lets x)(hy:lets y):lets (x++y):=λc hc=>by rw[sJ] at hc;exact(eR.mp hc).elim (hx c) (hy c)
theorem y_{c:Nat}(h:isLet c=true):lets ⟨#[c]⟩:=λd hd=>by grind
theorem gP(c:Nat):(⟨#[c]⟩:Str).length=1:=rfl
theorem QL.ok{x:Str}(h:QL x):PyData.strOk x=true:=by
 rw[Dz];rcases h with rfl|h
 ·have:sg "*" = [42]:=by decide +kernel
  intro c hc;rw[this] at hc;have:c=42:=by simpa using hc
  lia
 ·intro c hc;have:=h.2.2 c hc;simp[isLet] at this;lia
abbrev bP:=Int × Str × Int
def hG(s:bP):List Key:=[.inl s.1,.inr s.2.1,.inl s.2.2]
def eJ(s:bP):D:=.tup [.int s.1,.str s.2.1,.int s.2.2]
def mD(many:Int)(steps:List bP):D:=.tup [.int many,.list (steps.map eJ)]
theorem gC:∀ (l:List bP),dS (l.map eJ)=true
 |[]=>rfl
 |x :: l=>by simp[dS,gC l,eJ,D.flat]
def LW(many:Int)(s:bP):Prop:=0<=s.1/\s.1<many/\QL s.2.1/\0<=s.2.2/\s.2.2<many
theorem GF{many:Int}{s:bP}(n:Nat)(h:LW many s):dP (n+1) (eJ s)=true:=by have:=h.2.2.1.ok;simp[dP,eJ,this]
theorem Iz{many:Int}{l:List bP}(n:Nat)(h:∀ s∈l,LW many s):dP (n+2) (.list (l.map eJ))=true:=by simp only[dP,Rl,My];intro s hs;exact GF n (h s hs)
theorem Av{s t:bP}(h:hG s=hG t):s=t:=by obtain⟨a,b,c⟩:=s;obtain⟨a',b',c'⟩:=t;simp[hG] at h;obtain⟨rfl,rfl,rfl⟩:=h;rfl
def dv(s t:bP):Bool:=gX (hG s) (hG t)
theorem nW{P:bP->Prop}:∀ {ks:List (List Key)},(∀ k∈ks,∃ s,k=hG s/\P s)->∃ l:List bP,ks=l.map hG/\∀ s∈l,P s
 |[],_=>⟨[],rfl,λs h=>nomatch h⟩
 |k :: ks,h=>by
  obtain⟨s,rfl,p⟩:=h k cE;obtain⟨l,rfl,q⟩:=nW λk hk=>h k (df _ hk);refine⟨s :: l,rfl,λt ht=>?_⟩;rcases eK.mp ht with rfl|ht
  ·exact p
  ·exact q t ht
abbrev Kn:=List (List Key × D)
def xk(P:bP->Prop)(kvs:Kn):Prop:=(∀ p∈kvs,∃ s,p.1=hG s/\P s)/\(kvs.map (·.1)).Nodup
theorem yD{κ β:Type}[DecidableEq κ](kvs:List (κ × β))(k:κ)(v:β):(ly kvs k v).map (·.1)=if k∈kvs.map (·.1) then kvs.map (·.1) else kvs.map (·.1)++[k]:=by
 unfold ly;by_cases h:k∈kvs.map (·.1)
 ·have:(kvs.any λkv=>decide (kv.1=k))=true:=by grind
  rw[if_pos this,if_pos h,fo];apply IE;intro p _;show(if p.1=k then (p.1,v) else p).1=p.1;split<;>rfl
 ·grind
theorem xk.put{P:bP->Prop}{kvs:Kn}{s:bP}{d:D}(h:xk P kvs)(hs:P s):xk P (ly kvs (hG s) d):=by
 refine⟨λp hp=>?_,?_⟩
 ·rcases mH hp with e|e
  ·exact⟨s,e,hs⟩
  ·obtain⟨q,hq,e⟩:=cw.mp e;rw[<- e];exact h.1 q hq
 ·rw[yD];split
  ·exact h.2
  ·rename_i hn;exact ja.mpr ⟨h.2,by simp,λa ha b hb e=>by
    have:b=hG s:=by simpa using hb
    subst this;subst e;exact hn ha⟩
theorem xk.nil{P:bP->Prop}:xk P []:=⟨(λp hp=>nomatch hp),p9⟩
theorem xk.sorted{P:bP->Prop}{kvs:Kn}(h:xk P kvs){Q:Md->D->Prop}(k:∀ steps:List bP,(steps.map hG).Perm (kvs.map (·.1))->(∀ s∈steps,P s)->steps.Pairwise (λa b=>dv a b=true)->steps.length=kvs.length->Q (.ow true) (.list (steps.map eJ))) :
  HW (.ow true) (.list (kvs.map λkv=>.tup (kv.1.map iS))) Q:=by
 refine⟨kvs.map (·.1),[false,true],by rw[fo];rfl,λk hk=>?_,λms pm pw=>?_⟩
 ·obtain⟨p,hp,rfl⟩:=cw.mp hk;obtain⟨s,e,_⟩:=h.1 p hp;rw[e];rfl
 ·obtain⟨l,rfl,hl⟩:=nW (P:=P) (ks:=ms) λk hk=>by obtain⟨p,hp,e⟩:=cw.mp (pm.mem_iff.mp hk);rw[<- e];exact h.1 p hp
  have e:(l.map hG).map kg=l.map eJ:=by rw[fo];rfl
  rw[e];refine k l pm hl ?_ (by have:=pm.length_eq;simpa using this);have nd:(l.map hG).Nodup:=pm.nodup_iff.mpr h.2;rw[kH] at pw;have BQ:l.Pairwise λa b=>hG a≠hG b:=by grind
  refine(pw.and BQ).imp λ{a b} ⟨h1,h2⟩=>?_;unfold dv
  cases h3:gX (hG a) (hG b) with
  |true=>rfl
  |false=>exact absurd (gU (a:=hG a) (b:=hG b) rfl h3 h1) h2
theorem jR:∀ (l:List Str),dS (l.map D.str)=true
 |[]=>rfl
 |x :: l=>by simp[dS,jR l,D.flat]
theorem pD:∀ (l:List Int),dS (l.map D.int)=true
 |[]=>rfl
 |x :: l=>by simp[dS,pD l,D.flat]
theorem Ax(l:List Str)(x:Str):l.map D.str++[D.str x]=(l++[x]).map D.str:=by simp
theorem bN{n i:Nat}{lo:Int}{x:D}(h:(dG lo n)[i]? = some x):i<n/\x=.int (lo+(i:Nat)):=by
 unfold dG at h;rw[n5] at h;by_cases hi:i<n
 ·grind
 ·grind
theorem bD(lo:Int)(n:Nat):(dG lo n).length=n:=by simp[dG]
theorem wX{names:List Str}{i:Int}(h0:0<=i)(h1:i<names.length):∃ n,n∈names/\gS (names.map D.str) i=some (.str n):=by
 have hn:i.toNat<names.length:=by lia
 refine⟨names[i.toNat],AW hn,?_⟩;have:=NF (xs:=names.map D.str) (j:=i.toNat) (v:=.str names[i.toNat]) (by simp[hn]);rwa[I0 h0] at this
theorem zp{n d:Nat}{k:Int}(h0:0<=k)(h1:k<=n):HT.cq n d (some k)=k.toNat:=by simp only[HT.cq];rw[if_neg (by lia)];lia
theorem aJ{α:Type}[DecidableEq α]:∀ {l m:List α},l.Nodup->(∀ x∈l,x∈m)->l.length<=m.length
 |[],_,_,_=>fz _
 |x :: l,m,nd,h=>by obtain⟨hx,nd⟩:=k7.mp nd;have hm:=h x cE;have:=aJ (l:=l) (m:=m.erase x) nd λy hy=>(List.mem_erase_of_ne (λe=>by subst e;exact hx hy)).mpr (h y (df _ hy));rw[List.length_erase_of_mem hm] at this;have:=TV hm;simp only[oD];lia
def bV(n:Nat):List Int:=(List.range n).map λi=>((i:Nat):Int)
theorem di(n:Nat):(bV n).length=n:=by simp[bV]
theorem bK{n:Nat}{x:Int}:x∈bV n↔0<=x/\x<n:=by
 unfold bV;rw[cw];constructor
 ·grind
 ·intro ⟨h0,h1⟩;exact⟨x.toNat,sF.mpr (by lia),by lia⟩
theorem nZ:∀ {l m:List Int},l.Pairwise (· < ·)->m.Pairwise (· < ·)->(∀ x,x∈l↔x∈m)->l=m
 |[],[],_,_,_=>rfl
 |[],y :: m,_,_,h=>absurd ((h y).mpr cE) (by simp)
 |x :: l,[],_,_,h=>absurd ((h x).mp cE) (by simp)
 |x :: l,y :: m,hl,hm,h=>by
  obtain⟨a1,a2⟩:=Rc.mp hl;obtain⟨b1,b2⟩:=Rc.mp hm;have e:x=y:=by
   rcases eK.mp ((h x).mp cE) with e|e
   ·exact e
   ·rcases eK.mp ((h y).mpr cE) with e'|e'
    ·exact e'.symm
    ·have:=b1 x e;have:=a1 y e';lia
  subst e;rw[nZ a2 b2 λz=>⟨λhz=>by
   rcases eK.mp ((h z).mp (df _ hz)) with e|e
   ·grind
   ·exact e,λhz=>by
   rcases eK.mp ((h z).mpr (df _ hz)) with e|e
   ·grind
   ·exact e⟩]
theorem oR{l:List Int}(h:l.Pairwise (· < ·)):l.Nodup:=h.imp λh=>by lia
def eT(many:Int)(steps:List bP):Prop:=∀ s∈steps,LW many s
def vk(ks:List Int):List (Key × D):=ks.map λx=>(.inl x,.bl true)
theorem gk(ks:List Int):(vk ks).map (·.1)=ks.map λx=>(Sum.inl x:Key):=by simp[vk,fo,Function.comp_def]
theorem jc(ks:List Int):(vk ks).length=ks.length:=by simp[vk]
theorem bO{ks:List Int}{x:Int}:((Sum.inl x:Key)∈ks.map λx=>(Sum.inl x:Key))↔x∈ks:=by grind
def insI(ks:List Int)(x:Int):List Int:=if x∈ks then ks else ks++[x]
theorem jn{κ β:Type}[DecidableEq κ]{kvs:List (κ × β)}{k:κ}:(kvs.any λkv=>decide (kv.1=k))=true↔k∈kvs.map (·.1):=by grind
theorem vK(ks:List Int)(x:Int):ly (vk ks) (.inl x) (.bl true)=vk (insI ks x):=by
 unfold ly insI;by_cases h:x∈ks
 ·rw[if_pos h,if_pos (jn.mpr (by rw[gk];exact bO.mpr h))];unfold vk;rw[fo];apply IE;intro y _;show(if (Sum.inl y:Key)=Sum.inl x then ((Sum.inl y:Key),D.bl true) else (.inl y,.bl true))=_;split<;>rfl
 ·rw[if_neg h,if_neg (λz=>h (bO.mp (by rw[<- gk];exact jn.mp z)))];simp[vk]
theorem mJ{κ β:Type}[DecidableEq κ]:∀ {kvs:List (κ × β)} {k:κ},(eL kvs k).isSome=true↔k∈kvs.map (·.1)
 |[],k=>by simp[eL]
 |p :: kvs,k=>by
  have ih:=mJ (kvs:=kvs) (k:=k);rw[gE,eK];by_cases h:p.1=k
  ·subst h;simp[eL]
  ·have:eL (p :: kvs) k=eL kvs k:=by simp[eL,h]
   rw[this,ih];exact⟨.inr,λz=>z.elim (λe=>absurd e.symm h) id⟩
theorem get_set(ks:List Int)(x:Int):(eL (vk ks) (.inl x)).isSome=decide (x∈ks):=by rw[zv,mJ,gk,bO,decide_eq_true_iff]
theorem sY{ks:List Int}{x y:Int}:y∈insI ks x↔y∈ks\/y=x:=by
 unfold insI;split
 ·grind
 ·simp
theorem uH{ks:List Int}{x:Int}(h:ks.Nodup):(insI ks x).Nodup:=by
 unfold insI;split
 ·exact h
 ·grind
inductive Reach(steps:List bP):Int->Prop
 |zero:Reach steps 0
 |step {s:bP}:Reach steps s.1->s∈steps->Reach steps s.2.2
theorem Reach.lt{many:Int}{steps:List bP}(h:eT many steps)(hm:1<=many){x:Int}(r:Reach steps x):0<=x/\x<many:=by
 cases r with
 |zero=>lia
 |step r hs=>exact⟨(h _ hs).2.2.2.1,(h _ hs).2.2.2.2⟩
def rX(ms:List Int):List (Key × D):=ms.mapIdx λk x=>(.inl x,.int k)
theorem oY(ms:List Int):(rX ms).map (·.1)=ms.map λx=>(Sum.inl x:Key):=by apply B5;intro i;simp[rX,T3];cases ms[i]?<;>rfl
theorem vJ(ms:List Int)(x:Int):rX (ms++[x])=rX ms++[(.inl x,.int ms.length)]:=by simp[rX,List.mapIdx_append]
theorem Dh{ms:List Int}{x:Int}(h:x∉ms):ly (rX ms) (.inl x) (.int ms.length)=rX (ms++[x]):=by unfold ly;rw[if_neg (λz=>h (bO.mp (by rw[<- oY];exact jn.mp z))),vJ]
theorem zr(ms:List Int):(rX ms).length=ms.length:=by simp[rX]
def AJ(ms:List Int)(x:Int):Int:=(ms.idxOf x:Nat)
theorem xQ:∀ (l ms:List Int) {x:Int},x∈ms->(l++ms).Nodup->eL (ms.mapIdx λk y=>((Sum.inl y:Key),D.int ((l.length+k:Nat):Int))) (.inl x)=some (.int ((l.length+ms.idxOf x:Nat):Int))
 |_,[],_,h,_=>nomatch h
 |l,y :: ms,x,h,nd=>by
  rw[List.mapIdx_cons];by_cases e:y=x
  ·subst e;simp[eL]
  ·have hx:x∈ms:=by grind
   have ih:=xQ (l++[y]) ms hx (by simpa using nd);have:∀ (v:D) (r:List (Key × D)),eL (((Sum.inl y:Key),v) :: r) (.inl x)=eL r (.inl x):=λv r=>by simp[eL,e]
   rw[this];rw[List.idxOf_cons];have hb:(y == x)=false:=by simpa using e
   rw[hb];simp only[cond_false];simp only[oo,OQ] at ih;rw[show(λ(k:Nat) (y':Int)=>((Sum.inl y':Key),D.int ((l.length+(k+1):Nat):Int)))=λk y'=>((Sum.inl y':Key),D.int ((l.length+1+k:Nat):Int)) by funext k y';rw[show l.length+(k+1)=l.length+1+k by lia]];rw[ih];rw[show l.length+1+ms.idxOf x=l.length+(ms.idxOf x+1) by lia]
theorem Ho{ms:List Int}{x:Int}(h:x∈ms)(nd:ms.Nodup):eL (rX ms) (.inl x)=some (.int (AJ ms x)):=by have:=xQ [] ms h (by simpa using nd);simpa[rX,AJ] using this
theorem xK(ms:List Int)(x:Int):(eL (rX ms) (.inl x)).isSome=decide (x∈ms):=by rw[zv,mJ,oY,bO,decide_eq_true_iff]
structure Met(steps:List bP)(ms:List Int):Prop where
 up:ms.Pairwise (· < ·)
 mem:∀ x,x∈ms↔Reach steps x
theorem Met.uniq{steps:List bP}{l m:List Int}(a:Met steps l)(b:Met steps m):l=m:=nZ a.up b.up λx=>(a.mem x).trans (b.mem x).symm
theorem Met.to{steps:List bP}{ms:List Int}(a:Met steps ms){s:bP}(hs:s∈steps)(h:s.1∈ms):s.2.2∈ms:=(a.mem _).mpr (.step ((a.mem _).mp h) hs)
theorem Met.zero{steps:List bP}{ms:List Int}(a:Met steps ms):0∈ms:=(a.mem 0).mpr .zero
theorem Met.len{many:Int}{steps:List bP}{ms:List Int}(a:Met steps ms)(h:eT many steps)(hm:1<=many):1<=ms.length/\(ms.length:Int)<=many:=by
 refine⟨TV a.zero,?_⟩;have:=aJ (m:=bV many.toNat) (oR a.up) λx hx=>by have:=((a.mem x).mp hx).lt h hm;exact bK.mpr (by lia)
 rw[di] at this;lia
theorem GZ{ms:List Int}{x:Int}(h:x∈ms):0<=AJ ms x/\AJ ms x<ms.length:=by have:=List.idxOf_lt_length_of_mem h;unfold AJ;lia
theorem De{ms:List Int}(nd:ms.Nodup){k:Nat}(hk:k<ms.length):AJ ms ms[k]=k:=by unfold AJ;rw[nd.idxOf_getElem k hk]
inductive QM(l:List bP)(s:Int):Int->Prop
 |refl:QM l s s
 |step {t:bP}:QM l s t.1->t∈l->t.2.1 = "*"->QM l s t.2.2
structure iN'(l:List bP)(s:Int)(xs:List Int):Prop where
 up:xs.Pairwise (· < ·)
 mem:∀ x,x∈xs↔QM l s x
def cj(l:List bP)(s:Int)(d:Str):List Int:=(l.filter λt=>decide (t.1=s) && decide (t.2.1=d)).map (·.2.2)
theorem uv{l:List bP}{s:Int}{d:Str}{x:Int}:x∈cj l s d↔(s,d,x)∈l:=by
 unfold cj;rw[cw];constructor
 ·grind
 ·exact λh=>⟨_,zt.mpr ⟨h,by simp⟩,rfl⟩
theorem zF(l:List bP)(s:Int)(d:Str):(cj l s d).length<=l.length:=by unfold cj;rw[b5];exact Q9 _ _
def E6(l:List bP)(kvs:Kn):Prop:=∀ s d,eL kvs [.inl s,.inr d]=if cj l s d=[] then none else some (.list ((cj l s d).map .int))
theorem uB(k k':List Key)(x:D):∀ (kvs:Kn),eL (mI kvs k x) k'=if k'=k then some (match eL kvs k with
  |none=>.list [x]
  |some d=>QF d x) else eL kvs k'
 |[]=>by
  rw[mI,bj];by_cases h:k'=k
  ·rw[if_pos h.symm,if_pos h];rfl
  ·grind
 |p :: r=>by
  rw[mI];by_cases e:p.1=k
  ·rw[if_pos e,bj];by_cases h:k'=k
   ·rw[if_pos h,h,bj p r k,if_pos e,if_pos e]
   ·rw[if_neg h,bj p r k',if_neg λz=>h (z.symm.trans e),if_neg λz=>h (z.symm.trans e)]
  ·rw[if_neg e,bj,uB k k' x r];by_cases h:k'=k
   ·rw[if_pos h,h,bj p r k,if_neg e,if_neg e,if_pos rfl]
   ·rw[if_neg h,bj p r k',if_neg h]
theorem v8(k:List Key)(x:D):∀ (kvs:Kn),(mI kvs k x).length<=kvs.length+1
 |[]=>by simp[mI]
 |p :: r=>by have:=v8 k x r;rw[mI];split<;>simp only[oD]<;>lia
theorem E6.nil:E6 [] []:=λs d=>rfl
theorem E6.put{l:List bP}{kvs:Kn}(h:E6 l kvs)(p:Int)(n:Str)(r:Int):E6 (l++[(p,n,r)]) (mI kvs [.inl p,.inr n] (.int r)):=by
 intro s d;rw[uB];have ee:cj (l++[(p,n,r)]) s d=cj l s d++if p=s/\n=d then [r] else []:=by
  unfold cj;rw[List.filter_append,AX];congr 1;by_cases e:p=s/\n=d
  ·simp[e.1,e.2]
  ·grind
 by_cases e:p=s/\n=d
 ·rw[if_pos e] at ee;obtain⟨rfl,rfl⟩:=e;rw[ee,if_pos rfl,h p n,if_neg (show ¬ cj l p n++[r]=[] by simp)];by_cases z:cj l p n=[]
  ·rw[if_pos z,z];rfl
  ·rw[if_neg z];simp[QF]
 ·rw[if_neg e,pV] at ee;rw[ee,if_neg λz=>e ?_,h s d];simp only[List.cons.injEq,Sum.inl.injEq,Sum.inr.injEq,and_true] at z;exact⟨z.1.symm,z.2.symm⟩
theorem zO{l:List bP}{kvs:Kn}(h:E6 l kvs){s:Int}{d:Str}{Q:Md->D->Prop}(q:Q .sh (.list ((cj l s d).map .int))):E5 (eL kvs [.inl s,.inr d]) .sh .sh (.list []) Q:=by
 rw[h s d];by_cases z:cj l s d=[]
 ·rw[if_pos z];rw[z] at q;exact q
 ·rw[if_neg z];exact q
theorem pK{steps:List bP}{i:Nat}{x:D}(h:(steps.map eJ)[i]? = some x):∃ p d r,x=.tup [.int p,.str d,.int r]/\(p,d,r)∈steps/\steps.take (i+1)=steps.take i++[(p,d,r)]:=by
 rw[n5] at h
 cases e:steps[i]? with
 |none=>rw[e] at h;cases h
 |some s =>rw[e] at h;cases h;obtain⟨p,d,r⟩:=s;exact⟨p,d,r,rfl,om e,by rw[D7,e];rfl⟩
theorem sort_keys{l:List bP}{s:Int}{ks:List Int}{kd:List (Key × D)}(ek:kd.map (·.1)=ks.map λx=>(Sum.inl x:Key))(nk:ks.Nodup)(mk:∀ x,x∈ks↔QM l s x){Q:Md->D->Prop}(k:∀ xs,iN' l s xs->Q (.ow true) (.list (xs.map .int))):pL .bo (.dK kd) Q:=by
 refine⟨true,λp hp=>?_,λms pm pw=>?_⟩
 ·have:p.1∈kd.map (·.1):=List.mem_map_of_mem hp;rw[ek] at this;obtain⟨x,_,e⟩:=cw.mp this;rw[<- e];rfl
 ·rw[ek] at pm;obtain⟨xs,rfl⟩:∃ xs:List Int,ms=xs.map λx=>(Sum.inl x:Key):=by
   have hm:∀ k∈ms,∃ x:Int,k=Sum.inl x:=λk hk=>by obtain⟨x,_,rfl⟩:=cw.mp (pm.mem_iff.mp hk);exact⟨x,rfl⟩
   clear pm pw
   induction ms with
   |nil=>exact⟨[],rfl⟩
   |cons k ms ih =>obtain⟨l,rfl⟩:=ih λj hj=>hm j (df _ hj);obtain⟨x,rfl⟩:=hm k cE;exact⟨x :: l,rfl⟩
  have e:(xs.map λx=>(Sum.inl x:Key)).map iS=xs.map D.int:=by rw[fo];rfl
  rw[e];have mem:∀ x,x∈xs↔x∈ks:=λx=>by rw[<- bO (ks:=xs),<- bO (ks:=ks)];exact pm.mem_iff
  have nd:xs.Nodup:=by
   have:(xs.map λx=>(Sum.inl x:Key)).Nodup:=pm.nodup_iff.mpr (by
    unfold List.Nodup at *
    rw[kH];exact nk.imp λh e=>h (Sum.inl.inj e))
   unfold List.Nodup at *
   rw[kH] at this;exact this.imp λh e=>h (by rw[e])
  refine k xs ⟨?_,λx=>(mem x).trans (mk x)⟩;rw[kH] at pw;refine(pw.and nd).imp λ{a b} ⟨h1,h2⟩=>?_;have h1:¬ b<a:=by simpa[nK] using h1
  lia
theorem fV{l:List Int}{i:Int}(h0:0<=i)(h1:i<l.length):∃ c,c∈l/\gS (l.map D.int) i=some (.int c):=by
 have hn:i.toNat<l.length:=by lia
 refine⟨l[i.toNat],AW hn,?_⟩;have:=NF (xs:=l.map D.int) (j:=i.toNat) (v:=.int l[i.toNat]) (by simp[hn]);rwa[I0 h0] at this
theorem BP(x:Int){m:Int}(h:0<m):0<=x % m/\x % m<m:=⟨Int.emod_nonneg _ (by lia),Ue _ h⟩
theorem bw{a b:Int}(h0:-1000<=b)(h1:b<=10000000000):B9 a b:=.inr ⟨by lia,by lia⟩
theorem gY{a b:Int}(h0:-1000<=a)(h1:a<=10000000000):B9 a b:=.inl ⟨by lia,by lia⟩
theorem iG:∀ l:List Nat,sg (Str.join "" (l.map λc=>(⟨#[c]⟩:Str)))=l
 |[]=>by decide +kernel
 |[c]=>rfl
 |c :: d :: l=>by have ih:=iG (d :: l);show sg ((⟨#[c]⟩:Str) ++ "" ++ Str.join "" ((d :: l).map λc=>(⟨#[c]⟩:Str)))=_;rw[sJ,sJ,ih,show sg ("" : Str)=[] by decide +kernel];rfl
theorem rT:∀ l:List Nat,(l.map λ_=>1).sum=l.length
 |[]=>rfl
 |x :: l=>by simp[rT l];lia
theorem lA:∀ (l:List Str),iR (l.map D.str)=some l
 |[]=>rfl
 |x :: l=>by simp[iR,lA l]
def vn(n:Nat)(out:List D):Prop:=∃ cs:List Nat,out=cs.map (λc=>D.str ⟨#[c]⟩)/\cs.length=n/\∀ c∈cs,isLet c=true
theorem vn.nil:vn 0 []:=⟨[],rfl,rfl,λc hc=>nomatch hc⟩
theorem vn.push{n:Nat}{out:List D}{c:Nat}(h:vn n out)(hc:isLet c=true):vn (n+1) (out++[.str ⟨#[c]⟩]):=by
 obtain⟨cs,rfl,hl,ha⟩:=h;refine⟨cs++[c],by simp,by simp[hl],λd hd=>?_⟩;rcases eR.mp hd with hd|hd
 ·exact ha d hd
 ·grind
theorem vn.join{n:Nat}{out:List D}(h:vn n out)(hn:n<=100) :
  ∃ zs,iR out=some zs/\(zs.map (·.length)).sum+zs.length*(Str.ofString "").length<=16777216/\(Str.join "" zs).length=n/\lets (Str.join "" zs):=by
 obtain⟨cs,rfl,hl,ha⟩:=h;refine⟨cs.map λc=>⟨#[c]⟩,?_,?_,?_⟩
 ·rw[<- lA,fo];rfl
 ·rw[show(Str.ofString "").length=0 by decide,fo,Nat.mul_zero,MQ];show(cs.map λ_=>1).sum<=_;rw[rT];lia
 ·have hw:=iG cs;generalize Str.join "" (cs.map λc=>(⟨#[c]⟩:Str))=word at hw ⊢;refine⟨?_,λc hc=>ha c (by rwa[hw] at hc)⟩;have:(sg word).length=n:=by rw[hw,hl]
  rw[<- this];unfold sg Str.length;simp
theorem zA(l:List Str)(lo hi:Option Int):qk (l.map D.str) lo hi=(qk l lo hi).map D.str:=by unfold qk;rw[b5,List.map_take,List.map_drop]
theorem HF{α:Type}{l:List α}{a b:Int}(h0:0<=a)(h1:a<b)(h2:a<l.length):1<=(qk l (some a) (some b)).length/\(qk l (some a) (some b)).length<=l.length/\∀ x∈qk l (some a) (some b),x∈l:=by
 have e:HT.cq l.length 0 (some a)=a.toNat:=zp h0 (by lia);have e2:a.toNat<HT.cq l.length l.length (some b):=by simp only[HT.cq];rw[if_neg (by lia)];lia
 unfold qk;rw[e,mN,Fn];exact⟨by lia,by lia,λx hx=>T1 (Ra hx)⟩
theorem xk.Fi{P:bP->Prop}{kvs:Kn}(h:xk P kvs){R:List (List Key)->Prop}(k:∀ steps:List bP,(steps.map hG).Perm (kvs.map (·.1))->(∀ s∈steps,P s)->steps.Pairwise (λa b=>dv a b=true)->steps.length=kvs.length->R (steps.map hG)) :
  ∃ b0 sh,(∀ p∈kvs,iq p.1=b0 :: sh)/\∀ ms:List (List Key),ms.Perm (kvs.map (·.1))->(ms.Pairwise λa b=>gX b a=false)->R ms:=by
 refine⟨true,[false,true],λp hp=>?_,λms pm pw=>?_⟩
 ·obtain⟨s,e,_⟩:=h.1 p hp;rw[e];rfl
 ·obtain⟨l,rfl,hl⟩:=nW (P:=P) (ks:=ms) λk hk=>by obtain⟨p,hp,e⟩:=cw.mp (pm.mem_iff.mp hk);rw[<- e];exact h.1 p hp
  refine k l pm hl ?_ (by have:=pm.length_eq;simpa using this);have nd:(l.map hG).Nodup:=pm.nodup_iff.mpr h.2;rw[kH] at pw;have BQ:l.Pairwise λa b=>hG a≠hG b:=by grind
  refine(pw.and BQ).imp λ{a b} ⟨h1,h2⟩=>?_;unfold dv
  cases h3:gX (hG a) (hG b) with
  |true=>rfl
  |false=>exact absurd (gU (a:=hG a) (b:=hG b) rfl h3 h1) h2
theorem vg(l:List bP):(l.map hG).map kg=l.map eJ:=by rw[fo];rfl
theorem xg{one states j copies:Int}(h0:0<=one)(h1:one<states)(hj:0<=j)(Tw:j<copies):0<=one+states*j/\one+states*j<copies*states:=by have a:=Int.mul_le_mul_of_nonneg_left (show j+1<=copies by lia) (show 0<=states by lia);rw[Int.mul_add,Int.mul_one,Int.mul_comm states copies] at a;have b:=Int.mul_nonneg (show 0<=states by lia) hj;lia
abbrev Pr:=Str × Int
abbrev Ky:=Int × List Pr
def sj(p:Pr):List Key:=[.inr p.1,.inl p.2]
def kX(p:Pr):D:=.tup [.str p.1,.int p.2]
def iF(k:Ky):D:=.tup [.int k.1,.list (k.2.map kX)]
def DJ(r:List Int):D:=.list (r.map .int)
def tj(a b:Ky):Bool:=PySem.SeqAt.dv 3 (iF a).py (iF b).py
def vt(k:Ky):Prop:=∀ p∈k.2,PyData.strOk p.1=true
theorem CV(k:Ky):(iF k).py=.tuple [.int k.1,.list (k.2.map L2.j9)]:=by show PyData.tuple [.int k.1,.list (nL (k.2.map kX))]=_;rw[il,fo];rfl
theorem vt.xi{k:Ky}(h:vt k):L2.xi (iF k).py:=⟨k.1,k.2,CV k,h⟩
theorem jM(a:Ky)(h:vt a):tj a a=false:=L2.Tp.ah.zi _ h.xi
theorem Be{a b c:Ky}(ha:vt a)(hb:vt b)(hc:vt c):tj a b=true->tj b c=true->tj a c=true:=L2.Tp.ah.tr _ _ _ ha.xi hb.xi hc.xi
theorem Cr{p q:Pr}(h:kX p=kX q):p=q:=by obtain⟨a,b⟩:=p;obtain⟨c,d⟩:=q;simp[kX] at h;rw[h.1,h.2]
theorem CZ{p q:Pr}(h:sj p=sj q):p=q:=by obtain⟨a,b⟩:=p;obtain⟨c,d⟩:=q;simp[sj] at h;rw[h.1,h.2]
theorem map_inj{α β:Type}{f:α->β}(hf:∀ a b,f a=f b->a=b):∀ {l m:List α},l.map f=m.map f->l=m
 |[],[],_=>rfl
 |[],_ :: _,h=>by simp at h
 |_ :: _,[],h=>by simp at h
 |x :: l,y :: m,h=>by simp only[gE,List.cons.injEq] at h;rw[hf _ _ h.1,map_inj hf h.2]
theorem v5{a b:Ky}(h:iF a=iF b):a=b:=by simp only[iF,D.tup.injEq,List.cons.injEq,D.int.injEq,D.list.injEq] at h;exact Prod.ext h.1 (map_inj (λ_ _=>Cr) h.2.1)
theorem Bl:∀ l:List Pr,BD (l.map kX)=true
 |[]=>rfl
 |x :: l=>by simp[BD,Bl l,kX,D.nb]
theorem Gz(k:Ky):(iF k).nb=true:=by simp[iF,D.nb,BD,Bl]
theorem u9(a b:Ky):iO (iF a) (iF b)=decide (a=b):=by rw[zv,nF _ _ (Gz a) (Gz b),decide_eq_true_iff];exact⟨v5,λe=>by rw[e]⟩
theorem Fq{a b:Ky}(ha:vt a)(hb:vt b)(h1:tj a b=false)(h2:tj b a=false):a=b:=by
 have e:=L2.Tp.ah.ah _ _ ha.xi hb.xi h1 h2;have:iO (iF a) (iF b)=iO (iF a) (iF a):=by unfold iO;rw[e]
 rw[u9,u9] at this;simpa using this
theorem CW{a b:Ky}(h:a.1<b.1):tj a b=true:=by
 unfold tj;rw[CV,CV,PySem.SeqAt.dv,PySem.SeqAt.oz];have:PyData.eqv (.int a.1) (.int b.1)=false:=by
  have:a.1≠b.1:=by lia
  simpa[PyData.eqv] using this
 rw[this,if_neg kB,PySem.SeqAt.dv];exact decide_eq_true h
theorem zc{k:Ky}(h:vt k)(n:Nat):dP (n+3) (iF k)=true:=by
 have:∀ p∈k.2.map kX,dP (n+1) p=true:=λd hd=>by obtain⟨p,hp,rfl⟩:=cw.mp hd;simp[kX,dP,h p hp]
 simp only[iF,dP,D8,List.all_nil,Rt,Bool.true_and,My];exact this
theorem Bv{l:List Ky}(h:∀ k∈l,vt k)(n:Nat):dP (n+4) (.list (l.map iF))=true:=by simp only[dP,Rl,My];exact λk hk=>zc (h k hk) n
theorem FQ(l:List Ky)(k:Ky):E4 (l.map iF) (iF k)=decide (k∈l):=by
 unfold E4;rw[Rm,zv,OY,decide_eq_true_iff];constructor
 ·rintro⟨j,hj,e⟩;have e:iO (iF j) (iF k)=true:=e;rw[u9,decide_eq_true_iff] at e;rwa[<- e]
 ·exact λhk=>⟨k,hk,by show iO (iF k) (iF k)=true;rw[u9];exact decide_eq_true rfl⟩
theorem rJ:∀ l:List Int,BD (l.map D.int)=true
 |[]=>rfl
 |x :: l=>by simp[BD,rJ l,D.nb]
theorem Gx(a b:List Int):iO (.list (a.map .int)) (.list (b.map .int))=decide (a=b):=by rw[zv,nF _ _ (by simp[D.nb,rJ]) (by simp[D.nb,rJ]),decide_eq_true_iff];refine⟨λh=>map_inj (f:=D.int) (λ_ _=>D.int.inj) (D.list.inj h),λe=>by rw[e]⟩
theorem rB(l:List Int)(n:Nat):dP (n+1) (.list (l.map .int))=true:=by simp[dP,Rl]
theorem Ox{α β:Type}{f:β->α}{P:β->Prop}:∀ {ks:List α},(∀ k∈ks,∃ s,k=f s/\P s)->∃ l:List β,ks=l.map f/\∀ s∈l,P s
 |[],_=>⟨[],rfl,λs h=>nomatch h⟩
 |k :: ks,h=>by
  obtain⟨s,rfl,p⟩:=h k cE;obtain⟨l,rfl,q⟩:=Ox λk hk=>h k (df _ hk);refine⟨s :: l,rfl,λt ht=>?_⟩;rcases eK.mp ht with rfl|ht
  ·exact p
  ·exact q t ht
theorem iW{α:Type}{lt:α->α->Prop}:∀ {l m:List α},(∀ a∈l,∀ b∈l,lt a b->lt b a->False)->l.Pairwise lt->m.Pairwise lt->(∀ x,x∈l↔x∈m)->l=m
 |[],[],_,_,_,_=>rfl
 |[],y :: m,_,_,_,h=>absurd ((h y).mpr cE) (by simp)
 |x :: l,[],_,_,_,h=>absurd ((h x).mp cE) (by simp)
 |x :: l,y :: m,as,hl,hm,h=>by
  obtain⟨a1,a2⟩:=Rc.mp hl;obtain⟨b1,b2⟩:=Rc.mp hm;have e:x=y:=by
   rcases eK.mp ((h x).mp cE) with e|e
   ·exact e
   ·grind
  subst e;have zi:¬ lt x x:=λz=>as x cE x cE z z;rw[iW (λa ha b hb=>as a (df _ ha) b (df _ hb)) a2 b2 λz=>⟨λhz=>by
   rcases eK.mp ((h z).mp (df _ hz)) with e|e
   ·grind
   ·exact e,λhz=>by
   rcases eK.mp ((h z).mpr (df _ hz)) with e|e
   ·grind
   ·exact e⟩]
def rk(dc:List Int)(s:Int):Int:=dc.getD s.toNat 0
structure HP(steps:List bP)(dc:List Int)(s:Int)(k:Ky):Prop where
 fst:k.1=rk dc s
 up:k.2.Pairwise fun a b=>gX (sj a) (sj b)=true
 mem:∀ p,p∈k.2↔∃ t∈steps,t.1=s/\p=(t.2.1,rk dc t.2.2)
theorem HP.uniq{steps:List bP}{dc:List Int}{s:Int}{k j:Ky}(a:HP steps dc s k)(b:HP steps dc s j):k=j:=by have h2:k.2=j.2:=iW (λx _ y _ h1 h2=>by have:=qy h1 h2;rw[jL] at this;cases this) a.up b.up λp=>(a.mem p).trans (b.mem p).symm;exact Prod.ext (a.fst.trans b.fst.symm) h2
theorem HP.ok{many:Int}{steps:List bP}{dc:List Int}{s:Int}{k:Ky}(a:HP steps dc s k)(h:eT many steps):vt k:=λp hp=>by obtain⟨t,ht,_,rfl⟩:=(a.mem p).mp hp;exact(h t ht).2.2.1.ok
structure tq(many:Int)(steps:List bP)(dc r:List Int)(ky:Int->Ky)(diff:List Ky):Prop where
 len:r.length=many.toNat
 key:∀ s,0<=s->s<many->HP steps dc s (ky s)
 up:diff.Pairwise fun a b=>tj a b=true
 mem:∀ k,k∈diff↔∃ s,(0<=s/\s<many)/\k=ky s
 pos:∀ s,0<=s->s<many->0<=rk r s/\diff[(rk r s).toNat]? = some (ky s)
def RB(many:Int)(steps:List bP)(dc r:List Int):Prop:=∃ ky diff,tq many steps dc r ky diff
section
variable {many:Int}{steps:List bP}{dc r r2:List Int}{ky ky2:Int->Ky}{diff bB':List Ky}
theorem tq.ok(h:tq many steps dc r ky diff)(aS:eT many steps){k:Ky}(hk:k∈diff):vt k:=by obtain⟨s,hs,rfl⟩:=(h.mem k).mp hk;exact(h.key s hs.1 hs.2).ok aS
theorem tq.as(h:tq many steps dc r ky diff)(aS:eT many steps):∀ a∈diff,∀ b∈diff,tj a b=true->tj b a=true->False:=λa ha b hb h1 h2=>by have:=Be (h.ok aS ha) (h.ok aS hb) (h.ok aS ha) h1 h2;rw[jM a (h.ok aS ha)] at this;cases this
theorem Hn{l m:List Int}(hl:l.length=many.toNat)(hm:m.length=many.toNat)(h:∀ s,0<=s->s<many->rk l s=rk m s):l=m:=by apply List.ext_getElem (by lia);intro i h1 h2;have:=h (i:Nat) (by lia) (by lia);unfold rk at this;simpa[List.getD,h1,h2] using this
theorem tq.inj(h:tq many steps dc r ky diff)(aS:eT many steps){i j:Nat}{k:Ky}(hi:diff[i]? = some k)(hj:diff[j]? = some k):i=j:=by
 obtain⟨nI,kP⟩:=jS.mp hi;obtain⟨Sr,Tw⟩:=jS.mp hj;have hk:k∈diff:=om hi;have zi:=jM k (h.ok aS hk);have pw:=D3.mp h.up;rcases Nat.lt_trichotomy i j with e|e|e
 ·grind
 ·exact e
 ·grind
theorem tq.same(h:tq many steps dc r ky diff)(h2:tq many steps dc r2 ky2 bB')(aS:eT many steps):r=r2:=by
 have ek:∀ s,0<=s->s<many->ky s=ky2 s:=λs a b=>(h.key s a b).uniq (h2.key s a b);have ed:diff=bB':=iW (h.as aS) h.up h2.up λk=>by rw[h.mem,h2.mem];exact⟨λ⟨s,a,e⟩=>⟨s,a,e.trans (ek s a.1 a.2)⟩,λ⟨s,a,e⟩=>⟨s,a,e.trans (ek s a.1 a.2).symm⟩⟩
 subst ed;refine Hn h.len h2.len λs a b=>?_;have p1:=h.pos s a b;have p2:=h2.pos s a b;rw[<- ek s a b] at p2;have:=h.inj aS p1.2 p2.2;lia
theorem RB.uniq(h:RB many steps dc r)(h2:RB many steps dc r2)(aS:eT many steps):r=r2:=by obtain⟨_,_,h⟩:=h;obtain⟨_,_,h2⟩:=h2;exact h.same h2 aS
theorem tq.wH(h:tq many steps dc r ky diff){s t:Int}(hs:0<=s/\s<many)(ht:0<=t/\t<many)(e:rk r s=rk r t):ky s=ky t:=by have p1:=(h.pos s hs.1 hs.2).2;have p2:=(h.pos t ht.1 ht.2).2;rw[e,p2] at p1;exact(Option.some.inj p1).symm
theorem tq.lt(h:tq many steps dc r ky diff)(aS:eT many steps){s t:Int}(hs:0<=s/\s<many)(ht:0<=t/\t<many):rk r s<rk r t↔tj (ky s) (ky t)=true:=by
 have p1:=h.pos s hs.1 hs.2;have p2:=h.pos t ht.1 ht.2;have k1:=h.ok aS (om p1.2);have k2:=h.ok aS (om p2.2);obtain⟨a1,a2⟩:=jS.mp p1.2;obtain⟨b1,b2⟩:=jS.mp p2.2;have pw:=D3.mp h.up;constructor
 ·grind
 ·intro l;by_cases z:rk r t<rk r s
  ·have:=pw _ _ b1 a1 (by lia);rw[a2,b2] at this;have:=Be k1 k2 k1 l this;rw[jM _ k1] at this;cases this
  ·by_cases z2:rk r s=rk r t
   ·have:=h.wH hs ht z2;rw[this,jM _ k2] at l;cases l
   ·lia
theorem RB.mono(h:RB many steps dc r)(aS:eT many steps){s t:Int}(hs:0<=s/\s<many)(ht:0<=t/\t<many)(l:rk dc s<rk dc t):rk r s<rk r t:=by obtain⟨ky,diff,h⟩:=h;refine(h.lt aS hs ht).mpr (CW ?_);rw[(h.key s hs.1 hs.2).fst,(h.key t ht.1 ht.2).fst];exact l
theorem RB.iO'(h:RB many steps dc r){s t:Int}(hs:0<=s/\s<many)(ht:0<=t/\t<many)(e:rk r s=rk r t):rk dc s=rk dc t:=by obtain⟨ky,diff,h⟩:=h;have:=h.wH hs ht e;rw[<- (h.key s hs.1 hs.2).fst,<- (h.key t ht.1 ht.2).fst,this]
theorem RB.Tx(h:RB many steps dc r)(aS:eT many steps){t:bP}(ht:t∈steps){s:Int}(hs:0<=s/\s<many)(e:rk r t.1=rk r s):∃ u∈steps,u.1=s/\u.2.1=t.2.1/\rk dc u.2.2=rk dc t.2.2:=by obtain⟨ky,diff,h⟩:=h;have hk:=h.wH ⟨(aS t ht).1,(aS t ht).2.1⟩ hs e;have hm:=((h.key t.1 (aS t ht).1 (aS t ht).2.1).mem (t.2.1,rk dc t.2.2)).mpr ⟨t,ht,rfl,rfl⟩;rw[hk] at hm;obtain⟨u,hu,e1,e2⟩:=((h.key s hs.1 hs.2).mem _).mp hm;exact⟨u,hu,e1,(Prod.mk.inj e2).1.symm,(Prod.mk.inj e2).2.symm⟩
def uY(many:Int)(r:List Int):Prop:=r.length=many.toNat/\(∀ s,0<=s->s<many->0<=rk r s/\rk r s<many)/\∀ s,0<=s->s<many->0<rk r s->∃ t,(0<=t/\t<many)/\rk r t=rk r s-1
theorem tq.short(h:tq many steps dc r ky diff)(aS:eT many steps):diff.length<=many.toNat:=by
 have nd:diff.Nodup:=by rw[Q6];have:=D3.mp h.up;rw[D3];intro i j hi hj kQ e;have z:=this i j hi hj kQ;rw[e,jM _ (h.ok aS (AW hj))] at z;cases z
 have:=aJ (m:=(bV many.toNat).map ky) nd λk hk=>by obtain⟨s,hs,rfl⟩:=(h.mem k).mp hk;exact cw.mpr ⟨s,bK.mpr (by lia),rfl⟩
 rwa[b5,di] at this
theorem RB.zX(h:RB many steps dc r)(aS:eT many steps):uY many r:=by
 obtain⟨ky,diff,h⟩:=h;have sh:=h.short aS;refine⟨h.len,λs a b=>?_,λs a b c=>?_⟩
 ·have p:=h.pos s a b;have:=(jS.mp p.2).1;lia
 ·have p:=h.pos s a b;have l:=(jS.mp p.2).1;have l2:(rk r s-1).toNat<diff.length:=by lia
  obtain⟨t,ht,e⟩:=(h.mem _).mp (AW l2);have p2:=h.pos t ht.1 ht.2;have:=h.inj aS p2.2 (jS.mpr ⟨l2,e⟩);exact⟨t,ht,by lia⟩
theorem RB.grows(h:RB many steps dc r)(aS:eT many steps)(d:uY many dc):∀ (n:Nat) (s:Int),0<=s->s<many->rk dc s=n->rk dc s<=rk r s
 |0,s,a,b,e=>by rw[e];exact((h.zX aS).2.1 s a b).1
 |n+1,s,a,b,e=>by obtain⟨t,ht,et⟩:=d.2.2 s a b (by lia);have:=RB.grows h aS d n t ht.1 ht.2 (by lia);have:=h.mono aS ht ⟨a,b⟩ (by lia);lia
theorem RB.le(h:RB many steps dc r)(aS:eT many steps)(d:uY many dc){s:Int}(a:0<=s)(b:s<many):rk dc s<=rk r s :=
 h.grows aS d (rk dc s).toNat s a b (by have:=(d.2.1 s a b).1;lia)
end
theorem Cd:∀ {l m:List Int},l.length=m.length->(∀ (i:Nat) (h1:i<l.length) (h2:i<m.length),l[i]<=m[i])->l.sum<=m.sum/\(l≠m->l.sum<m.sum)
 |[],[],_,_=>⟨by simp,λh=>absurd rfl h⟩
 |[],y :: m,h,_=>by simp at h
 |x :: l,[],h,_=>by simp at h
 |x :: l,y :: m,h,hl=>by
  have ih:=Cd (l:=l) (m:=m) (by simpa using h) λi h1 h2=>by have:=hl (i+1) (by simp;lia) (by simp;lia);simpa using this
  have h0:x<=y:=by have:=hl 0 (by simp) (by simp);simpa using this
  simp only[List.sum_cons];refine⟨by have:=ih.1;lia,λne=>?_⟩;by_cases e:x=y
  ·subst e;have:l≠m:=λz=>ne (by rw[z]);have:=ih.2 this;lia
  ·have:=ih.1;lia
theorem sum_bound{l:List Int}{b:Int}(h:∀ x∈l,x<=b)(hb:0<=b):l.sum<=l.length*b:=by
 induction l with
 |nil=>simp
 |cons x l ih =>
  have:=ih λy hy=>h y (df _ hy);have:=h x cE;simp only[List.sum_cons,oD];have e:((l.length+1:Nat):Int)*b=l.length*b+b:=by rw[Int.natCast_add,Int.add_mul];simp
  lia
theorem Dy{r:List Int}{i:Nat}(h:i<r.length):r[i]=rk r i:=by simp[rk,List.getD,h]
theorem RB.sum{many:Int}{steps:List bP}{dc r:List Int}(h:RB many steps dc r)(aS:eT many steps)(d:uY many dc)(hm:0<=many)(ne:r≠dc):dc.sum<r.sum/\r.sum<=many*many:=by
 have d2:=h.zX aS;have hl:=d.1;have AF:=d2.1;refine⟨(Cd (by lia) λi h1 h2=>?_).2 λe=>ne e.symm,?_⟩
 ·rw[Dy h1,Dy h2];exact h.le aS d (by lia) (by lia)
 ·have:=sum_bound (l:=r) (b:=many) (λx hx=>by
   obtain⟨i,hi,rfl⟩:=Rb.mp hx;rw[Dy hi];have:=(d2.2.1 i (by lia) (by lia)).2;lia) hm
  rwa[AF,I0 hm] at this
def Chain(many:Int)(steps:List bP):List Int->List (List Int)->Prop
 |cur,[]=>RB many steps cur cur
 |cur,nX :: rest=>RB many steps cur nX/\nX≠cur/\Chain many steps nX rest
theorem Chain.uniq{many:Int}{steps:List bP}(aS:eT many steps):∀ {cur:List Int} {a b:List (List Int)},Chain many steps cur a->Chain many steps cur b->a=b
 |_,[],[],_,_=>rfl
 |_,[],y :: b,h,g=>absurd (g.1.uniq h aS) g.2.1
 |_,x :: a,[],h,g=>absurd (h.1.uniq g aS) h.2.1
 |_,x :: a,y :: b,h,g=>by have:=h.1.uniq g.1 aS;subst this;rw[Chain.uniq aS h.2.2 g.2.2]
def gZ(cur:List Int)(rest:List (List Int)):List Int:=(cur :: rest).getLast (by simp)
theorem uZ(cur nX:List Int)(rest:List (List Int)):gZ cur (nX :: rest)=gZ nX rest:=by simp[gZ]
theorem Chain.last{many:Int}{steps:List bP}:∀ {cur:List Int} {rest:List (List Int)},Chain many steps cur rest->RB many steps (gZ cur rest) (gZ cur rest)
 |_,[],h=>h
 |cur,nX :: rest,h=>by rw[uZ];exact h.2.2.last
def zeros(many:Int):List Int:=List.replicate many.toNat 0
theorem iZ(many s:Int):rk (zeros many) s=0:=by
 unfold rk zeros;by_cases h:s.toNat<many.toNat
 ·simp[List.getD,h]
 ·grind
theorem qG{many:Int}(h:1<=many):uY many (zeros many) :=
 ⟨by simp[zeros],λs _ _=>by rw[iZ];lia,λs _ _ z=>by rw[iZ] at z;lia⟩
def Kinds(many:Int)(steps:List bP)(k:List Int):Prop:=∃ rest,Chain many steps (zeros many) rest/\k=gZ (zeros many) rest
theorem Kinds.uniq{many:Int}{steps:List bP}(aS:eT many steps){k l:List Int}(h:Kinds many steps k)(g:Kinds many steps l):k=l:=by obtain⟨a,ha,rfl⟩:=h;obtain⟨b,hb,rfl⟩:=g;rw[ha.uniq aS hb]
theorem Kinds.fA{many:Int}{steps:List bP}{k:List Int}(h:Kinds many steps k):RB many steps k k:=by obtain⟨a,ha,rfl⟩:=h;exact ha.last
theorem Kinds.len{many:Int}{steps:List bP}{k:List Int}(h:Kinds many steps k):k.length=many.toNat:=by obtain⟨ky,diff,r⟩:=h.fA;exact r.len
theorem z8{ps:List Pr}(hl:ps.length<=1000){m:Md}{Q:Md->D->Prop}(k:∀ l:List Pr,l.Pairwise (λa b=>gX (sj a) (sj b)=true)->(∀ p,p∈l↔p∈ps)->Q (.ow true) (.list (l.map kX))) :
  eV m (.list (ps.map kX)) Q:=by
 refine⟨ps.map sj,[true],by rw[fo];rfl,by rw[b5];exact hl,λk hk=>?_,λms nd mm pw=>?_⟩
 ·obtain⟨p,_,rfl⟩:=cw.mp hk;rfl
 ·obtain⟨l,rfl,hp⟩:=Ox (f:=sj) (P:=λp=>p∈ps) (ks:=ms) λk hk=>by grind
  have e:(l.map sj).map kg=l.map kX:=by rw[fo];rfl
  rw[e];refine k l ?_ λp=>⟨hp p,λiN=>?_⟩
  ·rw[kH] at pw;have BQ:l.Pairwise λa b=>sj a≠sj b:=by rw[List.Nodup,kH] at nd;exact nd
   refine(pw.and BQ).imp λ{a b} ⟨h1,h2⟩=>?_
   cases h3:gX (sj a) (sj b) with
   |true=>rfl
   |false=>exact absurd (gU (a:=sj a) (b:=sj b) rfl h3 h1) h2
  ·obtain⟨q,hq,e⟩:=cw.mp ((mm (sj p)).mpr (cw.mpr ⟨p,iN,rfl⟩));rw[<- CZ e];exact hq
def mn(steps:List bP)(s:Int):List Pr:=(steps.filter λt=>decide (t.1=s)).map (·.2)
def tF(many:Int)(steps:List bP):List D:=(bV many.toNat).map λs=>.list ((mn steps s).map kX)
def tI(many:Int)(steps:List bP):D:=.list (tF many steps)
theorem Bx(many:Int):((dG 0 many.toNat).filter λ_=>true).map (λ_=>D.list [])=tF many []:=by unfold tF dG bV;rw[D5.mpr λ_ _=>rfl,fo,fo];rfl
theorem Ao{many s:Int}(steps:List bP)(h0:0<=s)(h1:s<many):(tF many steps)[s.toNat]? = some (.list ((mn steps s).map kX)):=by
 have:s.toNat<many.toNat:=by lia
 simp[tF,bV,this,I0 h0]
theorem lF(many:Int)(steps:List bP):(tF many steps).length=many.toNat:=by simp[tF,bV]
theorem qi{n:Nat}{i:Int}(h0:0<=i)(h1:i<n):oa n i=some i.toNat:=by unfold oa;rw[if_pos h0,if_pos h1]
theorem zZ(steps:List bP)(p:Int)(d:Str)(r s:Int):mn (steps++[(p,d,r)]) s=if p=s then mn steps s++[(d,r)] else mn steps s:=by
 unfold mn;by_cases h:p=s
 ·simp[h]
 ·simp[h]
theorem BZ{many p:Int}(steps:List bP)(d:Str)(r:Int)(h0:0<=p)(h1:p<many):(tF many steps).set p.toNat (.list ((mn steps p).map kX++[.tup [.str d,.int r]]))=tF many (steps++[(p,d,r)]):=by
 apply B5;intro i;by_cases hi:i<many.toNat
 ·have e:∀ st,(tF many st)[i]? = some (.list ((mn st (i:Nat)).map kX)):=λst=>by have:=Ao (many:=many) (s:=(i:Nat)) st (by lia) (by lia);simpa using this
  rw[e,zZ];by_cases hp:p=(i:Nat)
  ·subst hp;rw[if_pos rfl];simp[lF,hi,kX]
  ·grind
 ·rw[D4 (by rw[List.length_set,lF];lia),D4 (by rw[lF];lia)]
theorem uU{many s:Int}(steps:List bP)(h0:0<=s)(h1:s<many):gS (tF many steps) s=some (.list ((mn steps s).map kX)) :=
 uX (qi h0 (by rw[lF];lia)) (Ao steps h0 h1)
theorem uQ{many s:Int}{r:List Int}(hl:r.length=many.toNat)(h0:0<=s)(h1:s<many):gS (r.map D.int) s=some (.int (rk r s)):=by
 have h:s.toNat<r.length:=by lia
 refine uX (qi h0 (by rw[b5];lia)) ?_;simp[rk,List.getD,h]
theorem rA{steps:List bP}{s:Int}{p:Pr}(h:p∈mn steps s):∃ t∈steps,t.1=s/\t.2=p:=by obtain⟨t,ht,e⟩:=cw.mp h;obtain⟨ht,hs⟩:=zt.mp ht;exact⟨t,ht,of_decide_eq_true hs,e⟩
theorem xU{steps:List bP}{t:bP}(h:t∈steps):t.2∈mn steps t.1:=cw.mpr ⟨t,zt.mpr ⟨h,decide_eq_true rfl⟩,rfl⟩
theorem qZ(steps:List bP)(s:Int):(mn steps s).length<=steps.length:=by unfold mn;rw[b5];exact Q9 _ _
theorem yc(many:Int):(List.replicate many.toNat [D.int 0]).flatten=(zeros many).map D.int:=by
 unfold zeros;generalize many.toNat=n
 induction n with
 |zero=>rfl
 |succ n ih=>rw[Fm,IG,ih,Fm];rfl
theorem RB.len{many:Int}{steps:List bP}{dc r:List Int}(h:RB many steps dc r):r.length=many.toNat:=by obtain⟨ky,diff,h⟩:=h;exact h.len
abbrev P2:=Int × Int
def pT(p:P2):List Key:=[.inl p.1,.inl p.2]
def vv(p:P2):D:=.tup [.int p.1,.int p.2]
theorem Ex{p q:P2}(h:pT p=pT q):p=q:=by obtain⟨a,b⟩:=p;obtain⟨c,d⟩:=q;simp only[pT,List.cons.injEq,Sum.inl.injEq,and_true] at h;rw[h.1,h.2]
theorem yR{l:List P2}{i:Nat}{x:D}(h:(l.map vv)[i]? = some x):∃ p q,x=.tup [.int p,.int q]/\(p,q)∈l/\l.take (i+1)=l.take i++[(p,q)]:=by
 rw[n5] at h
 cases e:l[i]? with
 |none=>rw[e] at h;cases h
 |some s =>rw[e] at h;cases h;exact⟨s.1,s.2,rfl,om e,by rw[D7,e];rfl⟩
def DL(many:Int)(p:P2):Prop:=(0<=p.1/\p.1<many)/\0<=p.2/\p.2<many
def k5(ks:List P2):Kn:=ks.map λp=>(pT p,.bl true)
theorem jX(ks:List P2):(k5 ks).map (·.1)=ks.map pT:=by simp[k5,fo,Function.comp_def]
theorem iV(ks:List P2):(k5 ks).length=ks.length:=by simp[k5]
theorem rR{ks:List P2}{x:P2}:pT x∈ks.map pT↔x∈ks:=by rw[cw];exact⟨λ⟨y,hy,e⟩=>Ex e ▸ hy,λh=>⟨x,h,rfl⟩⟩
def BU(ks:List P2)(x:P2):List P2:=if x∈ks then ks else ks++[x]
theorem tK(ks:List P2)(x:P2):ly (k5 ks) (pT x) (.bl true)=k5 (BU ks x):=by
 unfold ly BU;by_cases h:x∈ks
 ·rw[if_pos (jn.mpr (by rw[jX];exact rR.mpr h)),if_pos h];unfold k5;rw[fo];apply IE;intro p _;show(if pT p=pT x then (pT p,D.bl true) else (pT p,D.bl true))=_;split<;>rfl
 ·rw[if_neg λz=>h (rR.mp (by rw[<- jX];exact jn.mp z)),if_neg h];simp[k5]
theorem jd(ks:List P2)(x:P2):(eL (k5 ks) (pT x)).isSome=decide (x∈ks):=by rw[zv,mJ,jX,rR,decide_eq_true_eq]
theorem tZ{ks:List P2}{x y:P2}:y∈BU ks x↔y∈ks\/y=x:=by
 unfold BU;split
 ·grind
 ·simp
theorem lO{ks:List P2}{x:P2}(h:ks.Nodup):(BU ks x).Nodup:=by
 unfold BU;split
 ·exact h
 ·grind
theorem zT(ks:List P2)(x:P2):(BU ks x).length<=ks.length+1:=by unfold BU;split<;>simp
structure LX(ps ks:List P2):Prop where
 nd:ks.Nodup
 mem:∀ x,x∈ks↔x∈ps
 len:ks.length<=ps.length
theorem LX.nil:LX [] []:=⟨p9,λ_=>Iff.rfl,by simp⟩
theorem LX.put{ps ks:List P2}(h:LX ps ks)(x:P2):LX (ps++[x]) (BU ks x):=⟨lO h.nd,λy=>by rw[tZ,eR,qE,h.mem],by
 have:=zT ks x;have:=h.len;rw[oo,OQ];lia⟩
def E7(l:List bP)(ps:List P2)(p q:Int):Prop:=∀ d e,(p,d,e)∈l->∃ o,(q,d,o)∈l/\(e,o)∈ps
def Bwd(l:List bP)(ps:List P2)(p q:Int):Prop:=∀ d o,(q,d,o)∈l->∃ e,(p,d,e)∈l/\(e,o)∈ps
def E8(l:List bP)(ps:List P2)(p:P2):Prop:=E7 l ps p.1 p.2/\Bwd l ps p.1 p.2
theorem E7.congr{l:List bP}{ps qs:List P2}(h:∀ x,x∈ps↔x∈qs){p q:Int}:E7 l ps p q↔E7 l qs p q:=by unfold E7;simp only[h]
theorem sO(ks:List P2):(k5 ks).map (λkv=>kg kv.1)=ks.map vv:=by unfold k5;rw[fo];rfl
theorem Dj{l:List Pr}{i:Nat}{x:D}(h:(l.map kX)[i]? = some x):∃ d e,x=.tup [.str d,.int e]/\(d,e)∈l/\l.take (i+1)=l.take i++[(d,e)]:=by
 rw[n5] at h
 cases e:l[i]? with
 |none=>rw[e] at h;cases h
 |some s =>rw[e] at h;cases h;exact⟨s.1,s.2,rfl,om e,by rw[D7,e];rfl⟩
theorem eE{steps:List bP}{s:Int}{d:Str}{e:Int}:(d,e)∈mn steps s↔(s,d,e)∈steps:=by
 constructor
 ·intro h;obtain⟨t,ht,e1,e2⟩:=rA h;obtain⟨a,b,c⟩:=t;cases e1;cases e2;exact ht
 ·exact λh=>xU h
theorem je{α:Type}{l:List α}{i:Nat}{x:α}{P:α->Prop}(tk:l.take (i+1)=l.take i++[x])(h:∀ y∈l.take i,P y)(hx:P x):∀ y∈l.take (i+1),P y:=λy hy=>by grind
def SM(l:List bP)(ps:List P2):Prop:=∀ p∈ps,E7 l ps p.1 p.2
def E9(ps:List P2):List P2:=ps.map λp=>(p.2,p.1)
theorem jW{ps:List P2}{a b:Int}:(a,b)∈E9 ps↔(b,a)∈ps:=by
 unfold E9;rw[cw];constructor
 ·grind
 ·grind
theorem yg{l:List bP}{ps:List P2}:(SM l ps/\SM l (E9 ps))↔∀ p∈ps,E8 l ps p:=by
 constructor
 ·rintro⟨a,b⟩ ⟨p,q⟩ hp;refine⟨a _ hp,λd o ho=>?_⟩;obtain⟨e,he,m⟩:=b (q,p) (jW.mpr hp) d o ho;exact⟨e,he,jW.mp m⟩
 ·intro h;refine⟨λp hp=>(h p hp).1,λp hp d e he=>?_⟩;obtain⟨p,q⟩:=p;obtain⟨o,ho,m⟩:=(h _ (jW.mp hp)).2 d e he;exact⟨o,ho,jW.mpr m⟩
def onI(f:Int->D):D->D
 |.int o=>f o
 |_=>.non
theorem CK(f:Int->D)(l:List Int):(((l.map D.int).filter λ_=>true).map (onI f))=l.map f:=by rw[D5.mpr λ_ _=>rfl,fo];rfl
def onP(f:P2->Bool)(x:D):Bool:=match x with
 |.tup [.int a,.int b]=>f (a,b)
 |_=>false
structure Prn(l:List bP)(ps out:List P2):Prop where
 sub:∀ p∈out,p∈ps
 both:∀ p∈out,E8 l out p
 max:∀ T:List P2,(∀ p∈T,p∈ps)->(∀ p∈T,E8 l T p)->∀ p∈T,p∈out
 len:out.length<=ps.length
theorem Prn.diag{many:Int}{l:List bP}{ps out:List P2}(h:Prn l ps out)(aS:eT many l)(m1:1<=many)(all:∀ x,DL many x->x∈ps):((0,0):P2)∈out:=by
 have hm:∀ k:Int,0<=k->k<many->((k,k):P2)∈(List.range many.toNat).map λi:Nat=>((((i:Nat):Int),((i:Nat):Int)):P2):=λk a b=>cw.mpr ⟨k.toNat,sF.mpr (by lia),by rw[I0 a]⟩;refine h.max _ (λp hp=>?_) (λp hp=>?_) _ (hm 0 (by lia) (by lia))
 ·obtain⟨i,hi,rfl⟩:=cw.mp hp;have:=sF.mp hi;exact all _ ⟨⟨by lia,by lia⟩,by lia,by lia⟩
 ·obtain⟨i,hi,rfl⟩:=cw.mp hp;exact⟨λd e he=>⟨e,he,hm e (aS _ he).2.2.2.1 (aS _ he).2.2.2.2⟩,λd o ho=>⟨o,ho,hm o (aS _ ho).2.2.2.1 (aS _ ho).2.2.2.2⟩⟩
theorem RB.iff{many:Int}{steps:List bP}{dc r:List Int}(h:RB many steps dc r)(aS:eT many steps){s t:Int}(hs:0<=s/\s<many)(ht:0<=t/\t<many) :
  rk r s=rk r t↔rk dc s=rk dc t/\(∀ d e,(s,d,e)∈steps->∃ o,(t,d,o)∈steps/\rk dc e=rk dc o)/\∀ d o,(t,d,o)∈steps->∃ e,(s,d,e)∈steps/\rk dc e=rk dc o:=by
 constructor
 ·intro e;refine⟨h.iO' hs ht e,λd x hx=>?_,λd o ho=>?_⟩
  ·obtain⟨⟨a,b,c⟩,hu,e1,e2,e3⟩:=h.Tx aS hx ht e;cases e1;cases e2;exact⟨c,hu,e3.symm⟩
  ·obtain⟨⟨a,b,c⟩,hu,e1,e2,e3⟩:=h.Tx aS ho hs e.symm;cases e1;cases e2;exact⟨c,hu,e3⟩
 ·rintro⟨e0,f,b⟩;obtain⟨ky,diff,h⟩:=h;have ks:=h.key s hs.1 hs.2;have kt:=h.key t ht.1 ht.2;have e:ky s=ky t:=by
   refine Prod.ext (by rw[ks.fst,kt.fst,e0]) (iW (λx _ y _ h1 h2=>by have:=qy h1 h2;rw[jL] at this;cases this) ks.up kt.up λp=>?_);rw[ks.mem,kt.mem];constructor
   ·rintro⟨⟨a,d,e⟩,hu,rfl,rfl⟩;obtain⟨o,ho,m⟩:=f d e hu;exact⟨_,ho,rfl,by show(d,rk dc e)=(d,rk dc o);rw[m]⟩
   ·rintro⟨⟨a,d,o⟩,hu,rfl,rfl⟩;obtain⟨e,he,m⟩:=b d o hu;exact⟨_,he,rfl,by show(d,rk dc o)=(d,rk dc e);rw[m]⟩
  have p1:=h.pos s hs.1 hs.2;have p2:=h.pos t ht.1 ht.2;rw[<- e] at p2;have:=h.inj aS p1.2 p2.2;lia
structure Rds(many:Int)(steps:List bP)(rest:List (List Int))(f:Nat->List Int):Prop where
 zero:f 0=zeros many
 nX:∀ k,RB many steps (f k) (f (k+1))
 at':∀ k,k<=rest.length->(zeros many :: rest)[k]? = some (f k)
 fA:∀ k,rest.length<=k->f k=f rest.length
theorem Chain.sq{many:Int}{steps:List bP}:∀ {cur:List Int} {rest:List (List Int)},Chain many steps cur rest->∃ f:Nat->List Int,f 0=cur/\(∀ k,RB many steps (f k) (f (k+1)))/\(∀ k,k<=rest.length->(cur :: rest)[k]? = some (f k))/\∀ k,rest.length<=k->f k=f rest.length
 |cur,[],h=>⟨λ_=>cur,rfl,λ_=>h,λk hk=>by
   have:k=0:=Nat.le_zero.mp hk;subst this;rfl,λ_ _=>rfl⟩
 |cur,nX :: rest,h=>by
  obtain⟨f,f0,fn,fa,fs⟩:=h.2.2.sq;refine⟨λk=>Nat.casesOn k cur f,rfl,λk=>?_,λk hk=>?_,λk hk=>?_⟩
  ·cases k with
   |zero=>show RB many steps cur (f 0);rw[f0];exact h.1
   |succ k=>exact fn k
  ·cases k with
   |zero=>rfl
   |succ k=>exact fa k (Nat.le_of_succ_le_succ hk)
  ·cases k with
   |zero=>exact absurd hk (by simp)
   |succ k=>exact fs k (Nat.le_of_succ_le_succ hk)
theorem Chain.rds{many:Int}{steps:List bP}{rest:List (List Int)}(h:Chain many steps (zeros many) rest):∃ f,Rds many steps rest f:=by obtain⟨f,a,b,c,d⟩:=h.sq;exact⟨f,a,b,c,d⟩
theorem Aj(cur:List Int)(rest:List (List Int)):(cur :: rest)[rest.length]? = some (gZ cur rest):=by unfold gZ;rw[List.getLast_eq_getElem];simp
theorem Kinds.rb{many:Int}{l:List bP}{k:List Int}(h:Kinds many l k):RB many l k k:=by obtain⟨rest,hc,rfl⟩:=h;exact hc.last
theorem Kinds.same{many:Int}{l:List bP}{k:List Int}{ps:List P2}(h:Kinds many l k)(aS:eT many l)(hi:∀ x∈ps,DL many x)(hb:∀ x∈ps,E8 l ps x):∀ x∈ps,rk k x.1=rk k x.2:=by
 obtain⟨rest,hc,rfl⟩:=h;obtain⟨f,hf⟩:=hc.rds;have go:∀ i,∀ x∈ps,rk (f i) x.1=rk (f i) x.2:=λi=>by
  induction i with
  |zero=>intro x _;rw[hf.zero,iZ,iZ]
  |succ i ih =>
   intro x hx;have b:=hb x hx;refine((hf.nX i).iff aS (hi x hx).1 (hi x hx).2).mpr ⟨ih x hx,λd e he=>?_,λd o ho=>?_⟩
   ·obtain⟨o,ho,m⟩:=b.1 d e he;exact⟨o,ho,ih _ m⟩
   ·obtain⟨e,he,m⟩:=b.2 d o ho;exact⟨e,he,ih _ m⟩
 have e:=hf.at' rest.length (cx _);rw[Aj] at e;rw[Option.some.inj e];exact go _
def dq(nums:List Int)(k:Int):Option Int:=if k∈nums then some (AJ nums k) else none
def numsOf(k0:Int)(fT:List Int):List Int:=k0 :: fT.filter λx=>decide (x≠k0)
def hm(hs:List (Option Int))(s:Int):Option Int:=hs.getD s.toNat none
structure jj(many:Int)(steps:List bP)(kinds ms fT:List Int)(hs:List (Option Int)):Prop where
 zI:Kinds many steps kinds
 met:Met steps ms
 up:fT.Pairwise (· < ·)
 mem:∀ x,x∈fT↔∃ s∈ms,x=rk kinds s
 eq:hs=kinds.map (dq (numsOf (rk kinds 0) fT))
def bW(many:Int)(steps:List bP)(hs:List (Option Int)):Prop:=∃ kinds ms fT,jj many steps kinds ms fT hs
theorem bW.uniq{many:Int}{steps:List bP}(aS:eT many steps){hs gs:List (Option Int)}(h:bW many steps hs)(g:bW many steps gs):hs=gs:=by obtain⟨k,m,s,h⟩:=h;obtain⟨k2,m2,s2,g⟩:=g;have ek:=h.zI.uniq aS g.zI;subst ek;have em:=h.met.uniq g.met;subst em;have es:=nZ h.up g.up λx=>(h.mem x).trans (g.mem x).symm;subst es;rw[h.eq,g.eq]
theorem bW.len{many:Int}{steps:List bP}{hs:List (Option Int)}(h:bW many steps hs):hs.length=many.toNat:=by obtain⟨k,m,s,h⟩:=h;rw[h.eq,b5,h.zI.len]
theorem jj.at{many:Int}{steps:List bP}{kinds ms fT:List Int}{hs:List (Option Int)}(h:jj many steps kinds ms fT hs){s:Int}(h0:0<=s)(h1:s<many):hm hs s=dq (numsOf (rk kinds 0) fT) (rk kinds s):=by
 have hl:=h.zI.len;have:s.toNat<kinds.length:=by lia
 unfold hm rk;rw[h.eq];simp[List.getD,this,rk]
theorem jj.nums{many:Int}{steps:List bP}{kinds ms fT:List Int}{hs:List (Option Int)}(h:jj many steps kinds ms fT hs){x:Int}:x∈numsOf (rk kinds 0) fT↔∃ s∈ms,x=rk kinds s:=by
 unfold numsOf;rw[eK,zt,h.mem];constructor
 ·rintro(rfl|⟨a,_⟩)
  ·exact⟨0,h.met.zero,rfl⟩
  ·exact a
 ·grind
theorem dX{nums:List Int}{k i:Int}(h:dq nums k=some i):k∈nums/\i=AJ nums k:=by
 unfold dq at h;split at h
 ·grind
 ·cases h
theorem bW.step{many:Int}{steps:List bP}{hs:List (Option Int)}(h:bW many steps hs)(aS:eT many steps)(h1:1<=many){t:bP}(ht:t∈steps){i:Int}(e:hm hs t.1=some i):∃ j,hm hs t.2.2=some j:=by obtain⟨k,m,fT,h⟩:=h;have ok:=aS t ht;rw[h.at ok.1 ok.2.1] at e;obtain⟨s,hs,es⟩:=h.nums.mp (dX e).1;have h9:=((h.met.mem s).mp hs).lt aS h1;obtain⟨u,hu,e1,e2,e3⟩:=h.zI.fA.Tx aS ht h9 es;refine⟨AJ (numsOf (rk k 0) fT) (rk k t.2.2),?_⟩;rw[h.at ok.2.2.2.1 ok.2.2.2.2,dq,if_pos];exact h.nums.mpr ⟨u.2.2,h.met.to hu (by rw[e1];exact hs),e3.symm⟩
structure h_(steps:List bP)(hs:List (Option Int))(c:Int)(out:List bP):Prop where
 cnt:∃ l:List Int,l.Nodup/\(∀ x,x∈l↔some x∈hs)/\c=l.length
 up:out.Pairwise fun a b=>dv a b=true
 mem:∀ s,s∈out↔∃ t∈steps,hm hs t.1=some s.1/\s.2.1=t.2.1/\hm hs t.2.2=some s.2.2
def ic:Option Int->D
 |some i=>.int i
 |none=>.non
theorem zY{many s:Int}{hs:List (Option Int)}(hl:hs.length=many.toNat)(h0:0<=s)(h1:s<many):gS (hs.map ic) s=some (ic (hm hs s)):=by
 have h:s.toNat<hs.length:=by lia
 refine uX (qi h0 (by rw[b5];lia)) ?_;simp[hm,List.getD,h]
theorem oM(l:List Int):(l.map λx=>(Sum.inl x:Key)).map iS=l.map D.int:=by rw[fo];rfl
theorem pX{l:List Int}(h:(l.map λx=>(Sum.inl x:Key)).Nodup):l.Nodup:=by grind
theorem Bd{l:List Int}(h:(l.map λx=>(Sum.inl x:Key)).Nodup)(pw:(l.map λx=>(Sum.inl x:Key)).Pairwise λa b=>nK b a=false):l.Pairwise (· < ·):=by
 have nd:=pX h;rw[kH] at pw;refine(pw.and nd).imp λ{a b} ⟨h1,h2⟩=>?_;have h1:¬ b<a:=by simpa[nK] using h1
 lia
theorem sH(o:Option Int):(ic o).flat=true:=by cases o<;>rfl
theorem lE(k0:Int){fT:List Int}(h:fT.Pairwise (· < ·)):(numsOf k0 fT).Nodup :=
 k7.mpr ⟨λz=>by have:=(zt.mp z).2;simp at this,(oR h).filter _⟩
theorem zf{nums:List Int}(nd:nums.Nodup){x:Int}{Q:Md->D->Prop}(h:Q .sh (ic (dq nums x))):E5 (eL (rX nums) (.inl x)) .sh .sh .non Q:=by
 unfold dq at h;by_cases e:x∈nums
 ·rw[Ho e nd];rw[if_pos e] at h;exact h
 ·have:eL (rX nums) (.inl x)=none:=by
   have:=xK nums x;rw[decide_eq_false e] at this
   cases z:eL (rX nums) (.inl x) with
   |none=>rfl
   |some v=>rw[z] at this;cases this
  rw[this];rw[if_neg e] at h;exact h
def nR(steps:List bP)(hs:List (Option Int)):List bP:=(steps.filter λt=>(hm hs t.1).isSome).map λt=>((hm hs t.1).getD 0,t.2.1,(hm hs t.2.2).getD 0)
theorem pC{many:Int}{steps:List bP}{hs:List (Option Int)}(H:bW many steps hs)(aS:eT many steps)(h1:1<=many)(s:bP):s∈nR steps hs↔∃ t∈steps,hm hs t.1=some s.1/\s.2.1=t.2.1/\hm hs t.2.2=some s.2.2:=by
 unfold nR;rw[cw];constructor
 ·rintro⟨t,ht,rfl⟩;obtain⟨ht,e⟩:=zt.mp ht;obtain⟨i,ei⟩:=Ug.mp e;obtain⟨j,ej⟩:=H.step aS h1 ht ei;exact⟨t,ht,by rw[ei];rfl,rfl,by rw[ej];rfl⟩
 ·rintro⟨t,ht,e1,e2,e3⟩;refine⟨t,zt.mpr ⟨ht,by rw[e1];rfl⟩,?_⟩;rw[e1,e3,<- e2];rfl
def gO(hs:List (Option Int)):List Int:=hs.filterMap id
theorem qF{hs:List (Option Int)}{x:Int}:x∈gO hs↔some x∈hs:=by simp[gO]
theorem yr(hs:List (Option Int)):((hs.map ic).filter λd=>!d.GW).map (λd=>d)=((gO hs).map λx=>(Sum.inl x:Key)).map iS:=by
 rw[oM]
 induction hs with
 |nil=>rfl
 |cons o hs ih =>
  cases o with
  |none=>simpa[ic,D.GW,gO] using ih
  |some i=>simpa[ic,D.GW,gO] using ih
theorem qP{hs:List (Option Int)}(hl:hs.length<=1000){R:List Key->Prop}(k:∀ ms:List Key,(∃ l:List Int,l.Nodup/\(∀ x,x∈l↔some x∈hs)/\(ms.length:Int)=l.length)->R ms) :
  ∃ ks:List Key,((gO hs).map λx=>(Sum.inl x:Key)).map iS=ks.map iS/\ks.length<=1000/\∀ ms:List Key,ms.Nodup->(∀ k,k∈ms↔k∈ks)->R ms:=by
 refine⟨_,rfl,?_,λms nd mm=>?_⟩
 ·rw[b5];exact iX (List.length_filterMap_le _ _) hl
 ·obtain⟨l,rfl,_⟩:=Ox (f:=λx=>(Sum.inl x:Key)) (P:=λ_=>True) (ks:=ms) λx hx=>by grind
  refine k _ ⟨l,pX nd,λx=>?_,by rw[b5]⟩;rw[<- qF,<- bO (ks:=l),mm,bO]
theorem pG(steps:List bP)(hs:List (Option Int)):(nR steps hs).length<=steps.length:=by unfold nR;rw[b5];exact Q9 _ _
def sR(many:Int)(s:bP):bP:=(s.1+many,s.2.1,s.2.2+many)
section
variable {many c:Int}{steps out:List bP}{hs:List (Option Int)}
theorem ji{s i:Int}(h0:0<=s)(e:hm hs s=some i):some i∈hs:=by
 unfold hm at e;rw[D2] at e
 cases z:hs[s.toNat]? with
 |none=>rw[z] at e;cases e
 |some o=>rw[z] at e;have e:o=some i:=e;rw[<- e];exact om z
theorem Bg(hl:hs.length=many.toNat){i:Int}(h:some i∈hs):∃ s,(0<=s/\s<many)/\hm hs s=some i:=by obtain⟨n,hn⟩:=Mk.mp h;have Ki:=(jS.mp hn).1;exact⟨(n:Int),by lia,by unfold hm;rw[D2,show((n:Int)).toNat=n by lia,hn];rfl⟩
theorem bW.range(H:bW many steps hs)(aS:eT many steps)(h1:1<=many):∃ n:Nat,1<=n/\(n:Int)<=many/\∀ x,some x∈hs↔0<=x/\x<n:=by
 have hl:=H.len;obtain⟨k,ms,fT,hb⟩:=H;have nd:=lE (rk k 0) hb.up;have mx:∀ x,some x∈hs↔0<=x/\x<((numsOf (rk k 0) fT).length:Nat):=λx=>by
  constructor
  ·intro h;obtain⟨s,oj,e⟩:=Bg hl h;rw[hb.at oj.1 oj.2] at e;have:=dX e;rw[this.2];exact GZ this.1
  ·intro ⟨x0,x1⟩;have hx:x.toNat<(numsOf (rk k 0) fT).length:=by lia
   obtain⟨s,oj,e⟩:=hb.nums.mp (AW hx);have vj:=((hb.met.mem s).mp oj).lt aS h1;refine ji vj.1 (s:=s) ?_;rw[hb.at vj.1 vj.2,<- e];unfold dq;rw[if_pos (AW hx),De nd hx];congr 1;lia
 refine⟨(numsOf (rk k 0) fT).length,by unfold numsOf;simp,?_,mx⟩;have:=aJ (m:=k) nd λx hx=>by obtain⟨s,oj,e⟩:=hb.nums.mp hx;have vj:=((hb.met.mem s).mp oj).lt aS h1;have kz:=hb.zI.len;rw[e];unfold rk;rw[D2,mw (by lia)];exact AW _
 have kz:=hb.zI.len;lia
theorem bW.zero(H:bW many steps hs)(h1:1<=many):hm hs 0=some 0:=by obtain⟨k,ms,fT,hb⟩:=H;rw[hb.at (sL 0) (by lia)];unfold dq numsOf;rw[if_pos cE];simp[AJ]
theorem bW.met(H:bW many steps hs)(aS:eT many steps)(h1:1<=many){ms:List Int}(i6:Met steps ms){s:Int}(h:s∈ms):∃ i,hm hs s=some i:=by obtain⟨k,ms2,fT,hb⟩:=H;have e:=hb.met.uniq i6;subst e;have vj:=((hb.met.mem s).mp h).lt aS h1;rw[hb.at vj.1 vj.2];unfold dq;exact⟨_,if_pos (hb.nums.mpr ⟨s,h,rfl⟩)⟩
theorem bW.like(H:bW many steps hs)(aS:eT many steps){t:bP}(ht:t∈steps){s i:Int}(oj:0<=s/\s<many)(e1:hm hs s=some i)(e2:hm hs t.1=some i):∃ u,(s,t.2.1,u)∈steps/\hm hs u=hm hs t.2.2:=by
 obtain⟨k,ms,fT,hb⟩:=H;have ok:=aS t ht;rw[hb.at oj.1 oj.2] at e1;rw[hb.at ok.1 ok.2.1] at e2;obtain⟨a1,a2⟩:=dX e1;obtain⟨b1,b2⟩:=dX e2;have ek:rk k t.1=rk k s:=by
  have a3:=List.idxOf_lt_length_iff.mpr a1;have b3:=List.idxOf_lt_length_iff.mpr b1;have:(numsOf (rk k 0) fT).idxOf (rk k s)=(numsOf (rk k 0) fT).idxOf (rk k t.1):=by unfold AJ at a2 b2;lia
  have e3:=Rf a3;have e4:=Rf b3;simp only[this] at e3;exact e4.symm.trans e3
 obtain⟨u,hu,f1,f2,f3⟩:=hb.zI.fA.Tx aS ht oj ek;obtain⟨u1,u2,u3⟩:=u;have f1:u1=s:=f1;have f2:u2=t.2.1:=f2;subst f1 f2;refine⟨u3,hu,?_⟩;have oku:=aS _ hu;rw[hb.at oku.2.2.2.1 oku.2.2.2.2,hb.at ok.2.2.2.1 ok.2.2.2.2];exact congrArg _ f3
def hmD(hs:List (Option Int)):D->D
 |.int s=>ic (hm hs s)
 |d=>d
def bG':D->D
 |.tup [_,b]=>b
 |d=>d
def shD(many:Int):D->D
 |.tup [.int s,.str d,.int t]=>.tup [.int (s+many),.str d,.int (t+many)]
 |d=>d
theorem Fx(l:List bP):((l.map eJ).filter λ_=>true).map (shD many)=(l.map (sR many)).map eJ:=by rw[D5.mpr λ_ _=>rfl,fo,fo];rfl
structure HV(many:Int)(hs:List (Option Int))(n:Int)(ks:List P2):Prop where
 nd:ks.Nodup
 mem:∀ x:P2,x∈ks↔(0<=x.1/\x.1<n)/\∃ h,hm hs x.1=some h/\x.2=many+h
theorem h_.len(h:h_ steps hs c out)(H:bW many steps hs)(aS:eT many steps)(h1:1<=many):out.length<=steps.length:=by
 have nd:out.Nodup:=h.up.imp λ{a b} q e=>by subst e;unfold dv at q;rw[jL] at q;cases q
 exact iX (aJ nd λs kc=>(pC H aS h1 s).mpr ((h.mem s).mp kc)) (pG _ _)
theorem h_.Hb(h:h_ steps hs c out){n:Nat}(hn:∀ x,some x∈hs↔0<=x/\x<n):c=n:=by
 obtain⟨l,nd,mem,rfl⟩:=h.cnt;have a:=aJ (m:=bV n) nd λx hx=>bK.mpr ((hn x).mp ((mem x).mp hx));have nr:(bV n).Nodup:=by unfold bV;rw[List.Nodup,kH];exact T7.imp λh e=>h (by lia)
 have b:=aJ (m:=l) nr λx hx=>(mem x).mpr ((hn x).mpr (bK.mp hx));rw[di] at a b;lia
theorem DR(h:h_ steps hs c out)(H:bW many steps hs)(aS:eT many steps){n:Nat}(hn:∀ x,some x∈hs↔0<=x/\x<n)(hc:c=n)(h1:1<=many):eT (many+c) (steps++out.map (sR many)):=λs kc=>by
 rcases eR.mp kc with z|z
 ·have ok:=aS s z;exact⟨ok.1,by have:=ok.2.1;lia,ok.2.2.1,ok.2.2.2.1,by have:=ok.2.2.2.2;lia⟩
 ·obtain⟨t,ht,rfl⟩:=cw.mp z;obtain⟨u,hu,e1,e2,e3⟩:=(h.mem t).mp ht;have ok:=aS u hu;have a:=(hn _).mp (ji ok.1 e1);have b:=(hn _).mp (ji ok.2.2.2.1 e3);exact⟨(by lia : 0<=t.1+many),(by lia : t.1+many<many+c),by rw[show(sR many t).2.1=t.2.1 from rfl,e2];exact ok.2.2.1,(by lia : 0<=t.2.2+many),(by lia : t.2.2+many<many+c)⟩
theorem xG(h:h_ steps hs c out)(H:bW many steps hs)(aS:eT many steps)(h1:1<=many){n:Nat}(hn:∀ x,some x∈hs↔0<=x/\x<n){ks:List P2}(hk:HV many hs many ks):∀ x∈ks,E8 (steps++out.map (sR many)) ks x:=λx hx=>by
 obtain⟨ix,i,ei,e2⟩:=(hk.mem x).mp hx;have pi:=(hn i).mp (ji ix.1 ei);refine⟨λd e he=>?_,λd o ho=>?_⟩
 ·rcases eR.mp he with z|z
  ·obtain⟨j,ej⟩:=H.step aS h1 z ei;refine⟨many+j,fI _ (cw.mpr ⟨(i,d,j),(h.mem _).mpr ⟨_,z,ei,rfl,ej⟩,?_⟩),(hk.mem _).mpr ⟨(aS _ z).2.2.2,j,ej,rfl⟩⟩;rw[e2];show(i+many,d,j+many)=(many+i,d,many+j)
   rw[Int.add_comm i,Int.add_comm j]
  ·obtain⟨t,ht,et⟩:=cw.mp z;obtain⟨u,hu,e1,_,_⟩:=(h.mem t).mp ht;have a:=(hn _).mp (ji (aS u hu).1 e1);have:t.1+many=x.1:=congrArg (·.1) et;lia
 ·rcases eR.mp ho with z|z
  ·have:=(aS _ z).2.1;have:x.2<many:=this;lia
  ·obtain⟨t,ht,et⟩:=cw.mp z;obtain⟨u,hu,e1,e3,e4⟩:=(h.mem t).mp ht;have et1:t.1+many=x.2:=congrArg (·.1) et;have et2:t.2.1=d:=congrArg (·.2.1) et;have et3:t.2.2+many=o:=congrArg (·.2.2) et;have ei2:hm hs u.1=some i:=by rw[e1];congr 1;lia
   obtain⟨v,hv,ev⟩:=H.like aS hu ix ei ei2;refine⟨v,i9 _ (by rw[<- et2,e3];exact hv),(hk.mem _).mpr ⟨(aS _ hv).2.2.2,t.2.2,ev.trans e4,by show o=many+t.2.2;lia⟩⟩
end
def gD:WS :=
 (mh (Lv (wB (pU SQ Qb (wC (.int 0)) (ai 1) (bp eW (ai 0) (wC (.int 0))))))
 vN
 cH)
def aZ:kr:=λds Q=>∃ (many:Int) (l:List bP) (s:Int),ds=[mD many l,.int s]/\0<=s/\s<many/\Q .sh .non
theorem j4 (ds Q) (h:aZ ds Q):ds.length=["m", "state"].length:=by obtain⟨_,_,_,rfl,_⟩:=h;rfl
theorem mL:∀ ds Q,aZ ds Q->gD { nx:=λ_=>Q .sh .non,rt:=Q } (aL 2 ds):=by rintro ds Q ⟨many,l,s,rfl,h0,h1,h⟩;unfold gD mD;walk_at "q";refine R.T (decide_eq_true h0) ?_;walk_at "q";refine R.F (by simp[h1]) ?_;walk_at "q";exact h
def pP:WS :=
 (c9 (fi 1 lG)
 (c9 (iE 0 (oi (cQ (bp eW (ai 0) (wC (.int 1)))) (gT 3 (aG (gN 2) (aG (gN 3) (aG (gN 4) du))))
 (iE 4 (iE 3 (iE 2 (Tg 1 (nV (ak (ai 2) (ak (ai 3) dn))) (ai 4)))))))
 (rF 1)))
def ig:kr:=λds Q=>∃ (many:Int) (l:List bP),ds=[mD many l]/\l.length<=10000/\∀ kvs,E6 l kvs->Q (.ow true) (.dT kvs)
theorem rE (ds Q) (h:ig ds Q):ds.length=["m"].length:=by obtain⟨_,_,rfl,_⟩:=h;rfl
theorem wQ:∀ ds Q,ig ds Q->pP { nx:=λ_=>Q .sh .non,rt:=Q } (aL 5 ds):=by
 rintro ds Q ⟨many,l,rfl,hz,h⟩;unfold pP mD;walk_at "q";refine aU _ (λi ρ=>∃ (kvs:Kn) (o2 o3 o4:Option Sl),E6 (l.take i) kvs/\kvs.length<=i/\ρ=[some (.sh (.tup [.int many,.list (l.map eJ)])),some (.ow true (.dT kvs)),o2,o3,o4]) ⟨[],_,_,_,E6.nil,by simp,rfl⟩ ?_ ?_
 ·rintro i x ρ hx ⟨kvs,o2,o3,o4,hw,hk,rfl⟩ N hN;have hi:=(jS.mp hx).1;rw[b5] at hi;obtain⟨p,d,r,rfl,hs,et⟩:=pK hx;walk_at "q";refine⟨by lia,?_,hN _ ⟨_,_,_,_,by rw[et];exact hw.put p d r,by have:=v8 [.inl p,.inr d] (.int r) kvs;lia,rfl⟩⟩;rw[hw p d];have:=zF (l.take i) p d;rw[mN] at this;split
  ·trivial
  ·show List.length _<_;rw[b5];exact Gy (by lia)
 ·rintro ρ ⟨kvs,o2,o3,o4,hw,hk,rfl⟩;rw[b5,vE] at hw;walk_at "q";exact h kvs hw
def lX:WS :=
 (c9 (fi 1 (cG (cg (bp eW (ai 0) (wC (.int 0)))) (gN 0) pS (y6 dn) 1 []))
 (c9 (iE 0 (oi (cQ (bp eW (ai 0) (wC (.int 1)))) (gT 3 (aG (gN 2) (aG (gN 3) (aG (gN 4) du))))
 (iE 4 (iE 3 (HC (Qj (sT 1) (ai 2)) (nV (ak (ai 3) (ak (ai 4) dn))))))))
 (rF 1)))
def dY:kr:=λds Q=>∃ (many:Int) (steps:List bP),ds=[mD many steps]/\(0<=many/\many<=1000)/\eT many steps/\steps.length<=1000/\Q (.ow true) (tI many steps)
theorem qx (ds Q) (h:dY ds Q):ds.length=["m"].length:=by obtain⟨_,_,rfl,_⟩:=h;rfl
theorem uR:∀ ds Q,dY ds Q->lX { nx:=λ_=>Q .sh .non,rt:=Q } (aL 5 ds):=by
 rintro ds Q ⟨many,steps,rfl,hm,aS,hl,h⟩;unfold lX mD;walk_at "q";walk_at"t";refine aV (λ_=>true) (λ_=>.list []) (λρ=>∃ o,ρ=[o]) _ _ _ ⟨_,rfl⟩ ?_ ?_
 ·walk_at"n";walk_at "q";exact⟨.inr rfl,n2 _ ⟨_,rfl⟩ rfl⟩
 rw[Bx];refine aU _ (λi ρ=>∃ o2 o3 o4,ρ=[some (.sh (.tup [.int many,.list (steps.map eJ)])),some (.ow true (.list (tF many (steps.take i)))),o2,o3,o4]) ⟨none,none,none,by simp⟩ ?_ ?_
 ·rintro i x ρ hx ⟨o2,o3,o4,rfl⟩ N hN;obtain⟨p,d,r,rfl,hs,ht⟩:=pK hx;have ok:=aS _ hs;walk_at "q";refine⟨p.toNat,.list ((mn (steps.take i) p).map kX),qi ok.1 (by rw[lF];have:=ok.2.1;lia),Ao _ ok.1 ok.2.1,rfl,?_⟩;walk_at "q";refine⟨?_,?_⟩
  ·have:=qZ (steps.take i) p;have:(steps.take i).length<=steps.length:=by rw[mN];lia
   lia
  ·refine hN _ ⟨some (.sh (.int p)),some (.sh (.str d)),some (.sh (.int r)),?_⟩;rw[BZ _ _ _ ok.1 ok.2.1,<- ht]
 ·rintro ρ ⟨o2,o3,o4,rfl⟩;walk_at "q";rw[vE];exact h
def GX:WS :=
 (c9 (fi 1 (Qm (wC (.int 0)) (wC (.bl true))))
 (c9 (fi 2 (y6 (ak (wC (.int 0)) dn)))
 (c9 (vV (VC (ai 2))
 (c9 (S6 3 (sT 2))
 (iE 0 (oi (cQ (bp eW (ai 0) (wC (.int 1)))) (gN 4)
 (mh (SG (wB (bp og (bp eW (ai 4) (wC (.int 0))) (ai 3))) (wB (bp (wt true) (bp eW (ai 4) (wC (.int 2))) (ai 1))))
 (c9 (kW (sT 1) (bp eW (ai 4) (wC (.int 2))) (wC (.bl true)))
 (HC (sT 2) (bp eW (ai 4) (wC (.int 2)))))
 cH)))))
 (kR (i7 pL (ai 1))))))
def yO:kr:=λds Q=>∃ (many:Int) (steps:List bP),ds=[mD many steps]/\1<=many/\many<=20/\eT many steps/\∀ ms,Met steps ms->Q (.ow true) (.list (ms.map .int))
theorem Eu (ds Q) (h:yO ds Q):ds.length=["m"].length:=by obtain⟨_,_,rfl,_⟩:=h;rfl
structure vw(many:Int)(steps:List bP)(ks:List Int):Prop where
 nd:ks.Nodup
 z:0∈ks
 r:∀ x∈ks,Reach steps x/\0<=x/\x<many
theorem vw.len{many:Int}{steps:List bP}{ks:List Int}(c:vw many steps ks)(h:many<=20):ks.length<=20:=by have:=aJ (m:=bV 20) c.nd λx hx=>bK.mpr (by have:=(c.r x hx).2;lia);rwa[di] at this
theorem vw.ins{many:Int}{steps:List bP}{ks:List Int}(c:vw many steps ks)(hm:eT many steps){s:bP}(hs:s∈steps)(h:s.1∈ks):vw many steps (insI ks s.2.2) :=
 ⟨uH c.nd,sY.mpr (.inl c.z),λx hx=>by
  rcases sY.mp hx with hx|rfl
  ·exact c.r x hx
  ·exact⟨.step (c.r _ h).1 hs,(hm s hs).2.2.2⟩⟩
theorem vw.one{many:Int}{steps:List bP}(h:1<=many):vw many steps [0]:=⟨by simp,by simp,λx hx=>by
 have:x=0:=by simpa using hx
 subst this;exact⟨.zero,by lia,by lia⟩⟩
theorem uE{steps:List bP}{ks:List Int}(z:0∈ks)(h:∀ s∈steps,s.1∈ks->s.2.2∈ks){x:Int}(r:Reach steps x):x∈ks:=by
 induction r with
 |zero=>exact z
 |step r hs ih=>exact h _ hs ih
theorem tX{steps:List bP}{ks:List Int}{many:Int}(c:vw many steps ks)(h:∀ s∈steps,s.1∈ks->s.2.2∈ks){Q:Md->D->Prop}(k:∀ ms,Met steps ms->Q (.ow true) (.list (ms.map .int))):pL .bo (.dK (vk ks)) Q:=by
 refine⟨true,λp hp=>?_,λms pm pw=>?_⟩
 ·obtain⟨x,_,rfl⟩:=cw.mp hp;rfl
 ·rw[gk] at pm;obtain⟨l,rfl⟩:∃ l:List Int,ms=l.map λx=>(Sum.inl x:Key):=by
   have hm:∀ k∈ms,∃ x:Int,k=Sum.inl x:=λk hk=>by obtain⟨x,_,rfl⟩:=cw.mp (pm.mem_iff.mp hk);exact⟨x,rfl⟩
   clear pm pw
   induction ms with
   |nil=>exact⟨[],rfl⟩
   |cons k ms ih =>obtain⟨l,rfl⟩:=ih λj hj=>hm j (df _ hj);obtain⟨x,rfl⟩:=hm k cE;exact⟨x :: l,rfl⟩
  have e:(l.map λx=>(Sum.inl x:Key)).map iS=l.map D.int:=by rw[fo];rfl
  rw[e];have mem:∀ x,x∈l↔x∈ks:=λx=>by rw[<- bO (ks:=l),<- bO (ks:=ks)];exact pm.mem_iff
  have nd:l.Nodup:=by
   have:(l.map λx=>(Sum.inl x:Key)).Nodup:=pm.nodup_iff.mpr (by
    have:=c.nd;unfold List.Nodup at *
    rw[kH];exact this.imp λh e=>h (Sum.inl.inj e))
   unfold List.Nodup at *
   rw[kH] at this;exact this.imp λh e=>h (by rw[e])
  refine k l ⟨?_,λx=>(mem x).trans ⟨λhx=>(c.r x hx).1,uE c.z h⟩⟩;rw[kH] at pw;refine(pw.and nd).imp λ{a b} ⟨h1,h2⟩=>?_;have h1:¬ b<a:=by simpa[nK] using h1
  lia
theorem IW:∀ ds Q,yO ds Q->GX { nx:=λ_=>Q .sh .non,rt:=Q } (aL 5 ds):=by
 rintro ds Q ⟨many,steps,rfl,h0,h1,aS,h⟩;unfold GX mD;walk_at "q";refine⟨λρ=>∃ (ks wait:List Int) (o3 o4:Option Sl),vw many steps ks/\(∀ x∈wait,x∈ks)/\wait.length<=ks.length/\(∀ s∈steps,s.1∈ks->s.1∉wait->s.2.2∈ks) /\
   ρ=[some (.sh (.tup [.int many,.list (steps.map eJ)])),some (.ow true (.dK (vk ks))),some (.ow true (.list (wait.map .int))),o3,o4],
  λρ=>match ρ with
   |[_,some (.ow _ (.dK kvs)),some (.ow _ (.list w)),_,_]=>2*(20-kvs.length)+w.length
   |_=>0,⟨[0],[0],none,none,vw.one h0,by simp,by simp,λs _ e hn=>absurd (by simpa using e) (by simpa using hn),rfl⟩,?_⟩
 rintro ρ ⟨DM,wait,o3,o4,hc,hw,EK,sN,rfl⟩;have kz:=hc.len h1;walk_at "q";by_cases kf:wait=[]
 ·subst kf;rw[if_neg (by simp)];exact tX hc (λs hs hm=>sN s hs hm (by simp)) h
 ·obtain⟨w0,st,rfl⟩:∃ w0 st,wait=w0++[st]:=⟨wait.dropLast,wait.getLast kf,(List.dropLast_concat_getLast kf).symm⟩
  rw[if_pos (by simp)];refine⟨.int st,by simp,rfl,?_⟩;walk_at "q";rw[show(List.map D.int (w0++[st])).dropLast=w0.map D.int by simp];simp only[oo,OQ,jc] at EK ⊢;refine aU _ (λi ρ=>∃ (ks wait:List Int) (o4:Option Sl),vw many steps ks/\st∈ks/\(∀ x∈wait,x∈ks)/\wait.length+1<=ks.length/\(∀ s∈steps,s.1∈ks->s.1∉wait->s.1≠st->s.2.2∈ks)/\(∀ s∈steps.take i,s.1=st->s.2.2∈ks) /\
   2*(20-ks.length)+wait.length<2*(20-DM.length)+(w0.length+1) /\
   ρ=[some (.sh (.tup [.int many,.list (steps.map eJ)])),some (.ow true (.dK (vk ks))),some (.ow true (.list (wait.map .int))),some (.sh (.int st)),o4])
   ⟨DM,w0,_,hc,hw st (by simp),λx hx=>hw x (by simp[hx]),by lia,λs hs h1 h2 h3=>sN s hs h1 (by simp[h2,h3]),by simp,by lia,rfl⟩ ?_ ?_
  ·rintro i x ρ hx ⟨ks,wait,o4,hc,nh,hw,EK,sN,Oy,Tz,rfl⟩ N hN;obtain⟨p,d,r,rfl,hs,et⟩:=pK hx;have kz:=hc.len h1;walk_at "q";have no:p=st->r∈ks->N [some (.sh (.tup [.int many,.list (steps.map eJ)])),some (.ow true (.dK (vk ks))),some (.ow true (.list (wait.map .int))),some (.sh (.int st)),some (.sh (.tup [.int p,.str d,.int r]))]:=λe hr =>
    hN _ ⟨ks,wait,_,hc,nh,hw,EK,sN,λs hs e=>by
     rw[et] at hs;rcases eR.mp hs with hs|hs
     ·exact Oy s hs e
     ·obtain rfl:s=(p,d,r):=by simpa using hs
      exact hr,Tz,rfl⟩
   refine R.D (λe=>?_) λe=>?_
   ·walk_at "q";by_cases hr:r∈ks
    ·refine R.F (by rw[get_set];simp[hr]) ?_;walk_at "q";exact no e hr
    ·refine R.T (by rw[get_set];simp[hr]) ?_;walk_at "q";rw[vK];have ei:insI ks r=ks++[r]:=by unfold insI;rw[if_neg hr]
     have A4:vw many steps (insI ks r):=hc.ins aS hs (by rw[show((p,d,r):bP).1=st from e];exact nh);have bI':=A4.len h1;rw[ei] at A4 bI' ⊢;rw[oo,OQ] at bI';rw[jc];walk_at "o";rw[show wait.map D.int++[D.int r]=(wait++[r]).map D.int by simp];refine hN _ ⟨ks++[r],wait++[r],_,A4,by simp[nh],λx hx=>?_,by simp;lia,λs hs h1 h2 h3=>?_,λs hs e'=>?_,by simp;lia,rfl⟩
     ·rcases eR.mp hx with hx|hx
      ·simp[hw x hx]
      ·simp at hx;simp[hx]
     ·simp only[eR,qE,not_or] at h1 h2 ⊢;rcases h1 with h1|h1
      ·exact .inl (sN s hs h1 h2.1 h3)
      ·exact absurd h1 h2.2
     ·rw[et] at hs;rcases eR.mp hs with hs|hs
      ·simp[Oy s hs e']
      ·obtain rfl:s=(p,d,r):=by simpa using hs
       simp
   ·walk_at "q";refine hN _ ⟨ks,wait,_,hc,nh,hw,EK,sN,λs hs e'=>?_,Tz,rfl⟩;rw[et] at hs;rcases eR.mp hs with hs|hs
    ·exact Oy s hs e'
    ·obtain rfl:s=(p,d,r):=by simpa using hs
     exact absurd e' e
  ·rintro ρ ⟨ks,wait,o4,hc,nh,hw,EK,sN,Oy,Tz,rfl⟩;rw[b5,vE] at Oy;refine⟨⟨ks,wait,_,_,hc,hw,by lia,λs hs h1 h2=>?_,rfl⟩,by simpa[jc] using Tz⟩;by_cases e:s.1=st
   ·exact Oy s hs e
   ·exact sN s hs h1 h2 e
def sX:WS :=
 (kR (nV (ak (bp eW (ai 1) (ai 2)) (ak (i7 eV (cG (cO (bp eW (ai 0) (ai 2))) (gT 2 (aG (gN 0) (aG (gN 1) du))) pS (nV (ak (ai 0) (ak (bp eW (ai 2) (ai 1)) dn))) 2 [1])) dn))))
def jm:kr:=λds Q=>∃ (many:Int) (steps:List bP) (dc:List Int) (s:Int),ds=[tI many steps,.list (dc.map .int),.int s]/\(0<=s/\s<many)/\dc.length=many.toNat/\eT many steps/\steps.length<=1000/\∀ k,HP steps dc s k->Q (.ow true) (iF k)
theorem uL (ds Q) (h:jm ds Q):ds.length=["exits", "ranks", "state"].length:=by obtain⟨_,_,_,_,rfl,_⟩:=h;rfl
theorem zU:∀ ds Q,jm ds Q->sX { nx:=λ_=>Q .sh .non,rt:=Q } (aL 3 ds):=by
 rintro ds Q ⟨many,steps,dc,s,rfl,hs,hr,aS,hl,h⟩;unfold sX tI;walk_at "q";refine⟨_,uQ hr hs.1 hs.2,?_⟩;walk_at "q";refine⟨_,uU steps hs.1 hs.2,?_⟩;walk_at "q"
 refine aV (λ_=>true) (λd=>match d with
  |.tup [.str x,.int e]=>.tup [.str x,.int (rk dc e)]
  |d=>d) (λρ=>∃ o0 o1,ρ=[o0,o1,some (.sh (.list (dc.map .int)))]) _ _ _ ⟨_,_,rfl⟩ ?_ ?_
 ·rintro x hx ρ ⟨o0,o1,rfl⟩ N1 N2 n1 n2;obtain⟨p,hp,rfl⟩:=cw.mp hx;obtain⟨t,ht,e1,e2⟩:=rA hp;obtain⟨x,e⟩:=p;have ok:=aS t ht;obtain⟨t1,t2,t3⟩:=t;cases e2;unfold kX;walk_at "q";refine⟨_,uQ hr ok.2.2.2.1 ok.2.2.2.2,?_⟩;walk_at "q";exact⟨.inl rfl,n2 _ ⟨_,_,rfl⟩ rfl⟩
 have e1:((mn steps s).map kX |>.filter λ_=>true).map (λd=>match d with
   |.tup [.str x,.int e]=>.tup [.str x,.int (rk dc e)]
   |d=>d)=((mn steps s).map λp=>(p.1,rk dc p.2)).map kX:=by
  rw[D5.mpr λ_ _=>rfl,fo,fo];rfl
 rw[e1];refine z8 (ps:=(mn steps s).map λp=>(p.1,rk dc p.2)) (m:=.ow true) (Q:=λ_ d=>Q (.ow true) (.tup [.int (rk dc s),d])) (by rw[b5];exact iX (qZ steps s) hl) λl up mem=>?_;refine h (rk dc s,l) ⟨rfl,up,λp=>(mem p).trans ⟨λhp=>?_,λhp=>?_⟩⟩
 ·obtain⟨q,hq,rfl⟩:=cw.mp hp;obtain⟨t,ht,e1,rfl⟩:=rA hq;exact⟨t,ht,e1,rfl⟩
 ·obtain⟨t,ht,rfl,rfl⟩:=hp;exact cw.mpr ⟨t.2,xU ht,rfl⟩
def fM:WS :=
 (c9 (mh (wB (bp Qb (ai 1) (i7 BF (ai 0))))
 (kR (bp eW (ai 0) (ai 1)))
 cH)
 (kR (wC (.int 0))))
def aX:kr:=λds Q=>∃ (ns:List Int) (k:Int),ds=[.list (ns.map .int),.int k]/\0<=k/\Q .sh (.int (ns.getD k.toNat 0))
theorem iT (ds Q) (h:aX ds Q):ds.length=["_law_script", "_law_k"].length:=by obtain⟨_,_,rfl,_⟩:=h;rfl
theorem kY:∀ ds Q,aX ds Q->fM { nx:=λ_=>Q .sh .non,rt:=Q } (aL 2 ds):=by
 rintro ds Q ⟨ns,k,rfl,hk,h⟩;unfold fM;walk_at "q";refine R.D (λhl=>?_) λhl=>?_
 ·walk_at "q";have hn:k.toNat<ns.length:=by lia
  refine⟨.int ns[k.toNat],?_,?_⟩
  ·have:=NF (xs:=ns.map D.int) (j:=k.toNat) (v:=.int ns[k.toNat]) (by simp[hn]);rwa[I0 hk] at this
  ·show Q .sh _;simpa[List.getD,hn] using h
 ·walk_at "q";have:ns.getD k.toNat 0=0:=by grind
  rwa[this] at h
def iD:WS :=
 (c9 (fi 3 (bp eW (y6 (ak (wC (.int 1000003)) (ak (wC (.int 998244353)) (ak (wC (.int 104729)) (ak (wC (.int 2147483647)) (ak (wC (.int 15485863)) (ak (wC (.int 32452843)) dn))))))) (ai 1)))
 (kR (bp AH (bp GV (bp AH (bp rp (ai 0) (bp eW (y6 (ak (wC (.int 48271)) (ak (wC (.int 69621)) (ak (wC (.int 16807)) (ak (wC (.int 40692)) (ak (wC (.int 39373)) (ak (wC (.int 22571)) dn))))))) (ai 1))) (ai 3)) (wC (.int 11))) (ai 2))))
def aD:kr:=λds Q=>∃ c w m:Int,ds=[.int c,.int w,.int m]/\(0<=w/\w<6)/\0<m/\∀ r,0<=r->r<m->Q .sh (.int r)
theorem kO (ds Q) (h:aD ds Q):ds.length=["_law_cell", "_law_way", "_law_many"].length:=by obtain⟨_,_,_,rfl,_⟩:=h;rfl
theorem qd:∀ ds Q,aD ds Q->iD { nx:=λ_=>Q .sh .non,rt:=Q } (aL 4 ds):=by rintro ds Q ⟨c,w,m,rfl,hw,hm,h⟩;unfold iD;walk_at "q";obtain⟨p,hp,ep⟩:=fV (l:=[1000003,998244353,104729,2147483647,15485863,32452843]) hw.1 hw.2;obtain⟨q,hq,eq⟩:=fV (l:=[48271,69621,16807,40692,39373,22571]) hw.1 hw.2;have iN:=(by decide:∀ p∈([1000003,998244353,104729,2147483647,15485863,32452843]:List Int),0<p) p hp;have hq':=(by decide:∀ p∈([48271,69621,16807,40692,39373,22571]:List Int),0<p/\p<100000) q hq;refine⟨.int p,ep,?_⟩;walk_at "q";refine⟨.int q,eq,?_⟩;walk_at "q";have:=BP (c*q % p / 11) hm;exact⟨bw (by lia) (by lia),iN,hm,h _ this.1 this.2⟩
def jr:WS :=
 (c9 (fi 2 (cG (cg (ai 0)) (gN 0) pS (y6 dn) 1 []))
 (c9 (iE 1 (oi (cQ (ai 1)) (gT 3 (aG (gN 3) (aG (gN 4) (aG (gN 5) du))))
 (iE 5 (iE 4 (HC (Qj (sT 2) (ai 3)) (nV (ak (ai 4) (ak (ai 5) dn))))))))
 (rF 2)))
def eX:kr:=λds Q=>∃ (many:Int) (steps:List bP),ds=[.int many,.list (steps.map eJ)]/\(0<=many/\many<=1000)/\eT many steps/\steps.length<=10000/\Q (.ow true) (tI many steps)
theorem nG (ds Q) (h:eX ds Q):ds.length=["_law_many", "_law_steps"].length:=by obtain⟨_,_,rfl,_⟩:=h;rfl
theorem qU:∀ ds Q,eX ds Q->jr { nx:=λ_=>Q .sh .non,rt:=Q } (aL 6 ds):=by
 rintro ds Q ⟨many,steps,rfl,hm,aS,hl,h⟩;unfold jr;walk_at "q";walk_at"t";refine aV (λ_=>true) (λ_=>.list []) (λρ=>∃ o,ρ=[o]) _ _ _ ⟨_,rfl⟩ ?_ ?_
 ·walk_at"n";walk_at "q";exact⟨.inr rfl,n2 _ ⟨_,rfl⟩ rfl⟩
 rw[Bx];refine aU _ (λi ρ=>∃ o2 o3 o4,ρ=[some (.sh (.int many)),some (.sh (.list (steps.map eJ))),some (.ow true (.list (tF many (steps.take i)))),o2,o3,o4]) ⟨none,none,none,by simp⟩ ?_ ?_
 ·rintro i x ρ hx ⟨o2,o3,o4,rfl⟩ N hN;obtain⟨p,d,r,rfl,hs,ht⟩:=pK hx;have ok:=aS _ hs;walk_at "q";refine⟨p.toNat,.list ((mn (steps.take i) p).map kX),qi ok.1 (by rw[lF];have:=ok.2.1;lia),Ao _ ok.1 ok.2.1,rfl,?_⟩;walk_at "q";refine⟨?_,?_⟩
  ·have:=qZ (steps.take i) p;have:(steps.take i).length<=steps.length:=by rw[mN];lia
   lia
  ·refine hN _ ⟨some (.sh (.int p)),some (.sh (.str d)),some (.sh (.int r)),?_⟩;rw[BZ _ _ _ ok.1 ok.2.1,<- ht]
 ·rintro ρ ⟨o2,o3,o4,rfl⟩;walk_at "q";rw[vE];exact h
def dZ:WS :=
 (c9 (iE 0 (oi (cQ (bp eW (ai 0) (ai 1))) (gT 2 (aG (gN 4) (aG (gN 5) du)))
 (mh (Lv (wB (i7 QH (cG (cO (bp eW (ai 0) (ai 2))) (gT 2 (aG (gN 0) (aG (gN 1) du))) (wB (bp og (ai 0) (ai 2))) (bp (wt false) (nV (ak (ai 4) (ak (ai 1) dn))) (ai 3)) 2 [4,3,5]))))
 (kR (wC (.bl false)))
 cH)))
 (c9 (iE 0 (oi (cQ (bp eW (ai 0) (ai 2))) (gT 2 (aG (gN 4) (aG (gN 6) du)))
 (mh (Lv (wB (i7 QH (cG (cO (bp eW (ai 0) (ai 1))) (gT 2 (aG (gN 0) (aG (gN 1) du))) (wB (bp og (ai 0) (ai 2))) (bp (wt false) (nV (ak (ai 1) (ak (ai 3) dn))) (ai 4)) 2 [4,6,3]))))
 (kR (wC (.bl false)))
 cH)))
 (kR (wC (.bl true)))))
def bY:kr:=λds Q=>∃ (many:Int) (l:List bP) (ks:List P2) (p:P2),ds=[tI many l,.int p.1,.int p.2,.dT (k5 ks)]/\DL many p/\∀ b,(b=true↔E8 l ks p)->Q .sh (.bl b)
theorem gG (ds Q) (h:bY ds Q):ds.length=["_law_rows_here", "_law_one", "_law_other", "_law_pairs"].length:=by obtain⟨_,_,_,_,rfl,_⟩:=h;rfl
def Wk(d:Str)(x:D):Bool:=match x with
 |.tup [.str n,_]=>decide (n=d)
 |_=>false
def Wl(f:Int->Bool)(x:D):D:=match x with
 |.tup [_,.int o]=>.bl (f o)
 |_=>.non
theorem xj{l:List bP}{s:Int}{d:Str}{f:Int->Bool}:∃ bs:List Bool,(((mn l s).map kX).filter (Wk d)).map (Wl f)=bs.map D.bl/\(bs.any (λb=>b)=true↔∃ o,(s,d,o)∈l/\f o=true):=by
 refine⟨((mn l s).filter λt=>decide (t.1=d)).map λt=>f t.2,?_,?_⟩
 ·rw[List.filter_map,fo,fo];rfl
 ·rw[Rm,OY];constructor
  ·rintro⟨⟨n,o⟩,ho,z⟩;obtain⟨ho,e⟩:=zt.mp ho;have e:n=d:=of_decide_eq_true e;exact⟨o,eE.mp (e ▸ ho),z⟩
  ·rintro⟨o,ho,z⟩;exact⟨(d,o),zt.mpr ⟨eE.mpr ho,decide_eq_true rfl⟩,z⟩
theorem iQ:∀ ds Q,bY ds Q->dZ { nx:=λ_=>Q .sh .non,rt:=Q } (aL 7 ds):=by
 rintro ds Q ⟨many,l,ks,⟨p,q⟩,rfl,hp,h⟩;unfold dZ;walk_at "q";refine⟨_,uU l hp.1.1 hp.1.2,?_⟩;walk_at "q";refine aU _ (λj ρ=>∃ (o4 o5:Option Sl),(∀ t∈(mn l p).take j,∃ o,(q,t.1,o)∈l/\(t.2,o)∈ks)/\ρ=[some (.sh (tI many l)),some (.sh (.int p)),some (.sh (.int q)),some (.sh (.dT (k5 ks))),o4,o5,none]) ⟨_,_,(λp hp=>by simp at hp),rfl⟩ ?_ ?_
 ·rintro j x ρ hx ⟨o4,o5,hj,rfl⟩ N hN;obtain⟨d,e,rfl,i6,Oo⟩:=Dj hx;walk_at "q";refine⟨_,uU l hp.2.1 hp.2.2,?_⟩;walk_at "q";refine aV (Wk d) (Wl λo=>decide ((e,o)∈ks)) (λρ=>∃ o0 o1,ρ=[o0,o1,some (.sh (.str d)),some (.sh (.dT (k5 ks))),some (.sh (.int e))]) _ _ _ ⟨_,_,rfl⟩ ?_ ?_
  ·rintro x hx ρ ⟨o0,o1,rfl⟩ N1 N2 n1 n2;obtain⟨⟨n,o⟩,hc,rfl⟩:=cw.mp hx;rw[show kX (n,o)=.tup [.str n,.int o] from rfl] at *
   walk_at "q";by_cases en:n=d
   ·rw[if_pos (by simp[en])];have e1:=jd ks (e,o);unfold pT at e1;rw[e1];exact⟨.inl rfl,n2 _ ⟨_,_,rfl⟩ (decide_eq_true en)⟩
   ·rw[if_neg (by simp[en])];exact n1 _ ⟨_,_,rfl⟩ (decide_eq_false en)
  obtain⟨bs,e1,e2⟩:=xj (l:=l) (s:=q) (d:=d) (f:=λo=>decide ((e,o)∈ks));refine⟨bs,e1,?_⟩;refine R.B (λhb=>?_) λhb=>?_
  ·walk_at "q";refine h false ⟨(λz=>by cases z),λz=>?_⟩;obtain⟨o,ho,m⟩:=z.1 d e (eE.mp i6);rw[e2.mpr ⟨o,ho,decide_eq_true m⟩] at hb;cases hb
  ·walk_at "q";have hb:bs.any (λb=>b)=true:=by simpa using hb
   obtain⟨o,ho,m⟩:=e2.mp hb;exact hN _ ⟨_,_,je Oo hj ⟨o,ho,of_decide_eq_true m⟩,rfl⟩
 rintro ρ ⟨o4,o5,hj,rfl⟩;rw[b5,vE] at hj;have hf:E7 l ks p q:=λd e he=>hj (d,e) (eE.mpr he);walk_at "q";refine⟨_,uU l hp.2.1 hp.2.2,?_⟩;walk_at "q";refine aU _ (λj ρ=>∃ (o4 o6:Option Sl),(∀ t∈(mn l q).take j,∃ e,(p,t.1,e)∈l/\(e,t.2)∈ks)/\ρ=[some (.sh (tI many l)),some (.sh (.int p)),some (.sh (.int q)),some (.sh (.dT (k5 ks))),o4,o5,o6]) ⟨_,_,(λp hp=>by simp at hp),rfl⟩ ?_ ?_
 ·rintro j x ρ hx ⟨o4,o6,hj,rfl⟩ N hN;obtain⟨d,o,rfl,i6,Oo⟩:=Dj hx;walk_at "q";refine⟨_,uU l hp.1.1 hp.1.2,?_⟩;walk_at "q";refine aV (Wk d) (Wl λe=>decide ((e,o)∈ks)) (λρ=>∃ o0 o1,ρ=[o0,o1,some (.sh (.str d)),some (.sh (.int o)),some (.sh (.dT (k5 ks)))]) _ _ _ ⟨_,_,rfl⟩ ?_ ?_
  ·rintro x hx ρ ⟨o0,o1,rfl⟩ N1 N2 n1 n2;obtain⟨⟨n,e⟩,hc,rfl⟩:=cw.mp hx;rw[show kX (n,e)=.tup [.str n,.int e] from rfl] at *
   walk_at "q";by_cases en:n=d
   ·rw[if_pos (by simp[en])];have e1:=jd ks (e,o);unfold pT at e1;rw[e1];exact⟨.inl rfl,n2 _ ⟨_,_,rfl⟩ (decide_eq_true en)⟩
   ·rw[if_neg (by simp[en])];exact n1 _ ⟨_,_,rfl⟩ (decide_eq_false en)
  obtain⟨bs,e1,e2⟩:=xj (l:=l) (s:=p) (d:=d) (f:=λe=>decide ((e,o)∈ks));refine⟨bs,e1,?_⟩;refine R.B (λhb=>?_) λhb=>?_
  ·walk_at "q";refine h false ⟨(λz=>by cases z),λz=>?_⟩;obtain⟨e,he,m⟩:=z.2 d o (eE.mp i6);rw[e2.mpr ⟨e,he,decide_eq_true m⟩] at hb;cases hb
  ·walk_at "q";have hb:bs.any (λb=>b)=true:=by simpa using hb
   obtain⟨e,he,m⟩:=e2.mp hb;exact hN _ ⟨_,_,je Oo hj ⟨e,he,of_decide_eq_true m⟩,rfl⟩
 ·rintro ρ ⟨o4,o6,hj,rfl⟩;rw[b5,vE] at hj;walk_at "q";exact h true ⟨λ_=>⟨hf,λd o ho=>hj (d,o) (eE.mpr ho)⟩,λ_=>rfl⟩
def lD:WS :=
 (c9 (fi 2 (Qm (wC (.int 0)) (wC (.bl true))))
 (c9 (oi (cg (ai 0)) (gN 3)
 (iE 1 (oi (cQ (ai 1)) (gT 3 (aG (gN 4) (aG (gN 5) (aG (gN 6) du))))
 (mh (wB (bp (wt false) (ai 4) (ai 2)))
 (kW (sT 2) (ai 6) (wC (.bl true)))
 cH))))
 (kR (i7 pL (ai 2)))))
def fY:kr:=λds Q=>∃ (many:Int) (steps:List bP),ds=[.int many,.list (steps.map eJ)]/\(1<=many/\many<=20)/\eT many steps/\∀ ms,Met steps ms->Q (.ow true) (.list (ms.map .int))
theorem qp (ds Q) (h:fY ds Q):ds.length=["_law_many", "_law_steps"].length:=by obtain⟨_,_,rfl,_⟩:=h;rfl
def Wm(steps:List bP)(ks:List Int):Prop:=∀ s∈steps,s.1∈ks->s.2.2∈ks
theorem x_{ks:List Int}{x:Int}(h:x∈ks):insI ks x=ks:=if_pos h
theorem zK{ks:List Int}{x:Int}(h:x∉ks):(insI ks x).length=ks.length+1:=by unfold insI;rw[if_neg h];simp
theorem vC:∀ ds Q,fY ds Q->lD { nx:=λ_=>Q .sh .non,rt:=Q } (aL 7 ds):=by
 rintro ds Q ⟨many,steps,rfl,hm,aS,h⟩;unfold lD;walk_at "q";walk_at"t";refine aU _ (λi ρ=>∃ (ks:List Int) (o3 o4 o5 o6:Option Sl),vw many steps ks/\(Wm steps ks\/i+1<=ks.length)/\ρ=[some (.sh (.int many)),some (.sh (.list (steps.map eJ))),some (.ow true (.dK (vk ks))),o3,o4,o5,o6]) ⟨[0],_,_,_,_,vw.one hm.1,.inr (by simp),rfl⟩ ?_ ?_
 ·rintro i x ρ hx ⟨DM,o3,o4,o5,o6,hc,NR,rfl⟩ N hN;obtain⟨hi,rfl⟩:=bN hx;walk_at "q";refine aU _ (λj ρ=>∃ (ks:List Int) (o4 o5 o6:Option Sl),vw many steps ks/\(Wm steps DM->ks=DM)/\((ks=DM/\∀ s∈steps.take j,s.1∈DM->s.2.2∈DM)\/DM.length<ks.length) /\
    ρ=[some (.sh (.int many)),some (.sh (.list (steps.map eJ))),some (.ow true (.dK (vk ks))),some (.sh (.int (0+(i:Nat)))),o4,o5,o6]) ⟨DM,_,_,_,hc,λ_=>rfl,.inl ⟨rfl,by simp⟩,rfl⟩ ?_ ?_
  ·rintro j x ρ hx ⟨ks,o4,o5,o6,QN,ui,hj,rfl⟩ N hN;obtain⟨p,d,r,rfl,hs,ht⟩:=pK hx;have kz:=QN.len hm.2;walk_at "q";rw[get_set];by_cases hp:p∈ks
   ·refine R.T (by simp[hp]) ?_;walk_at "q";rw[vK,jc];refine⟨by lia,hN _ ⟨_,_,_,_,QN.ins aS hs hp,λsh=>?_,?_,rfl⟩⟩
    ·have e:=ui sh;subst e;exact x_ (sh _ hs hp)
    ·by_cases hr:r∈ks
     ·rw[show insI ks (p,d,r).2.2=ks from x_ hr];rcases hj with⟨e,z⟩|z
      ·subst e;refine .inl ⟨rfl,λs EL=>?_⟩;rw[ht] at EL;rcases eR.mp EL with y|y
       ·exact z s y
       ·rw[qE.mp y];exact λ_=>hr
      ·exact .inr z
     ·refine .inr ?_;rw[show(insI ks (p,d,r).2.2).length=ks.length+1 from zK hr];rcases hj with⟨e,z⟩|z
      ·subst e;lia
      ·lia
   ·refine R.F (by simp[hp]) ?_;walk_at "q";refine hN _ ⟨_,_,_,_,QN,ui,?_,rfl⟩;rcases hj with⟨e,z⟩|z
    ·subst e;refine .inl ⟨rfl,λs EL=>?_⟩;rw[ht] at EL;rcases eR.mp EL with y|y
     ·exact z s y
     ·rw[qE.mp y];exact λw=>absurd w hp
    ·exact .inr z
  ·rintro ρ ⟨ks,o4,o5,o6,QN,ui,hj,rfl⟩;rw[b5,vE] at hj;refine hN _ ⟨ks,_,_,_,_,QN,?_,rfl⟩;rcases NR with z|z
   ·rw[ui z];exact .inl z
   ·rcases hj with⟨e,y⟩|y
    ·rw[e];exact .inl y
    ·exact .inr (by lia)
 ·rintro ρ ⟨ks,o3,o4,o5,o6,hc,NR,rfl⟩;rw[bD] at NR;have sh:Wm steps ks:=by
   rcases NR with z|z
   ·exact z
   ·have:=aJ (m:=bV many.toNat) hc.nd λx hx=>bK.mpr (by have:=(hc.r x hx).2;lia);rw[di] at this;lia
  exact tX hc sh h
def fL:WS :=
 (c9 (fi 2 (cG (cg (i7 BF (ai 1))) (gN 0) pS (aK jm (ak (ai 1) (ak (ai 2) (ak (ai 0) dn)))) 1 [0,1]))
 (c9 (fi 3 (y6 dn))
 (c9 (iE 2 (oi (cQ (i7 wI (ai 2))) (gN 4)
 (mh (wB (bp (Td true) (ai 4) (ai 3)))
 (iE 4 (HC (sT 3) (ai 4)))
 cH)))
 (kR (cG (cO (ai 2)) (gN 0) pS (t6 (ai 1) (ai 0)) 1 [3])))))
def bQ:kr:=λds Q=>∃ (many:Int) (steps:List bP) (dc:List Int),ds=[tI many steps,.list (dc.map .int)]/\(0<=many/\many<=1000)/\dc.length=many.toNat/\eT many steps/\steps.length<=1000/\∀ r,RB many steps dc r->Q (.ow true) (.list (r.map .int))
theorem iK (ds Q) (h:bQ ds Q):ds.length=["exits", "ranks"].length:=by obtain⟨_,_,_,rfl,_⟩:=h;rfl
theorem kZ:∀ ds Q,bQ ds Q->fL { nx:=λ_=>Q .sh .non,rt:=Q } (aL 5 ds):=by
 rintro ds Q ⟨many,steps,dc,rfl,hm,hr,aS,hl,h⟩;unfold fL tI;walk_at "q";walk_at"t";refine b8 (λn out=>∃ l:List Ky,out=l.map iF/\l.length=n/\∀ (i:Nat) k,l[i]? = some k->HP steps dc i k) (λρ=>∃ o,ρ=[o,some (.sh (.list (tF many steps))),some (.sh (.list (dc.map .int)))]) _ 0 [] _ _ ⟨_,rfl⟩ ⟨[],rfl,rfl,λi k hk=>by simp at hk⟩ ?_ ?_
 ·rintro j y hy ρ ⟨o,rfl⟩ out ⟨l,rfl,Wn,hk⟩ N1 N2 uk;have hj:=(bN hy).1;obtain⟨_,rfl⟩:=bN hy;walk_at "q";refine⟨many,steps,dc,0+(j:Nat),rfl,by lia,hr,aS,hl,λk Bi=>?_⟩;walk_at "q";refine⟨.inr rfl,uk _ _ ⟨_,rfl⟩ ⟨l++[k],by simp,by simp[Wn],λi k' ox=>?_⟩⟩;rcases MR i l.length with hi|hi
  ·grind
  ·grind
 rintro out ⟨l,e,Wn,hk⟩;simp only[II] at e;subst e;rw[bD,vT] at Wn;have LZ:∀ k∈l,vt k:=λk xl=>by obtain⟨i,hi⟩:=Mk.mp xl;exact(hk i k hi).ok aS
 refine⟨λd hd=>?_,λms pm pw=>?_⟩
 ·obtain⟨k,xl,rfl⟩:=cw.mp hd;exact⟨zc (LZ k xl) 9,(LZ k xl).xi⟩
 obtain⟨l2,rfl,AF⟩:=Ox (f:=iF) (P:=λk=>k∈l) (ks:=ms) λd hd=>by grind
 have back:∀ k∈l,k∈l2:=λk xl=>by obtain⟨j,hj,e⟩:=cw.mp (pm.mem_iff.mpr (cw.mpr ⟨k,xl,rfl⟩));rw[<- v5 e];exact hj
 have lg':l2.length=l.length:=by have:=pm.length_eq;simpa using this
 rw[kH] at pw;have pw:l2.Pairwise λa b=>tj b a=false:=pw;refine aU _ (λi ρ=>∃ (diff:List Ky) (fl:Bool) (o4:Option Sl),diff.Pairwise (λa b=>tj a b=true)/\(∀ k,k∈diff↔k∈l2.take i)/\diff.length<=i/\ρ=[some (.sh (.list (tF many steps))),some (.sh (.list (dc.map .int))),some (.sh (.list (l.map iF))),some (.ow fl (.list (diff.map iF))),o4]) ⟨[],true,none,.nil,by simp,by simp,rfl⟩ ?_ ?_
 ·rintro i x ρ hx ⟨diff,fl,o4,up,mem,dl,rfl⟩ N hN;obtain⟨hi,Wo⟩:=jS.mp hx;have iP:i<l2.length:=by simpa using hi
  have Wq:x=iF l2[i]:=by rw[<- Wo];simp
  subst Wq;have xl:l2[i]∈l:=AF _ (AW iP);have tk:l2.take (i+1)=l2.take i++[l2[i]]:=by rw[D7,mw iP];rfl
  have TB:∀ k∈diff,vt k:=λk QQ=>LZ k (AF k (Ra ((mem k).mp QQ)));generalize ek:l2[i]=k at *
  walk_at "q";refine⟨zc (LZ k xl) 9,Bv TB 8,?_⟩;rw[FQ];by_cases hd:k∈diff
  ·refine R.F (by simp[hd]) ?_;walk_at "q";refine hN _ ⟨diff,fl,_,up,λk'=>?_,by lia,rfl⟩;rw[mem,tk,eR,qE];exact⟨.inl,λz=>z.elim id λe=>by rw[e];exact(mem k).mp hd⟩
  ·refine R.T (by simp[hd]) ?_;walk_at "q";refine⟨by lia,?_⟩;refine hN _ ⟨diff++[k],fl && (iF k).flat,some (.sh (iF k)),?_,λk'=>?_,by simp;lia,by simp⟩
   ·refine OU.mpr ⟨up,by simp,λa ha b hb=>?_⟩;rw[qE.mp hb]
    cases h3:tj a k with
    |true=>rfl
    |false =>
     have h4:tj k a=false:=by
      obtain⟨j,hj⟩:=Mk.mp ((mem a).mp ha);obtain⟨Sr,Tw⟩:=jS.mp hj;have VY:j<i:=by rw[mN] at Sr;lia
      have:=D3.mp pw j i (by lia) iP VY;rw[ek] at this;rw[List.getElem_take] at Tw;rwa[Tw] at this
     exact absurd (Fq (TB a ha) (LZ k xl) h3 h4) λe=>hd (by rw[<- e];exact ha)
   ·rw[eR,qE,mem,tk,eR,qE]
 ·rintro ρ ⟨diff,fl,o4,up,mem,dl,rfl⟩;rw[b5,vE] at mem;have md:∀ k,k∈diff↔k∈l:=λk=>(mem k).trans ⟨AF k,back k⟩;have TB:∀ k∈diff,vt k:=λk QQ=>LZ k ((md k).mp QQ);walk_at "q";refine b8 (λn out=>∃ r:List Int,out=r.map .int/\r.length=n/\∀ (i:Nat) x,r[i]? = some x->0<=x/\diff[x.toNat]? = l[i]?) (λρ=>∃ o,ρ=[o,some (.sh (.list (diff.map iF)))]) _ 0 [] _ _ ⟨_,rfl⟩ ⟨[],rfl,rfl,λi k hk=>by simp at hk⟩ ?_ ?_
  ·rintro j y hy ρ ⟨o,rfl⟩ out ⟨r,rfl,Wr,KL⟩ N1 N2 uk;obtain⟨hj,UY⟩:=jS.mp hy;have rh:j<l.length:=by simpa using hj
   have hye:y=iF l[j]:=by rw[<- UY];simp
   subst hye;have xl:l[j]∈l:=AW rh;have hlj:l[j]? = some l[j]:=mw rh;generalize l[j]=k at *
   have QQ:=(md k).mpr xl;have AG:=List.idxOf_lt_length_of_mem QQ;walk_at "q";refine⟨Bv TB 8,zc (LZ k xl) 9,diff.idxOf k,⟨iF k,?_,by rw[u9];exact decide_eq_true rfl⟩,λi z hi hz=>?_,.inl rfl,uk _ _ ⟨_,rfl⟩ ⟨r++[((diff.idxOf k:Nat):Int)],by simp,by simp[Wr],λi x hx=>?_⟩⟩
   ·rw[n5,mw AG,Rf AG];rfl
   ·rw[n5,mw (by lia)] at hz;cases hz;rw[u9];refine decide_eq_false λe=>?_;have:=List.not_of_lt_findIdx (p:=(· == k)) (xs:=diff) hi;rw[show diff[i]=k from e] at this;simp at this
   ·rcases MR i r.length with hi|hi
    ·rw[Mb hi] at hx;exact KL i x hx
    ·rw[D1 hi] at hx;have A7:i-r.length=0:=by
      rcases Nat.eq_zero_or_pos (i-r.length) with z|z
      ·exact z
      ·rw[D4 (by simp;lia)] at hx;cases hx
     rw[A7] at hx;cases hx;have:i=j:=by lia
     subst this;refine⟨by lia,?_⟩;rw[hlj,MZ,mw AG,Rf AG]
  rintro out ⟨r,e,Wr,KL⟩;simp only[II] at e;subst e;rw[b5,vT] at Wr;refine h r ⟨λs=>l.getD s.toNat (0,[]),diff,by lia,λs a b=>?_,up,λk=>?_,λs a b=>?_⟩
  ·grind
  ·rw[md];constructor
   ·intro xl;obtain⟨i,hi,rfl⟩:=Rb.mp xl;exact⟨(i:Nat),by lia,by simp[List.getD,hi]⟩
   ·rintro⟨s,hs,rfl⟩;have hs:s.toNat<l.length:=by lia
    simp[List.getD,hs]
  ·have hs:s.toNat<r.length:=by lia
   have h9:s.toNat<l.length:=by lia
   have:=KL s.toNat r[s.toNat] (mw hs);simpa[rk,List.getD,hs,h9] using this
def gq:WS :=
 (iE 1 (oi (cQ (ai 1)) (gN 2)
 (c9 (rM (aK aZ (ak (ai 0) (ak (bp eW (ai 2) (wC (.int 0))) dn))))
 (rM (aK aZ (ak (ai 0) (ak (bp eW (ai 2) (wC (.int 1))) dn)))))))
def dh:kr:=λds Q=>∃ (many:Int) (l:List bP) (ps:List P2),ds=[mD many l,.list (ps.map vv)]/\(∀ p∈ps,DL many p)/\Q .sh .non
theorem jq (ds Q) (h:dh ds Q):ds.length=["m", "pairs"].length:=by obtain⟨_,_,_,rfl,_⟩:=h;rfl
theorem mR:∀ ds Q,dh ds Q->gq { nx:=λ_=>Q .sh .non,rt:=Q } (aL 3 ds):=by
 rintro ds Q ⟨many,l,ps,rfl,hi,h⟩;unfold gq mD;walk_at "q";refine aU _ (λi ρ=>∃ o:Option Sl,ρ=[some (.sh (.tup [.int many,.list (l.map eJ)])),some (.sh (.list (ps.map vv))),o]) ⟨_,rfl⟩ ?_ ?_
 ·rintro i x ρ hx ⟨o,rfl⟩ N hN;obtain⟨p,q,rfl,hm,tk⟩:=yR hx;have ip:=hi _ hm;walk_at "q";refine⟨many,l,p,rfl,ip.1.1,ip.1.2,?_⟩;walk_at "q";refine⟨many,l,q,rfl,ip.2.1,ip.2.2,?_⟩;walk_at "q";exact hN _ ⟨_,rfl⟩
 ·grind
def d_:WS :=
 (c9 (fi 2 lG)
 (c9 (iE 1 (oi (cQ (ai 1)) (gN 3)
 (kW (sT 2) (ai 3) (wC (.bl true)))))
 (c9 (fi 4 (aK dY (ak (ai 0) dn)))
 (c9 (fi 5 (aK ig (ak (ai 0) dn)))
 (c9 (iE 5 (iE 4 (iE 2 (zQ (ai 2) (gT 2 (aG (gN 6) (aG (gN 7) du)))
 (iE 4 (oi (cQ (bp eW (ai 4) (ai 6))) (gT 2 (aG (gN 8) (aG (gN 9) du)))
 (iE 8 (iE 7 (iE 9 (mh (Lv (wB (i7 QH (cG (cO (Ou (ai 5) (nV (ak (ai 7) (ak (ai 8) dn))) (Tc (y6 dn)))) (gN 0) pS (bp (wt false) (nV (ak (ai 1) (ak (ai 0) dn))) (ai 2)) 1 [9,2]))))
 (kR (wC (.bl false)))
 cH))))))))))
 (kR (wC (.bl true))))))))
def bC:kr:=λds Q=>∃ (many:Int) (l:List bP) (ps:List P2),ds=[mD many l,.list (ps.map vv)]/\(0<=many/\many<=1000)/\eT many l/\l.length<=1000/\ps.length<=10000/\(∀ p∈ps,DL many p)/\∀ b,(b=true↔SM l ps)->Q .sh (.bl b)
theorem gW (ds Q) (h:bC ds Q):ds.length=["m", "pairs"].length:=by obtain⟨_,_,_,rfl,_⟩:=h;rfl
theorem jT:∀ ds Q,bC ds Q->d_ { nx:=λ_=>Q .sh .non,rt:=Q } (aL 10 ds):=by
 rintro ds Q ⟨many,l,ps,rfl,hm,aS,hl,Ws,hr,h⟩;unfold d_ mD;walk_at "q";refine aU _ (λi ρ=>∃ (ks:List P2) (o3:Option Sl),LX (ps.take i) ks/\ρ=[some (.sh (.tup [.int many,.list (l.map eJ)])),some (.sh (.list (ps.map vv))),some (.ow true (.dT (k5 ks))),o3,none,none,none,none,none,none]) ⟨[],_,LX.nil,rfl⟩ ?_ ?_
 ·rintro i x ρ hx ⟨ks,o3,hd,rfl⟩ N hN;obtain⟨p,q,rfl,hm,tk⟩:=yR hx;have kz:=hd.len;rw[mN] at kz;walk_at "q";refine⟨by rw[iV];lia,?_⟩;have e:=tK ks (p,q);unfold pT at e;rw[e];exact hN _ ⟨_,_,by rw[tk];exact hd.put (p,q),rfl⟩
 rintro ρ ⟨ks,o3,hd,rfl⟩;rw[b5,vE] at hd;walk_at "q";refine⟨many,l,rfl,hm,aS,by lia,?_⟩;walk_at "q";refine⟨many,l,rfl,by lia,λkvs hw=>?_⟩;walk_at "q";refine aU _ (λi ρ=>∃ (o6 o7 o8 o9:Option Sl),(∀ p∈ks.take i,E7 l ks p.1 p.2)/\ρ=[some (.sh (.tup [.int many,.list (l.map eJ)])),some (.sh (.list (ps.map vv))),some (.sh (.dT (k5 ks))),o3,some (.sh (tI many l)),some (.sh (.dT kvs)),o6,o7,o8,o9]) ⟨_,_,_,_,(λp hp=>by simp at hp),rfl⟩ ?_ ?_
 ·rintro i x ρ hx ⟨o6,o7,o8,o9,hi,rfl⟩ N hN;rw[sO] at hx;obtain⟨p,q,rfl,wo,tk⟩:=yR hx;have QR:=hr _ ((hd.mem _).mp wo);walk_at "q";refine⟨_,uU l QR.1.1 QR.1.2,?_⟩;walk_at "q";refine aU _ (λj ρ=>∃ (o8 o9:Option Sl),(∀ t∈(mn l p).take j,∃ o,(q,t.1,o)∈l/\(t.2,o)∈ks)/\ρ=[some (.sh (.tup [.int many,.list (l.map eJ)])),some (.sh (.list (ps.map vv))),some (.sh (.dT (k5 ks))),o3,some (.sh (tI many l)),some (.sh (.dT kvs)),some (.sh (.int p)),some (.sh (.int q)),o8,o9]) ⟨_,_,(λp hp=>by simp at hp),rfl⟩ ?_ ?_
  ·rintro j x ρ hx ⟨o8,o9,hj,rfl⟩ N hN;obtain⟨d,e,rfl,i6,Oo⟩:=Dj hx;walk_at "q";refine zO hw ?_;walk_at "q";refine aV (λ_=>true) (onI λo=>.bl (decide ((e,o)∈ks))) (λρ=>∃ o,ρ=[o,some (.sh (.int e)),some (.sh (.dT (k5 ks)))]) _ _ _ ⟨_,rfl⟩ ?_ ?_
   ·walk_at"n";obtain⟨c,hc,rfl⟩:=cw.mp hx;walk_at "q";have e1:=jd ks (e,c);unfold pT at e1;rw[e1];exact⟨.inl rfl,n2 _ ⟨_,rfl⟩ rfl⟩
   rw[CK];refine⟨(cj l q d).map λo=>decide ((e,o)∈ks),by rw[fo];rfl,?_⟩;refine R.B (λhb=>?_) λhb=>?_
   ·walk_at "q";have hb:((cj l q d).map λo=>decide ((e,o)∈ks)).any (λb=>b)=false:=by simpa using hb
    refine h false ⟨(λz=>by cases z),λz=>?_⟩;have z:SM l ps:=z;obtain⟨o,ho,m⟩:=z _ ((hd.mem _).mp wo) d e (eE.mp i6);have:((cj l q d).map λo=>decide ((e,o)∈ks)).any (λb=>b)=true:=OY.mpr ⟨_,cw.mpr ⟨o,uv.mpr ho,rfl⟩,decide_eq_true ((hd.mem _).mpr m)⟩;rw[hb] at this;exact this
   ·walk_at "q";have hb:((cj l q d).map λo=>decide ((e,o)∈ks)).any (λb=>b)=true:=by simpa using hb
    rw[Rm] at hb;obtain⟨o,ho,z⟩:=OY.mp hb;exact hN _ ⟨_,_,je Oo hj ⟨o,uv.mp ho,of_decide_eq_true z⟩,rfl⟩
  ·rintro ρ ⟨o8,o9,hj,rfl⟩;rw[b5,vE] at hj;exact hN _ ⟨_,_,_,_,je tk hi λd e he=>hj (d,e) (eE.mpr he),rfl⟩
 ·rintro ρ ⟨o6,o7,o8,o9,hi,rfl⟩;rw[b5,iV,vE] at hi;walk_at "q";exact h true ⟨λ_ p hp=>(E7.congr hd.mem).mp (hi p ((hd.mem p).mpr hp)),λ_=>rfl⟩
def dR:WS :=
 (c9 (oi (cg (wC (.int 6))) (gN 7)
 (c9 (fi 8 (jE (wC (.str "")) (cG (cg (ai 2)) (gN 0) pS (bp eW (ai 4) (bp AH (bp gx (bp eW (ai 2) (ai 0)) (bp rp (ai 3) (i7 Tn (bp og (ai 0) (ai 1))))) (wC (.int 26)))) 1 [3,4,7,1])))
 (c9 (mh (wB (bp og (ai 5) (wC (.int 1))))
 (fi 8 (jE (wC (.str "")) (cG (cg (bp gx (ai 7) (wC (.int 1)))) (gN 0) pS (bp eW (ai 2) (bp eW (ai 1) (ai 0))) 1 [4,1])))
 cH)
 (c9 (mh (wB (bp og (ai 5) (wC (.int 2))))
 (c9 (fi 9 (cG (cg (aK aD (ak (bp gx (ai 0) (ai 7)) (ak (wC (.int 4)) (ak (wC (.int 6)) dn))))) (gN 0) pS (bp eW (ai 2) (bp eW (ai 1) (ai 0))) 1 [4,1]))
 (fi 8 (bp gx (bp eW (ai 1) (bp AH (bp gx (bp eW (ai 4) (wC (.int 0))) (bp rp (wC (.int 11)) (ai 7))) (wC (.int 26)))) (jE (wC (.str "")) (ai 9)))))
 cH)
 (c9 (mh (wB (bp og (ai 5) (wC (.int 3))))
 (fi 8 (jE (wC (.str "")) (cG (cg (wC (.int 6))) (gN 0) pS (bp eW (ai 3) (bp AH (bp gx (bp eW (ai 1) (wC (.int 0))) (bp AH (bp gx (ai 0) (ai 2)) (wC (.int 6)))) (wC (.int 26)))) 1 [4,7,1])))
 cH)
 (iE 8 (HC (sT 6) (ai 8))))))))
 (c9 (fi 10 (aK aD (ak (ai 0) (ak (wC (.int 4)) (ak (wC (.int 2)) dn)))))
 (kR (VG (bp gx (y6 (ak (wC (.str "*")) dn)) (ai 6)) (xu (ai 10)) (xu (bp gx (bp gx (ai 10) (wC (.int 1))) (aK aD (ak (ai 0) (ak (wC (.int 5)) (ak (wC (.int 7)) dn))))))))))
def j5:WS :=
 (c9 (fi 1 (wC (.str "abcdefghijklmnopqrstuvwxyz")))
 (c9 (fi 2 (bp gx (wC (.int 1)) (aK aD (ak (ai 0) (ak (wC (.int 0)) (ak (wC (.int 6)) dn))))))
 (c9 (fi 3 (aK aD (ak (ai 0) (ak (wC (.int 1)) (ak (ai 2) dn)))))
 (c9 (fi 4 (cG (cg (wC (.int 6))) (gN 0) pS (aK aD (ak (bp gx (bp rp (ai 1) (bp gx (ai 0) (wC (.int 1)))) (ai 0)) (ak (wC (.int 2)) (ak (wC (.int 26)) dn)))) 1 [0]))
 (c9 (fi 5 (aK aD (ak (ai 0) (ak (wC (.int 3)) (ak (wC (.int 4)) dn)))))
 (c9 (fi 6 (y6 dn))
 dR))))))
def e_:kr:=λds Q=>∃ c:Int,ds=[.int c]/\∀ names:List Str,1<=names.length->names.length<=7->(∀ n∈names,QL n)->Q (.ow true) (.list (names.map .str))
theorem nT (ds Q) (h:e_ ds Q):ds.length=["_law_cell"].length:=by obtain⟨_,rfl,_⟩:=h;rfl
theorem m_(Q:Md->D->Prop)(c size at' kind:Int)(base:List Int)(hs:1<=size/\size<=6)(hk:0<=kind/\kind<4)(hb:base.length=6)(CC:∀ b∈base,0<=b/\b<26)(h:∀ names:List Str,1<=names.length->names.length<=7->(∀ n∈names,QL n)->Q (.ow true) (.list (names.map .str))) :
  dR { nx:=λ_=>Q .sh .non,rt:=Q } [some (.sh (.int c)),some (.sh (.str abc)),some (.sh (.int size)),some (.sh (.int at')),some (.ow true (.list (base.map .int))),some (.sh (.int kind)),some (.ow true (.list [])),none,none,none,none]:=by
 unfold dR;walk_at "q";refine aU _ (λi ρ=>∃ (words:List Str) (o7 o8 o9:Option Sl),words.length=i/\(∀ n∈words,Open n)/\ρ=[some (.sh (.int c)),some (.sh (.str abc)),some (.sh (.int size)),some (.sh (.int at')),some (.ow true (.list (base.map .int))),some (.sh (.int kind)),some (.ow true (.list (words.map .str))),o7,o8,o9,none]) ⟨[],_,_,_,rfl,(λn hn=>nomatch hn),rfl⟩ ?_ ?_
 ·rintro i x ρ hx ⟨words,o7,o8,o9,hl,ho,rfl⟩ N hN;obtain⟨hi,rfl⟩:=bN hx;have hi:i<6:=hi;have push:∀ (w:Str) (o9':Option Sl),Open w->N [some (.sh (.int c)),some (.sh (.str abc)),some (.sh (.int size)),some (.sh (.int at')),some (.ow true (.list (base.map .int))),some (.sh (.int kind)),some (.ow true (.list (words.map .str++[.str w]))),some (.sh (.int (0+(i:Nat)))),some (.sh (.str w)),o9',none]:=λw o9' hw=>by
   rw[Ax];refine hN _ ⟨words++[w],_,_,_,by simp[hl],λn hn=>?_,rfl⟩;rcases eR.mp hn with hn|hn
   ·exact ho n hn
   ·rw[qE.mp hn];exact hw
  walk_at "q";walk_at"t";refine b8 (λn out=>vn n out) (λρ=>∃ o,ρ=[o,some (.sh (.int at')),some (.sh (.list (base.map .int))),some (.sh (.int (0+(i:Nat)))),some (.sh (.str abc))]) _ 0 [] _ _ ⟨_,rfl⟩ vn.nil ?_ ?_
  ·rintro j y hy ρ ⟨o,rfl⟩ out ho N1 N2 uk;obtain⟨hj,rfl⟩:=bN hy;walk_at "q";obtain⟨b,_,eb⟩:=fV (l:=base) (i:=0+(j:Nat)) (by lia) (by lia);refine⟨.int b,eb,?_⟩;walk_at "q";refine⟨gY (by lia) (by lia),?_⟩;obtain⟨ch,ec,lc⟩:=qI (b+(0+(i:Nat))*(if decide (0+(j:Int)=at')=true then 1 else 0));refine⟨ch,ec,.inl rfl,uk _ _ ⟨_,rfl⟩ ?_⟩;rw[vT] at ho ⊢;exact ho.push lc
  intro out ll;rw[bD] at ll;simp only[vT,II] at ll;obtain⟨zs,ez,zl,wl0,we0⟩:=ll.join (by lia);refine⟨zs,ez,zl,?_⟩;generalize Str.join _ zs=w0 at *
  have hw0:Open w0:=⟨by lia,by lia,we0⟩
  clear ez zl;rcases (show kind=0\/kind=1\/kind=2\/kind=3 by lia) with rfl|rfl|rfl|rfl
  ·refine R.F (by decide) ?_;walk_at "q";refine R.F (by decide) ?_;walk_at "q";refine R.F (by decide) ?_;walk_at "q";exact⟨by lia,push w0 _ hw0⟩
  ·refine R.T (by decide) ?_;walk_at "q";walk_at"t";refine b8 (λn out=>vn n out) (λρ=>∃ o,ρ=[o,some (.sh (.list (base.map .int))),some (.sh (.str abc))]) _ 0 [] _ _ ⟨_,rfl⟩ vn.nil ?_ ?_
   ·rintro j y hy ρ ⟨o,rfl⟩ out ho N1 N2 uk;obtain⟨hj,rfl⟩:=bN hy;walk_at "q";obtain⟨b,mb,eb⟩:=fV (l:=base) (i:=0+(j:Nat)) (by lia) (by lia);refine⟨.int b,eb,?_⟩;walk_at "q";obtain⟨ch,ec,lc⟩:=yL (CC b mb).1 (CC b mb).2;refine⟨ch,ec,.inl rfl,uk _ _ ⟨_,rfl⟩ ?_⟩;rw[vT] at ho ⊢;exact ho.push lc
   intro out ll;rw[bD] at ll;simp only[vT,II] at ll;obtain⟨zs,ez,zl,TC,QV⟩:=ll.join (by lia);refine⟨zs,ez,zl,?_⟩;generalize Str.join _ zs=w1 at *
   refine R.F (by decide) ?_;walk_at "q";refine R.F (by decide) ?_;walk_at "q";exact⟨by lia,push w1 _ ⟨by lia,by lia,QV⟩⟩
  ·refine R.F (by decide) ?_;walk_at "q";refine⟨_,4,6,rfl,by decide,by decide,λr r0 r1=>?_⟩;walk_at "q";walk_at"t";refine b8 (λn out=>vn n out) (λρ=>∃ o,ρ=[o,some (.sh (.list (base.map .int))),some (.sh (.str abc))]) _ 0 [] _ _ ⟨_,rfl⟩ vn.nil ?_ ?_
   ·rintro j y hy ρ ⟨o,rfl⟩ out ho N1 N2 uk;obtain⟨hj,rfl⟩:=bN hy;walk_at "q";obtain⟨b,mb,eb⟩:=fV (l:=base) (i:=0+(j:Nat)) (by lia) (by lia);refine⟨.int b,eb,?_⟩;walk_at "q";obtain⟨ch,ec,lc⟩:=yL (CC b mb).1 (CC b mb).2;refine⟨ch,ec,.inl rfl,uk _ _ ⟨_,rfl⟩ ?_⟩;rw[vT] at ho ⊢;exact ho.push lc
   intro out ll;rw[bD] at ll;simp only[vT,II] at ll;obtain⟨b0,mb0,eb0⟩:=fV (l:=base) (i:=0) (by lia) (by lia);refine⟨.int b0,eb0,?_⟩;walk_at "q";obtain⟨ch,ec,lc⟩:=qI (b0+11*(0+(i:Nat)));refine⟨gY (by lia) (by lia),ch,ec,?_⟩;obtain⟨zs,ez,zl,TC,QV⟩:=ll.join (by lia);refine⟨zs,ez,zl,?_⟩;generalize Str.join _ zs=w1 at *
   refine⟨by rw[gP];lia,?_⟩;refine R.F (by decide) ?_;walk_at "q";exact⟨by lia,push _ _ ⟨by rw[cN,gP];lia,by rw[cN,gP];lia,Ad (y_ lc) QV⟩⟩
  ·refine R.F (by decide) ?_;walk_at "q";refine R.F (by decide) ?_;walk_at "q";refine b8 (λn out=>vn n out) (λρ=>∃ o,ρ=[o,some (.sh (.list (base.map .int))),some (.sh (.int (0+(i:Nat)))),some (.sh (.str abc))]) _ 0 [] _ _ ⟨_,rfl⟩ vn.nil ?_ ?_
   ·rintro j y hy ρ ⟨o,rfl⟩ out ho N1 N2 uk;obtain⟨hj,rfl⟩:=bN hy;walk_at "q";obtain⟨b,mb,eb⟩:=fV (l:=base) (i:=0) (by lia) (by lia);refine⟨.int b,eb,?_⟩;walk_at "q";obtain⟨ch,ec,lc⟩:=qI (b+(0+(j:Int)+(0+(i:Nat))) % 6);refine⟨ch,ec,.inl rfl,uk _ _ ⟨_,rfl⟩ ?_⟩;rw[vT] at ho ⊢;exact ho.push lc
   intro out ll;rw[bD] at ll;simp only[vT,II] at ll;obtain⟨zs,ez,zl,TC,QV⟩:=ll.join (by decide);refine⟨zs,ez,zl,?_⟩;generalize Str.join _ zs=w1 at *
   exact⟨by lia,push w1 _ ⟨by rw[TC];decide,by rw[TC];decide,QV⟩⟩
 ·rintro ρ ⟨words,o7,o8,o9,hl,ho,rfl⟩;rw[bD] at hl;walk_at "q";refine⟨c,4,2,rfl,by decide,by decide,λf f0 f1=>?_⟩;walk_at "q";refine⟨by lia,.inl ⟨jR words,?_⟩⟩;refine⟨c,5,7,rfl,by decide,by decide,λr r0 r1=>?_⟩;walk_at "q";refine .inl ⟨jR words,?_⟩;have e:(D.str "*" :: words.map D.str)=(("*" : Str) :: words).map D.str:=rfl;rw[e,zA];have hc:=HF (l:=("*" : Str) :: words) (a:=f) (b:=f+1+r) f0 (by lia) (by simp;lia);refine h _ hc.1 (iX hc.2.1 (by simp;lia)) λn hn=>?_;rcases eK.mp (hc.2.2 n hn) with rfl|hn
  ·exact .inl rfl
  ·exact .inr (ho n hn)
theorem rC:∀ ds Q,e_ ds Q->j5 { nx:=λ_=>Q .sh .non,rt:=Q } (aL 11 ds):=by
 rintro ds Q ⟨c,rfl,h⟩;unfold j5;walk_at "q";refine⟨c,0,6,rfl,by decide,by decide,λs s0 s1=>?_⟩;walk_at "q";refine⟨c,1,1+s,rfl,by decide,by lia,λat' a0 a1=>?_⟩;walk_at "q";refine b8 (λn out=>∃ bs:List Int,out=bs.map .int/\bs.length=n/\∀ b∈bs,0<=b/\b<26) (λρ=>∃ o,ρ=[o,some (.sh (.int c))]) _ 0 [] _ _ ⟨_,rfl⟩ ⟨[],rfl,rfl,λb hb=>nomatch hb⟩ ?_ ?_
 ·rintro j y hy ρ ⟨o,rfl⟩ out ⟨bs,rfl,hl,CC⟩ N1 N2 uk;have hj:=(bN hy).1;obtain⟨hj,rfl⟩:=bN hy;walk_at "q";refine⟨bw (by lia) (by lia),_,2,26,rfl,by decide,by decide,λr r0 r1=>?_⟩;walk_at "q";refine⟨.inl rfl,uk _ _ ⟨_,rfl⟩ ⟨bs++[r],by simp,by simp[hl],λb hb=>?_⟩⟩;rcases eR.mp hb with hb|hb
  ·exact CC b hb
  ·grind
 rintro out ⟨base,e,hb,CC⟩;simp only[II] at e;subst e;rw[bD] at hb;refine⟨c,3,4,rfl,by decide,by decide,λkind k0 k1=>?_⟩;walk_at "q";exact m_ Q c _ at' kind base (by lia) ⟨k0,k1⟩ (by simpa using hb) CC h
def j0:WS :=
 (c9 (fi 4 (aK aX (ak (ai 0) (ak (bp gx (wC (.int 3)) (bp AH (bp gx (bp rp (wC (.int 7)) (ai 1)) (bp rp (wC (.int 11)) (ai 2))) (wC (.int 60)))) dn))))
 (kR (aK aD (ak (bp gx (bp gx (ai 4) (bp rp (aK aX (ak (ai 0) (ak (wC (.int 2)) dn))) (bp gx (ai 1) (wC (.int 2))))) (bp rp (bp gx (ai 1) (wC (.int 1))) (bp gx (bp gx (ai 1) (wC (.int 5))) (ai 2)))) (ak (ai 2) (ak (ai 3) dn))))))
def bJ:kr:=λds Q=>∃ (ns:List Int) (k w m:Int),ds=[.list (ns.map .int),.int k,.int w,.int m]/\(0<=k/\k<=1000)/\(0<=w/\w<6)/\0<m/\∀ r,0<=r->r<m->Q .sh (.int r)
theorem mF (ds Q) (h:bJ ds Q):ds.length=["_law_script", "_law_k", "_law_way", "_law_many"].length:=by obtain⟨_,_,_,_,rfl,_⟩:=h;rfl
theorem qT:∀ ds Q,bJ ds Q->j0 { nx:=λ_=>Q .sh .non,rt:=Q } (aL 5 ds):=by rintro ds Q ⟨ns,k,w,m,rfl,hk,hw,hm,h⟩;unfold j0;walk_at "q";have a:=BP (7*k+11*w) (show(0:Int)<60 by decide);refine⟨bw (by lia) (by lia),bw (by lia) (by lia),ns,_,rfl,by lia,?_⟩;generalize ns.getD _ 0=c1;walk_at "q";refine⟨ns,2,rfl,by decide,?_⟩;generalize ns.getD _ 0=c2;walk_at "q";refine⟨bw (by lia) (by lia),bw (by lia) (by lia),_,w,m,rfl,hw,hm,λr r0 r1=>?_⟩;walk_at "q";exact h r r0 r1
def jF:WS :=
 (c9 (fi 1 (aK dY (ak (ai 0) dn)))
 (c9 (fi 2 (y6 (ak (bp zu (y6 (ak (wC (.int 0)) dn)) (bp eW (ai 0) (wC (.int 0)))) dn)))
 (c9 (fi 3 (aK bQ (ak (ai 1) (ak (bp eW (ai 2) (wC (.int 0))) dn))))
 (c9 (vV (wB (bp DB (ai 3) (bp eW (ai 2) (i7 Qc (wC (.int 1))))))
 (vO 2 3 (aK bQ (ak (ai 1) (ak (ai 3) dn)))))
 (rF 2)))))
def rdD(rs:List (List Int)):D:=.list (rs.map DJ)
def d9:kr:=λds Q=>∃ (many:Int) (steps:List bP),ds=[mD many steps]/\(1<=many/\many<=100)/\eT many steps/\steps.length<=1000/\∀ rest,Chain many steps (zeros many) rest->rest.length<=10000->Q (.ow true) (rdD (zeros many :: rest))
theorem mO (ds Q) (h:d9 ds Q):ds.length=["m"].length:=by obtain⟨_,_,rfl,_⟩:=h;rfl
theorem vI(cur:List Int)(pre:List (List Int)):gS ((cur :: pre).map DJ) (-1)=some (DJ (gZ cur pre)):=by
 have e:(cur :: pre).map DJ=((cur :: pre).dropLast.map DJ)++[DJ (gZ cur pre)]:=by
  conv=>lhs;rw[<- List.dropLast_concat_getLast (show cur :: pre≠[] by simp)]
  rw[AX];rfl
 rw[e];exact eh' _ _
theorem uG(cur nX:List Int)(pre:List (List Int)):gZ cur (pre++[nX])=nX:=by unfold gZ;rw[List.getLast_cons (by simp),List.getLast_concat]
theorem qW:∀ ds Q,d9 ds Q->jF { nx:=λ_=>Q .sh .non,rt:=Q } (aL 4 ds):=by
 rintro ds Q ⟨many,steps,rfl,hm,aS,hl,h⟩;unfold jF;have hmm:many*many<=10000:=by have:=Int.mul_le_mul hm.2 hm.2 (by lia) (by lia);lia
 have e0:aL 4 [mD many steps]=[some (.sh (mD many steps)),none,none,none]:=rfl;rw[e0];walk_at "q";refine⟨many,steps,rfl,by lia,aS,hl,?_⟩;unfold tI;walk_at "q";unfold mD;walk_at "q";refine⟨by lia,?_⟩;rw[yc];refine⟨many,steps,zeros many,rfl,by lia,by simp[zeros],aS,hl,λr hr=>?_⟩;walk_at "q";refine⟨λρ=>∃ (pre:List (List Int)) (cur nX:List Int),uY many cur/\RB many steps cur nX/\(∀ rest,Chain many steps cur rest->Chain many steps (zeros many) (pre++rest))/\gZ (zeros many) pre=cur/\(pre.length:Int)<=cur.sum/\cur.sum<=many*many /\
   ρ=[some (.sh (.tup [.int many,.list (steps.map eJ)])),some (.ow true (.list (tF many steps))),some (.ow true (.list ((zeros many :: pre).map DJ))),some (.ow true (.list (nX.map .int)))],
  λρ=>match ρ with
   |[_,_,some (.ow _ (.list rs)),_]=>20000-rs.length
   |_=>0,⟨[],zeros many,r,qG hm.1,hr,λrest hc=>hc,rfl,?_,?_,rfl⟩,?_⟩
 ·simp[zeros]
 ·have:0<=many*many:=Int.mul_nonneg (by lia) (by lia);simp[zeros];lia
 rintro ρ ⟨pre,cur,nX,hd,hb,hc,hla,hp,hs,rfl⟩;walk_at "q";refine⟨_,vI _ _,?_⟩;rw[hla];unfold DJ;walk_at "q";refine⟨rB _ _,rB _ _,?_⟩;rw[Gx];by_cases e:nX=cur
 ·rw[if_neg (by simp[e])];rw[e] at hb;have:=hc [] hb;rw[pV] at this;exact h pre this (by lia)
 ·rw[if_pos (by simp[e])];have jb':=hb.sum aS hd (by lia) e;refine⟨pD _,by lia,?_⟩;refine⟨many,steps,nX,rfl,by lia,(hb.zX aS).1,aS,hl,λr2 Vr=>?_⟩;walk_at "q";refine⟨⟨pre++[nX],nX,r2,hb.zX aS,Vr,λrest z5=>?_,uG _ _ _,by simp;lia,jb'.2,by simp[DJ]⟩,?_⟩
  ·have:=hc (nX :: rest) ⟨hb,e,z5⟩;simpa using this
  ·simp;lia
def l_:WS :=
 (c9 (rM (aK dh (ak (ai 0) (ak (ai 1) dn))))
 (kR (yz (aK bC (ak (ai 0) (ak (ai 1) dn))) (aK bC (ak (ai 0) (ak (cG (cO (ai 1)) (gT 2 (aG (gN 0) (aG (gN 1) du))) pS (nV (ak (ai 1) (ak (ai 0) dn))) 2 []) dn))))))
def fQ:kr:=λds Q=>∃ (many:Int) (l:List bP) (ps:List P2),ds=[mD many l,.list (ps.map vv)]/\(0<=many/\many<=1000)/\eT many l/\l.length<=1000/\ps.length<=10000/\(∀ p∈ps,DL many p)/\∀ b,(b=true↔∀ p∈ps,E8 l ps p)->Q .sh (.bl b)
theorem pQ (ds Q) (h:fQ ds Q):ds.length=["m", "pairs"].length:=by obtain⟨_,_,_,rfl,_⟩:=h;rfl
def swD:D->D
 |.tup [a,b]=>.tup [b,a]
 |d=>d
theorem Du(ps:List P2):(((ps.map vv).filter λ_=>true).map swD)=(E9 ps).map vv:=by rw[D5.mpr λ_ _=>rfl,fo];unfold E9;rw[fo];rfl
theorem Gr{many:Int}{ps:List P2}(h:∀ p∈ps,DL many p):∀ p∈E9 ps,DL many p:=by rintro⟨a,b⟩ hp;have:=h _ (jW.mp hp);exact⟨this.2,this.1⟩
theorem Er(ps:List P2):(E9 ps).length=ps.length:=by simp[E9]
theorem u_:∀ ds Q,fQ ds Q->l_ { nx:=λ_=>Q .sh .non,rt:=Q } (aL 2 ds):=by
 rintro ds Q ⟨many,l,ps,rfl,hm,aS,hl,Ws,a,h1⟩;unfold l_ mD;walk_at "q";refine⟨many,l,ps,rfl,a,?_⟩;walk_at "q";refine⟨many,l,ps,rfl,hm,aS,hl,Ws,a,λb hb=>?_⟩;walk_at "q";refine R.B (λeb=>?_) λeb=>?_
 ·walk_at "q";refine aV (λ_=>true) swD (λρ=>∃ o1 o2,ρ=[o1,o2]) _ _ _ ⟨_,_,rfl⟩ ?_ ?_
  ·rintro x hx ρ ⟨o1,o2,rfl⟩ N1 N2 n1 n2;obtain⟨c,hc,rfl⟩:=cw.mp hx;rw[show vv c=.tup [.int c.1,.int c.2] from rfl];walk_at "q";exact⟨.inl rfl,n2 _ ⟨_,_,rfl⟩ rfl⟩
  rw[Du];refine⟨many,l,E9 ps,rfl,hm,aS,hl,by rw[Er];exact Ws,Gr a,λb2 hb2=>?_⟩;walk_at "q";exact h1 b2 (by rw[<- yg,hb2];exact⟨λz=>⟨hb.mp eb,z⟩,λz=>z.2⟩)
 ·walk_at "q";exact h1 false ⟨(λz=>by cases z),λz=>by rw[<- eb];exact hb.mpr (yg.mpr z).1⟩
def bH:WS :=
 (c9 (fi 7 (aK e_ (ak (aK aX (ak (ai 0) (ak (wC (.int 1)) dn))) dn)))
 (c9 (fi 8 lG)
 (c9 (oi (cg (bp Fl (ai 6) (bp GV (ai 1) (bp rp (ai 3) (ai 3))))) (gN 9)
 (c9 (fi 10 (aK bJ (ak (ai 0) (ak (ai 9) (ak (wC (.int 0)) (ak (ai 4) dn))))))
 (c9 (fi 11 (aK bJ (ak (ai 0) (ak (ai 9) (ak (wC (.int 1)) (ak (ai 4) dn))))))
 (c9 (fi 12 (bp eW (ai 7) (aK bJ (ak (ai 0) (ak (ai 9) (ak (wC (.int 2)) (ak (i7 BF (ai 7)) dn)))))))
 (c9 (fi 13 (aK bJ (ak (ai 0) (ak (ai 9) (ak (wC (.int 3)) (ak (wC (.int 3)) dn))))))
 (oi (cg (ai 3)) (gN 14)
 (oi (cg (ai 3)) (gN 15)
 (mh (Qa (wB (bp og (ai 13) (wC (.int 2)))) (wB (bp og (ai 15) (bp AH (bp gx (ai 13) (ai 14)) (ai 3)))))
 (kW (sT 8) (nV (ak (bp gx (ai 10) (bp rp (ai 4) (ai 14))) (ak (ai 12) (ak (bp gx (ai 11) (bp rp (ai 4) (ai 15))) dn)))) (wC (.bl true)))
 cH))))))))
 (c9 (oi (cg (bp SN (bp rp (ai 3) (ai 4)) (wC (.int 1)))) (gN 9)
 (mh (SG (wB (bp og (aK aD (ak (ai 2) (ak (wC (.int 4)) (ak (wC (.int 3)) dn)))) (wC (.int 1)))) (wB (bp SV (bp AH (bp gx (ai 9) (wC (.int 1))) (ai 4)) (wC (.int 0)))))
 (kW (sT 8) (nV (ak (ai 9) (ak (bp eW (ai 7) (wC (.int 0))) (ak (bp gx (ai 9) (wC (.int 1))) dn)))) (wC (.bl true)))
 cH))
 (kR (nV (ak (bp rp (ai 3) (ai 4)) (ak (i7 rN (ai 8)) dn))))))))
def bF:WS :=
 (c9 (fi 6 (aK aD (ak (ai 2) (ak (wC (.int 3)) (ak (bp rp (wC (.int 3)) (ai 4)) dn)))))
 (c9 (mh (wB (bp og (ai 5) (wC (.int 2))))
 (iE 1 (fi 6 (ai 1)))
 cH)
 bH))
def fK:WS :=
 (c9 (fi 2 (aK aX (ak (ai 0) (ak (wC (.int 0)) dn))))
 (c9 (fi 3 (bp gx (wC (.int 1)) (bp GV (aK aD (ak (ai 2) (ak (wC (.int 0)) (ak (wC (.int 3)) dn)))) (wC (.int 2)))))
 (c9 (fi 4 (bp gx (wC (.int 1)) (aK aD (ak (ai 2) (ak (wC (.int 1)) (ak (wC (.int 8)) dn))))))
 (c9 (fi 5 (aK aD (ak (ai 2) (ak (wC (.int 2)) (ak (wC (.int 8)) dn)))))
 (c9 (mh (wB (bp og (ai 5) (wC (.int 1))))
 (fi 4 (bp GV (wC (.int 20)) (ai 3)))
 cH)
 (c9 (mh (wB (bp og (ai 5) (wC (.int 3))))
 (fi 4 (bp gx (wC (.int 1)) (aK aD (ak (ai 2) (ak (wC (.int 5)) (ak (bp GV (wC (.int 20)) (ai 3)) dn))))))
 cH)
 bF))))))
def cV:kr:=λds Q=>∃ (ns:List Int) (most:Int),ds=[.list (ns.map .int),.int most]/\(1<=most/\most<=100)/\∀ (many:Int) (steps:List bP),1<=many->many<=20->eT many steps->steps.length<=500->steps.Pairwise (λa b=>dv a b=true)->Q (.ow true) (mD many steps)
theorem iJ (ds Q) (h:cV ds Q):ds.length=["_law_script", "_law_most"].length:=by obtain⟨_,_,rfl,_⟩:=h;rfl
theorem d7{Q:Md->D->Prop}{ns:List Int}{most shape copies states size many:Int}(hc:copies=1\/copies=2)(hs:1<=states)(pf:copies*states<=20)(hmm:0<=many/\many<=1000)(L4:1<=most/\most<=100)(h:∀ (many:Int) (steps:List bP),1<=many->many<=20->eT many steps->steps.length<=500->steps.Pairwise (λa b=>dv a b=true)->Q (.ow true) (mD many steps)) :
  bH { nx:=λ_=>Q .sh .non,rt:=Q } [some (.sh (.list (ns.map .int))),some (.sh (.int most)),some (.sh (.int shape)),some (.sh (.int copies)),some (.sh (.int states)),some (.sh (.int size)),some (.sh (.int many)),none,none,none,none,none,none,none,none,none]:=by
 have nh:states<=20:=by rcases hc with rfl|rfl<;>lia
 unfold bH;walk_at "q";refine⟨ns,1,rfl,by decide,?_⟩;generalize ns.getD _ 0=c1;walk_at "q";refine⟨c1,rfl,λnames n1 n7 hd=>?_⟩;walk_at "q";have Ph:copies*copies=1\/copies*copies=4:=by rcases hc with rfl|rfl<;>decide
 refine⟨bw (by lia) (by lia),by lia,?_⟩;have jd':∃ r:Int,(if most / (copies*copies)<many then most / (copies*copies) else many)=r/\0<=r/\r<=100:=by grind
 obtain⟨r,er,r0,r1⟩:=jd';rw[er];walk_at"t";refine aU _ (λi ρ=>∃ (kvs:Kn) (o9 sv xo xt TF HZ AK:Option Sl),xk (LW (copies*states)) kvs/\kvs.length<=4*i/\ρ=[some (.sh (.list (ns.map .int))),some (.sh (.int most)),some (.sh (.int shape)),some (.sh (.int copies)),some (.sh (.int states)),some (.sh (.int size)),some (.sh (.int many)),some (.ow true (.list (names.map .str))),some (.ow true (.dT kvs)),o9,sv,xo,xt,TF,HZ,AK]) ⟨[],_,_,_,_,_,_,_,xk.nil,cx _,rfl⟩ ?_ ?_
 ·rintro i x ρ hx ⟨kvs,o9,sv,xo,xt,TF,HZ,AK,hk,kz,rfl⟩ N hN;obtain⟨hi,rfl⟩:=bN hx;walk_at "q";refine⟨ns,_,0,states,rfl,by lia,by decide,by lia,λone a0 a1=>?_⟩;walk_at "q";refine⟨ns,_,1,states,rfl,by lia,by decide,by lia,λtwo b0 b1=>?_⟩;walk_at "q";refine⟨ns,_,2,(names.length:Nat),rfl,by lia,by decide,by lia,λw w0 w1=>?_⟩;obtain⟨n,hn,en⟩:=wX (names:=names) w0 w1;walk_at "q";refine⟨_,en,?_⟩;walk_at "q";refine⟨ns,_,3,3,rfl,by lia,by decide,by decide,λway y0 y1=>?_⟩;walk_at "q";walk_at"t";refine aU _ (λj ρ=>∃ (kvs:Kn) (HZ AK:Option Sl),xk (LW (copies*states)) kvs/\kvs.length<=4*i+2*j/\ρ=[some (.sh (.list (ns.map .int))),some (.sh (.int most)),some (.sh (.int shape)),some (.sh (.int copies)),some (.sh (.int states)),some (.sh (.int size)),some (.sh (.int many)),some (.ow true (.list (names.map .str))),some (.ow true (.dT kvs)),some (.sh (.int (0+(i:Nat)))),some (.sh (.int one)),some (.sh (.int two)),some (.sh (.str n)),some (.sh (.int way)),HZ,AK]) ⟨kvs,_,_,hk,by lia,rfl⟩ ?_ ?_
  ·clear hk kz;rintro j x ρ hx ⟨kvs,HZ,AK,hk,kz,rfl⟩ N hN;obtain⟨hj,rfl⟩:=bN hx;walk_at "q";walk_at"t";refine aU _ (λl ρ=>∃ (kvs:Kn) (AK:Option Sl),xk (LW (copies*states)) kvs/\kvs.length<=4*i+2*j+l/\ρ=[some (.sh (.list (ns.map .int))),some (.sh (.int most)),some (.sh (.int shape)),some (.sh (.int copies)),some (.sh (.int states)),some (.sh (.int size)),some (.sh (.int many)),some (.ow true (.list (names.map .str))),some (.ow true (.dT kvs)),some (.sh (.int (0+(i:Nat)))),some (.sh (.int one)),some (.sh (.int two)),some (.sh (.str n)),some (.sh (.int way)),some (.sh (.int (0+(j:Nat)))),AK]) ⟨kvs,_,hk,by lia,rfl⟩ ?_ ?_
   ·clear hk kz;rintro l x ρ hx ⟨kvs,AK,hk,kz,rfl⟩ N hN;obtain⟨hl,rfl⟩:=bN hx;have go:B9 states (0+(j:Nat))/\B9 states (0+(l:Nat))/\kvs.length<16777216/\N [some (.sh (.list (ns.map .int))),some (.sh (.int most)),some (.sh (.int shape)),some (.sh (.int copies)),some (.sh (.int states)),some (.sh (.int size)),some (.sh (.int many)),some (.ow true (.list (names.map .str))),some (.ow true (.dT (ly kvs (hG (one+states*(0+(j:Nat)),n,two+states*(0+(l:Nat)))) (.bl true)))),some (.sh (.int (0+(i:Nat)))),some (.sh (.int one)),some (.sh (.int two)),some (.sh (.str n)),some (.sh (.int way)),some (.sh (.int (0+(j:Nat)))),some (.sh (.int (0+(l:Nat))))]:=by have c1:=xg (one:=one) (states:=states) (j:=0+(j:Nat)) (copies:=copies) a0 a1 (by lia) (by lia);have c2:=xg (one:=two) (states:=states) (j:=0+(l:Nat)) (copies:=copies) b0 b1 (by lia) (by lia);refine⟨bw (by lia) (by lia),bw (by lia) (by lia),by lia,?_⟩;have:=jf kvs (hG (one+states*(0+(j:Nat)),n,two+states*(0+(l:Nat)))) (D.bl true);exact hN _ ⟨_,_,hk.put (s:=(one+states*(0+(j:Nat)),n,two+states*(0+(l:Nat)))) ⟨c1.1,c1.2,hd n hn,c2.1,c2.2⟩,by omega,rfl⟩
    walk_at "q";refine R.D (λe=>?_) λe=>?_
    ·walk_at "q";exact go
    ·walk_at "q";refine⟨by lia,R.D (λe=>?_) λe=>?_⟩
     ·walk_at "q";exact go
     ·walk_at "q";exact hN _ ⟨kvs,_,hk,by lia,rfl⟩
   ·clear hk kz;rintro ρ ⟨kvs,AK,hk,kz,rfl⟩;rw[bD] at kz;exact hN _ ⟨kvs,_,_,hk,by lia,rfl⟩
  ·clear hk kz;rintro ρ ⟨kvs,HZ,AK,hk,kz,rfl⟩;rw[bD] at kz;exact hN _ ⟨kvs,_,_,_,_,_,_,_,hk,by lia,rfl⟩
 ·rintro ρ ⟨kvs,o9,sv,xo,xt,TF,HZ,AK,hk,kz,rfl⟩;rw[bD] at kz;walk_at "q";have lj':1<=copies*states:=by rcases hc with rfl|rfl<;>lia
  refine⟨bw (by lia) (by lia),by lia,by lia,?_⟩;refine aU _ (λi ρ=>∃ (kvs:Kn) (o9:Option Sl),xk (LW (copies*states)) kvs/\kvs.length<=400+i/\ρ=[some (.sh (.list (ns.map .int))),some (.sh (.int most)),some (.sh (.int shape)),some (.sh (.int copies)),some (.sh (.int states)),some (.sh (.int size)),some (.sh (.int many)),some (.ow true (.list (names.map .str))),some (.ow true (.dT kvs)),o9,sv,xo,xt,TF,HZ,AK]) ⟨kvs,_,hk,by lia,rfl⟩ ?_ ?_
  ·clear hk kz;rintro i x ρ hx ⟨kvs,o9,hk,kz,rfl⟩ N hN;obtain⟨hi,rfl⟩:=bN hx;walk_at "q";refine⟨_,4,3,rfl,by decide,by decide,λq q0 q1=>?_⟩;walk_at "q";refine R.D (λe=>?_) λe=>?_
   ·walk_at "q";refine⟨by lia,R.D (λe2=>?_) λe2=>?_⟩
    ·obtain⟨n,hn,en⟩:=wX (names:=names) (i:=0) (by decide) (by lia);walk_at "q";refine⟨_,en,?_⟩;walk_at "q";refine⟨by lia,?_⟩;have:=jf kvs (hG (0+(i:Nat),n,0+(i:Nat)+1)) (D.bl true);exact hN _ ⟨_,_,hk.put (s:=(0+(i:Nat),n,0+(i:Nat)+1)) ⟨(by lia : (0:Int)<=0+(i:Nat)),(by lia : 0+((i:Nat):Int)<copies*states),hd n hn,(by lia : (0:Int)<=0+(i:Nat)+1),(by lia : 0+((i:Nat):Int)+1<copies*states)⟩,by lia,rfl⟩
    ·walk_at "q";exact hN _ ⟨kvs,_,hk,by lia,rfl⟩
   ·walk_at "q";exact hN _ ⟨kvs,_,hk,by lia,rfl⟩
  ·clear hk kz;rintro ρ ⟨kvs,o9,hk,kz,rfl⟩;rw[bD] at kz;walk_at "q";refine⟨bw (by lia) (by lia),?_⟩;refine hk.Fi λsteps pm hP pw hlen=>?_;rw[vg];exact h _ steps (by rcases hc with rfl|rfl<;>lia) pf hP (by lia) pw
theorem cB{Q:Md->D->Prop}{ns:List Int}{most shape copies states size:Int}(hc:copies=1\/copies=2)(hs:1<=states)(pf:copies*states<=20)(L4:1<=most/\most<=100)(h:∀ (many:Int) (steps:List bP),1<=many->many<=20->eT many steps->steps.length<=500->steps.Pairwise (λa b=>dv a b=true)->Q (.ow true) (mD many steps)) :
  bF { nx:=λ_=>Q .sh .non,rt:=Q } [some (.sh (.list (ns.map .int))),some (.sh (.int most)),some (.sh (.int shape)),some (.sh (.int copies)),some (.sh (.int states)),some (.sh (.int size)),none,none,none,none,none,none,none,none,none,none]:=by
 have nh:states<=20:=by rcases hc with rfl|rfl<;>lia
 obtain⟨w8,e8⟩:∃ w8,w8=bH:=⟨_,rfl⟩
 unfold bF;rw[<- e8];walk_at "q";refine⟨gY (by lia) (by lia),_,3,_,rfl,by decide,by lia,λmany m0 m1=>?_⟩;walk_at "q";refine R.D (λe=>?_) λe=>?_
 ·walk_at "q";rw[e8];exact d7 hc hs pf ⟨by lia,by lia⟩ L4 h
 ·walk_at "q";rw[e8];exact d7 hc hs pf ⟨by lia,by lia⟩ L4 h
theorem kJ:∀ ds Q,cV ds Q->fK { nx:=λ_=>Q .sh .non,rt:=Q } (aL 16 ds):=by
 rintro ds Q ⟨ns,most,rfl,L4,h⟩;obtain⟨w6,e6⟩:∃ w6,w6=bF:=⟨_,rfl⟩
 unfold fK;rw[<- e6];walk_at "q";refine⟨ns,0,rfl,by decide,?_⟩;generalize ns.getD _ 0=shape;walk_at "q";refine⟨shape,0,3,rfl,by decide,by decide,λc c0 c1=>?_⟩;walk_at "q";refine⟨shape,1,8,rfl,by decide,by decide,λst s0 s1=>?_⟩;walk_at "q";refine⟨shape,2,8,rfl,by decide,by decide,λsize z0 z1=>?_⟩;walk_at "q";have hc:1+c / 2=1\/1+c / 2=2:=by lia
 generalize 1+c / 2=copies at hc ⊢;refine R.D (λe=>?_) λe=>?_
 ·walk_at "q";refine⟨by lia,?_⟩;refine R.F (by simp;lia) ?_;walk_at "q";rw[e6];exact cB hc (by rcases hc with rfl|rfl<;>lia) (by rcases hc with rfl|rfl<;>lia) L4 h
 ·walk_at "q";refine R.D (λe=>?_) λe=>?_
  ·walk_at "q";refine⟨by lia,?_⟩;refine⟨shape,5,_,rfl,by decide,by rcases hc with rfl|rfl<;>lia,λq q0 q1=>?_⟩;walk_at "q";rw[e6];exact cB hc (by lia) (by rcases hc with rfl|rfl<;>lia) L4 h
  ·walk_at "q";rw[e6];exact cB hc (by lia) (by rcases hc with rfl|rfl<;>lia) L4 h
def lU:WS :=
 (kR (Tq (aK d9 (ak (ai 0) dn)) (i7 Qc (wC (.int 1)))))
def dO:kr:=λds Q=>∃ (many:Int) (steps:List bP),ds=[mD many steps]/\(1<=many/\many<=100)/\eT many steps/\steps.length<=1000/\∀ k,Kinds many steps k->Q (.ow true) (.list (k.map .int))
theorem qw (ds Q) (h:dO ds Q):ds.length=["m"].length:=by obtain⟨_,_,rfl,_⟩:=h;rfl
theorem uW:∀ ds Q,dO ds Q->lU { nx:=λ_=>Q .sh .non,rt:=Q } (aL 1 ds):=by rintro ds Q ⟨many,steps,rfl,hm,aS,hl,h⟩;unfold lU;rw[show aL 1 [mD many steps]=[some (.sh (mD many steps))] from rfl];walk_at "q";refine⟨many,steps,rfl,hm,aS,hl,λrest hc hr=>?_⟩;unfold rdD;walk_at "q";refine⟨_,vI _ _,?_⟩;unfold DJ;walk_at "q";exact h _ ⟨rest,hc,rfl⟩
def yK:WS :=
 (c9 (rM (aK aZ (ak (ai 0) (ak (ai 1) dn))))
 (c9 (rM (aK aZ (ak (ai 0) (ak (ai 2) dn))))
 (c9 (fi 3 (aK dO (ak (ai 0) dn)))
 (kR (bp og (bp eW (ai 3) (ai 1)) (bp eW (ai 3) (ai 2)))))))
def mV:kr:=λds Q=>∃ (many:Int) (l:List bP) (p q:Int),ds=[mD many l,.int p,.int q]/\(1<=many/\many<=100)/\eT many l/\l.length<=1000/\DL many (p,q)/\∀ k,Kinds many l k->Q .sh (.bl (decide (rk k p=rk k q)))
theorem yG (ds Q) (h:mV ds Q):ds.length=["m", "p", "q"].length:=by obtain⟨_,_,_,_,rfl,_⟩:=h;rfl
theorem Cq:∀ ds Q,mV ds Q->yK { nx:=λ_=>Q .sh .non,rt:=Q } (aL 4 ds):=by rintro ds Q ⟨many,l,p,q,rfl,hm,aS,hl,hx,h⟩;unfold yK;rw[show aL 4 [mD many l,.int p,.int q]=[some (.sh (mD many l)),some (.sh (.int p)),some (.sh (.int q)),none] from rfl];walk_at "q";refine⟨many,l,p,rfl,hx.1.1,hx.1.2,?_⟩;walk_at "q";refine⟨many,l,q,rfl,hx.2.1,hx.2.2,?_⟩;walk_at "q";refine⟨many,l,rfl,hm,aS,hl,λk hk=>?_⟩;walk_at "q";refine⟨_,uQ hk.rb.len hx.1.1 hx.1.2,?_⟩;walk_at "q";refine⟨_,uQ hk.rb.len hx.2.1 hx.2.2,?_⟩;walk_at "q";exact h k hk
def lZ:WS :=
 (c9 (fi 1 (aK dO (ak (ai 0) dn)))
 (c9 (fi 2 (Qm (bp eW (ai 1) (wC (.int 0))) (wC (.int 0))))
 (c9 (oi (cQ (i7 fj (cG (cO (aK yO (ak (ai 0) dn))) (gN 0) pS (bp eW (ai 1) (ai 0)) 1 [1]))) (gN 3)
 (mh (wB (bp (wt true) (ai 3) (ai 2)))
 (kW (sT 2) (ai 3) (i7 BF (ai 2)))
 cH))
 (kR (cG (cO (ai 1)) (gN 0) pS (Ou (ai 1) (ai 0) (wC .non)) 1 [2])))))
def dU:kr:=λds Q=>∃ (many:Int) (steps:List bP),ds=[mD many steps]/\(1<=many/\many<=20)/\eT many steps/\steps.length<=1000/\∀ hs,bW many steps hs->Q (.ow true) (.list (hs.map ic))
theorem p8 (ds Q) (h:dU ds Q):ds.length=["m"].length:=by obtain⟨_,_,rfl,_⟩:=h;rfl
theorem vm:∀ ds Q,dU ds Q->lZ { nx:=λ_=>Q .sh .non,rt:=Q } (aL 4 ds):=by
 rintro ds Q ⟨many,steps,rfl,hm,aS,hl,h⟩;unfold lZ;rw[show aL 4 [mD many steps]=[some (.sh (mD many steps)),none,none,none] from rfl];walk_at "q";refine⟨many,steps,rfl,by lia,aS,hl,λk hk=>?_⟩;have kz:=hk.len;walk_at "q";refine⟨_,uQ kz (sL 0) (by lia),?_⟩;walk_at "q";refine⟨many,steps,rfl,hm.1,hm.2,aS,λms Oz=>?_⟩;have hml:=Oz.len aS hm.1;walk_at "q"
 refine aV (λ_=>true) (λd=>match d with
  |.int s=>.int (rk k s)
  |d=>d) (λρ=>∃ o,ρ=[o,some (.sh (.list (k.map .int)))]) _ _ _ ⟨_,rfl⟩ ?_ ?_
 ·walk_at"n";obtain⟨s,hs,rfl⟩:=cw.mp hx;have:=((Oz.mem s).mp hs).lt aS hm.1;walk_at "q";refine⟨_,uQ kz this.1 this.2,?_⟩;walk_at "q";exact⟨.inl rfl,n2 _ ⟨_,rfl⟩ rfl⟩
 have e1:((ms.map D.int).filter λ_=>true).map (λd=>match d with
   |.int s=>.int (rk k s)
   |d=>d)=((ms.map (rk k)).map λx=>(Sum.inl x:Key)).map iS:=by
  rw[D5.mpr λ_ _=>rfl,fo,fo,fo];rfl
 rw[e1];refine⟨_,true,rfl,by rw[b5,b5];lia,λx hx=>?_,λks nd mm pw=>?_⟩
 ·obtain⟨y,_,rfl⟩:=cw.mp hx;rfl
 obtain⟨fT,rfl,je'⟩:=Ox (f:=λx=>(Sum.inl x:Key)) (P:=λx=>x∈ms.map (rk k)) (ks:=ks) λx hx=>by grind
 have up:=Bd nd pw;have mem:∀ x,x∈fT↔∃ s∈ms,x=rk k s:=λx=>by
  constructor
  ·grind
  ·rintro⟨s,hs,rfl⟩;exact bO.mp ((mm _).mpr (bO.mpr (cw.mpr ⟨s,hs,rfl⟩)))
 rw[oM];have VZ:fT.length<=ms.length:=by have:=aJ (m:=ms.map (rk k)) (oR up) je';rwa[b5] at this
 refine aU _ (λi ρ=>∃ o3,ρ=[some (.sh (mD many steps)),some (.ow true (.list (k.map .int))),some (.ow true (.dK (rX (numsOf (rk k 0) (fT.take i))))),o3]) ⟨none,rfl⟩ ?_ ?_
 ·rintro i x ρ hx ⟨o3,rfl⟩ N hN;obtain⟨hi,Wo⟩:=jS.mp hx;have iP:i<fT.length:=by simpa using hi
  have Wq:x=.int fT[i]:=by rw[<- Wo];simp
  subst Wq;have tk:fT.take (i+1)=fT.take i++[fT[i]]:=by rw[D7,mw iP];rfl
  have nin:fT[i]∉fT.take i:=λz=>by
   obtain⟨j,hj,e⟩:=Rb.mp z;have rh:j<i:=by rw[mN] at hj;lia
   have:=D3.mp up j i (by lia) iP rh;rw[List.getElem_take] at e;lia
  generalize fT[i]=x at *
  have nl:(numsOf (rk k 0) (fT.take i)).length<=1+i:=by unfold numsOf;have:=Q9 (λx=>decide (x≠rk k 0)) (fT.take i);rw[mN] at this;simp only[oD];lia
  walk_at "q";rw[xK];by_cases e:x=rk k 0
  ·refine R.F (by simp[numsOf,e]) ?_;walk_at "q";refine hN _ ⟨some (.sh (.int x)),?_⟩;rw[tk,numsOf,numsOf,List.filter_append];simp[e]
  ·have nn:x∉numsOf (rk k 0) (fT.take i):=by unfold numsOf;simp[e,nin]
   refine R.T (by simp[nn]) ?_;walk_at "q";rw[zr];refine⟨by lia,?_⟩;refine hN _ ⟨some (.sh (.int x)),?_⟩;rw[Dh nn,tk];simp[numsOf,e]
 ·rintro ρ ⟨o3,rfl⟩;rw[b5,vE];have nd:=lE (rk k 0) up;walk_at "q"
  refine aV (λ_=>true) (λd=>match d with
   |.int x=>ic (dq (numsOf (rk k 0) fT) x)
   |d=>d) (λρ=>∃ o,ρ=[o,some (.sh (.dK (rX (numsOf (rk k 0) fT))))]) _ _ _ ⟨_,rfl⟩ ?_ ?_
  ·walk_at"n";obtain⟨s,hs,rfl⟩:=cw.mp hx;walk_at "q";exact zf nd ⟨.inl (sH _),n2 _ ⟨_,rfl⟩ rfl⟩
  have e2:((k.map D.int).filter λ_=>true).map (λd=>match d with
    |.int x=>ic (dq (numsOf (rk k 0) fT) x)
    |d=>d)=(k.map (dq (numsOf (rk k 0) fT))).map ic:=by
   rw[D5.mpr λ_ _=>rfl,fo,fo];rfl
  rw[e2];exact h _ ⟨k,ms,fT,hk,Oz,up,mem,rfl⟩
def lY:WS :=
 (c9 (fi 1 (aK dU (ak (ai 0) dn)))
 (c9 (fi 2 (cG (cO (bp eW (ai 0) (wC (.int 1)))) (gT 3 (aG (gN 0) (aG (gN 1) (aG (gN 2) du)))) (wB (bp vX (bp eW (ai 3) (ai 0)) (wC .non))) (nV (ak (bp eW (ai 3) (ai 0)) (ak (ai 1) (ak (bp eW (ai 3) (ai 2)) dn)))) 3 [1]))
 (kR (nV (ak (i7 n8 (cG (cO (ai 1)) (gN 0) (wB (bp vX (ai 0) (wC .non))) (ai 0) 1 [])) (ak (i7 gK (ai 2)) dn))))))
def fZ:kr:=λds Q=>∃ (many:Int) (steps:List bP),ds=[mD many steps]/\(1<=many/\many<=20)/\eT many steps/\steps.length<=1000/\∀ hs c out,bW many steps hs->h_ steps hs c out->Q (.ow true) (mD c out)
theorem p_ (ds Q) (h:fZ ds Q):ds.length=["m"].length:=by obtain⟨_,_,rfl,_⟩:=h;rfl
theorem vA:∀ ds Q,fZ ds Q->lY { nx:=λ_=>Q .sh .non,rt:=Q } (aL 3 ds):=by
 rintro ds Q ⟨many,steps,rfl,Qo,aS,hl,h⟩;unfold lY;rw[show aL 3 [mD many steps]=[some (.sh (mD many steps)),none,none] from rfl];walk_at "q";refine⟨many,steps,rfl,Qo,aS,hl,λhs H=>?_⟩;have OB:=H.len;walk_at "q";unfold mD;walk_at "q"
 refine aV (λd=>match d with
  |.tup [.int s,_,_]=>(hm hs s).isSome
  |_=>false) (λd=>match d with
  |.tup [.int s,.str x,.int t]=>.tup [.int ((hm hs s).getD 0),.str x,.int ((hm hs t).getD 0)]
  |d=>d) (λρ=>∃ o0 o1 o2,ρ=[o0,o1,o2,some (.sh (.list (hs.map ic)))]) _ _ _ ⟨_,_,_,rfl⟩ ?_ ?_
 ·rintro x hx ρ ⟨o0,o1,o2,rfl⟩ N1 N2 n1 n2;obtain⟨⟨s,d,t⟩,ht,rfl⟩:=cw.mp hx;have ok:=aS _ ht;unfold eJ at n1 n2 ⊢;walk_at "q";refine⟨_,zY OB ok.1 ok.2.1,?_⟩
  cases e:hm hs s with
  |none =>simp only[ic];walk_at "q";exact n1 _ ⟨_,_,_,rfl⟩ (by simp[e])
  |some i =>obtain⟨j,ej⟩:=H.step aS Qo.1 ht e;simp only[ic];walk_at "q";refine⟨_,zY OB ok.1 ok.2.1,?_⟩;rw[e];simp only[ic];walk_at "q";refine⟨_,zY OB ok.2.2.2.1 ok.2.2.2.2,?_⟩;rw[show hm hs t=some j from ej];simp only[ic];walk_at "q";have:=n2 [some (.sh (.int s)),some (.sh (.str d)),some (.sh (.int t)),some (.sh (.list (hs.map ic)))] ⟨_,_,_,rfl⟩ (by simp[e]);simp only[e,show hm hs t=some j from ej,Option.getD_some] at this;exact⟨.inl rfl,this⟩
 have e1:((steps.map eJ).filter (λd=>match d with
   |.tup [.int s,_,_]=>(hm hs s).isSome
   |_=>false)).map (λd=>match d with
   |.tup [.int s,.str x,.int t]=>.tup [.int ((hm hs s).getD 0),.str x,.int ((hm hs t).getD 0)]
   |d=>d)=(nR steps hs).map eJ:=by
  unfold nR;rw[List.filter_map,fo,fo];rfl
 rw[e1];refine aV (λd=>!d.GW) (λd=>d) (λρ=>∃ o,ρ=[o]) _ _ _ ⟨_,rfl⟩ ?_ ?_
 ·walk_at"n";obtain⟨o,ho,rfl⟩:=cw.mp hx
  cases o with
  |none =>simp only[ic] at n1 ⊢;walk_at "q";exact n1 _ ⟨_,rfl⟩ rfl
  |some i =>simp only[ic] at n2 ⊢;walk_at "q";exact⟨.inl rfl,n2 _ ⟨_,rfl⟩ rfl⟩
 rw[yr];refine qP (hs:=hs) (by lia) λcs hc=>?_;generalize ((cs.length:Nat):Int)=c at hc ⊢;have e2:(nR steps hs).map eJ=((nR steps hs).map hG).map kg:=by rw[fo];rfl
 rw[e2];refine⟨_,[false,true],rfl,by rw[b5];exact iX (pG _ _) hl,λk hk=>?_,λms nd mm pw=>?_⟩
 ·obtain⟨s,_,rfl⟩:=cw.mp hk;rfl
 obtain⟨l,rfl,hp⟩:=nW (P:=λp=>p∈nR steps hs) (ks:=ms) λk hk=>by grind
 have e:(l.map hG).map kg=l.map eJ:=by rw[fo];rfl
 rw[e];refine h hs c l H ⟨hc,?_,λs=>?_⟩
 ·rw[kH] at pw;have BQ:l.Pairwise λa b=>hG a≠hG b:=by grind
  refine(pw.and BQ).imp λ{a b} ⟨h1,h2⟩=>?_;unfold dv
  cases h3:gX (hG a) (hG b) with
  |true=>rfl
  |false=>exact absurd (gU (a:=hG a) (b:=hG b) rfl h3 h1) h2
 ·rw[<- pC H aS Qo.1];refine⟨hp s,λh9=>?_⟩;obtain⟨q,hq,e⟩:=cw.mp ((mm (hG s)).mpr (cw.mpr ⟨s,h9,rfl⟩));rw[<- Av e];exact hq
def iY:WS :=
 (c9 (mh (wB (bp SV (bp gx (ai 1) (bp eW (ai 4) (wC (.int 0)))) (wC (.int 20))))
 (kR (wC (.bl true)))
 cH)
 (c9 (iE 6 (fi 13 (nV (ak (bp gx (ai 1) (bp eW (ai 4) (wC (.int 0)))) (ak (ai 6) dn)))))
 (kR (yz (bp Tt (aK fQ (ak (ai 13) (ak (i7 vy (ai 8)) dn))) (wC (.bl true))) (bp Tt (aK mV (ak (ai 13) (ak (wC (.int 0)) (ak (ai 1) dn)))) (wC (.bl true)))))))
def i_:WS :=
 (c9 (mh (wB (bp DB (i7 fj (vL (ai 8) (gT 2 (aG (gN 0) (aG (gN 1) du))) pS (ai 1) 2 [])) (nq (ai 1) (bp gx (ai 1) (bp eW (ai 4) (wC (.int 0)))))))
 (kR (wC (.bl false)))
 cH)
 iY)
def nj:WS :=
 (c9 (iE 1 (mh (Qa (wB (bp DB (i7 BF (ai 5)) (ai 1))) (Qa (wB (bp (wt true) (nV (ak (wC (.int 0)) (ak (ai 1) dn))) (ai 8))) (wB (bp (wt false) (wC .non) (cG (cO (aK fY (ak (ai 1) (ak (ai 2) dn)))) (gN 0) pS (bp eW (ai 1) (ai 0)) 1 [5])))))
 (kR (wC (.bl false)))
 cH))
 i_)
def nM:WS :=
 (c9 (iE 8 (zQ (ai 8) (gT 2 (aG (gN 11) (aG (gN 12) du)))
 (mh (Lv (wB (aK bY (ak (ai 7) (ak (ai 11) (ak (ai 12) (ak (ai 8) dn)))))))
 (kR (wC (.bl false)))
 cH)))
 nj)
def xV:WS :=
 (c9 (iE 5 (oi (su (ai 5)) (gT 2 (aG (gN 9) (aG (gN 10) du)))
 (mh (wB (bp vX (ai 10) (wC .non)))
 (kW (sT 8) (nV (ak (ai 9) (ak (bp gx (ai 1) (ai 10)) dn))) (wC (.bl true)))
 cH)))
 nM)
def mW:WS :=
 (c9 (fi 8 lG)
 xV)
def oG:WS :=
 (c9 (fi 6 (bp gx (ai 2) (cG (cO (bp eW (ai 4) (wC (.int 1)))) (gT 3 (aG (gN 0) (aG (gN 1) (aG (gN 2) du)))) pS (nV (ak (bp gx (ai 0) (ai 3)) (ak (ai 1) (ak (bp gx (ai 2) (ai 3)) dn)))) 3 [1])))
 (c9 (fi 7 (aK eX (ak (bp gx (ai 1) (bp eW (ai 4) (wC (.int 0)))) (ak (ai 6) dn))))
 mW))
def Hq:WS :=
 (c9 (CP 1 2 (Tc (aK cV (ak (ai 0) (ak (wC (.int 100)) dn)))))
 (c9 (iE 1 (fi 3 (nV (ak (ai 1) (ak (i7 vy (ai 2)) dn)))))
 (c9 (fi 4 (aK fZ (ak (ai 3) dn)))
 (c9 (fi 5 (aK dU (ak (ai 3) dn)))
 oG))))
abbrev QX:kr:=aP'
theorem Es (ds Q) (h:QX ds Q):ds.length=["_law_script"].length:=by obtain⟨_,rfl,_⟩:=h;rfl
theorem HV.QR{many c:Int}{steps:List bP}{hs:List (Option Int)}{n:Nat}{ks:List P2}(hk:HV many hs many ks)(hc:c=n)(hn:∀ x,some x∈hs↔0<=x/\x<n)(m1:1<=many):∀ x∈ks,DL (many+c) x:=λx hx=>by obtain⟨ix,i,ei,e2⟩:=(hk.mem x).mp hx;have:=(hn i).mp (ji ix.1 ei);exact⟨by lia,by lia⟩
theorem zL{Q:Md->D->Prop}{ns:List Int}{many c:Int}{steps out bo:List bP}{hs:List (Option Int)}{n:Nat}{ks:List P2}{o7 o9 sv xo xt:Option Sl}(m1:1<=many)(m2:many<=20)(aS:eT many steps)(H:bW many steps hs)(L3:h_ steps hs c out)(hc:c=n)(hn:∀ x,some x∈hs↔0<=x/\x<n)(n1:1<=n)(n2:(n:Int)<=many)(DS:bo=steps++out.map (sR many))(bin:eT (many+c) bo)(bl:bo.length<=1000)(h:∀ m,Q m (.bl true))(hk:HV many hs many ks)(kl:ks.length<=100) :
  iY { nx:=λ_=>Q .sh .non,rt:=Q } [some (.sh (.list (ns.map .int))),some (.sh (.int many)),some (.sh (.list (steps.map eJ))),some (.ow true (.tup [.int many,.list (steps.map eJ)])),some (.ow true (.tup [.int c,.list (out.map eJ)])),some (.sh (.list (hs.map ic))),some (.ow true (.list (bo.map eJ))),o7,some (.sh (.dT (k5 ks))),o9,sv,xo,xt,none]:=by
 unfold iY;walk_at "q";refine R.D (λ_=>?_) λe20=>?_
 ·walk_at "q";exact h _
 ·walk_at "q";have ki:=hk.QR (steps:=steps) hc hn m1;have kb:∀ x∈ks,E8 bo ks x:=by rw[DS];exact xG L3 H aS m1 hn hk
  have e:(k5 ks).map (λkv=>D.tup (kv.1.map iS))=ks.map vv:=sO ks;rw[e];refine⟨many+c,bo,ks,rfl,by lia,bin,bl,by lia,ki,λb hb=>?_⟩;rw[hb.mpr kb];walk_at "q";have z0:((0,many):P2)∈ks:=(hk.mem _).mpr ⟨⟨sL 0,(by lia : 0<many)⟩,0,H.zero m1,(by lia : many=many+0)⟩;refine⟨many+c,bo,0,many,rfl,by lia,bin,bl,ki _ z0,λk Sq=>?_⟩;rw[decide_eq_true (Sq.same bin ki kb _ z0)];walk_at "q";exact h _
theorem yV{Q:Md->D->Prop}{ns:List Int}{many c:Int}{steps out bo:List bP}{hs:List (Option Int)}{n:Nat}{ks:List P2}{o7 o9 sv xo xt:Option Sl}(m1:1<=many)(m2:many<=20)(aS:eT many steps)(H:bW many steps hs)(L3:h_ steps hs c out)(hc:c=n)(hn:∀ x,some x∈hs↔0<=x/\x<n)(n1:1<=n)(n2:(n:Int)<=many)(DS:bo=steps++out.map (sR many))(bin:eT (many+c) bo)(bl:bo.length<=1000)(h:∀ m,Q m (.bl true))(hk:HV many hs many ks)(kl:ks.length<=100) :
  i_ { nx:=λ_=>Q .sh .non,rt:=Q } [some (.sh (.list (ns.map .int))),some (.sh (.int many)),some (.sh (.list (steps.map eJ))),some (.ow true (.tup [.int many,.list (steps.map eJ)])),some (.ow true (.tup [.int c,.list (out.map eJ)])),some (.sh (.list (hs.map ic))),some (.ow true (.list (bo.map eJ))),o7,some (.sh (.dT (k5 ks))),o9,sv,xo,xt,none]:=by
 obtain⟨w11,e11⟩:∃ w11,w11=iY:=⟨_,rfl⟩
 unfold i_;rw[<- e11];walk_at "q";rw[sO];refine⟨by rw[iV];lia,?_⟩;refine aV (λ_=>true) bG' (λρ=>∃ o1 o2,ρ=[o1,o2]) _ _ _ ⟨_,_,rfl⟩ ?_ ?_
 ·rintro x hx ρ ⟨o1,o2,rfl⟩ N1 N2 n1 n2;obtain⟨⟨p,q⟩,oj,rfl⟩:=cw.mp hx;rw[show vv (p,q)=.tup [.int p,.int q] from rfl] at n2 ⊢;walk_at "q";exact⟨.inl rfl,n2 _ ⟨_,_,rfl⟩ rfl⟩
 rw[show((ks.map vv).filter λ_=>true).map bG'=(ks.map λx=>(Sum.inl x.2:Key)).map iS by rw[D5.mpr λ_ _=>rfl,fo,fo];rfl];refine⟨_,true,rfl,by rw[b5];lia,λk Bi=>?_,λms nd mm pw=>?_⟩
 ·obtain⟨x,_,rfl⟩:=cw.mp Bi;rfl
 obtain⟨ss,rfl,AI⟩:=Ox (f:=λx=>(Sum.inl x:Key)) (P:=λ_=>True) (ks:=ms) λx hx=>by grind
 have mem:∀ x,x∈ss↔many<=x/\x<many+n:=λx=>by
  rw[<- bO (ks:=ss),mm,cw];constructor
  ·rintro⟨y,hy,e⟩;cases e;obtain⟨iy,i,ei,e2⟩:=(hk.mem y).mp hy;have:=(hn i).mp (ji iy.1 ei);lia
  ·intro hx;obtain⟨s,oj,e⟩:=Bg H.len ((hn (x-many)).mpr (by lia));exact⟨(s,x),(hk.mem _).mpr ⟨oj,x-many,e,(by lia : x=many+(x-many))⟩,rfl⟩
 have es:ss=(bV n).map (many + ·):=by
  refine nZ (Bd nd pw) ?_ λx=>(mem x).trans ?_
  ·rw[kH];unfold bV;rw[kH];exact List.pairwise_lt_range.imp λh=>by lia
  ·rw[cw];constructor
   ·intro hx;exact⟨x-many,bK.mpr (by lia),by lia⟩
   ·rintro⟨y,hy,rfl⟩;have:=bK.mp hy;lia
 have eD:(ss.map λx=>(Sum.inl x:Key)).map iS=dG many (many+c-many).toNat:=by rw[oM,es,show(many+c-many).toNat=n by lia];unfold dG bV;rw[fo,fo];rfl
 rw[eD];have Wt:∀ (lo:Int) (n:Nat),dP 12 (.list (dG lo n))=true/\iO (.list (dG lo n)) (.list (dG lo n))=true:=λlo n=>by
  have e:dG lo n=((List.range n).map λi:Nat=>lo+(i:Nat)).map .int:=by unfold dG;rw[fo];rfl
  rw[e];exact⟨rB _ 11,by rw[Gx];exact decide_eq_true rfl⟩
 refine⟨by lia,by lia,(Wt _ _).1,(Wt _ _).1,R.F (by rw[(Wt _ _).2];rfl) ?_⟩;walk_at "q";rw[e11];exact zL m1 m2 aS H L3 hc hn n1 n2 DS bin bl h hk kl
theorem DY{Q:Md->D->Prop}{ns:List Int}{many c:Int}{steps out bo:List bP}{hs:List (Option Int)}{n:Nat}{ks:List P2}{o7 o9 sv xo xt:Option Sl}(m1:1<=many)(m2:many<=20)(aS:eT many steps)(H:bW many steps hs)(L3:h_ steps hs c out)(hc:c=n)(hn:∀ x,some x∈hs↔0<=x/\x<n)(n1:1<=n)(n2:(n:Int)<=many)(DS:bo=steps++out.map (sR many))(bin:eT (many+c) bo)(bl:bo.length<=1000)(h:∀ m,Q m (.bl true))(hk:HV many hs many ks)(kl:ks.length<=100) :
  nj { nx:=λ_=>Q .sh .non,rt:=Q } [some (.sh (.list (ns.map .int))),some (.sh (.int many)),some (.sh (.list (steps.map eJ))),some (.ow true (.tup [.int many,.list (steps.map eJ)])),some (.ow true (.tup [.int c,.list (out.map eJ)])),some (.sh (.list (hs.map ic))),some (.ow true (.list (bo.map eJ))),o7,some (.sh (.dT (k5 ks))),o9,sv,xo,xt,none]:=by
 obtain⟨w10,e10⟩:∃ w10,w10=i_:=⟨_,rfl⟩
 unfold nj;rw[<- e10];have OB:=H.len;walk_at "q";rw[show((hs.length:Nat):Int)=many by lia];refine R.F (by simp) ?_;walk_at "q";have z0:((0,many):P2)∈ks:=(hk.mem _).mpr ⟨⟨sL 0,(by lia : 0<many)⟩,0,H.zero m1,(by lia : many=many+0)⟩;have e1:=jd ks (0,many);unfold pT at e1;rw[e1,decide_eq_true z0];walk_at "q";refine⟨many,steps,rfl,by lia,aS,λms Oz=>?_⟩;walk_at "q";refine aV (λ_=>true) (hmD hs) (λρ=>∃ o,ρ=[o,some (.sh (.list (hs.map ic)))]) _ _ _ ⟨_,rfl⟩ ?_ ?_
 ·walk_at"n";obtain⟨s,oj,rfl⟩:=cw.mp hx;have vj:=((Oz.mem s).mp oj).lt aS m1;walk_at "q";refine⟨_,zY OB vj.1 vj.2,?_⟩;exact⟨.inl (sH _),n2 _ ⟨_,rfl⟩ rfl⟩
 rw[show((ms.map D.int).filter λ_=>true).map (hmD hs)=ms.map λs=>ic (hm hs s) by rw[D5.mpr λ_ _=>rfl,fo];rfl];have mE:∀ s∈ms,∃ i,ic (hm hs s)=.int i:=λs oj=>by obtain⟨i,e⟩:=H.met aS m1 Oz oj;exact⟨i,by rw[e];rfl⟩
 refine⟨rfl,?_,R.F ?_ ?_⟩
 ·rw[Rl,My];intro s oj;obtain⟨i,e⟩:=mE s oj;show eN (ic (hm hs s))=true;rw[e];rfl
 ·unfold inD;rw[Rm,List.any_eq_false];intro s oj;obtain⟨i,e⟩:=mE s oj;show ¬ iO (ic (hm hs s)) .non=true;rw[e,nF _ _ rfl rfl];exact λz=>nomatch z
 walk_at "q";rw[e10];exact yV m1 m2 aS H L3 hc hn n1 n2 DS bin bl h hk kl
theorem DW{Q:Md->D->Prop}{ns:List Int}{many c:Int}{steps out bo:List bP}{hs:List (Option Int)}{n:Nat}{ks:List P2}{o9 sv:Option Sl}(m1:1<=many)(m2:many<=20)(aS:eT many steps)(H:bW many steps hs)(L3:h_ steps hs c out)(hc:c=n)(hn:∀ x,some x∈hs↔0<=x/\x<n)(n1:1<=n)(n2:(n:Int)<=many)(DS:bo=steps++out.map (sR many))(bin:eT (many+c) bo)(bl:bo.length<=1000)(h:∀ m,Q m (.bl true))(hk:HV many hs many ks)(kl:ks.length<=100) :
  nM { nx:=λ_=>Q .sh .non,rt:=Q } [some (.sh (.list (ns.map .int))),some (.sh (.int many)),some (.sh (.list (steps.map eJ))),some (.ow true (.tup [.int many,.list (steps.map eJ)])),some (.ow true (.tup [.int c,.list (out.map eJ)])),some (.sh (.list (hs.map ic))),some (.ow true (.list (bo.map eJ))),some (.ow true (tI (many+c) bo)),some (.ow true (.dT (k5 ks))),o9,sv,none,none,none]:=by
 obtain⟨w9,e9⟩:∃ w9,w9=nj:=⟨_,rfl⟩
 unfold nM;rw[<- e9];walk_at "q";have ki:=hk.QR (steps:=steps) hc hn m1;have kb:∀ x∈ks,E8 bo ks x:=by rw[DS];exact xG L3 H aS m1 hn hk
 rw[sO];refine aU _ (λi ρ=>∃ (xo xt:Option Sl),ρ=[some (.sh (.list (ns.map .int))),some (.sh (.int many)),some (.sh (.list (steps.map eJ))),some (.ow true (.tup [.int many,.list (steps.map eJ)])),some (.ow true (.tup [.int c,.list (out.map eJ)])),some (.sh (.list (hs.map ic))),some (.ow true (.list (bo.map eJ))),some (.ow true (tI (many+c) bo)),some (.sh (.dT (k5 ks))),o9,sv,xo,xt,none]) ⟨_,_,rfl⟩ ?_ ?_
 ·rintro i x ρ hx ⟨xo,xt,rfl⟩ N hN;obtain⟨p,q,rfl,i6,tk⟩:=yR hx;walk_at "q";refine⟨many+c,bo,ks,(p,q),rfl,ki _ i6,λb hb=>?_⟩;rw[hb.mpr (kb _ i6)];walk_at "q";exact hN _ ⟨_,_,rfl⟩
 ·rintro ρ ⟨xo,xt,rfl⟩;rw[e9];exact DY m1 m2 aS H L3 hc hn n1 n2 DS bin bl h hk kl
theorem Dk{Q:Md->D->Prop}{ns:List Int}{many c:Int}{steps out bo:List bP}{hs:List (Option Int)}{n:Nat}(m1:1<=many)(m2:many<=20)(aS:eT many steps)(H:bW many steps hs)(L3:h_ steps hs c out)(hc:c=n)(hn:∀ x,some x∈hs↔0<=x/\x<n)(n1:1<=n)(n2:(n:Int)<=many)(DS:bo=steps++out.map (sR many))(bin:eT (many+c) bo)(bl:bo.length<=1000)(h:∀ m,Q m (.bl true)) :
  mW { nx:=λ_=>Q .sh .non,rt:=Q } [some (.sh (.list (ns.map .int))),some (.sh (.int many)),some (.sh (.list (steps.map eJ))),some (.ow true (.tup [.int many,.list (steps.map eJ)])),some (.ow true (.tup [.int c,.list (out.map eJ)])),some (.ow true (.list (hs.map ic))),some (.ow true (.list (bo.map eJ))),some (.ow true (tI (many+c) bo)),none,none,none,none,none,none]:=by
 obtain⟨w8,e8⟩:∃ w8,w8=nM:=⟨_,rfl⟩
 unfold mW xV;rw[<- e8];walk_at "q";have OB:=H.len;refine aU _ (λi ρ=>∃ (ks:List P2) (o9 sv:Option Sl),HV many hs (i:Nat) ks/\ks.length<=i/\ρ=[some (.sh (.list (ns.map .int))),some (.sh (.int many)),some (.sh (.list (steps.map eJ))),some (.ow true (.tup [.int many,.list (steps.map eJ)])),some (.ow true (.tup [.int c,.list (out.map eJ)])),some (.sh (.list (hs.map ic))),some (.ow true (.list (bo.map eJ))),some (.ow true (tI (many+c) bo)),some (.ow true (.dT (k5 ks))),o9,sv,none,none,none]) ⟨[],_,_,⟨p9,λx=>⟨λz=>(nomatch z),λ⟨z,_⟩=>by lia⟩⟩,cx _,rfl⟩ ?_ ?_
 ·rintro i x ρ hx ⟨ks,o9,sv,hk,kl,rfl⟩ N hN;obtain⟨o,ho,rfl⟩:∃ o,hs[i]? = some o/\x=.tup [.int i,ic o]:=by
   unfold j8 at hx;rw[T3,n5] at hx
   cases e:hs[i]? with
   |none=>rw[e] at hx;cases hx
   |some o=>rw[e] at hx;cases hx;exact⟨o,rfl,rfl⟩
  have hi:=(jS.mp ho).1;have eh:hm hs (i:Nat)=o:=by unfold hm;rw[D2,show((i:Nat):Int).toNat=i by lia,ho];rfl
  cases o with
  |none =>
   simp only[ic];walk_at "q";refine hN _ ⟨ks,_,_,⟨hk.nd,λx=>(hk.mem x).trans ⟨λ⟨z,y⟩=>⟨by lia,y⟩,λ⟨z,y⟩=>?_⟩⟩,by lia,rfl⟩;by_cases e:x.1=(i:Nat)
   ·grind
   ·exact⟨by lia,y⟩
  |some j =>
   simp only[ic];walk_at "q";refine⟨by rw[iV];lia,?_⟩;have nk:(((i:Nat):Int),many+j)∉ks:=λz=>by have:=((hk.mem _).mp z).1.2;have:((i:Nat):Int)<(i:Nat):=this;lia
   have e:=tK ks (((i:Nat):Int),many+j);unfold pT at e;rw[e];have ei:BU ks (((i:Nat):Int),many+j)=ks++[(((i:Nat):Int),many+j)]:=if_neg nk;refine hN _ ⟨BU ks (((i:Nat):Int),many+j),_,_,⟨lO hk.nd,λx=>?_⟩,by rw[ei];simp;lia,rfl⟩;rw[tZ,hk.mem];constructor
   ·grind
   ·grind
 ·rintro ρ ⟨ks,o9,sv,hk,kl,rfl⟩;have el:(j8 (hs.map ic)).length=many.toNat:=by simp[j8];lia
  rw[el] at hk kl;rw[e8];refine DW m1 m2 aS H L3 hc hn n1 n2 DS bin bl h ⟨hk.nd,λx=>(hk.mem x).trans ?_⟩ (by lia);rw[show((many.toNat:Nat):Int)=many by lia]
theorem Cp{Q:Md->D->Prop}{ns:List Int}{many c:Int}{steps out:List bP}{hs:List (Option Int)}(m1:1<=many)(m2:many<=20)(aS:eT many steps)(hl:steps.length<=500)(H:bW many steps hs)(L3:h_ steps hs c out)(h:∀ m,Q m (.bl true)) :
  oG { nx:=λ_=>Q .sh .non,rt:=Q } [some (.sh (.list (ns.map .int))),some (.sh (.int many)),some (.sh (.list (steps.map eJ))),some (.ow true (.tup [.int many,.list (steps.map eJ)])),some (.ow true (.tup [.int c,.list (out.map eJ)])),some (.ow true (.list (hs.map ic))),none,none,none,none,none,none,none,none]:=by
 obtain⟨w6,e6⟩:∃ w6,w6=mW:=⟨_,rfl⟩
 unfold oG;rw[<- e6];walk_at "q";obtain⟨n,n1,n2,hn⟩:=H.range aS m1;have hc:=L3.Hb hn;have ol:=L3.len H aS m1;refine aV (λ_=>true) (shD many) (λρ=>∃ o0 o1 o2,ρ=[o0,o1,o2,some (.sh (.int many))]) _ _ _ ⟨_,_,_,rfl⟩ ?_ ?_
 ·rintro x hx ρ ⟨o0,o1,o2,rfl⟩ N1 N2 n1 n2;obtain⟨⟨s,d,t⟩,ht,rfl⟩:=cw.mp hx;rw[show eJ (s,d,t)=.tup [.int s,.str d,.int t] from rfl] at n2 ⊢;walk_at "q";exact⟨.inl rfl,n2 _ ⟨_,_,_,rfl⟩ rfl⟩
 rw[Fx];have bin:=DR L3 H aS hn hc m1;refine⟨by rw[b5,b5];lia,.inl ⟨gC _,gC _,?_⟩⟩;rw[<- AX];have bl:(steps++out.map (sR many)).length<=1000:=by rw[oo,b5];lia
 refine⟨many+c,_,rfl,by lia,bin,by lia,?_⟩;walk_at "q";rw[e6];exact Dk m1 m2 aS H L3 hc hn n1 n2 rfl bin bl h
theorem J0:∀ ds Q,QX ds Q->Hq { nx:=λ_=>Q .sh .non,rt:=Q } (aL 14 ds):=by
 rintro ds Q ⟨ns,rfl,CM,h⟩;obtain⟨w4,e4⟩:∃ w4,w4=oG:=⟨_,rfl⟩
 unfold Hq;rw[<- e4];walk_at "q";refine⟨ns,100,rfl,by decide,λmany steps m1 m2 aS hl pw=>?_⟩;unfold mD;walk_at "q";refine .inl ⟨gC _,?_⟩;refine⟨many,steps,rfl,by lia,aS,by lia,λhs c out H L3=>?_⟩;walk_at "q";refine⟨many,steps,rfl,by lia,aS,by lia,λkc H2=>?_⟩;rw[H2.uniq aS H];unfold mD;walk_at "q";rw[e4];exact Cp m1 m2 aS hl H L3 h
def top(i:Nat):Stmt:=PySem.Challenge.pw_kinlook_k46_home_is_alike.main.body.getD i (.Pass ⟨0,0,0,0⟩)
abbrev qN:Stmt:=top 30
structure Txt(K:aC)(mg:Str->Option ae):Prop where
 QY:mg "any" = none
 Wu:mg "enumerate" = none
 Wv:mg "int" = none
 Ic:mg "len" = none
 QZ:mg "list" = none
 Ww:mg "min" = none
 sA:mg "range" = none
 L5:mg "set" = none
 DT:mg "sorted" = none
abbrev FA(K:aC)(x:Str)(s:Stmt):Prop:=∃ (f:ag) (oc:ae) (od an:Option ag) (Ct:Array (Option ae)) (kV doc pm gp ct:ae),zo K lI x=some (some (.ref f))/\K.lookup f=some ⟨oc,od,.func (zk x x (CD s) (yk s) (mB s) .none kV doc pm an gp ct),Ct⟩/\L9 K gp x=true/\IC K (.ref f)=true
theorem cX{K:aC}{h:dy}{mg:Str->Option ae}{x:Str}{s:Stmt}(X:K.In h)(G:h.Ns lI mg)(a:FA K x s):∃ f fd,mg x=some (.ref f)/\CF K x x s f fd:=by obtain⟨f,_,_,_,_,_,_,_,_,_,a,l,c,k⟩:=a;exact⟨_,_,PySem.W.mg_of X G a,ZY l c k⟩
theorem Jv{K:aC}{x:Str}{s:Stmt}{f:ag}{oc:ae}{od an:Option ag}{Ct:Array (Option ae)}{kV doc pm gp ct:ae}(a:zo K lI x=some (some (.ref f)))(l:K.lookup f=some ⟨oc,od,.func (zk x x (CD s) (yk s) (mB s) .none kV doc pm an gp ct),Ct⟩)(c:L9 K gp x=true)(k:IC K (.ref f)=true):FA K x s:=⟨_,_,_,_,_,_,_,_,_,_,a,l,c,k⟩
theorem all_mk {l:TL} {w:eB} {K:aC} {h:dy} {mg:Str->Option ae} {fa:ag} (X:K.In h) (G:h.Ns lI mg) (hfa:mg "law" = some (.ref fa))(a0:FA K "check_state" (top 4))(a1:FA K "ways_of" (top 5))(a2:FA K "exits_of" (top 6))(a3:FA K "met" (top 7))(a4:FA K "key_of" (top 9))(a5:FA K "ranks_behind" (top 10))(a6:FA K "rounds_of" (top 11))(a7:FA K "kinds_of" (top 12))(a8:FA K "alike" (top 13))(a9:FA K "homes_of" (top 15))(a10:FA K "least_of" (top 16))(a11:FA K "check_pairs" (top 18))(a12:FA K "steps_matched" (top 19))(a13:FA K "is_table" (top 20))(a14:FA K "_law_cell_at" (top 22))(a15:FA K "_law_digit" (top 23))(a16:FA K "_law_menu" (top 24))(a17:FA K "_law_draw" (top 25))(a18:FA K "_law_machine" (top 26))(a19:FA K "_law_rows" (top 27))(a20:FA K "_law_both_ways" (top 28))(a21:FA K "_law_met" (top 29))(a22:zo K lI "law" = some (some (.ref f22))) (P7:K.lookup f22=some ⟨o22,d22,.func (zk "law" "law" (CD qN) (yk qN) (mB qN) .none v22 j22 p22 e22 r22 u22),t22⟩) (c22:L9 K r22 "law" = true) (k22:IC K (.ref f22)=true)(QY:zo K lI "any" = some none)(Wu:zo K lI "enumerate" = some none)(Wv:zo K lI "int" = some none)(Ic:zo K lI "len" = some none)(QZ:zo K lI "list" = some none)(Ww:zo K lI "min" = some none)(sA:zo K lI "range" = some none)(L5:zo K lI "set" = some none)(DT:zo K lI "sorted" = some none)
  : ∃ fd:FuncData,(∀ (s:ay) (v:ae),BindsTo s fd ⟨[v],[]⟩ [("_law_script",v)])/\∀ base:dy,K.In base->base.Ns lI mg->AB l.prog w K mg base wc 7 fa fd ["_law_script"] (fJ K QX):=by
 have e:=hfa.symm.trans (PySem.W.mg_of X G a22);cases e;have T:Txt K mg:=⟨DZ X G QY,DZ X G Wu,DZ X G Wv,DZ X G Ic,DZ X G QZ,DZ X G Ww,DZ X G sA,DZ X G L5,DZ X G DT⟩
 obtain⟨_,_,m0,F0⟩:=cX X G a0;obtain⟨_,_,m1,F1⟩:=cX X G a1;obtain⟨_,_,m2,F2⟩:=cX X G a2;obtain⟨_,_,m3,F3⟩:=cX X G a3;obtain⟨_,_,m4,F4⟩:=cX X G a4;obtain⟨_,_,m5,F5⟩:=cX X G a5;obtain⟨_,_,m6,F6⟩:=cX X G a6;obtain⟨_,_,m7,F7⟩:=cX X G a7;obtain⟨_,_,m8,F8⟩:=cX X G a8;obtain⟨_,_,m9,F9⟩:=cX X G a9;obtain⟨_,_,m10,F10⟩:=cX X G a10;obtain⟨_,_,m11,F11⟩:=cX X G a11;obtain⟨_,_,m12,F12⟩:=cX X G a12;obtain⟨_,_,m13,F13⟩:=cX X G a13;obtain⟨_,_,m14,F14⟩:=cX X G a14;obtain⟨_,_,m15,F15⟩:=cX X G a15;obtain⟨_,_,m16,F16⟩:=cX X G a16;obtain⟨_,_,m17,F17⟩:=cX X G a17;obtain⟨_,_,m18,F18⟩:=cX X G a18;obtain⟨_,_,m19,F19⟩:=cX X G a19;obtain⟨_,_,m20,F20⟩:=cX X G a20;obtain⟨_,_,m21,F21⟩:=cX X G a21;have F22:=ZY (st:=qN) P7 c22 k22;refine⟨zk "law" "law" (CD qN) (yk qN) (mB qN) .none v22 j22 p22 e22 r22 u22,λs v=>.of_eq rfl,λbase _ _=>?_⟩;have mk:=@VH.mk l.prog w K mg base;have C0:=(mk m0 F0 ["m", "state"] 2 0 j4 mL (ao (cY (p7 (zG G3 Br JM Hk az (qv 1) (fF (qv 0) az)))
   wK
   aR))).1
 have C1:=(mk m1 F1 ["m", "ways", "start", "deed", "end"] 1 0 rE wQ (aj (aF 1 oA) (aj (aN 0 (bM (cC (fF (qv 0) az)) (cu (aA (aq 2) (aA (aq 3) (aA (aq 4) bu)))) (ao (aN 4 (aN 3 (aN 2 (JZ (pv 1) (dH (aa (qv 2) (aa (qv 3) au))) (qv 4)))))))) (ao (oK (pv 1)))))).1
 have C2:=(mk m2 F2 ["m", "exits", "start", "deed", "end"] 1 0 qx uR (aj (dw 1 (tn:=["state"]) (cn:=[]) (ix:=[]) (iw (bL T.sA (fF (qv 0) az))) (aq 0) bf (iH au)) (aj (aN 0 (bM (cC (fF (qv 0) az)) (cu (aA (aq 2) (aA (aq 3) (aA (aq 4) bu)))) (ao (aN 4 (aN 3 (pB (Ii (bZ (pv 1)) (qv 2)) (dH (aa (qv 3) (aa (qv 4) au))))))))) (ao (oK (pv 1)))))).1
 have C3:=(mk m3 F3 ["m", "reached", "waiting", "state", "step"] 1 0 Eu IW (aj (aF 1 (qJ az pE)) (aj (aF 2 (iH (aa az au))) (aj (rW (Ff (qv 2)) (aj (G8 3 (bZ (pv 2))) (ao (aN 0 (bM (cC (fF (qv 0) az)) (aq 4) (ao (cY (SJ (BW (aW wd gw (fF (qv 4) az) (qv 3)) (wF (aW wy qg (fF (qv 4) az) (qv 1))))) (aj (fX (bZ (pv 1)) (fF (qv 4) az) pE) (ao (pB (bZ (pv 2)) (fF (qv 4) az))))
   aR)))))))
   (ao (aY (cz Bb uh T.DT cT (qv 1)))))))).1
 have C4:=(mk m4 F4 ["exits", "ranks", "state"] 3 0 uL zU (ao (aY (dH (aa (fF (qv 1) (qv 2)) (aa (vG T.DT T.L5 (cL (tn:=["deed", "end"]) (cn:=["ranks"]) (ix:=[1]) (cF (fF (qv 0) (qv 2))) (cu (aA (aq 0) (aA (aq 1) bu))) bf (dH (aa (qv 0) (aa (fF (qv 2) (qv 1)) au))))) au)))))).1;have TH:=(mk m14 F14 ["_law_script", "_law_k"] 2 0 iT kY (aj (cY (aW Br Hk (qv 1) (cz dC pI T.Ic lM (qv 0))) (ao (aY (fF (qv 0) (qv 1))))
   aR)
   (ao (aY az)))).1
 have xv:=(mk m15 F15 ["_law_cell", "_law_way", "_law_many", "_law_prime"] 3 0 kO qd (aj (aF 3 (fF (iH (aa az (aa az (aa az (aa az (aa az (aa az au))))))) (qv 1))) (ao (aY (oE (vY (oE (gn (qv 0) (fF (iH (aa az (aa az (aa az (aa az (aa az (aa az au))))))) (qv 1))) (qv 3)) az) (qv 2)))))).1
 have C19:=(mk m19 F19 ["_law_many", "_law_steps", "_law_rows_here", "_law_at", "_law_deed", "_law_to"] 2 0 nG qU (aj (dw 2 (tn:=["_law_k"]) (cn:=[]) (ix:=[]) (iw (bL T.sA (qv 0))) (aq 0) bf (iH au)) (aj (aN 1 (bM (cC (qv 1)) (cu (aA (aq 3) (aA (aq 4) (aA (aq 5) bu)))) (ao (aN 5 (aN 4 (pB (Ii (bZ (pv 2)) (qv 3)) (dH (aa (qv 4) (aa (qv 5) au))))))))) (ao (oK (pv 2)))))).1
 have C20:=(mk m20 F20 ["_law_rows_here", "_law_one", "_law_other", "_law_pairs", "_law_deed", "_law_to", "_law_end"] 4 0 gG iQ (aj (aN 0 (bM (cC (fF (qv 0) (qv 1))) (cu (aA (aq 4) (aA (aq 5) bu))) (ao (cY (p7 (tV (cz Wb vQ T.QY yP (cL (tn:=["_law_name", "_law_end"]) (cn:=["_law_deed", "_law_pairs", "_law_to"]) (ix:=[4,3,5]) (cF (fF (qv 0) (qv 2))) (cu (aA (aq 0) (aA (aq 1) bu))) (mK (aW wd gw (qv 0) (qv 2))) (qY zS qg (dH (aa (qv 4) (aa (qv 1) au))) (qv 3)))))) (ao (aY pE))
   aR))))
   (aj (aN 0 (bM (cC (fF (qv 0) (qv 2))) (cu (aA (aq 4) (aA (aq 6) bu)))
   (ao (cY (p7 (tV (cz Wb vQ T.QY yP (cL (tn:=["_law_name", "_law_to"]) (cn:=["_law_deed", "_law_end", "_law_pairs"]) (ix:=[4,6,3]) (cF (fF (qv 0) (qv 1))) (cu (aA (aq 0) (aA (aq 1) bu))) (mK (aW wd gw (qv 0) (qv 2))) (qY zS qg (dH (aa (qv 1) (aa (qv 3) au))) (qv 4))))))
   (ao (aY pE))
   aR))))
   (ao (aY pE))))).1
 have C21:=(mk m21 F21 ["_law_many", "_law_steps", "_law_known", "_law_k", "_law_one", "_law_deed", "_law_two"] 2 0 qp vC (aj (aF 2 (qJ az pE)) (aj (bM (bL T.sA (qv 0)) (aq 3) (ao (aN 1 (bM (cC (qv 1)) (cu (aA (aq 4) (aA (aq 5) (aA (aq 6) bu)))) (ao (cY (aW zS qg (qv 4) (qv 2)) (ao (fX (bZ (pv 2)) (qv 6) pE))
   aR))))))
   (ao (aY (cz Bb uh T.DT cT (qv 2))))))).1
 have C5:=(mk m5 F5 ["exits", "ranks", "keys", "different", "key"] 2 1 iK kZ (aj (dw 2 (tn:=["state"]) (cn:=["exits", "ranks"]) (ix:=[0,1]) (iw (bL T.sA (cz dC pI T.Ic lM (qv 1)))) (aq 0) bf (aM C4 (aa (qv 1) (aa (qv 2) (aa (qv 0) au))))) (aj (aF 3 (iH au)) (aj (aN 2 (bM (cC (cz Hc Am T.DT cT (qv 2))) (aq 4) (ao (cY (aW Ft Gh (qv 4) (qv 3)) (ao (aN 4 (pB (bZ (pv 3)) (qv 4))))
   aR))))
   (ao (aY (cL (tn:=["key"]) (cn:=["different"]) (ix:=[3]) (cF (qv 2)) (aq 0) bf (Dv (qv 1) (qv 0))))))))).1
 have C11:=(mk m11 F11 ["m", "pairs", "pair"] 2 1 jq mR (ao (aN 1 (bM (cC (qv 1)) (aq 2) (aj (jk (aM C0 (aa (qv 0) (aa (fF (qv 2) az) au)))) (ao (jk (aM C0 (aa (qv 0) (aa (fF (qv 2) az) au)))))))))).1
 have C12:=(mk m12 F12 ["m", "pairs", "listed", "pair", "exits", "ways", "p", "q", "deed", "end"] 2 1 gW jT (aj (aF 2 oA) (aj (aN 1 (bM (cC (qv 1)) (aq 3) (ao (fX (bZ (pv 2)) (qv 3) pE)))) (aj (aF 4 (aM C2 (aa (qv 0) au))) (aj (aF 5 (aM C1 (aa (qv 0) au))) (aj (aN 5 (aN 4 (aN 2 (v9 (qv 2) (cu (aA (aq 6) (aA (aq 7) bu))) (ao (aN 4 (bM (cC (fF (qv 4) (qv 6))) (cu (aA (aq 8) (aA (aq 9) bu))) (ao (aN 8 (aN 7 (aN 9 (cY (p7 (tV (cz Wb vQ T.QY yP (cL (tn:=["other"]) (cn:=["end", "listed"]) (ix:=[9,2]) (cF (Jf (qv 5) (dH (aa (qv 7) (aa (qv 8) au))) (bk' (iH au)))) (aq 0) bf (qY zS qg (dH (aa (qv 1) (aa (qv 0) au))) (qv 2)))))) (ao (aY pE))
   aR)))))))) (λ_ _=>trivial)))))
   (ao (aY pE)))))))).1
 have C16:=(mk m16 F16 ["_law_cell", "_law_letters", "_law_size", "_law_at", "_law_base", "_law_kind", "_law_words", "_law_k", "_law_word", "_law_tail", "_law_first"] 1 1 nT rC (aj (aF 1 uD) (aj (aF 2 (a_ az (aM xv (aa (qv 0) (aa az (aa az au)))))) (aj (aF 3 (aM xv (aa (qv 0) (aa az (aa (qv 2) au))))) (aj (aF 4 (cL (tn:=["_law_j"]) (cn:=["_law_cell"]) (ix:=[0]) (iw (bL T.sA az)) (aq 0) bf (aM xv (aa (a_ (gn (qv 1) (a_ (qv 0) az)) (qv 0)) (aa az (aa az au)))))) (aj (aF 5 (aM xv (aa (qv 0) (aa az (aa az au))))) (aj (aF 6 (iH au)) (aj (bM (bL T.sA az) (aq 7) (aj (aF 8 (uc uD (cL (tn:=["_law_j"]) (cn:=["_law_at", "_law_base", "_law_k", "_law_letters"]) (ix:=[3,4,7,1]) (iw (bL T.sA (qv 2))) (aq 0) bf (fF (qv 4) (oE (a_ (fF (qv 2) (qv 0)) (gn (qv 3) (oF dD' Gj T.Wv BJ (qY wd gw (qv 0) (qv 1))))) az))))) (aj (cY (aW wd gw (qv 5) az) (ao (aF 8 (uc uD (cL (tn:=["_law_j"]) (cn:=["_law_base", "_law_letters"]) (ix:=[4,1]) (iw (bL T.sA (a_ (qv 7) az))) (aq 0) bf (fF (qv 2) (fF (qv 1) (qv 0)))))))
   aR)
   (aj (cY (aW wd gw (qv 5) az)
   (aj (dw 9 (tn:=["_law_j"]) (cn:=["_law_base", "_law_letters"]) (ix:=[4,1]) (iw (bL T.sA (aM xv (aa (a_ (qv 0) (qv 7)) (aa az (aa az au)))))) (aq 0) bf (fF (qv 2) (fF (qv 1) (qv 0))))
   (ao (aF 8 (a_ (fF (qv 1) (oE (a_ (fF (qv 4) az) (gn az (qv 7))) az)) (uc uD (qv 9))))))
   aR)
   (aj (cY (aW wd gw (qv 5) az)
   (ao (aF 8 (uc uD (cL (tn:=["_law_j"]) (cn:=["_law_base", "_law_k", "_law_letters"]) (ix:=[4,7,1]) (iw (bL T.sA az)) (aq 0) bf (fF (qv 3) (oE (a_ (fF (qv 1) az) (oE (a_ (qv 0) (qv 2)) az)) az))))))
   aR)
   (ao (aN 8 (pB (bZ (pv 6)) (qv 8)))))))))
   (aj (aF 10 (aM xv (aa (qv 0) (aa az (aa az au)))))
   (ao (aY (CN (a_ (iH (aa uD au)) (qv 6)) (yx (qv 10)) (yx (a_ (a_ (qv 10) az) (aM xv (aa (qv 0) (aa az (aa az au)))))))))))))))))).1
 have TJ:=(mk m17 F17 ["_law_script", "_law_k", "_law_way", "_law_many", "_law_cell"] 4 1 mF qT (aj (aF 4 (aM TH (aa (qv 0) (aa (a_ az (oE (a_ (gn az (qv 1)) (gn az (qv 2))) az)) au)))) (ao (aY (aM xv (aa (a_ (a_ (qv 4) (gn (aM TH (aa (qv 0) (aa az au))) (a_ (qv 1) az))) (gn (a_ (qv 1) az) (a_ (a_ (qv 1) az) (qv 2)))) (aa (qv 2) (aa (qv 3) au)))))))).1
 have C6:=(mk m6 F6 ["m", "exits", "rounds", "ranks"] 1 2 mO qW (λ{_ _ _ _ _ _ hr hu nd _}=>(aj (aF 1 (aM C2 (aa (qv 0) au))) (aj (aF 2 (iH (aa (Hi (iH (aa az au)) (fF (qv 0) az)) au))) (aj (aF 3 (aM C5 (aa (qv 1) (aa (fF (qv 2) az) au)))) (aj (rW (aW Vi Dd (qv 3) (fF (qv 2) (Ga az))) (yW nd rfl (Or.inl rfl) (pv 2) (pv 3) (aM C5 (aa (qv 1) (aa (qv 3) au))))) (ao (oK (pv 2))))))))).1
 have C13:=(mk m13 F13 ["m", "pairs"] 2 2 pQ u_ (aj (jk (aM C11 (aa (qv 0) (aa (qv 1) au)))) (ao (aY (FW (aM C12 (aa (qv 0) (aa (qv 1) au))) (Hr (aM C12 (aa (qv 0) (aa (cL (tn:=["p", "q"]) (cn:=[]) (ix:=[]) (cF (qv 1)) (cu (aA (aq 0) (aA (aq 1) bu))) bf (dH (aa (qv 1) (aa (qv 0) au)))) au))))))))).1
 have C18:=(mk m18 F18 ["_law_script", "_law_most", "_law_shape", "_law_copies", "_law_states", "_law_size", "_law_many", "_law_menu_here", "_law_steps", "_law_k", "_law_one", "_law_two", "_law_deed", "_law_way", "_law_j", "_law_i"] 2 2 iJ kJ (aj (aF 2 (aM TH (aa (qv 0) (aa az au)))) (aj (aF 3 (a_ az (vY (aM xv (aa (qv 2) (aa az (aa az au)))) az))) (aj (aF 4 (a_ az (aM xv (aa (qv 2) (aa az (aa az au)))))) (aj (aF 5 (aM xv (aa (qv 2) (aa az (aa az au))))) (aj (cY (aW wd gw (qv 5) az) (ao (aF 4 (vY az (qv 3))))
   aR)
   (aj (cY (aW wd gw (qv 5) az)
   (ao (aF 4 (a_ az (aM xv (aa (qv 2) (aa az (aa (vY az (qv 3)) au)))))))
   aR)
   (aj (aF 6 (aM xv (aa (qv 2) (aa az (aa (gn az (qv 4)) au)))))
   (aj (cY (aW wd gw (qv 5) az)
   (ao (aN 1 (aF 6 (qv 1))))
   aR)
   (aj (aF 7 (aM C16 (aa (aM TH (aa (qv 0) (aa az au))) au)))
   (aj (aF 8 oA)
   (aj (bM (bL T.sA (Ey Gu Cw T.Ww HN (qv 6) (vY (qv 1) (gn (qv 3) (qv 3))))) (aq 9)
   (aj (aF 10 (aM TJ (aa (qv 0) (aa (qv 9) (aa az (aa (qv 4) au))))))
   (aj (aF 11 (aM TJ (aa (qv 0) (aa (qv 9) (aa az (aa (qv 4) au))))))
   (aj (aF 12 (fF (qv 7) (aM TJ (aa (qv 0) (aa (qv 9) (aa az (aa (cz dC pI T.Ic lM (qv 7)) au)))))))
   (aj (aF 13 (aM TJ (aa (qv 0) (aa (qv 9) (aa az (aa az au))))))
   (ao (bM (bL T.sA (qv 3)) (aq 14)
   (ao (bM (bL T.sA (qv 3)) (aq 15)
   (ao (cY (SJ (Ew (aW wd gw (qv 13) az) (Bc (aW wd gw (qv 15) (oE (a_ (qv 13) (qv 14)) (qv 3))))))
   (ao (fX (bZ (pv 8)) (dH (aa (a_ (qv 10) (gn (qv 4) (qv 14))) (aa (qv 12) (aa (a_ (qv 11) (gn (qv 4) (qv 15))) au)))) pE))
   aR)))))))))))
   (aj (bM (bL T.sA (Jj (gn (qv 3) (qv 4)) az)) (aq 9)
   (ao (cY (SJ (BW (aW wd gw (aM xv (aa (qv 2) (aa az (aa az au)))) az) (wF (aW Bj Gp (oE (a_ (qv 9) az) (qv 4)) az))))
   (ao (fX (bZ (pv 8)) (dH (aa (qv 9) (aa (fF (qv 7) az) (aa (a_ (qv 9) az) au)))) pE))
   aR)))
   (ao (aY (dH (aa (gn (qv 3) (qv 4)) (aa (cz Fg vP T.DT cT (qv 8)) au)))))))))))))))))).1
 have C7:=(mk m7 F7 ["m"] 1 3 qw uW (ao (aY (JQ (aM C6 (aa (qv 0) au)) (Ga az))))).1;have C8:=(mk m8 F8 ["m", "p", "q", "kinds"] 3 4 yG Cq (aj (jk (aM C0 (aa (qv 0) (aa (qv 1) au)))) (aj (jk (aM C0 (aa (qv 0) (aa (qv 2) au)))) (aj (aF 3 (aM C7 (aa (qv 0) au))) (ao (aY (qY wd gw (fF (qv 3) (qv 1)) (fF (qv 3) (qv 2))))))))).1
 have C9:=(mk m9 F9 ["m", "kinds", "numbers", "kind"] 1 4 p8 vm (aj (aF 1 (aM C7 (aa (qv 0) au))) (aj (aF 2 (qJ (fF (qv 1) az) az)) (aj (bM (cC (lN T.DT T.L5 (cL (tn:=["state"]) (cn:=["kinds"]) (ix:=[1]) (cF (aM C3 (aa (qv 0) au))) (aq 0) bf (fF (qv 1) (qv 0))))) (aq 3) (ao (cY (aW wy qg (qv 3) (qv 2)) (ao (fX (bZ (pv 2)) (qv 3) (cz dC pI T.Ic lM (qv 2))))
   aR)))
   (ao (aY (cL (tn:=["kind"]) (cn:=["numbers"]) (ix:=[2]) (cF (qv 1)) (aq 0) bf (FN (qv 1) (qv 0))))))))).1
 have C10:=(mk m10 F10 ["m", "homes", "steps"] 1 5 p_ vA (aj (aF 1 (aM C9 (aa (qv 0) au))) (aj (dw 2 (tn:=["start", "deed", "end"]) (cn:=["homes"]) (ix:=[1]) (cF (fF (qv 0) az)) (cu (aA (aq 0) (aA (aq 1) (aA (aq 2) bu)))) (mK (aW UD rD (fF (qv 3) (qv 0)) Ay)) (dH (aa (fF (qv 3) (qv 0)) (aa (qv 1) (aa (fF (qv 3) (qv 2)) au))))) (ao (aY (dH (aa (zJ rfl T.Ic rfl T.L5 (cL (tn:=["home"]) (cn:=[]) (ix:=[]) (cF (qv 1)) (aq 0) (mK (aW UD rD (qv 0) Ay)) (qv 0))) (aa (vf T.DT T.L5 (qv 2)) au)))))))).1
 exact(mk hfa F22 ["_law_script", "_law_many", "_law_steps", "_law_handed", "_law_least", "_law_homes", "_law_both", "_law_rows_here", "_law_pairs", "_law_k", "_law_home", "_law_one", "_law_other", "_law_whole"] 1 6 Es J0 (λ{_ _ _ _ _ _ hr hu nd _}=>(aj (Ck (i:=1) (j:=2) rfl nd rfl (Or.inr rfl) rfl (Or.inl rfl) (bk' (aM C18 (aa (qv 0) (aa az au))))) (aj (aN 1 (aF 3 (dH (aa (qv 1) (aa (oF lg wZ T.QZ wG (qv 2)) au))))) (aj (aF 4 (aM C10 (aa (qv 3) au))) (aj (aF 5 (aM C9 (aa (qv 3) au))) (aj (aF 6 (a_ (qv 2) (cL (tn:=["_law_one", "_law_deed", "_law_two"]) (cn:=["_law_many"]) (ix:=[1]) (cF (fF (qv 4) az)) (cu (aA (aq 0) (aA (aq 1) (aA (aq 2) bu)))) bf (dH (aa (a_ (qv 0) (qv 3)) (aa (qv 1) (aa (a_ (qv 2) (qv 3)) au))))))) (aj (aF 7 (aM C19 (aa (a_ (qv 1) (fF (qv 4) az)) (aa (qv 6) au)))) (aj (aF 8 oA) (aj (aN 5 (bM (Ec T.Wu (qv 5)) (cu (aA (aq 9) (aA (aq 10) bu))) (ao (cY (aW UD rD (qv 10) Ay) (ao (fX (bZ (pv 8)) (dH (aa (qv 9) (aa (a_ (qv 1) (qv 10)) au))) pE))
   aR))))
   (aj (aN 8 (v9 (qv 8) (cu (aA (aq 11) (aA (aq 12) bu)))
   (ao (cY (p7 (tV (aM C20 (aa (qv 7) (aa (qv 11) (aa (qv 12) (aa (qv 8) au)))))))
   (ao (aY pE))
   aR)) (λ_ _=>trivial)))
   (aj (aN 1 (cY (SJ (Ew (aW Vi Dd (cz dC pI T.Ic lM (qv 5)) (qv 1)) (Ew (aW wy qg (dH (aa az (aa (qv 1) au))) (qv 8)) (Bc (aW zS qg Ay (cL (tn:=["_law_state"]) (cn:=["_law_homes"]) (ix:=[5]) (cF (aM C21 (aa (qv 1) (aa (qv 2) au)))) (aq 0) bf (fF (qv 1) (qv 0))))))))
   (ao (aY pE))
   aR))
   (aj (cY (aW Vi Dd (lN T.DT T.L5 (Eo (tn:=["_law_one", "_law_other"]) (cn:=[]) (ix:=[]) (qv 8) (cu (aA (aq 0) (aA (aq 1) bu))) bf (qv 1))) (Aw T.QZ T.sA rfl (qv 1) (a_ (qv 1) (fF (qv 4) az))))
   (ao (aY pE))
   aR)
   (aj (cY (aW Bj Gp (a_ (qv 1) (fF (qv 4) az)) az)
   (ao (aY pE))
   aR)
   (aj (aN 6 (aF 13 (dH (aa (a_ (qv 1) (fF (qv 4) az)) (aa (qv 6) au)))))
   (ao (aY (FW (qY Bm Bo (aM C13 (aa (qv 13) (aa (oF lg wZ T.QZ wG (qv 8)) au))) pE) (Hr (qY Bm Bo (aM C8 (aa (qv 13) (aa az (aa (qv 1) au)))) pE)))))))))))))))))))).2
theorem walk{l:TL}{q:d4}{loose:List Str}{XP:(Str->Option ae)->dy->Prop}{YP:eB->dy->Prop}{d:DefRec}{K:Params->aC}(hn:l.most=some 63)(PF:d.params.defaults=[])(hY:∀ (w:eB) (h:dy),YP w h->(K w.params).In h)(F:∀ (w:eB) (mg:Str->Option ae) (fa:ag) (h:dy),(K w.params).In h->h.Ns lI mg->mg d.name=some (.ref fa) ->
   ∃ fd:FuncData,(∀ (s:ay) (u:ae),BindsTo s fd ⟨[u],[]⟩ [("_law_script",u)])/\∀ base:dy,(K w.params).In base->base.Ns lI mg->AB l.prog w (K w.params) mg base wc 7 fa fd ["_law_script"] (fJ (K w.params) QX)) :
  PySem.W.WalkO q loose XP YP l.row.toRowW d [] (λf vs=>PySem.call f vs) :=
 L2.fp' (n:=63) (k:=7) (x := "_law_script") (CX:=λ_=>wc) (sp:=λw=>fJ (K w.params) QX) hn (by decide) PF ⟨rfl,by decide,by decide⟩ hY F (λw H a ns hl hO hS=>Af hl hS) λ_ _ _ _ _ z=>z
end L2.Q.Tv
open PySem PySem.W PyProof.Rows
namespace PySem.W.Fast
def tw3895858691487187047:=0
def tw16547283690450702886:=0
def tw13904275880001132482:=0
def tw3108097844473420420:=0
def tw10608793074412170933:=0
def tw16049656975638632623:=0
def tw992697676614494187:=0
def tw10376171254303593844:=0
def tw8838970929559673005:=0
def tw1448290130633059708:=0
def tw12005401000983189663:=0
def tw2881523440973517455:=0
def tw11608345700728318742:=0
def tw12113995409611693865:=0
def tw10979972424688136983:=0
def tw2130632990942586278:=0
def tw9250489860950787286:=0
def tw16630667241029119194:=0
def tw14795053643111447971:=0
def tw14285209952723592062:=0
def tw8021040058275844235:=0
def tw596014286564768689:=0
def tw12005937141132947503:=0
def tw9660594088189444016:=0
def tw18319991713302197439:=0
def tw9704550270505401047:=0
def tw16435501375579563179:=0
def tw16778853078587447946:=0
def tw16990070464700555008:=0
def tw13139215930021037392:=0
def tw3949703877078234449:=0
def tw13909510924737108358:=0
def tw7484135238883897018:=0
def tw6321183781013905149:=0
def tw8643869583675670917:=0
def tw17464958169919890956:=0
def tw3885455639411193475:=0
def tw10192945882664055628:=0
def tw5519229392288459688:=0
def tw15399085316007395902:=0
def tw11749160556483630899:=0
def tw5515415642653006812:=0
def tw8888097709123002076:=0
def tw11634413173904230812:=0
def tw519299516310953842:=0
def tw8409512533534938865:=0
def tw15204387057443939608:=0
def tw16422440852510815441:=0
def tw15258372866302170564:=0
def tw16744627417667088019:=0
def tw12841143679343491467:=0
def tw15452699413674641239:=0
def tw6513730835410515126:=0
def tw8288112099142347477:=0
def tw4653149703222335606:=0
def tw16945710251068088444:=0
def tw174413339523649999:=0
def tw6340889491279298625:=0
def tw16186884388680495976:=0
def tw13365755208044913872:=0
end PySem.W.Fast
set_option maxRecDepth 100000 in
set_option maxHeartbeats 0 in
theorem PySem.Challenge.cw_kinlook_k46_home_is_alike_holds : PySem.Challenge.rw_kinlook_k46_home_is_alike.Holds := by
 w_on;o_law;k_head;(case hw=>w_witness2)
 k_fill
 refine L2.Q.Tv.walk (l:=PySem.Challenge.rw_kinlook_k46_home_is_alike) rfl rfl (λw h Y=>PySem.W.kIn_of Y) ?F
 case F =>
  intro w mg fa h KX G PH
  refine' L2.Q.Tv.all_mk KX G PH ..
  all_goals first|k_is|k_exc|kit_is|(refine' L2.Q.Tv.Jv ..<;>first|k_is|skip)|skip
