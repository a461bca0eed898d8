import PyProof.Rows.All
import Wide.All
import OpenK.AllK
import Wide.FinOn
import Lean
import PyProof.EqAt
import PyProof.EqKinds
import PyProof.TupleCall
import PyProof.CompUse
import PyProof.NeData
import PyProof.WalksEnum
import PyProof.EnumMake
import PyProof.ZipIter
import PyProof.Rows.EnumRows
import PyProof.Rows.FactsT2
import KE.KDictList
import PyProof.Rows.SortRuns
import PyProof.Rows.SortWalk
import KE.KSortTup
import PyProof.Rows.SortStr
import PyProof.ListRange
import PyProof.StrOps2
import PyProof.StrBlock2
import PyProof.AutoIntG3
import PyProof.ListMulRight
import PyProof.Rows.ListMulArg
import PyProof.Rows.CallKwBuiltin
import PyProof.Rows.StrMul
import KE.KMinBuiltin
import PyProof.TupleKey
import PyProof.SetKind
import PyProof.Rows.SetFrom
import PyProof.DictWalks
import KE.KRevIter
import PyProof.AutoSeq1
import PySem.Challenge.RW_kinlook_k18_whole_steps_in_a_frame
open PySem renaming wpAny_bind->ax,wpAny_pure->aS,wpAny_mono->pe
open List renaming length_map->bP,mem_cons_of_mem->dn,mem_map->cf,mem_cons_self->dz,mem_append_right->fE,mem_append->dA,mem_cons->dv,map_map->eP,size_toArray->iq,mem_append_left->ki,getElem?_eq_some_iff->mI,nodup_append->iO,map_cons->fP,length_append->js,sublist_append_right->pf,length_take->kz,mem_filter->kE,append_nil->kF,mem_singleton->n4,getElem?_map->ot,map_append->mM,mem_of_getElem?->sL,nodup_nil->mP,length_cons->pj,pairwise_map->qE,nodup_cons->ox,length_filter_le->vE,take_length->rX,mem_range->px,getElem?_eq_getElem->zo,getElem?_append_right->A4,append_assoc->tT,filterMap_cons->zt,take_add_one->xt,getElem?_eq_none->A5,drop_eq_getElem_cons->E5,take_append_drop->CY,sublist_append_left->E6,length_drop->zv,all_eq_true->zC,getD_eq_getElem?_getD->IE,getElem?_append_left->IG,nil_sublist->A6,any_cons->zD,map_congr_left->E7,append_eq_nil_iff->IH,zip_cons_cons->E8,all_cons->A7,length_range->E9,pairwise_append->II,replicate_succ->IJ,not_mem_nil->Fc,length_eq_zero_iff->O4,find?_cons->Fh,take_of_length_le->O5,ext_getElem?->IL,mem_of_mem_drop->O6,mem_of_mem_take->O7,nodup_iff_pairwise_ne->Rt,extract_eq_drop_take->Ru,pairwise_iff_getElem->Rv,flatMap_append->O8,length_nil->IQ,foldl_cons->IU,length_zip->IX,filter_map->IY,flatten_cons->O9,perm_append_comm->Rw,cons_append->O_,countP_cons->Pa,cons_ne_nil->Pb,nodup_range->Pg,mem_iff_getElem?->Rx,map_nil->IZ,all_map->I0,mem_filterMap->Ry,filterMap_map->Rz,map_take->Ph,map_drop->Pj,filter_cons->RA,lookup_cons->RB,getElem_mem->RC,drop_length->RD,mem_flatMap->RG,mem_reverse->RH
open Nat renaming le_refl->cq,zero_le->eu,le_trans->fS,ne_of_lt->gi,lt_of_lt_of_le->n5,le_of_lt->kR,lt_irrefl->sd,lt_succ_of_lt->xv,pow_succ->se,succ_pos->sM,le_add_right->A8,lt_succ_of_le->A9,mul_le_mul->zI,add_sub_of_le->Dp,le_of_not_lt->Jn,not_lt_zero->Dx,add_assoc->DB,pow_le_pow_right->Pk,lt_of_not_le->Pl,mul_assoc->Fm,le_antisymm->JA,add_zero->Fn,mul_comm->Fs,lt_of_succ_lt->RJ,le_of_lt_succ->Pm,one_pos->Fu,add_comm->JJ,min_self->JY,sub_lt->FC,mod_lt->FD,le_succ_of_le->RK,lt_trans->RL,zero_add->Pn
open PySem.Heap renaming get?_push_of_some->fw,lt_size->dP,get?_push_size->kr,get?_update_self->DC,get?_update_other->Kb,get?_push_ne->Pp,size_update->Pq
open Bool renaming false_eq_true->gy,false_ne_true->iS,and_eq_true->kG,eq_iff_iff->Bi,not_eq_true'->RN,not_true->Pt
open Array renaming getElem?_toList->mS,toList_push->n9,getElem?_eq_getElem->xA,length_toList->ua,getD_eq_getD_getElem?->Bn,getElem?_eq_some_iff->FE,eq_empty_of_size_eq_zero->Ki,getElem?_eq_none->FG,size_extract->DE,append_assoc->FH,getElem?_extract->Pu,perm_iff_toList_perm->RP,toList_inj->Pw,toList_extract->RQ,append_empty->RT
open Int renaming emod_lt_of_pos->sf,mul_le_mul_of_nonneg_right->DF,le_refl->lP,emod_nonneg->si,toNat_of_nonneg->xB,le_trans->qS,mul_le_mul_of_nonneg_left->FI,le_of_lt->vF,mul_nonneg->DH,mul_le_mul->DI,toNat_natCast->Kj,lt_of_lt_of_le->RV,mul_comm->Kk,mul_pos->Kn
open Option renaming isSome_map->RW,getD_none->RX
local macro_rules | `(command| def $i:declId $s:optDeclSig $v:declVal)=>`(command| noncomputable def $i:declId $s:optDeclSig $v:declVal)
local macro_rules | `(command| abbrev $i:declId $s:optDeclSig $v:declVal)=>`(command| noncomputable abbrev $i:declId $s:optDeclSig $v:declVal)
set_option compiler.extract_closed false
local macro_rules | `(tactic| walk_at "l") => `(tactic| first | lia | omega)
local macro_rules | `(tactic| walk_at "s1") => `(tactic| solve_by_elim (maxDepth := 4) [Nat.lt_of_lt_of_le, Nat.lt_of_le_of_lt, Nat.le_trans, Nat.lt_trans, Nat.le_of_lt, Nat.le_of_not_lt])
local macro_rules | `(tactic| walk_at "s2") => `(tactic| solve_by_elim (maxDepth := 5) [Nat.lt_of_lt_of_le, Nat.lt_of_le_of_lt, Nat.le_trans, Nat.le_of_lt, Nat.le_of_not_lt, Nat.lt_of_not_le, Nat.lt_of_succ_lt, Nat.le_of_succ_le])
local macro_rules | `(tactic| walk_at "s3") => `(tactic| solve_by_elim (maxDepth := 5) [Int.lt_of_lt_of_le, Int.lt_of_le_of_lt, Int.le_trans, Int.le_of_lt, Int.not_lt.mp, Int.not_le.mp])
local macro_rules | `(tactic| walk_at "s4") => `(tactic| solve_by_elim (maxDepth := 5) [Nat.le_trans, Nat.lt_of_lt_of_le, Nat.le_of_lt, Nat.le_add_right, Nat.le_add_left, Nat.add_le_add_left, Nat.add_lt_add_left, Nat.succ_le_succ, Nat.sub_le])
theorem L2.fz{α β:Type _}{A B C:α->β->Prop}{G:Prop}(x:∃ a b,A a b/\B a b/\C a b)(k:∀ a b,A a b->B a b->C a b->G):G :=
 let ⟨a,b,p,q,r⟩:=x
 k a b p q r
set_option Elab.async false
set_option linter.all false
set_option maxRecDepth 100000
namespace L2
open PySem PySem.Spec PyProof.Rows
abbrev Key:=Sum Int Str
def DJ:Key->Value->Bool
 |.inl k,v=>Value.isInt k v
 |.inr x,v=>Value.isStrOf x v
def Z2(w:World):Key->Int
 |.inl k=>hashInt k
 |.inr x=>hashStr w x
theorem xC:∀ {k:Key} {v:Value},DJ k v=true->(∃ i t,k=Sum.inl i/\v=Value.int i t)\/(∃ x t,k=Sum.inr x/\v=Value.str x t)
 |.inl i,v,h=>by
  obtain⟨t,e⟩:=Value.isInt_shape (k:=i) (v:=v) h
  exact .inl ⟨i,t,rfl,e⟩
 |.inr x,v,h=>by
  obtain⟨t,e⟩:=Value.isStrOf_shape (x:=x) (v:=v) h
  exact .inr ⟨x,t,rfl,e⟩
theorem V6(i:Int)(t:Tok):DJ (.inl i) (.int i t)=true:=by simp[DJ,Value.isInt]
theorem V7(x:Str)(t:Tok):DJ (.inr x) (.str x t)=true:=by simp[DJ,Value.isStrOf]
theorem V8(a b:Int):decide ((Sum.inl a:Key)=Sum.inl b)=(a == b):=by
 by_cases e:a=b
 ·subst e;simp
 ·have h:¬ (Sum.inl a:Key)=Sum.inl b:=fun q=>e (Sum.inl.inj q)
  rw[decide_eq_false h]
  exact(beq_eq_false_iff_ne.mpr e).symm
theorem V9(a b:Str):decide ((Sum.inr a:Key)=Sum.inr b)=decide (a=b):=by
 by_cases e:a=b
 ·subst e;simp
 ·have h:¬ (Sum.inr a:Key)=Sum.inr b:=fun q=>e (Sum.inr.inj q)
  rw[decide_eq_false h,decide_eq_false e]
theorem Z3(a:Int)(b:Str):decide ((Sum.inl a:Key)=Sum.inr b)=false:=decide_eq_false (fun q=>nomatch q)
theorem Z4(a:Str)(b:Int):decide ((Sum.inr a:Key)=Sum.inl b)=false:=decide_eq_false (fun q=>nomatch q)
def jv(prog:Program)(w:World):PySem.KeyKind prog w Key where
 is:=DJ
 hash:=Z2 w
 inj:=fun v a b ha hb=>by
  rcases xC ha with⟨i,t,rfl,rfl⟩|⟨x,t,rfl,rfl⟩
  ·rcases xC hb with⟨j,u,rfl,e⟩|⟨y,u,rfl,e⟩
   ·injection e with e1 _;rw[e1]
   ·exact nomatch e
  ·rcases xC hb with⟨j,u,rfl,e⟩|⟨y,u,rfl,e⟩
   ·exact nomatch e
   ·injection e with e1 _;rw[e1]
 byValue:=fun k v h=>by
  rcases xC h with⟨i,t,rfl,rfl⟩|⟨x,t,rfl,rfl⟩<;>rfl
 pyHash:=fun hv h=>by
  rcases xC hv with⟨i,t,rfl,rfl⟩|⟨x,t,rfl,rfl⟩
  ·exact wpAny_pyHash_int h
  ·exact wpAny_pyHash_str h
 eqBool:=fun hu hv h=>by
  rcases xC hu with⟨i,t,rfl,rfl⟩|⟨x,t,rfl,rfl⟩
  ·rcases xC hv with⟨j,u,rfl,rfl⟩|⟨y,u,rfl,rfl⟩
   ·rw[V8] at h;exact wpAny_eqBool_int h
   ·rw[Z3] at h;exact SeqAt.EqAt.int_str i t y u _ _ _ _ h
  ·rcases xC hv with⟨j,u,rfl,rfl⟩|⟨y,u,rfl,rfl⟩
   ·rw[Z4] at h;exact SeqAt.EqAt.str_int x t j u _ _ _ _ h
   ·rw[V9] at h;exact wpAny_eqBool_str h
 «strs» := fun k x t v h=>by
  rcases xC h with⟨i,u,rfl,e⟩|⟨y,u,rfl,e⟩
  ·exact nomatch e
  ·injection e with e1 _
   subst e1
   cases v<;>rfl
theorem Z5(prog:Program)(w:World)(k:Key)(v:Value):(jv prog w).is k v=DJ k v:=rfl
theorem Z6(prog:Program)(w:World)(i:Int)(t:Tok):(jv prog w).is (.inl i) (.int i t)=true:=V6 i t
theorem Z7(prog:Program)(w:World)(x:Str)(t:Tok):(jv prog w).is (.inr x) (.str x t)=true:=V7 x t
inductive V where
 |non|bl (b:Bool)|int (i:Int)|str (x:Str)|sN (b:Array UInt8)|zS (b:UInt64)|ref (a:Addr)|ty (n:String)
 deriving DecidableEq
def RelV:V->Value->Prop
 |.non,u=>u=Value.none
 |.bl b,u=>u=Value.bool b
 |.int i,u=>∃ t,u=Value.int i t
 |.str x,u=>∃ t,u=Value.str x t
 |.sN b,u=>∃ t,u=Value.bytes b t
 |.zS b,u=>∃ t,u=Value.float b t
 |.ref a,u=>u=Value.ref a
 |.ty n,u=>u=Value.type n
abbrev Vals:List V->List Value->Prop:=Paired RelV
theorem Vals.length(r:Vals xs us):xs.length=us.length:=Paired.length r
theorem Vals.get:∀ {xs:List V} {us:List Value} {i:Nat} {x:V},Vals xs us->xs[i]? = some x->∃ u,us[i]? = some u/\RelV x u
 |_,_,_,_,.nil,e=>by simp at e
 |_,_,0,_,.cons r _,e=>by simp at e;subst e;exact⟨_,rfl,r⟩
 |_,_,i+1,x,.cons _ t,e=>by
  obtain⟨u,h1,h2⟩:=Vals.get (i:=i) (x:=x) t (by simpa using e)
  exact⟨u,by simpa using h1,h2⟩
theorem Vals.set(r:RelV x u):∀ {xs:List V} {us:List Value} (i:Nat),Vals xs us->Vals (xs.set i x) (us.set i u)
 |_,_,_,.nil=>.nil
 |_,_,0,.cons _ t=>.cons r t
 |_,_,i+1,.cons q t=>.cons q (Vals.set r i t)
theorem Vals.append:∀ {xs ys:List V} {us ws:List Value},Vals xs us->Vals ys ws->Vals (xs++ys) (us++ws)
 |_,_,_,_,.nil,s=>s
 |_,_,_,_,.cons r t,s=>.cons r (Vals.append t s)
theorem Vals.take:∀ {xs:List V} {us:List Value} (n:Nat),Vals xs us->Vals (xs.take n) (us.take n)
 |_,_,0,_=>.nil
 |_,_,_+1,.nil=>.nil
 |_,_,n+1,.cons r t=>.cons r (Vals.take n t)
theorem Vals.drop:∀ {xs:List V} {us:List Value} (n:Nat),Vals xs us->Vals (xs.drop n) (us.drop n)
 |_,_,0,r=>r
 |_,_,_+1,.nil=>.nil
 |_,_,n+1,.cons _ t=>Vals.drop n t
def sP:Option V->Option Value->Prop
 |some v,some u=>RelV v u
 |none,none=>True
 |_,_=>False
def KV{κ:Type}:List (κ × V)->List (κ × Value)->Prop:=Paired fun(p:κ × V) (q:κ × Value)=>p.1=q.1/\RelV p.2 q.2
def kV:Key->V
 |.inl i=>.int i
 |.inr x=>.str x
inductive HO where
 /-- a list -/
 |lst (xs:List V)
 /-- a tuple (never changes) -/
 |tup (xs:List V)
 /-- a dict whose keys are ints and texts;one whose keys are tuples of ints and texts (the empty one is both) -/
 |dK (ae:List (Key × V))|dT (ae:List (List Key × V))
 /-- a set of ints: its members,its size -/
 |set (S:Int->Bool) (n:Nat)
 /-- an instance of the class at C,its dict at dx,its attributes -/
 |ins (C dx:Addr) (fs:List (Str × V))
 /-- the dict of the instance at x -/
 |own (x:Addr)
 /-- the dict of an exception -/
 |xd (fs:List (Str × V))
 /-- a bound method,f of x -/
 |met (f x:Addr)
 /-- a range object lo,lo+1,.. below hi -/
 |Px (lo hi:Int)
 /-- a thing that is known to the object (the script;a dict while a loop walks it): read,never written while it is so -/
 |lS (o:Obj) (u:HO)
 /-- a code object's table -/
 |Bz (ps:Array Value)
 /-- any other thing,by what is true of its one object (a def of hD' own: hE' a S n:=HO.ext fun h=>..) -/
 |ext (φ:Heap->Prop)
abbrev Hp:=Addr->Option HO
def upd(H:Hp)(a:Addr)(o:HO):Hp:=fun b=>if b=a then some o else H b
theorem kf:upd H a o a=some o:=by unfold upd;rw[if_pos rfl]
theorem g7(h:b≠a):upd H a o b=H b:=by unfold upd;rw[if_neg h]
theorem Z8{H:Hp}{a b:Addr}{o u:HO}(h:H a=some o)(h':H b=some u)(d:o≠u):a≠b:=by
 intro e;subst e;rw[h] at h';exact d (Option.some.inj h')
theorem FK{H:Hp}{a b:Addr}{o:HO}(h:H a=some o)(h':H b=none):a≠b:=by
 intro e;subst e;rw[h] at h';cases h'
section
variable (P:Program)(w:World)
def fA(H:Hp)(h:Heap)(a:Addr):HO->Prop
 |.lst xs=>xs.length<=sizeLine/\∃ (its:List Value) (n:Nat),Vals xs its/\h.get? a=some { cls:=.type "list",data:=.seq its.toArray n }
 |.tup xs=>xs.length<=sizeLine/\∃ its:List Value,Vals xs its/\IsTup h a its.toArray
 |.dK ae=>ae.length<=sizeLine/\(a == sysModules)=false/\∃ vs,KV ae vs/\h.DictOf (jv P w) a vs
 |.dT ae=>ae.length<=sizeLine/\(a == sysModules)=false/\∃ xs:List (List Key × Addr × Value),
   Paired (fun(p:List Key × V) (q:List Key × Addr × Value)=>p.1=q.1/\H q.2.1=some (.tup (p.1.map kV))/\RelV p.2 q.2.2) ae xs /\
   ∃ o es ep,h.get? a=some o/\o.ExactDict/\o.data=.dict es ep/\es.toList=xs.map (entryOfKey (tupleKind (jv P w)))/\(xs.map (·.1)).Nodup
 |.set S n=>h.SetOf (intKind P w) a S n
 |.ins C dx fs=>H dx=some (.own a)/\fs.length<=1000/\dx≠a/\h.get? a=some (PySem.W.instObj C dx) /\
   ∃ mA,h.Ns1 dx mA/\(∀ f,sP (fs.lookup f) (mA f))/\PySem.Within mA (fs.map (·.1))
 |.own _=>∃ o,h.get? a=some o
 |.xd fs=>∃ mA,h.Ns1 a mA/\∀ f,sP (fs.lookup f) (mA f)
 |.Px lo hi=>∃ t u v,h.get? a=some { cls:=.type "range",data:=.fields #[.int lo t,.int hi u,.int 1 v] }
 |.lS o u=>h.get? a=some o/\fA H h a u
 |.Bz ps=>h.get? a=some { cls:=.none,data:=.fields ps }
 |.met f x=>h.get? a=some (PySem.W.methodObj (.ref f) (.ref x))
 |.ext φ=>φ h/\(∃ o,h.get? a=some o)/\∀ h1 h2:Heap,φ h1->(∀ o,h1.get? a=some o->h2.get? a=some o)->φ h2
def fT(H:Hp)(h:Heap):Prop:=∀ a o,H a=some o->fA P w H h a o
end
section
variable {P:Program}{w:World}{H H':Hp}{h h':Heap}{a:Addr}{o:HO}
theorem fA.lt(x:fA P w H h a o):a<h.objs.size:=by
 cases o with
 |lst xs=>obtain⟨_,_,_,_,e⟩:=x;exact dP e
 |tup xs=>obtain⟨_,_,_,p⟩:=x;exact p.lt
 |dK ae=>obtain⟨_,_,_,_,o,_,_,e,_⟩:=x;exact dP e
 |dT ae=>obtain⟨_,_,_,_,o,_,_,e,_⟩:=x;exact dP e
 |set S n=>obtain⟨o,_,_,_,e,_⟩:=x;exact dP e
 |ins C dx fs=>obtain⟨_,_,_,e,_⟩:=x;exact dP e
 |own y=>obtain⟨_,e⟩:=x;exact dP e
 |xd fs=>obtain⟨_,⟨_,_,_,e,_⟩,_⟩:=x;exact dP e
 |Px lo hi=>obtain⟨_,_,_,e⟩:=x;exact dP e
 |lS ob u=>obtain⟨e,_⟩:=x;exact dP e
 |Bz ps=>exact dP (show h.get? a=some _ from x)
 |met f y=>exact dP (show h.get? a=some _ from x)
 |ext φ=>obtain⟨_,⟨_,e⟩,_⟩:=x;exact dP e
theorem Paired.RZ{α β:Type}{F G:α->β->Prop}:∀ {V_:List α} {Wa:List β},Paired F V_ Wa->(∀ a b,F a b->G a b)->Paired G V_ Wa
 |_,_,.nil,_=>.nil
 |_,_,.cons r t,f=>.cons (f _ _ r) (Paired.RZ t f)
theorem fA.fi(x:fA P w H h a o)(k:∀ b u,(b=a\/H b=some (.own a))->h.get? b=some u->h'.get? b=some u)
  (ho:∀ b,H b=some (.own a)->H' b=some (.own a)) (ht:∀ b xs,H b=some (.tup xs)->H' b=some (.tup xs)):fA P w H' h' a o:=by
 induction o with
 |lst xs=>obtain⟨z,its,n,r,e⟩:=x;exact⟨z,its,n,r,k _ _ (.inl rfl) e⟩
 |tup xs=>obtain⟨z,its,r,ob,e,c⟩:=x;exact⟨z,its,r,ob,k _ _ (.inl rfl) e,c⟩
 |dK ae=>obtain⟨z,y,vs,r,ob,es,ep,e,c⟩:=x;exact⟨z,y,vs,r,ob,es,ep,k _ _ (.inl rfl) e,c⟩
 |dT ae =>
  obtain⟨z,y,xs,r,ob,es,ep,e,c⟩:=x
  exact⟨z,y,xs,Paired.RZ r fun p q z=>⟨z.1,ht _ _ z.2.1,z.2.2⟩,ob,es,ep,k _ _ (.inl rfl) e,c⟩
 |set S n=>obtain⟨ob,es,ep,t,e,c⟩:=x;exact⟨ob,es,ep,t,k _ _ (.inl rfl) e,c⟩
 |ins C dx fs =>
  obtain⟨d,z,ne,e,mA,⟨od,es,ep,e2,c⟩,r⟩:=x
  exact⟨ho _ d,z,ne,k _ _ (.inl rfl) e,mA,⟨od,es,ep,k _ _ (.inr d) e2,c⟩,r⟩
 |own y=>obtain⟨ob,e⟩:=x;exact⟨ob,k _ _ (.inl rfl) e⟩
 |xd fs=>obtain⟨mA,⟨od,es,ep,e,c⟩,r⟩:=x;exact⟨mA,⟨od,es,ep,k _ _ (.inl rfl) e,c⟩,r⟩
 |Px lo hi=>obtain⟨t,u,v,e⟩:=x;exact⟨t,u,v,k _ _ (.inl rfl) e⟩
 |lS ob u ih=>obtain⟨e,q⟩:=x;exact⟨k _ _ (.inl rfl) e,ih q⟩
 |Bz ps =>
  have e:h.get? a=some { cls:=.none,data:=.fields ps }:=x
  show h'.get? a=some { cls:=.none,data:=.fields ps }
  exact k a _ (.inl rfl) e
 |met f y =>
  have e:h.get? a=some (PySem.W.methodObj (.ref f) (.ref y)):=x
  show h'.get? a=some (PySem.W.methodObj (.ref f) (.ref y))
  exact k a _ (.inl rfl) e
 |ext φ=>obtain⟨p,⟨o,e⟩,st⟩:=x;exact⟨st _ _ p fun o q=>k _ _ (.inl rfl) q,⟨o,k _ _ (.inl rfl) e⟩,st⟩
theorem fT.lt(x:fT P w H h)(e:H a=some o):a<h.objs.size:=(x a o e).lt
theorem fT.fresh(x:fT P w H h)(e:h.objs.size<=a):H a=none:=by
 cases q:H a with
 |none=>rfl
 |some u=>exact absurd (n5 (x.lt q) e) (sd _)
theorem fT.kept(x:fT P w H h)(k:∀ b u,h.get? b=some u->h'.get? b=some u):fT P w H h':=fun a o e =>
 (x a o e).fi (fun b u _ q=>k b u q) (fun _ q=>q) fun _ _ q=>q
theorem fT.laid(x:fT P w H h)(k:∀ b u,h.get? b=some u->h'.get? b=some u)(hp:h.objs.size<=a)(new:fA P w (upd H a o) h' a o):fT P w (upd H a o) h':=fun b u e=>by
 have hn:=x.fresh hp
 by_cases hb:b=a
 ·subst hb;rw[kf] at e;cases e;exact new
 ·rw[g7 hb] at e
  exact(x b u e).fi (fun c v _ q=>k c v q) (fun c q=>by rw[g7 (FK q hn)];exact q) fun c xs q=>by rw[g7 (FK q hn)];exact q
end
def Rd(H:Hp)(a:Addr)(u:HO):Prop:=H a=some u\/∃ o,H a=some (.lS o u)
theorem Rd.ok{P:Program}(r:Rd H a u)(x:fT P w H h):fA P w H h a u:=by
 rcases r with r|⟨o,r⟩
 ·exact x a u r
 ·obtain⟨_,q⟩:=x a _ r
  exact q
def Kx:Option HO->Prop
 |some (.lst _)=>True
 |some (.dK _)=>True
 |some (.dT _)=>True
 |some (.set _ _)=>True
 |some (.ins _ _ _)=>True
 |some (.ext _)=>True
 |_=>False
section
variable {P:Program}{w:World}{H:Hp}{h h':Heap}{x e:Addr}{o':HO}
theorem fT.write(ok:fT P w H h)(mu:Kx (H x))(he:e=x\/H e=some (.own x))(k:∀ b u,b≠e->h.get? b=some u->h'.get? b=some u)(FL:∃ u,h'.get? e=some u)
  (new:fA P w (upd H x o') h' x o'):fT P w (upd H x o') h':=fun b u q=>by
 have Wb:∀ c y,H c=some (.own y)->c≠x:=fun c y r z=>by subst z;rw[r] at mu;exact mu
 have Z9:∀ c xs,H c=some (.tup xs)->c≠x:=fun c xs r z=>by subst z;rw[r] at mu;exact mu
 by_cases hb:b=x
 ·subst hb;rw[kf] at q;cases q;exact new
 ·rw[g7 hb] at q
  by_cases DL:b=e
  ·have q':H b=some (.own x):=by
    rcases he with z|z
    ·exact absurd (DL.trans z) hb
    ·rw[DL];exact z
   rw[q] at q';cases q'
   obtain⟨v,hv⟩:=FL
   exact⟨v,by rw[DL];exact hv⟩
  ·refine(ok b u q).fi (fun c v hc r=>k c v ?_ r) (fun c r=>by rw[g7 (Wb c b r)];exact r) fun c xs r=>by rw[g7 (Z9 c xs r)];exact r
   rcases hc with rfl|hc
   ·exact DL
   ·rintro rfl
    rcases he with z|z
    ·exact Wb c b hc z
    ·rw[hc] at z;cases z;exact hb rfl
end
structure Un(fs ex:List Addr)(H H':Hp)(h h':Heap):Prop where
 keep:∀ b o,h.get? b=some o->H b=none->b∉fs->b∉ex->h'.get? b=some o
 slot:∀ b o,h.get? b=some o->H b=none->b∈fs->b∉ex->∃ sl,h'.get? b=some { o with slots:=sl }
 free:∀ b o,h.get? b=some o->H b=none->b∉ex->H' b=none
 there:∀ b o,h.get? b=some o->b∉ex->∃ o',h'.get? b=some o'
 iP:∀ b xs,H b=some (.tup xs)->H' b=some (.tup xs)
 pz:∀ b o u,H b=some (.lS o u)->H' b=some (.lS o u)
 qV:∀ b ps,H b=some (.Bz ps)->∃ more,H' b=some (.Bz (ps++more))
section
variable {fs ex:List Addr}{H H1 H2:Hp}{h h1 h2 h':Heap}{a x e:Addr}{o:HO}
theorem Un.any(u:Un fs ex H H1 h h1)(q:h.get? b=some ob)(n:H b=none)(hx:b∉ex):∃ sl,h1.get? b=some { ob with slots:=sl }:=by
 by_cases hb:b∈fs
 ·exact u.slot b ob q n hb hx
 ·exact⟨ob.slots,u.keep b ob q n hb hx⟩
theorem Un.trans(a:Un fs ex H H1 h h1)(b:Un fs ex H1 H2 h1 h2):Un fs ex H H2 h h2 where
 keep:=fun c ob q n hc hx=>b.keep c ob (a.keep c ob q n hc hx) (a.free c ob q n hx) hc hx
 slot:=fun c ob q n hc hx=>by
  obtain⟨sl,e1⟩:=a.slot c ob q n hc hx
  obtain⟨R0,e2⟩:=b.slot c _ e1 (a.free c ob q n hx) hc hx
  exact⟨R0,e2⟩
 free:=fun c ob q n hx=>by
  obtain⟨o',e1⟩:=a.there c ob q hx
  exact b.free c o' e1 (a.free c ob q n hx) hx
 there:=fun c ob q hx=>by
  obtain⟨o',e1⟩:=a.there c ob q hx
  exact b.there c o' e1 hx
 iP:=fun c xs q=>b.iP c xs (a.iP c xs q)
 pz:=fun c ob xs q=>b.pz c ob xs (a.pz c ob xs q)
 qV:=fun c ps q=>by
  obtain⟨m1,e1⟩:=a.qV c ps q
  obtain⟨m2,e2⟩:=b.qV c _ e1
  exact⟨m1++m2,by rw[e2,FH]⟩
theorem Un.kept(k:∀ b u,h.get? b=some u->h'.get? b=some u):Un fs ex H H h h' :=
 ⟨fun b ob q _ _ _=>k b ob q,fun b ob q _ _ _=>⟨ob.slots,k b ob q⟩,fun _ _ _ n _=>n,fun b ob q _=>⟨ob,k b ob q⟩,fun _ _ q=>q,fun _ _ _ q=>q,fun _ ps q=>⟨#[],by rw[q];simp⟩⟩
theorem Un.refl:Un fs ex H H h h:=Un.kept fun _ _ q=>q
theorem Un.laid(k:∀ b u,h.get? b=some u->h'.get? b=some u)(hp:h.objs.size<=a)(hn:H a=none):Un fs ex H (upd H a o) h h' where
 keep:=fun b u q _ _ _=>k b u q
 slot:=fun b u q _ _ _=>⟨u.slots,k b u q⟩
 free:=fun b u q n _=>by rw[g7 (gi (n5 (dP q) hp))];exact n
 there:=fun b u q _=>⟨u,k b u q⟩
 iP:=fun b xs q=>by rw[g7 (FK q hn)];exact q
 pz:=fun b u xs q=>by rw[g7 (FK q hn)];exact q
 qV:=fun b ps q=>⟨#[],by rw[g7 (FK q hn),q];simp⟩
theorem Un.write(mu:Kx (H x))(he:e=x\/H e=some (.own x))(k:∀ b u,b≠e->h.get? b=some u->h'.get? b=some u)(FL:∃ u,h'.get? e=some u):Un fs ex H (upd H x o) h h':=by
 have hx:∀ b,H b=none->b≠x:=fun b n z=>by subst z;rw[n] at mu;exact mu
 have hb:∀ b,H b=none->b≠e:=fun b n z=>by
  subst z
  rcases he with r|r
  ·exact hx b n r
  ·rw[n] at r;cases r
 have hm:∀ b u,H b=some u->¬ Kx (some u)->b≠x:=fun b u q nm z=>by subst z;rw[q] at mu;exact nm mu
 refine⟨fun b u q n _ _=>k b u (hb b n) q,fun b u q n _ _=>⟨u.slots,k b u (hb b n) q⟩,fun b u q n _=>by rw[g7 (hx b n)];exact n,fun b u q _=>?_,
  fun b xs q=>by rw[g7 (hm b _ q fun z=>z)];exact q,fun b u xs q=>by rw[g7 (hm b _ q fun z=>z)];exact q,fun b ps q=>⟨#[],by rw[g7 (hm b _ q fun z=>z),q];simp⟩⟩
 by_cases DL:b=e
 ·subst DL;exact FL
 ·exact⟨u,k b u DL q⟩
end
def Py(h:Heap)(H:Hp):List Addr:=(List.range h.objs.size).filter fun a=>(H a).isSome
def z0(h:Heap)(H:Hp):Heap:=PySem.W.hideAll h (Py h H)
theorem Z_(h:Heap)(H:Hp):(z0 h H).objs.size=h.objs.size:=PySem.W.hideAll_size _ _
theorem aa'(e:h.get? b=some o)(n:H b=none):(z0 h H).get? b=some o :=
 PySem.W.hideAll_get _ e fun hm=>by
  have q:(H b).isSome=true:=(kE.mp hm).2
  rw[n] at q;simp at q
theorem ab'(e:(z0 h H).get? b=some o):h.get? b=some o/\H b=none:=by
 have e':h.get? b=some o:=PySem.W.of_hideAll (Py h H) e
 refine⟨e',?_⟩
 cases q:H b with
 |none=>rfl
 |some x =>
  have hm:b∈Py h H:=kE.mpr ⟨px.mpr (dP e'),by simp[q]⟩
  have z:(z0 h H).get? b=none:=PySem.W.hideAll_none (Py h H) hm
  rw[z] at e;cases e
def ac'(g h:Heap)(L:Addr):List (Addr × Obj):=(List.range h.objs.size).filterMap fun a=>if a=L\/(g.get? a).isSome=true then none else (h.get? a).map fun o=>(a,o)
def rest(g h:Heap)(L d:Addr):List (Addr × Obj):=(ac' g h L).filter fun p=>decide (p.1≠d)
structure Mod(K:PySem.W.Frag)(mg:Str->Option Value)(base:Heap):Prop where
 KG:K.In base
 glob:base.Ns mainGlobals mg
 blt:∃ mb,base.Ns builtinsNs mb/\∀ x:Str,x ≠ "__name__"->mb x=bootBuiltins x
 nolimit:base.NoLimit
structure Cx where
 prog:Program
 w:World
 K:PySem.W.Frag
 mg:Str->Option Value
 base:Heap
 A:Around
 N:List Str
 eC:Shared
 vS:Hp
 env:Env
 outer:List Env
 stack:List Env
 ex:List Addr
 fn:Str->Bool
 calm:Bool
 pn:List (Addr × Obj)
 xe:Value->Shared->Prop
def fF(l:List Env):List Addr:=l.filterMap (·.frame)
abbrev Cx.fs(X:Cx):List Addr:=fF X.outer
def Pz(sc:Scope)(x:Str):Prop:=sc.names.lookup x=some .local\/sc.names.lookup x=some .cell\/sc.names.lookup x=some .free
def Loc(sc:Scope)(x:Str):Prop:=sc.names.lookup x=some .local\/sc.names.lookup x=some .cell
def Look(env:Env)(h:Heap)(m:Str->Option Value)(x:Str)(u:Value):Prop :=
 (env.kindOf x=some .local/\m x=some u)\/((env.kindOf x=some .cell\/env.kindOf x=some .free)/\∃ c,env.cells.lookup x=some c/\h.IsCell c (some u))
structure Cx.Ok(X:Cx):Prop where
 mod:Mod X.K X.mg X.base
 kind:X.env.scope.kind=.function
 glob:X.env.globals=mainGlobals
 blt:X.env.builtins=builtinsNs
 above:X.eC.heap.objs.size<=X.env.locals
 inj:∀ x y c,X.env.cells.lookup x=some c->X.env.cells.lookup y=some c->x=y
 has:∀ x,(X.env.kindOf x=some .cell\/X.env.kindOf x=some .free)->∃ c,X.env.cells.lookup x=some c
 xD:∀ x c,X.fn x=true->X.env.cells.lookup x=some c->X.eC.heap.objs.size<=c
 hd:X.calm=true->X.A.handled=none
 frames:X.A.frames=some X.stack
 z5:X.stack=X.outer\/(X.stack=X.env :: X.outer/\X.env.frame=some X.env.locals)
 An:∀ b∈X.ex,b≠X.env.locals/\∀ x c,X.env.cells.lookup x=some c->c≠b
 bs:∀ b o,X.base.get? b=some o->X.eC.heap.get? b=some o/\X.vS b=none
 sQ:X.base.objs.size<=X.eC.heap.objs.size
 xE:∀ b o,X.base.get? b=some o->b∉X.ex
 xI:∀ b∈X.ex,b∉X.fs
 pE:X.eC.heap.FunFrames X.base X.outer
 vT:∀ b∈X.fs,X.vS b=none
structure Inv(X:Cx)(pins:List (Addr × Obj))(σ:List (Option V))(H:Hp)(s:Shared):Prop where
 ok:X.Ok
 os:s.os=X.eC.os
 bare:AllBare s.gens
 base:Un X.fs X.ex X.vS H X.eC.heap s.heap
 loc:∃ m,s.heap.Ns X.env.locals m/\∀ (i:Nat) (x:Str) (v:V),X.N[i]? = some x->σ[i]? = some (some v)->Pz X.env.scope x->∃ u,RelV v u/\Look X.env s.heap m x u
 cell:∀ x c,X.env.cells.lookup x=some c->∃ v,s.heap.IsCell c v
 free:H X.env.locals=none
 pS:∀ x c,X.env.cells.lookup x=some c->H c=none
 pin:∀ p∈X.pn++pins,s.heap.get? p.1=some p.2/\H p.1=none/\p.1≠X.env.locals/\p.1∉X.fs/\∀ v,p.2.data≠.cell v
 bp:fT X.prog X.w H s.heap
 len:σ.length=X.N.length
section
variable {X:Cx}{pins:List (Addr × Obj)}{σ:List (Option V)}{H H':Hp}{s:Shared}{h':Heap}
theorem Cx.Ok.ad'(ok:X.Ok)(e:X.base.get? b=some o):b∉X.fs:=fun hb=>by
 have:=(ok.pE.mem hb).1
 rw[e] at this;cases this
theorem Inv.bs(I:Inv X pins σ H s):∀ b o,X.base.get? b=some o->s.heap.get? b=some o/\H b=none:=fun b o e =>
 ⟨I.base.keep b o (I.ok.bs b o e).1 (I.ok.bs b o e).2 (I.ok.ad' e) (I.ok.xE b o e),I.base.free b o (I.ok.bs b o e).1 (I.ok.bs b o e).2 (I.ok.xE b o e)⟩
theorem Inv.bk(I:Inv X pins σ H s):∀ b o,X.base.get? b=some o->s.heap.get? b=some o:=fun b o e=>(I.bs b o e).1
theorem Inv.mod(I:Inv X pins σ H s):Mod X.K X.mg X.base:=I.ok.mod
theorem Inv.h9(I:Inv X pins σ H s):X.K.In s.heap:=I.ok.mod.KG.keeps I.bk
theorem Inv.lt(I:Inv X pins σ H s):X.env.locals<s.heap.objs.size:=let ⟨_,hn,_⟩:=I.loc;hn.lt
theorem Inv.sz(I:Inv X pins σ H s):X.eC.heap.objs.size<=s.heap.objs.size:=fS I.ok.above (kR I.lt)
theorem Inv.ae'(I:Inv X pins σ H s)(h:s.heap.objs.size<=a):a∉X.fs:=fun hb=>by
 obtain⟨_,o,ho,_⟩:=I.ok.pE.mem hb
 exact absurd (n5 (dP ho) (fS I.sz h)) (sd _)
theorem Inv.DM(I:Inv X pins σ H s):∀ x c,X.env.cells.lookup x=some c->c≠X.env.locals:=fun x c e z=>by
 obtain⟨v,o,ho,hd⟩:=I.cell x c e
 obtain⟨m,⟨o',es,ep,lT,hd',_⟩,_⟩:=I.loc
 rw[z,lT] at ho;cases ho;rw[hd'] at hd;cases hd
theorem Inv.pE(I:Inv X pins σ H s):s.heap.FunFrames X.base X.outer:=by
 have all:∀ (l:List Env),(∀ b∈fF l,b∈X.fs)->X.eC.heap.FunFrames X.base l->s.heap.FunFrames X.base l:=by
  intro l
  induction l with
  |nil=>intro _ _;trivial
  |cons env r ih =>
   intro hs hl
   obtain⟨hk,⟨L,o,hf,hn,ho,hd⟩,hr⟩:=hl
   have hL:L∈X.fs:=hs L (by unfold fF;rw[zt,hf];exact dz)
   obtain⟨sl,e⟩:=I.base.slot L o ho (I.ok.vT L hL) hL fun z=>I.ok.xI L z hL
   exact⟨hk,⟨L,_,hf,hn,e,hd⟩,ih (fun b hb=>hs b (by unfold fF;rw[zt,hf];exact dn _ hb)) hr⟩
 exact all X.outer (fun _ hb=>hb) I.ok.pE
theorem Inv.stack(I:Inv X pins σ H s):s.heap.FunFrames X.base X.stack:=by
 rcases I.ok.z5 with e|⟨e,hf⟩
 ·rw[e];exact I.pE
 ·rw[e]
  obtain⟨m,hn,_⟩:=I.loc
  refine .cons (by rw[I.ok.kind];decide) hf hn ?_ I.pE
  exact Heap.get?_none_of_le (fS I.ok.sQ I.ok.above)
theorem Inv.R1(I:Inv X pins σ H s):∀ b∈fF X.stack,b∈X.env.locals :: X.fs:=fun b hb=>by
 rcases I.ok.z5 with e|⟨e,hf⟩
 ·rw[e] at hb;exact dn _ hb
 ·rw[e] at hb
  unfold fF at hb
  rw[zt,hf] at hb
  exact hb
theorem Inv.R3(I:Inv X pins σ H s):∀ b∈fF X.stack,H b=none:=fun b hb=>by
 rcases dv.mp (I.R1 b hb) with e|hb
 ·rw[e];exact I.free
 ·obtain⟨_,o,ho,_⟩:=I.ok.pE.mem hb
  exact I.base.free b o ho (I.ok.vT b hb) fun z=>I.ok.xI b z hb
theorem Inv.step{g':Array GenState}{t':Nat}{d':Drawn}{ch:List Addr}(I:Inv X pins σ H s)
  (xS:∀ b∈ch,(b∈X.ex\/X.eC.heap.objs.size<=b)/\b≠X.env.locals/\(∀ x c,X.env.cells.lookup x=some c->c≠b)/\∀ p∈X.pn++pins,p.1≠b)
  (keep:∀ b o,b≠X.env.locals->b∉X.fs->b∉ch->s.heap.get? b=some o->H b=none->h'.get? b=some o)
  (slot:∀ b o,b≠X.env.locals->b∈X.fs->b∉ch->s.heap.get? b=some o->H b=none->∃ sl,h'.get? b=some { o with slots:=sl }) (free:∀ b o,b∉ch->s.heap.get? b=some o->H b=none->H' b=none)
  (there:∀ b o,b∉ch->s.heap.get? b=some o->∃ o',h'.get? b=some o')
  (iP:∀ b xs,H b=some (.tup xs)->H' b=some (.tup xs)) (pz:∀ b o u,H b=some (.lS o u)->H' b=some (.lS o u)) (qV:∀ b ps,H b=some (.Bz ps)->∃ more,H' b=some (.Bz (ps++more)))
  (ns:∀ m,s.heap.Ns X.env.locals m->h'.Ns X.env.locals m) (bp:fT X.prog X.w H' h') (hg:AllBare g') :
  Inv X pins σ H' { s with heap:=h',gens:=g',drawn:=d',toks:=t' }:=by
 have KL:∀ b o,X.eC.heap.get? b=some o->b≠X.env.locals:=fun b o e=>gi (n5 (dP e) I.ok.above)
 have PB:∀ b o,X.eC.heap.get? b=some o->b∉X.ex->b∉ch:=fun b o e hx hb=>by
  rcases (xS b hb).1 with z|z
  ·exact hx z
  ·exact absurd (n5 (dP e) z) (sd _)
 have cellK:∀ x c,X.env.cells.lookup x=some c->∀ v,s.heap.IsCell c v->h'.IsCell c v:=fun x c e v df=>by
  obtain⟨o,ho,hd⟩:=df
  have KP:c∉ch:=fun z=>(xS c z).2.2.1 x c e rfl
  by_cases hc:c∈X.fs
  ·obtain⟨sl,q⟩:=slot c o (I.DM x c e) hc KP ho (I.pS x c e)
   exact⟨_,q,hd⟩
  ·exact⟨o,keep c o (I.DM x c e) hc KP ho (I.pS x c e),hd⟩
 refine⟨I.ok,I.os,hg,⟨fun b o e n hb hx=>?_,fun b o e n hb hx=>?_,fun b o e n hx=>?_,fun b o e hx=>?_,fun b xs e=>iP b xs (I.base.iP b xs e),fun b o xs e=>pz b o xs (I.base.pz b o xs e),fun b ps e=>?_⟩,?_,fun x c e=>?_,?_,fun x c e=>?_,fun p hp=>?_,bp,I.len⟩
 ·exact keep b o (KL b o e) hb (PB b o e hx) (I.base.keep b o e n hb hx) (I.base.free b o e n hx)
 ·obtain⟨sl,e1⟩:=I.base.slot b o e n hb hx
  obtain⟨R0,e2⟩:=slot b _ (KL b o e) hb (PB b o e hx) e1 (I.base.free b o e n hx)
  exact⟨R0,e2⟩
 ·obtain⟨o',e1⟩:=I.base.there b o e hx
  exact free b o' (PB b o e hx) e1 (I.base.free b o e n hx)
 ·obtain⟨o',e1⟩:=I.base.there b o e hx
  exact there b o' (PB b o e hx) e1
 ·obtain⟨m1,e1⟩:=I.base.qV b ps e
  obtain⟨m2,e2⟩:=qV b _ e1
  exact⟨m1++m2,by rw[e2,FH]⟩
 ·obtain⟨m,hn,hl⟩:=I.loc
  refine⟨m,ns m hn,fun i x v e1 e2 e3=>?_⟩
  obtain⟨u,r,l⟩:=hl i x v e1 e2 e3
  refine⟨u,r,?_⟩
  rcases l with l|⟨k,c,e,z⟩
  ·exact .inl l
  ·exact .inr ⟨k,c,e,cellK x c e _ z⟩
 ·obtain⟨v,z⟩:=I.cell x c e
  exact⟨v,cellK x c e v z⟩
 ·obtain⟨m,⟨o,_,_,ho,_⟩,_⟩:=I.loc
  exact free _ o (fun z=>(xS _ z).2.1 rfl) ho I.free
 ·obtain⟨v,o,ho,hd⟩:=I.cell x c e
  exact free c o (fun z=>(xS c z).2.2.1 x c e rfl) ho (I.pS x c e)
 ·obtain⟨e,n,ne,nf,d⟩:=I.pin p hp
  have KP:p.1∉ch:=fun z=>(xS p.1 z).2.2.2 p hp rfl
  exact⟨keep p.1 p.2 ne nf KP e n,free p.1 p.2 KP e n,ne,nf,d⟩
theorem Inv.un{t':Nat}(I:Inv X pins σ H s)(u:Un X.fs [] H H' s.heap h')(bp:fT X.prog X.w H' h'):Inv X pins σ H' { s with heap:=h',toks:=t' }:=by
 obtain⟨m,⟨o,es,ep,ho,r⟩,_⟩:=id I.loc
 obtain⟨sl,hL⟩:=u.any ho I.free (by simp)
 exact I.step (g':=s.gens) (d':=s.drawn) (ch:=[]) (fun _ z=>nomatch z) (fun b o _ hb _ e n=>u.keep b o e n hb (by simp)) (fun b o _ hb _ e n=>u.slot b o e n hb (by simp)) (fun b o _ e n=>u.free b o e n (by simp)) (fun b o _ e=>u.there b o e (by simp)) u.iP u.pz u.qV (fun m' hm=>by
  obtain⟨o',R4,KS,lT,r'⟩:=hm
  rw[ho] at lT;cases lT
  exact⟨_,R4,KS,hL,r'⟩) bp I.bare
theorem Inv.call{g':Array GenState}{t':Nat}{d':Drawn}{ch:List Addr}(I:Inv X pins σ H s)(u:Un (fF X.stack) ch H H' s.heap h')(bp:fT X.prog X.w H' h')(hg:AllBare g')
  (xS:∀ b∈ch,(b∈X.ex\/X.eC.heap.objs.size<=b)/\b≠X.env.locals/\(∀ x c,X.env.cells.lookup x=some c->c≠b)/\∀ p∈X.pn++pins,p.1≠b) :
  Inv X pins σ H' { s with heap:=h',gens:=g',drawn:=d',toks:=t' }:=by
 obtain⟨m,⟨o,es,ep,ho,r⟩,_⟩:=id I.loc
 obtain⟨sl,hL⟩:=u.any ho I.free fun z=>(xS _ z).2.1 rfl
 exact I.step (ch:=ch) xS (fun b o hL hb hc e n=>u.keep b o e n (fun z=>(dv.mp (I.R1 b z)).elim hL hb) hc) (fun b o _ _ hc e n=>u.any e n hc) (fun b o hc e n=>u.free b o e n hc) (fun b o hc e=>u.there b o e hc) u.iP u.pz u.qV (fun m' hm=>by
  obtain⟨o',R4,KS,lT,r'⟩:=hm
  rw[ho] at lT;cases lT
  exact⟨_,R4,KS,hL,r'⟩) bp hg
theorem Inv.turned{t':Nat}{it:Addr}(I:Inv X pins σ H s)(k:∀ b o,b≠it->s.heap.get? b=some o->h'.get? b=some o)(hn:H it=none)(hL:it≠X.env.locals)
  (h1:it∈X.ex\/X.eC.heap.objs.size<=it) (h2:∀ x c,X.env.cells.lookup x=some c->c≠it) (h3:∀ p∈X.pn++pins,p.1≠it):Inv X pins σ H { s with heap:=h',toks:=t' }:=by
 have Wc:∀ b u,H b=some u->b≠it:=fun b u e z=>by rw[z,hn] at e;cases e
 refine I.step (g':=s.gens) (d':=s.drawn) (ch:=[it]) (fun b hb=>?_) (fun b o _ _ hc e _=>k b o (fun z=>hc (by simp[z])) e) (fun b o _ _ hc e _=>⟨o.slots,k b o (fun z=>hc (by simp[z])) e⟩) (fun _ _ _ _ n=>n)
  (fun b o hc e=>⟨o,k b o (fun z=>hc (by simp[z])) e⟩) (fun _ _ e=>e) (fun _ _ _ e=>e) (fun b ps e=>⟨#[],by rw[e];simp⟩) (fun m hm=>?_) (fun b u e=>?_) I.bare
 ·have e:b=it:=by simpa using hb
  subst e
  exact⟨h1,hL,h2,h3⟩
 ·obtain⟨o,es,ep,ho,r⟩:=hm
  exact⟨o,es,ep,k _ o (Ne.symm hL) ho,r⟩
 ·refine(I.bp b u e).fi (fun c v hc q=>k c v ?_ q) (fun _ q=>q) fun _ _ q=>q
  rcases hc with z|z
  ·rw[z];exact Wc b u e
  ·exact Wc c _ z
theorem Inv.tok(I:Inv X pins σ H s)(t:Nat):Inv X pins σ H { s with toks:=t }:=I.un (h':=s.heap) (t':=t) Un.refl I.bp
theorem Inv.kept(I:Inv X pins σ H s)(k:∀ b u,s.heap.get? b=some u->h'.get? b=some u):Inv X pins σ H { s with heap:=h',toks:=t' }:=I.un (Un.kept k) (I.bp.kept k)
theorem Inv.laid(I:Inv X pins σ H s)(k:∀ b u,s.heap.get? b=some u->h'.get? b=some u)(hp:s.heap.objs.size<=a)(new:fA X.prog X.w (upd H a o) h' a o) :
  Inv X pins σ (upd H a o) { s with heap:=h',toks:=t' }:=I.un (Un.laid k hp (I.bp.fresh hp)) (I.bp.laid k hp new)
theorem Inv.write(I:Inv X pins σ H s)(mu:Kx (H x))(he:e=x\/H e=some (.own x))(k:∀ b u,b≠e->s.heap.get? b=some u->h'.get? b=some u)(FL:∃ u,h'.get? e=some u)
  (new:fA X.prog X.w (upd H x o) h' x o):Inv X pins σ (upd H x o) { s with heap:=h',toks:=t' }:=I.un (Un.write mu he k FL) (I.bp.write mu he k FL new)
theorem Inv.Wd(I:Inv X pins σ H s)(h:∀ p∈nc,s.heap.get? p.1=some p.2/\H p.1=none/\p.1≠X.env.locals/\p.1∉X.fs/\∀ v,p.2.data≠.cell v):Inv X nc σ H s :=
 ⟨I.ok,I.os,I.bare,I.base,I.loc,I.cell,I.free,I.pS,fun p hp=>(dA.mp hp).elim (fun z=>I.pin p (ki _ z)) (h p),I.bp,I.len⟩
theorem Wg{N:List Str}(hN:N.Nodup){i j:Nat}{x:Str}(a:N[i]? = some x)(b:N[j]? = some x):i=j:=by
 obtain⟨h1,e1⟩:=mI.mp a
 obtain⟨h2,e2⟩:=mI.mp b
 exact(List.getElem_inj hN).mp (e1.trans e2.symm)
theorem Wh{M:Model}{A:Around}{E:Value->Shared->Prop}{i:Nat}{x:Str}{v:V}{u:Value}{Q:Unit->Shared->Prop}(I:Inv X pins σ H s)(hN:X.N.Nodup)(hi:X.N[i]? = some x)(hx:Loc X.env.scope x)(r:RelV v u)
  (h:∀ s',Inv X pins (σ.set i (some v)) H s'->(∃ a,Heap.SameBut a s.heap s'.heap/\(a=X.env.locals\/X.env.cells.lookup x=some a))->Q () s') (hf:X.fn x=true\/X.env.scope.names.lookup x=some .local:=by first|exact .inl rfl|exact .inr rfl|assumption):wpAny M A (storeName X.env x u) Q E s:=by
 obtain⟨m,hn,hl⟩:=id I.loc
 have R5:(X.env.scope.kind == .class || (X.env.scope.kind == .module && X.env.locals != X.env.globals))=false:=by rw[I.ok.kind];rfl
 have Wi:i<σ.length:=by rw[I.len];exact(mI.mp hi).1
 have DM:=I.DM
 have tracked:∀ {a:Addr} {h':Heap},(∃ o,s.heap.get? a=some o/\H a=none)->Heap.SameBut a s.heap h'->fT X.prog X.w H h':=fun {a h'} ha hs b ob e=>by
  obtain⟨_,_,Wj⟩:=ha
  refine(I.bp b ob e).fi (fun c w' hc q=>(hs.2 c ?_).trans q) (fun _ q=>q) fun _ _ q=>q
  rintro rfl
  rcases hc with rfl|hc
  ·rw[Wj] at e;cases e
  ·rw[Wj] at hc;cases hc
 rcases hx with hk|hk
 ·refine wpAny_storeName_local hk hn (fun h' DS hs=>?_) R5
  obtain⟨oL,_,_,KW,_⟩:=id hn
  refine h _ ⟨I.ok,I.os,I.bare,⟨fun b o e n hb hx=>?_,fun b o e n hb hx=>?_,I.base.free,fun b o e hx=>?_,I.base.iP,I.base.pz,I.base.qV⟩,⟨_,DS,fun j y v' e1 e2 e3=>?_⟩,fun y c e=>?_,I.free,I.pS,fun p hp=>?_,tracked ⟨oL,KW,I.free⟩ hs,by simpa using I.len⟩ ⟨_,hs,.inl rfl⟩
  ·exact(hs.2 b (gi (n5 (dP e) I.ok.above))).trans (I.base.keep b o e n hb hx)
  ·obtain⟨sl,e1⟩:=I.base.slot b o e n hb hx
   exact⟨sl,(hs.2 b (gi (n5 (dP e) I.ok.above))).trans e1⟩
  ·obtain⟨o',e1⟩:=I.base.there b o e hx
   exact⟨o',(hs.2 b (gi (n5 (dP e) I.ok.above))).trans e1⟩
  ·by_cases hj:j=i
   ·subst hj
    rw[hi] at e1;cases e1
    rw[List.getElem?_set_self Wi] at e2
    cases e2
    exact⟨u,r,.inl ⟨hk,by simp⟩⟩
   ·rw[List.getElem?_set_ne (Ne.symm hj)] at e2
    obtain⟨u',r',q⟩:=hl j y v' e1 e2 e3
    refine⟨u',r',?_⟩
    rcases q with⟨k,e⟩|⟨k,c,e,z⟩
    ·refine .inl ⟨k,?_⟩
     have:y≠x:=fun e=>hj (Wg hN e1 (e ▸ hi))
     simp[this,e]
    ·exact .inr ⟨k,c,e,z.sameBut hs (DM y c e)⟩
  ·obtain⟨w',z⟩:=I.cell y c e
   exact⟨w',z.sameBut hs (DM y c e)⟩
  ·obtain⟨e,n,ne,nf,d⟩:=I.pin p hp
   exact⟨(hs.2 p.1 ne).trans e,n,ne,nf,d⟩
 ·have K0:X.fn x=true:=by
   rcases hf with z|z
   ·exact z
   ·rw[z] at hk;cases hk
  obtain⟨c,hc⟩:=I.ok.has x (.inl hk)
  obtain⟨w',z⟩:=I.cell x c hc
  refine wpAny_storeName_cell I.ok.kind hk hc z (fun h' Ap hs=>?_)
  obtain⟨oc,PC,ag'⟩:=id z
  refine h { s with heap:=h' } ⟨I.ok,I.os,I.bare,⟨fun b o e n hb hx=>?_,fun b o e n hb hx=>?_,I.base.free,fun b o e hx=>?_,I.base.iP,I.base.pz,I.base.qV⟩,⟨m,hn.sameBut hs (Ne.symm (DM x c hc)),fun j y v' e1 e2 e3=>?_⟩,fun y c' e=>?_,I.free,I.pS,fun p hp=>?_,tracked ⟨oc,PC,I.pS x c hc⟩ hs,by simpa using I.len⟩ ⟨c,hs,.inr hc⟩
  ·exact(hs.2 b (gi (n5 (dP e) (I.ok.xD x c K0 hc)))).trans (I.base.keep b o e n hb hx)
  ·obtain⟨sl,e1⟩:=I.base.slot b o e n hb hx
   exact⟨sl,(hs.2 b (gi (n5 (dP e) (I.ok.xD x c K0 hc)))).trans e1⟩
  ·obtain⟨o',e1⟩:=I.base.there b o e hx
   exact⟨o',(hs.2 b (gi (n5 (dP e) (I.ok.xD x c K0 hc)))).trans e1⟩
  ·by_cases hj:j=i
   ·subst hj
    rw[hi] at e1;cases e1
    rw[List.getElem?_set_self Wi] at e2
    cases e2
    exact⟨u,r,.inr ⟨.inl hk,c,hc,Ap⟩⟩
   ·rw[List.getElem?_set_ne (Ne.symm hj)] at e2
    obtain⟨u',r',q⟩:=hl j y v' e1 e2 e3
    refine⟨u',r',?_⟩
    rcases q with q|⟨k,c',e,z'⟩
    ·exact .inl q
    ·refine .inr ⟨k,c',e,z'.sameBut hs ?_⟩
     rintro rfl
     exact hj (Wg hN e1 (I.ok.inj _ _ _ e hc ▸ hi))
  ·by_cases PD:c'=c
   ·subst PD;exact⟨_,Ap⟩
   ·obtain⟨w2,z2⟩:=I.cell y c' e
    exact⟨w2,z2.sameBut hs PD⟩
  ·obtain⟨e,n,ne,nf,d⟩:=I.pin p hp
   refine⟨(hs.2 p.1 ?_).trans e,n,ne,nf,d⟩
   intro q
   rw[q,PC] at e
   have q':oc=p.2:=Option.some.inj e
   exact d w' (by rw[<- q'];exact ag')
theorem Wk(I:Inv X pins σ H s)(hN:X.N.Nodup)(hi:X.N[i]? = some x)(hx:Loc X.env.scope x)(r:RelV v u)
  (h:∀ s',Inv X pins (σ.set i (some v)) H s'->Q () s') (hf:X.fn x=true\/X.env.scope.names.lookup x=some .local:=by first|exact .inl rfl|exact .inr rfl|assumption):wpAny M A (storeName X.env x u) Q E s :=
 Wh I hN hi hx r (fun s' I' _=>h s' I') hf
theorem Inv.ah'(I:Inv X pins σ H s)(ho:s'.os=s.os)(u:Un (fF X.stack) ch H H' s.heap s'.heap)(bp:fT X.prog X.w H' s'.heap)(hg:AllBare s'.gens)
  (xS:∀ b∈ch,(b∈X.ex\/X.eC.heap.objs.size<=b)/\b≠X.env.locals/\(∀ x c,X.env.cells.lookup x=some c->c≠b)/\∀ p∈X.pn++pins,p.1≠b):Inv X pins σ H' s':=by
 obtain⟨h',g',d',t',o'⟩:=s'
 have e:o'=s.os:=ho
 subst e
 exact I.call (g':=g') (t':=t') (d':=d') u bp hg xS
end
abbrev XK:=Value->Option Addr->Hp->Prop
abbrev St:=List (Option V)
abbrev VK:=V->Hp->Prop
abbrev TE:=St->Hp->VK->Prop
abbrev TT:=St->Hp->(Bool->Hp->Prop)->Prop
abbrev TA:=St->Hp->(List V->Hp->Prop)->Prop
structure Ends where
 nx:St->Hp->Prop
 rt:VK
 bk:St->Hp->Prop:=fun _ _=>False
 ct:St->Hp->Prop:=fun _ _=>False
abbrev TS:=Ends->St->Hp->Prop
def EP(X:Cx)(pins:List (Addr × Obj))(σ:St)(Q:VK)(u:Value)(s':Shared):Prop:=∃ v H',Inv X pins σ H' s'/\RelV v u/\Q v H'
def TP(X:Cx)(pins:List (Addr × Obj))(σ:St)(Q:Bool->Hp->Prop)(b:Bool)(s':Shared):Prop:=∃ H',Inv X pins σ H' s'/\Q b H'
def AP(X:Cx)(pins:List (Addr × Obj))(σ:St)(Q:List V->Hp->Prop)(us:List Value)(s':Shared):Prop:=∃ vs H',Inv X pins σ H' s'/\Vals vs us/\Q vs H'
def SP(X:Cx)(pins:List (Addr × Obj))(D:Ends)(f:Flow)(s':Shared):Prop :=
 match f with
 |.next=>∃ bE H',Inv X pins bE H' s'/\D.nx bE H'
 |.brk=>∃ bE H',Inv X pins bE H' s'/\D.bk bE H'
 |.cont=>∃ bE H',Inv X pins bE H' s'/\D.ct bE H'
 |.ret u=>∃ v bE H',Inv X pins bE H' s'/\RelV v u/\D.rt v H'
def PE(X:Cx)(e:Expr)(t:TE):Prop :=
 ∀ (pins:List (Addr × Obj)) (s:Shared) (σ:St) (H:Hp) (Q:VK),Inv X pins σ H s->t σ H Q->wpAny (model X.prog X.w) X.A (eval e X.env) (EP X pins σ Q) X.xe s
def PT(X:Cx)(e:Expr)(t:TT):Prop :=
 ∀ (pins:List (Addr × Obj)) (s:Shared) (σ:St) (H:Hp) (Q:Bool->Hp->Prop),Inv X pins σ H s->t σ H Q->wpAny (model X.prog X.w) X.A (isTrue e X.env (eval e X.env)) (TP X pins σ Q) X.xe s
def PW(X:Cx)(e:Expr)(t:TT):Prop :=
 ∀ (whole:Sem Value) (pins:List (Addr × Obj)) (s:Shared) (σ:St) (H:Hp) (Q:Bool->Hp->Prop),Inv X pins σ H s->t σ H Q->wpAny (model X.prog X.w) X.A (isTrue e X.env whole) (TP X pins σ Q) X.xe s
def PA(X:Cx)(es:List Expr)(t:TA):Prop :=
 ∀ (pos:Pos) (pins:List (Addr × Obj)) (s:Shared) (σ:St) (H:Hp) (Q:List V->Hp->Prop),Inv X pins σ H s->t σ H Q->wpAny (model X.prog X.w) X.A (spliced (backTo pos (starEach es X.env))) (AP X pins σ Q) X.xe s
def PS(X:Cx)(st:Stmt)(t:TS):Prop :=
 ∀ (pins:List (Addr × Obj)) (s:Shared) (σ:St) (H:Hp) (D:Ends),Inv X pins σ H s->t D σ H->wpAny (model X.prog X.w) X.A (exec st X.env) (SP X pins D) X.xe s
def oa(X:Cx)(st:List Stmt)(t:TS):Prop :=
 ∀ (pins:List (Addr × Obj)) (s:Shared) (σ:St) (H:Hp) (D:Ends),Inv X pins σ H s->t D σ H->wpAny (model X.prog X.w) X.A (execs st X.env) (SP X pins D) X.xe s
theorem cK{α:Type}{t:Sem α}{Q Q':α->Shared->Prop}{M:Model}{A:Around}{E:Value->Shared->Prop}{s:Shared}(h:wpAny M A t Q E s)(hQ:∀ a s,Q a s->Q' a s):wpAny M A t Q' E s:=pe h hQ fun _ _ x=>x
section
variable {X:Cx}
def FP(i:Nat):TE:=fun σ H Q=>∃ v,σ[i]? = some (some v)/\Q v H
def tC(v:V):TE:=fun _ H Q=>Q v H
theorem Wl (hN:X.N[i]? = some x) (hv:Pz X.env.scope x) (hd:(x == ("__debug__" : Str))=false:=by decide) (oy:(x == ("__classdict__" : Str))=false:=by decide):PE X (.Name x pos) (FP i):=by
 intro pins s σ H Q I h
 obtain⟨v,e,h⟩:=h
 obtain⟨m,hn,hl⟩:=I.loc
 obtain⟨u,r,l⟩:=hl i x v hN e hv
 have fin:EP X pins σ Q u s:=⟨v,H,I,r,h⟩
 rcases l with⟨hk,hm⟩|⟨hk,c,hc,Wm⟩
 ·exact wpAny_Name (wpAny_loadName_local I.ok.kind hk hn hm fin) hd
 ·rcases hk with hk|hk
  ·exact wpAny_Name (wpAny_loadName_cell I.ok.kind hk hc Wm fin) hd
  ·exact wpAny_Name (wpAny_loadName_free I.ok.kind hk hc Wm fin oy) hd
theorem ai'{i j pos}:PE X (.Constant (.int i) j pos) (tC (.int i)):=fun _ _ _ H _ I h=>wpAny_Constant_int ⟨.int i,H,I.tok _,⟨_,rfl⟩,h⟩
theorem aj'{b j pos}:PE X (.Constant (.bool b) j pos) (tC (.bl b)):=fun _ _ _ H _ I h=>Constant_bool ⟨.bl b,H,I,rfl,h⟩
theorem ak'{j pos}:PE X (.Constant .none j pos) (tC .non):=fun _ _ _ H _ I h=>Constant_none ⟨.non,H,I,rfl,h⟩
theorem al'{x j pos}:PE X (.Constant (.str x) j pos) (tC (.str x)):=fun _ _ _ H _ I h=>Calls.Constant_str ⟨.str x,H,I.tok _,⟨_,rfl⟩,h⟩
def Gl(X:Cx)(x:Str):Prop:=X.env.kindOf x=some .globalImplicit
theorem K2(I:Inv X pins σ H s)(hg:Gl X x)(hm:X.mg x=some u)(h:Q u s)
  (hd:(x == ("__debug__" : Str))=false:=by decide):wpAny (model X.prog X.w) X.A (eval (.Name x pos) X.env) Q E s :=
 Calls.Name_function_global I.ok.kind hg (Calls.loadGlobal_global (by rw[I.ok.glob];exact I.mod.glob.keeps I.bk) hm h) hd
theorem wa(I:Inv X pins σ H s)(hg:Gl X x)(hm:X.mg x=none)(hv:bootBuiltins x=some u)(h:Q u s)
  (hn:x ≠ "__name__" := by decide) (hd:(x == ("__debug__" : Str))=false:=by decide):wpAny (model X.prog X.w) X.A (eval (.Name x pos) X.env) Q E s:=by
 obtain⟨mb,h1,h2⟩:=I.mod.blt
 exact Calls.Name_function_global I.ok.kind hg (Calls.loadGlobal_builtin (by rw[I.ok.glob];exact I.mod.glob.keeps I.bk) hm (by rw[I.ok.blt];exact h1.keeps I.bk) ((h2 x hn).trans hv) h) hd
theorem Wn (hg:Gl X x) (hm:X.mg x=some u) (r:RelV v u) (hd:(x == ("__debug__" : Str))=false:=by decide):PE X (.Name x pos) (tC v) :=
 fun _ _ _ H _ I h=>K2 I hg hm ⟨v,H,I,r,h⟩ hd
theorem am' (hg:Gl X x) (hm:X.mg x=none) (hv:bootBuiltins x=some u) (r:RelV v u) (hn:x ≠ "__name__" := by decide) (hd:(x == ("__debug__" : Str))=false:=by decide):PE X (.Name x pos) (tC v) :=
 fun _ _ _ H _ I h=>wa I hg hm hv ⟨v,H,I,r,h⟩ hn hd
variable {a b:Expr}{ta tb:TE}{pos:Pos}
def tB(t:TE):TT:=fun σ H Q=>t σ H fun x H1=>∃ c,x=.bl c/\Q c H1
theorem an'(h:PE X e t)(he:∀ whole,isTrue e X.env whole=(do let v <- whole;standAt e.pos;holding [v] (truthy v)):=by intro _;rfl):PT X e (tB t):=by
 intro pins s σ H Q I hw
 refine isTrue_plain (cK (h pins s σ H _ I hw) fun v s1 cy=>L2.fz cy fun x H1 I1 r1 q1=>?_) (he _)
 obtain⟨d,rfl,q⟩:=q1
 cases r1
 exact wpAny_truthy_bool ⟨H1,I1,q⟩
variable {tA Wo:TT}{rest:List Expr}
def tOr(t u:TT):TT:=fun σ H Q=>t σ H fun c H1=>if c=true then Q true H1 else u σ H1 Q
def ap'(t:TT):TT:=fun σ H Q=>t σ H fun c H1=>Q (!c) H1
theorem pw_or1(ha:PT X a tA):PW X (.BoolOp .Or [a] pos) tA:=by
 intro wh pins s σ H Q I h
 refine isTrue_or (cK (ha pins s σ H Q I h) fun c s1 e=>?_)
 cases c with
 |false=>exact isTrue_or_nil e
 |true=>exact e
theorem pw_or(ha:PT X a tA)(hb:PW X (.BoolOp .Or (b :: rest) pos) Wo):PW X (.BoolOp .Or (a :: b :: rest) pos) (tOr tA Wo):=by
 intro wh pins s σ H Q I h
 refine isTrue_or (cK (ha pins s σ H _ I h) fun c s1 df=>?_)
 obtain⟨H1,I1,q1⟩:=df
 cases c with
 |true=>exact⟨H1,I1,q1⟩
 |false=>exact hb wh pins s1 σ H1 Q I1 q1
theorem aq'(ha:PT X a tA):PT X (.UnaryOp .Not a pos) (ap' tA):=by
 intro pins s σ H Q I h
 exact isTrue_not (ha pins s σ H (fun c H1=>Q (!c) H1) I h)
def ar'(ta tb:TE):TE:=fun σ H Q=>ta σ H fun x H1=>∃ c,x=.bl c/\if c=true then tb σ H1 Q else Q (.bl false) H1
def au'(ta tb:TE):TE:=fun σ H Q=>ta σ H fun x H1=>∃ c,x=.bl c/\if c=true then Q (.bl true) H1 else tb σ H1 Q
def av'(ta:TE):TE:=fun σ H Q=>ta σ H fun x H1=>∃ c,x=.bl c/\Q (.bl (!c)) H1
theorem aw'{op}(h:PE X a t):PE X (.BoolOp op [a] pos) t:=fun pins s σ H Q I hw=>BoolOp_one (h pins s σ H Q I hw)
theorem ax'(ha:PE X a ta)(hb:PE X (.BoolOp .And (b :: rest) pos) tb):PE X (.BoolOp .And (a :: b :: rest) pos) (ar' ta tb):=by
 intro pins s σ H Q I h
 refine BoolOp_and (cK (ha pins s σ H _ I h) fun v s1 cy=>L2.fz cy fun x H1 I1 r1 q1=>?_)
 obtain⟨c,rfl,q1⟩:=q1
 cases r1
 refine wpAny_truthy_bool ?_
 cases c with
 |true=>exact hb pins s1 σ H1 Q I1 q1
 |false=>exact⟨.bl false,H1,I1,rfl,q1⟩
theorem ay'(ha:PE X a ta)(hb:PE X (.BoolOp .Or (b :: rest) pos) tb):PE X (.BoolOp .Or (a :: b :: rest) pos) (au' ta tb):=by
 intro pins s σ H Q I h
 refine BoolOp_or (cK (ha pins s σ H _ I h) fun v s1 cy=>L2.fz cy fun x H1 I1 r1 q1=>?_)
 obtain⟨c,rfl,q1⟩:=q1
 cases r1
 refine wpAny_truthy_bool ?_
 cases c with
 |false=>exact hb pins s1 σ H1 Q I1 q1
 |true=>exact⟨.bl true,H1,I1,rfl,q1⟩
theorem az'(ha:PE X a ta):PE X (.UnaryOp .Not a pos) (av' ta):=by
 intro pins s σ H Q I h
 refine UnaryOp_ (cK (ha pins s σ H _ I h) fun v s1 cy=>L2.fz cy fun x H1 I1 r1 q1=>?_)
 obtain⟨c,rfl,q1⟩:=q1
 cases r1
 exact not_of (wpAny_truthy_bool ⟨.bl (!c),H1,I1,rfl,q1⟩)
end
def eR(K:PySem.W.Frag)(H:Hp)(a:Addr)(xs:List V):Prop :=
 Rd H a (.lst xs) \/
  ∃ (o:Obj) (its:Array Value) (n:Nat),K.lookup a=some o/\o.cls=.type "list"/\o.dict=none/\o.data=.seq its n/\its.size<=sizeLine/\Vals xs its.toList
def oz(K:PySem.W.Frag)(H:Hp)(a:Addr)(xs:List V):Prop :=
 Rd H a (.tup xs) \/
  ∃ (o:Obj) (its:Array Value) (n:Nat),K.lookup a=some o/\o.cls=.type "tuple"/\o.data=.seq its n/\its.size<=sizeLine/\Vals xs its.toList
def aA':Value->Option V
 |.none=>some .non
 |.bool b=>some (.bl b)
 |.int i _=>some (.int i)
 |.str x _=>some (.str x)
 |.bytes b _=>some (.sN b)
 |.float b _=>some (.zS b)
 |.ref a=>some (.ref a)
 |.type n=>some (.ty n)
 |_=>none
theorem RelV.abs(r:RelV x u):aA' u=some x:=by
 cases x with
 |non=>cases r;rfl
 |bl _=>cases r;rfl
 |int _=>obtain⟨t,rfl⟩:=r;rfl
 |str _=>obtain⟨t,rfl⟩:=r;rfl
 |sN _=>obtain⟨t,rfl⟩:=r;rfl
 |zS _=>obtain⟨t,rfl⟩:=r;rfl
 |ref _=>cases r;rfl
 |ty _=>cases r;rfl
theorem RelV.inj(r:RelV x u)(q:RelV y u):x=y:=Option.some.inj (r.abs.symm.trans q.abs)
theorem Vals.inj:∀ {xs ys:List V} {us:List Value},Vals xs us->Vals ys us->xs=ys
 |_,_,_,.nil,.nil=>rfl
 |_,_,_,.cons r t,.cons r' t'=>by rw[r.inj r',Vals.inj t t']
section
variable {X:Cx}{pins:List (Addr × Obj)}{σ:St}{H:Hp}{s:Shared}{a:Addr}{xs ys:List V}
theorem Inv.list(I:Inv X pins σ H s)(h:eR X.K H a xs):∃ its:List Value,Vals xs its/\PlainL s.heap a its.toArray/\xs.length<=sizeLine:=by
 rcases h with h|⟨o,its,n,hk,hc,hd,hs,hz,r⟩
 ·obtain⟨z,its,n,r,e⟩:=h.ok I.bp
  exact⟨its,r,⟨_,n,e,rfl,rfl,rfl⟩,z⟩
 ·refine⟨its.toList,r,⟨o,n,I.h9 a o hk,hc,hd,by simpa using hs⟩,?_⟩
  have e:=r.length
  simp only[ua] at e
  lia
theorem Inv.tuple(I:Inv X pins σ H s)(h:oz X.K H a xs):∃ its:List Value,Vals xs its/\IsTup s.heap a its.toArray/\xs.length<=sizeLine:=by
 rcases h with h|⟨o,its,n,hk,hc,hs,hz,r⟩
 ·obtain⟨z,its,r,p⟩:=h.ok I.bp
  exact⟨its,r,p,z⟩
 ·refine⟨its.toList,r,⟨o,I.h9 a o hk,hc,n,by simpa using hs⟩,?_⟩
  have e:=r.length
  simp only[ua] at e
  lia
theorem Inv.aB'(I:Inv X pins σ H s)(h:eR X.K H a xs)(h':eR X.K H a ys):xs=ys:=by
 obtain⟨its,r,⟨o,n,e,_,_,d⟩,_⟩:=I.list h
 obtain⟨its',r',⟨o',n',e',_,_,d'⟩,_⟩:=I.list h'
 rw[e] at e';cases e'
 rw[d] at d'
 injection d' with d1 _
 have:its=its':=by simpa using congrArg Array.toList d1
 subst this
 exact r.inj r'
end
abbrev Cx.wish(X:Cx)(E:Value->Shared->Prop):Cx:={ X with xe:=E }
abbrev Cx.FR(X:Cx):Cx:=X.wish fun _ _=>False
theorem Cx.Ok.wish{X:Cx}(ok:X.Ok)(E:Value->Shared->Prop):(X.wish E).Ok :=
 ⟨ok.mod,ok.kind,ok.glob,ok.blt,ok.above,ok.inj,ok.has,ok.xD,ok.hd,ok.frames,ok.z5,ok.An,ok.bs,ok.sQ,ok.xE,ok.xI,ok.pE,ok.vT⟩
theorem Cx.Ok.BD{X:Cx}(ok:(X.wish E).Ok):X.Ok :=
 ⟨ok.mod,ok.kind,ok.glob,ok.blt,ok.above,ok.inj,ok.has,ok.xD,ok.hd,ok.frames,ok.z5,ok.An,ok.bs,ok.sQ,ok.xE,ok.xI,ok.pE,ok.vT⟩
section
variable {X:Cx}{pins:List (Addr × Obj)}{σ:St}{H:Hp}{s:Shared}{E:Value->Shared->Prop}
theorem Inv.wish(I:Inv X pins σ H s)(E:Value->Shared->Prop):Inv (X.wish E) pins σ H s:=⟨I.ok.wish E,I.os,I.bare,I.base,I.loc,I.cell,I.free,I.pS,I.pin,I.bp,I.len⟩
theorem Inv.BD(I:Inv (X.wish E) pins σ H s):Inv X pins σ H s:=⟨I.ok.BD,I.os,I.bare,I.base,I.loc,I.cell,I.free,I.pS,I.pin,I.bp,I.len⟩
theorem SP.BD{D:Ends}(h:SP (X.wish E) pins D f s'):SP X pins D f s':=by
 cases f with
 |next=>obtain⟨bE,H',I,q⟩:=h;exact⟨bE,H',I.BD,q⟩
 |brk=>obtain⟨bE,H',I,q⟩:=h;exact⟨bE,H',I.BD,q⟩
 |cont=>obtain⟨bE,H',I,q⟩:=h;exact⟨bE,H',I.BD,q⟩
 |ret u=>obtain⟨v,bE,H',I,r,q⟩:=h;exact⟨v,bE,H',I.BD,r,q⟩
theorem oa.FR{st:List Stmt}(h:oa X.FR st t):oa X st t:=fun pins s σ H D I hw =>
 pe (h pins s σ H D (I.wish _) hw) (fun _ _ q=>q.BD) fun _ _ z=>False.elim z
end
section
variable {X:Cx}{st:Stmt}{rest:List Stmt}{t u:TS}{e:Expr}{te:TE}{pos:Pos}
def aC':TS:=fun D σ H=>D.nx σ H
def Wq(t u:TS):TS:=fun D σ H=>t { D with nx:=u D } σ H
theorem Wr:oa X [] aC':=fun _ _ σ H _ I h=>wpAny_execs_nil ⟨σ,H,I,h⟩
theorem aD'(h1:PS X st t)(h2:oa X rest u):oa X (st :: rest) (Wq t u):=by
 intro pins s σ H D I h
 refine wpAny_execs_cons (cK (h1 pins s σ H { D with nx:=u D } I h) fun f s1 q=>?_)
 cases f with
 |next =>
  obtain⟨bE,H',I',q⟩:=q
  exact h2 pins s1 bE H' D I' q
 |ret v=>exact q
 |brk=>exact q
 |cont=>exact q
theorem Ws(h1:PS X st t):oa X [st] t:=by
 intro pins s σ H D I h
 refine wpAny_execs_cons (cK (h1 pins s σ H D I h) fun f s1 q=>?_)
 cases f with
 |next=>exact wpAny_execs_nil q
 |ret v=>exact q
 |brk=>exact q
 |cont=>exact q
theorem Inv.quiet(I:Inv X pins σ H s):interactive X.env=false:=by simp[interactive,I.ok.kind]
def aE'(te:TE):TS:=fun D σ H=>te σ H fun _ H1=>D.nx σ H1
theorem PF(he:PE X e te)(hs:swapsWith e none pos.line X.env=pure false:=by rfl):PS X (.Expr e pos) (aE' te):=by
 intro pins s σ H D I h
 exact wpAny_Expr_any (cK (he pins s σ H _ I h) fun v s1 cy=>L2.fz cy fun x H1 I1 r1 q1=>⟨σ,H1,I1,q1⟩) I.quiet hs
def aF'(te:TE):TS:=fun D σ H=>te σ H D.rt
theorem PH(he:PE X e te):PS X (.Return (some e) pos) (aF' te):=by
 intro pins s σ H D I h
 exact wpAny_Return_some (cK (he pins s σ H _ I h) fun v s1 cy=>L2.fz cy fun x H1 I1 r1 q1=>⟨x,σ,H1,I1,r1,q1⟩)
def aG'(c:TT)(t u:TS):TS:=fun D σ H=>c σ H fun b H1=>if b=true then t D σ H1 else u D σ H1
theorem aH'(hc:PT X c tc)(ha:oa X a t)(hb:oa X b u):PS X (.If c a b pos) (aG' tc t u):=by
 intro pins s σ H D I h
 refine wpAny_If (cK (hc pins s σ H _ I h) fun d s1 df=>?_)
 obtain⟨H1,I1,q1⟩:=df
 cases d with
 |true=>exact ha pins s1 σ H1 D I1 q1
 |false=>exact hb pins s1 σ H1 D I1 q1
end
abbrev TG:=V->St->Hp->(St->Hp->Prop)->Prop
abbrev FT:=List V->St->Hp->(St->Hp->Prop)->Prop
def PG(X:Cx)(target:Expr)(t:TG):Prop :=
 ∀ (pins:List (Addr × Obj)) (s:Shared) (σ:St) (H:Hp) (v:V) (u:Value) (Q:St->Hp->Prop),Inv X pins σ H s->RelV v u->t v σ H Q ->
  wpAny (model X.prog X.w) X.A (assign target X.env u) (fun _ s'=>∃ bE H',Inv X pins bE H' s'/\Q bE H') X.xe s
def x3(X:Cx)(ts:List Expr)(t:FT):Prop :=
 ∀ (pins:List (Addr × Obj)) (s:Shared) (σ:St) (H:Hp) (vs:List V) (us:List Value) (Q:St->Hp->Prop),Inv X pins σ H s->Vals vs us->t vs σ H Q ->
  wpAny (model X.prog X.w) X.A (assignInOrder ((assignEach ts X.env).map (·.2)) us) (fun _ s'=>∃ bE H',Inv X pins bE H' s'/\Q bE H') X.xe s
section
variable {X:Cx}{pos:Pos}
def R6(i:Nat):TG:=fun v σ H Q=>Q (σ.set i (some v)) H
theorem R7(hN:X.N.Nodup)(hi:X.N[i]? = some x)(hx:Loc X.env.scope x)(hf:X.fn x=true\/X.env.scope.names.lookup x=some .local:=by first|exact .inl rfl|exact .inr rfl|assumption):PG X (.Name x pos) (R6 i):=by
 intro pins s σ H v u Q I r h
 exact wpAny_assign_Name (Wk I hN hi hx r (fun s' I'=>⟨_,H,I',h⟩) hf)
def aI':FT:=fun vs σ H Q=>vs=[]/\Q σ H
def aJ'(t:TG)(u:FT):FT:=fun vs σ H Q=>∃ v r,vs=v :: r/\t v σ H fun bE H'=>u r bE H' Q
theorem Wt:x3 X [] aI':=by
 intro pins s σ H vs us Q I r h
 obtain⟨e,h⟩:=h
 subst e
 cases r
 exact assignInOrder_nil ⟨σ,H,I,h⟩
theorem R8(h1:PG X e t)(h2:x3 X es u)
  (hs:(assignEach (e :: es) X.env).map (·.2)=assign e X.env :: (assignEach es X.env).map (·.2):=by rfl):x3 X (e :: es) (aJ' t u):=by
 intro pins s σ H vs us Q I r h
 obtain⟨v,vr,e1,h⟩:=h
 subst e1
 cases r with
 |cons r rr =>
  rw[hs]
  refine assignInOrder_cons (cK (h1 pins s σ H _ _ _ I r h) fun _ s1 df=>?_)
  obtain⟨σ1,H1,I1,q1⟩:=df
  exact h2 pins s1 σ1 H1 _ _ Q I1 rr q1
def aL'(K:PySem.W.Frag)(n:Nat)(t:FT):TG:=fun v σ H Q=>∃ a xs,v=.ref a/\oz K H a xs/\xs.length=n/\t xs σ H Q
theorem Wu(hc:X.calm=true)(h:x3 X es t)
  (hn:(assignEach es X.env).length=n:=by rfl) (md:(assignEach es X.env).findIdx? (·.1)=none:=by rfl):PG X (.Tuple es k pos) (aL' X.K n t):=by
 intro pins s σ H v u Q I r hw
 obtain⟨a,xs,e1,hq,hl,hw⟩:=hw
 subst e1
 cases r
 obtain⟨its,rv,ht,hz⟩:=I.tuple hq
 refine assign_Tuple_tuple (I.ok.hd hc) ht (by simp[hn,<- hl,rv.length]) md fun h' hx=>?_
 have I1:Inv X pins σ H { s with heap:=h' }:=I.kept (t':=s.toks) fun b o e=>hx b o (gi (dP e)) e
 exact h pins _ σ H xs _ Q I1 (by simpa using rv) hw
def R9(te:TE)(g:TG):TS:=fun D σ H=>te σ H fun x H1=>g x σ H1 D.nx
theorem aM'(he:PE X e te)(hg:PG X tg g)(hs:swapsWithSole [tg] e pos.line X.env=pure false:=by rfl)(hw:swappedStores [tg] e X.env=pure none:=by rfl)
  (h1:(assignEach [tg] X.env).map (·.2)=[assign tg X.env]:=by rfl):PS X (.Assign [tg] e pos) (R9 te g):=by
 intro pins s σ H D I h
 refine wpAny_Assign_stores (cK (he pins s σ H _ I h) fun v s1 cy=>L2.fz cy fun x H1 I1 r1 q1=>?_) hs hw
 rw[h1]
 exact cK (hg pins s1 σ H1 x v _ I1 r1 q1) fun _ s2 q=>q
theorem R_(hN:X.N.Nodup)(hi:X.N[i]? = some x)(hx:Loc X.env.scope x)(he:PE X e te)(hs:swapsWith e (some (.Name x pos')) pos.line X.env=pure false:=by rfl)(hf:X.fn x=true\/X.env.scope.names.lookup x=some .local:=by first|exact .inl rfl|exact .inr rfl|assumption) :
  PS X (.Assign [.Name x pos'] e pos) (R9 te (R6 i)):=by
 intro pins s σ H D I h
 refine wpAny_Assign_Name (cK (he pins s σ H _ I h) fun v s1 cy=>L2.fz cy fun y H1 I1 r1 q1=>?_) hs
 exact Wk I1 hN hi hx r1 (fun s2 I2=>⟨_,H1,I2,q1⟩) hf
end
structure It where
 go:Nat->Hp->Prop
 ng:Nat->Hp->V->Hp->Prop
 stop:Nat->Hp->Prop
def wc(X:Cx)(pins:List (Addr × Obj))(H:Hp)(b:Addr):Prop :=
 H b=none/\b≠X.env.locals/\b∉X.fs/\(b∈X.ex\/X.eC.heap.objs.size<=b)/\(∀ x c,X.env.cells.lookup x=some c->c≠b)/\∀ p∈X.pn++pins,p.1≠b
theorem Inv.PJ{X:Cx}(I:Inv X pins σ H s)(hb:s.heap.objs.size<=b)(hn:H' b=none):wc X pins H' b:=by
 refine⟨hn,Nat.ne_of_gt (n5 I.lt hb),I.ae' hb,.inr (fS I.sz hb),fun x c e z=>?_,fun p hp z=>?_⟩
 ·obtain⟨v,q⟩:=I.cell x c e
  exact absurd (n5 q.lt (by rw[z];exact hb)) (sd _)
 ·exact absurd (n5 (dP (I.pin p hp).1) (by rw[z];exact hb)) (sd _)
structure Turn(P:Program)(w:World)(K:PySem.W.Frag)(tg:Expr)(J:It)(fp:List Addr)(it:Addr)(tn:Nat->Heap->Prop):Prop where
 mem:it∈fp
 obj:∀ i h,tn i h->∀ b∈fp,∃ o,h.get? b=some o/\∀ v,o.data≠.cell v
 keep:∀ i h h',tn i h->(∀ b∈fp,∀ o,h.get? b=some o->h'.get? b=some o)->tn i h'
 item:∀ (X:Cx),X.prog=P->X.w=w->X.K=K->X.calm=true->∀ (i:Nat) (pins:List (Addr × Obj)) (s:Shared) (σ:St) (H:Hp) (E:Value->Shared->Prop),Inv X pins σ H s->(∀ b∈fp,wc X pins H b)->tn i s.heap->J.go i H ->
  wpAny (model P w) X.A (pyNext (.ref it)) (fun r s1=>∃ u,r=some u /\
   wpAny (model P w) X.A (letOwnedTupleGo tg (.ref it) u) (fun _ s2=>∃ x H',Inv X pins σ H' s2/\RelV x u/\J.ng i H x H'/\tn (i+1) s2.heap/\∀ b∈fp,H' b=none) E s1) E s
 done:∀ (X:Cx),X.prog=P->X.w=w->X.K=K->X.calm=true->∀ (i:Nat) (pins:List (Addr × Obj)) (s:Shared) (σ:St) (H:Hp) (E:Value->Shared->Prop),Inv X pins σ H s->(∀ b∈fp,wc X pins H b)->tn i s.heap->J.stop i H ->
  wpAny (model P w) X.A (pyNext (.ref it)) (fun r s1=>r=none/\Inv X pins σ H s1) E s
 self:∀ (A:Around) (i:Nat) (s:Shared) (Q:Value->Shared->Prop) (E:Value->Shared->Prop),tn i s.heap->Q (.ref it) s->wpAny (model P w) A (pyIter (.ref it)) Q E s
abbrev TI:=St->Hp->(It->Hp->Prop)->Prop
def Wv(X:Cx)(pins:List (Addr × Obj))(σ:St)(tg:Expr)(R:It->Hp->Prop)(Sb:Value)(s2:Shared):Prop :=
 ∃ (it:Addr) (fp:List Addr) (tn:Nat->Heap->Prop) (J:It) (H':Hp),Sb=.ref it/\Inv X pins σ H' s2/\Turn X.prog X.w X.K tg J fp it tn/\tn 0 s2.heap/\(∀ b∈fp,wc X pins H' b)/\R J H'
def PI(X:Cx)(tg iter:Expr)(wi:TI):Prop :=
 ∀ (pins:List (Addr × Obj)) (s:Shared) (σ:St) (H:Hp) (R:It->Hp->Prop),Inv X pins σ H s->wi σ H R ->
  wpAny (model X.prog X.w) X.A (eval iter X.env) (fun v s1=>wpAny (model X.prog X.w) X.A (pyIter v) (Wv X pins σ tg R) X.xe s1) X.xe s
theorem Sd(ho:s.heap.get? it=some o)(hc:o.cls=.type n)(hd:o.data=.fields vs)
  (hn:["enumerate", "zip", "dict_itemiterator", "dict_reverseitemiterator", "odict_iterator", "itertools.zip_longest", "itertools.pairwise"].contains n=false) (hQ:Q () s):wpAny M A (letOwnedTupleGo tg (.ref it) u) Q E s:=by
 unfold letOwnedTupleGo
 cases tg<;>first
  |exact aS hQ
  | (cases u<;>first
     |exact aS hQ
     | (refine ax (wpAny_load ho ?_)
        rw[hc,hd]
        show wpAny M A (if (["enumerate", "zip", "dict_itemiterator", "dict_reverseitemiterator", "odict_iterator", "itertools.zip_longest", "itertools.pairwise"].contains n && vs[0]? == some (rawInt _))=true then _ else _) Q E s
        rw[if_neg (by intro h;rw[hn,Bool.false_and] at h;cases h)]
        exact aS hQ))
def PK(K:PySem.W.Frag)(a:Addr):It :=
 ⟨fun i H=>∃ xs x,eR K H a xs/\xs[i]? = some x,fun i H x H'=>H'=H/\∀ xs,eR K H a xs->xs[i]? = some x,fun i H=>∃ xs,eR K H a xs/\xs.length<=i⟩
def DT(lo:Int)(n:Nat):It:=⟨fun i _=>i<n,fun i H x H'=>H'=H/\x=.int (lo+i),fun i _=>n<=i⟩
theorem aN'{P:Program}{K:PySem.W.Frag}(a it:Addr):Turn P w K tg (PK K a) [it] it (fun i h=>h.IsListIter it a i) where
 mem:=by simp
 obj:=fun i h st b hb=>by
  have e:b=it:=by simpa using hb
  subst e
  obtain⟨o,e,c,d⟩:=st
  exact⟨o,e,fun v z=>by rw[d] at z;cases z⟩
 keep:=fun i h h' st k=>st.at fun o e=>k it (by simp) o e
 item:=by
  intro X hP hw hK hc i pins s σ H E I hf st hg
  subst hP hw hK
  obtain⟨xs,x,hq,hx⟩:=hg
  obtain⟨its,rv,p,hz⟩:=I.list hq
  obtain⟨u,hu,ru⟩:=rv.get hx
  obtain⟨f0,f1,f2,f3,f4,f5⟩:=hf it (by simp)
  refine wpAny_pyNext_list_item st p.isList (x:=u) (by simpa using hu) fun h' ah sb=>?_
  have I1:Inv X pins σ H { s with heap:=h' }:=I.turned (t':=s.toks) (fun b o hb e=>(sb.2 b hb).trans e) f0 f1 f3 f4 f5
  obtain⟨o,e,c,d⟩:=id ah
  exact⟨u,rfl,Sd (s:={ s with heap:=h' }) e c d (by decide) ⟨x,H,I1,ru,⟨rfl,fun ys hy=>by rw[I.aB' hy hq];exact hx⟩,ah,fun b hb=>(hf b hb).1⟩⟩
 done:=by
  intro X hP hw hK hc i pins s σ H E I hf st hg
  subst hP hw hK
  obtain⟨xs,hq,hx⟩:=hg
  obtain⟨its,rv,p,hz⟩:=I.list hq
  obtain⟨f0,f1,f2,f3,f4,f5⟩:=hf it (by simp)
  have hl:=rv.length
  exact wpAny_pyNext_list_end (I.ok.hd hc) st p.isList (by simp;lia) fun h' eb=>⟨rfl,I.turned (t':=s.toks) (fun b o hb e=>eb b o hb e) f0 f1 f3 f4 f5⟩
 self:=fun _ _ _ _ _ st h=>wpAny_pyIter_listiter st h
theorem aO'{P:Program}{K:PySem.W.Frag}(it:Addr)(lo:Int)(n:Nat):Turn P w K tg (DT lo n) [it] it (fun i h=>IsRangeIter h it (lo+(i:Nat)*1) ((n:Int)-(i:Nat)) 1) where
 mem:=by simp
 obj:=fun i h st b hb=>by
  have e:b=it:=by simpa using hb
  subst e
  exact⟨_,st,fun v z=>by
   have z':Data.fields _=Data.cell v:=z
   cases z'⟩
 keep:=fun i h h' st k=>k it (by simp) _ st
 item:=by
  intro X hP hw hK hc i pins s σ H E I hf st hg
  subst hP hw hK
  obtain⟨f0,f1,f2,f3,f4,f5⟩:=hf it (by simp)
  have W:=Walks.range (prog:=X.prog) (w:=X.w) (I.ok.hd hc) it lo 1 n
  refine W.item i s _ _ hg st fun v h' tk hv ah kk=>?_
  obtain⟨t,rfl⟩:=hv
  have I1:Inv X pins σ H { s with heap:=h',toks:=tk }:=I.turned (fun b o hb e=>kk b o (by simpa using hb) e) f0 f1 f3 f4 f5
  refine⟨_,rfl,Sd (s:={ s with heap:=h',toks:=tk }) (n := "range_iterator") ah rfl rfl (by decide) ⟨.int (lo+i),H,I1,⟨t,?_⟩,⟨rfl,rfl⟩,ah,fun b hb=>(hf b hb).1⟩⟩
  rw[Int.mul_one]
 done:=by
  intro X hP hw hK hc i pins s σ H E I hf st hg
  subst hP hw hK
  obtain⟨f0,f1,f2,f3,f4,f5⟩:=hf it (by simp)
  exact wpAny_pyNext_range_end (I.ok.hd hc) st (by have:n<=i:=hg;lia) fun h' eb=>⟨rfl,I.turned (t':=s.toks) (fun b o hb e=>eb b o hb e) f0 f1 f3 f4 f5⟩
 self:=fun _ _ _ _ _ st h=>wpAny_pyIter_rangeiter st h
section
variable {X:Cx}{tg:Expr}
def aP'(K:PySem.W.Frag)(tl:TE):TI:=fun σ H R=>tl σ H fun x H1=>∃ a,x=.ref a/\(∃ xs,eR K H1 a xs)/\R (PK K a) H1
theorem Ww(hl:PE X l tl):PI X tg l (aP' X.K tl):=by
 intro pins s σ H R I h
 refine cK (hl pins s σ H _ I h) fun v s1 cy=>L2.fz cy fun x H1 I1 r1 q1=>?_
 obtain⟨a,e,⟨xs,hq⟩,q⟩:=q1
 subst e
 cases r1
 obtain⟨its,rv,p,hz⟩:=I1.list hq
 refine wpAny_pyIter_list p.isList ?_
 refine⟨s1.heap.objs.size,[s1.heap.objs.size],_,_,H1,rfl,I1.kept (t':=s1.toks) fun b o e=>fw _ e,aN' a _,⟨_,kr _ rfl,rfl,rfl⟩,fun b hb=>?_,q⟩
 have e:b=s1.heap.objs.size:=by simpa using hb
 subst e
 exact I1.PJ (cq _) (I1.bp.fresh (cq _))
theorem Wx{R:It->Hp->Prop}{lo hi:Int}(I:Inv X pins σ H s)(h1:-(2 ^ 62)<=lo)(h2:lo<2 ^ 62)(h3:-(2 ^ 62)<=hi)(h4:hi<2 ^ 62)
  (q:R (DT lo (hi-lo).toNat) H):wpAny (model X.prog X.w) X.A (pyIter (.ref s.heap.objs.size)) (Wv X pins σ tg R) E { s with heap:=s.heap.push { cls:=.type "range",data:=.fields #[.int lo t,.int hi u,.int 1 v] },toks:=tk }:=by
 refine wpAny_pyIter_range (IsRange.new ..) (small_one h1 h2 h3 h4) ?_
 have I1:Inv X pins σ H { s with heap:=s.heap.push { cls:=.type "range",data:=.fields #[.int lo t,.int hi u,.int 1 v] },toks:=tk }:=I.kept fun b o e=>fw _ e
 refine⟨(s.heap.push { cls:=.type "range",data:=.fields #[.int lo t,.int hi u,.int 1 v] }).objs.size,[(s.heap.push { cls:=.type "range",data:=.fields #[.int lo t,.int hi u,.int 1 v] }).objs.size],_,_,H,rfl,
  I1.kept (t':=tk) fun b o e=>fw _ e,aO' _ lo (hi-lo).toNat,?_,fun b hb=>?_,q⟩
 ·have e1:lo+((0:Nat):Int)*1=lo:=by simp
  have e2:(((hi-lo).toNat:Nat):Int)-((0:Nat):Int)=Builtin.Range.rangeSize lo hi 1:=by rw[rangeSize_one];split<;>lia
  show IsRangeIter _ _ (lo+((0:Nat):Int)*1) ((((hi-lo).toNat:Nat):Int)-((0:Nat):Int)) 1
  rw[e1,e2]
  exact kr _ rfl
 ·have e:b=(s.heap.push { cls:=.type "range",data:=.fields #[.int lo t,.int hi u,.int 1 v] }).objs.size:=by simpa using hb
  subst e
  exact I1.PJ (cq _) (I1.bp.fresh (cq _))
def aQ'(ta:TA):TI:=fun σ H R=>ta σ H fun vs H1=>∃ j:Int,vs=[.int j]/\-(2 ^ 62)<=j/\j<2 ^ 62/\R (DT 0 j.toNat) H1
def aR'(ta:TA):TI:=fun σ H R=>ta σ H fun vs H1=>∃ i j:Int,vs=[.int i,.int j]/\(-(2 ^ 62)<=i/\i<2 ^ 62/\-(2 ^ 62)<=j/\j<2 ^ 62)/\R (DT i (j-i).toNat) H1
theorem aS' (hg:Gl X "range") (hm:X.mg "range" = none) (ha:PA X [a] ta) (hs:starEach [a] X.env=[(false,eval a X.env)]:=by rfl):PI X tg (.Call (.Name "range" p) [a] [] pos) (aQ' ta):=by
 intro pins s σ H R I h
 refine Call_ (wa I hg hm boot_range (PyProof.Rows.callWith_type1 (cK (ha pos pins s σ H _ I h) fun us s1 cy=>L2.fz cy fun vs H1 I1 r1 q1=>?_) hs rfl))
 obtain⟨j,e,q1,q2,q⟩:=q1
 subst e
 cases r1 with
 |cons r rr =>
  cases rr
  obtain⟨t,rfl⟩:=r
  exact call_range_1 (Wx I1 (by lia) (by lia) q1 q2 (by simpa using q))
theorem aT' (hg:Gl X "range") (hm:X.mg "range" = none) (ha:PA X [a,b] ta) (hs:starEach [a,b] X.env=[(false,eval a X.env),(false,eval b X.env)]:=by rfl) (iX:starEach [b] X.env=[(false,eval b X.env)]:=by rfl) :
  PI X tg (.Call (.Name "range" p) [a,b] [] pos) (aR' ta):=by
 intro pins s σ H R I h
 refine Call_ (wa I hg hm boot_range (PyProof.Rows.callWith_type1 (cK (ha pos pins s σ H _ I h) fun us s1 cy=>L2.fz cy fun vs H1 I1 r1 q1=>?_) (by rw[hs,iX]) (by rw[iX];rfl)))
 obtain⟨i,j,e,⟨q1,q2,q3,q4⟩,q⟩:=q1
 subst e
 cases r1 with
 |cons r rr =>
  cases rr with
  |cons r' rr =>
   cases rr
   obtain⟨t,rfl⟩:=r
   obtain⟨t',rfl⟩:=r'
   exact call_range_2 (Wx I1 q1 q2 q3 q4 q)
def Wy(wi:TI)(g:TG)(tb:TS):TS:=fun D σ H=>wi σ H fun J H1=>∃ W:Nat->Nat->St->Hp->Prop,(∃ m,W 0 m σ H1)/\∀ i m σ H,W i m σ H ->
 (J.stop i H/\D.nx σ H)\/(J.go i H/\∃ N:St->Hp->Prop,(∀ bE H',N bE H'->∃ m',m'<m/\W (i+1) m' bE H')/\∀ x H',J.ng i H x H'->g x σ H' fun ku H2=>tb { D with nx:=N,ct:=N,bk:=D.nx } ku H2)
def Lc(fp:List Addr)(h:Heap):List (Addr × Obj):=fp.filterMap fun b=>(h.get? b).map fun o=>(b,o)
theorem PL(hb:b∈fp)(e:h.get? b=some o):(b,o)∈Lc fp h:=Ry.mpr ⟨b,hb,by rw[e];rfl⟩
theorem aU'(hp:p∈Lc fp h):p.1∈fp/\h.get? p.1=some p.2:=by
 obtain⟨b,hb,e⟩:=Ry.mp hp
 cases q:h.get? b with
 |none=>rw[q] at e;cases e
 |some o =>
  rw[q] at e
  have e':(b,o)=p:=Option.some.inj e
  subst e'
  exact⟨hb,q⟩
theorem Inv.pinned(I:Inv X pins σ H s)(hf:∀ b∈fp,wc X pins H b)(ho:∀ b∈fp,∃ o,s.heap.get? b=some o/\∀ v,o.data≠.cell v):Inv X (pins++Lc fp s.heap) σ H s :=
 I.Wd fun p hp=>(dA.mp hp).elim (fun z=>I.pin p (fE _ z)) fun z=>by
  obtain⟨hb,e⟩:=aU' z
  obtain⟨f0,f1,f2,_⟩:=hf p.1 hb
  obtain⟨o,e',d⟩:=ho p.1 hb
  rw[e] at e';cases e'
  exact⟨e,f0,f1,f2,d⟩
theorem Inv.PN(I:Inv X (pins++pl) σ H s):Inv X pins σ H s:=I.Wd fun p hp=>I.pin p (fE _ (ki _ hp))
theorem aV'(hp:PassesOwn (model X.prog X.w) X.A X.env X.xe)(hc:X.calm=true)(hi:PI X tg iter wi)(hg:PG X tg g)(hb:oa X body tb)
  (hs:∀ x,foldedSetIterable iter X.env x=pure x:=by intro _;rfl):PS X (.For tg iter body [] pos) (Wy wi g tb):=by
 intro pins s σ H D I h
 refine wpAny_For (cK (hi pins s σ H _ I h) fun v s1 h1=>cK h1 fun Sb s2 h2=>?_) hs
 obtain⟨it,fp,tn,J,H2,e,I2,T,ub,f2,W,⟨m0,w0⟩,turn⟩:=h2
 subst e
 -- what stays true of the iterator's objects through the loop
 have stat:∀ {H':Hp},(∀ b∈fp,H' b=none)->∀ b∈fp,wc X pins H' b:=fun hn b hb=>⟨hn b hb,(f2 b hb).2⟩
 refine codeAny_forLoop_any (fun n s'=>∃ i bE H',Inv X pins bE H' s'/\tn i s'.heap/\(∀ b∈fp,H' b=none)/\W i n bE H') ?_ m0 ⟨0,σ,H2,I2,ub,fun b hb=>(f2 b hb).1,w0⟩
 rintro n s3 ⟨i,x4,H3,I3,ui,Wz,w3⟩
 rcases turn i n x4 H3 w3 with⟨stop,qn⟩|⟨go,N,hN,step⟩
 ·refine wpAny_passesOwn hp (cK (T.done X rfl rfl rfl hc i pins s3 x4 H3 X.xe I3 (stat Wz) ui stop) fun r s4 df=>?_)
  obtain⟨hr,I4⟩:=df
  subst hr
  exact wpAny_execs_nil ⟨x4,H3,I4,qn⟩
 ·refine wpAny_passesOwn hp (cK (T.item X rfl rfl rfl hc i pins s3 x4 H3 X.xe I3 (stat Wz) ui go) fun r s4 df=>?_)
  obtain⟨u,hr,h4⟩:=df
  subst hr
  refine wpAny_passesOwn hp (cK h4 fun _ s5 df=>?_)
  obtain⟨x,H5,I5,r5,y5,DU,PQ⟩:=df
  have I5':=I5.pinned (stat PQ) (T.obj _ _ DU)
  refine wpAny_passesOwn hp (cK (hg _ s5 x4 H5 x u _ I5' r5 (step x H5 y5)) fun _ s6 df=>?_)
  obtain⟨σ6,H6,I6,q6⟩:=df
  refine wpAny_passesOwn hp (cK (hb _ s6 σ6 H6 _ I6 q6) fun f s7 q7=>?_)
  have again:∀ {wd:St} {H7:Hp},Inv X (pins++Lc fp s5.heap) wd H7 s7->N wd H7->∃ m,m<n/\∃ i bE H',Inv X pins bE H' s7/\tn i s7.heap/\(∀ b∈fp,H' b=none)/\W i m bE H':=fun {wd H7} I7 n7=>by
   obtain⟨m',hm,w7⟩:=hN wd H7 n7
   refine⟨m',hm,i+1,wd,H7,I7.PN,T.keep _ _ _ DU fun b hb o e=>(I7.pin (b,o) (fE _ (fE _ (PL hb e)))).1,fun b hb=>?_,w7⟩
   obtain⟨o,e,d⟩:=T.obj _ _ DU b hb
   exact(I7.pin (b,o) (fE _ (fE _ (PL hb e)))).2.1
  cases f with
  |next=>obtain⟨wd,H7,I7,n7⟩:=q7;exact again I7 n7
  |cont=>obtain⟨wd,H7,I7,n7⟩:=q7;exact again I7 n7
  |brk=>obtain⟨wd,H7,I7,q7⟩:=q7;exact⟨wd,H7,I7.PN,q7⟩
  |ret v=>obtain⟨x7,wd,H7,I7,r7,q7⟩:=q7;exact⟨x7,wd,H7,I7.PN,r7,q7⟩
end
abbrev R2:=V->V->Hp->VK->Prop
def dr(X:Cx)(f:Value->Value->Sem Value)(r:R2):Prop :=
 ∀ (pins:List (Addr × Obj)) (s:Shared) (σ:St) (H:Hp) (x y:V) (v u:Value) (Q:VK),Inv X pins σ H s->RelV x v->RelV y u->r x y H Q ->
  wpAny (model X.prog X.w) X.A (f v u) (EP X pins σ Q) X.xe s
def PR(X:Cx)(f:Value->Sem Value)(r:V->Hp->VK->Prop):Prop :=
 ∀ (pins:List (Addr × Obj)) (s:Shared) (σ:St) (H:Hp) (x:V) (v:Value) (Q:VK),Inv X pins σ H s->RelV x v->r x H Q ->
  wpAny (model X.prog X.w) X.A (f v) (EP X pins σ Q) X.xe s
def mh(X:Cx)(f:Value)(r:List V->Hp->VK->Prop):Prop :=
 ∀ (pins:List (Addr × Obj)) (s:Shared) (σ:St) (H:Hp) (xs:List V) (us:List Value) (Q:VK),Inv X pins σ H s->Vals xs us->r xs H Q ->
  wpAny (model X.prog X.w) X.A (call f us) (EP X pins σ Q) X.xe s
def Lv(r:R2)(ta tb:TE):TE:=fun σ H Q=>ta σ H fun x H1=>tb σ H1 fun y H2=>r x y H2 Q
def PX(r:V->Hp->VK->Prop)(ta:TE):TE:=fun σ H Q=>ta σ H fun x H1=>r x H1 Q
def rI(C:Int->Int->Prop)(g:Int->Int->V):R2:=fun x y H Q=>∃ i j,x=.int i/\y=.int j/\C i j/\Q (g i j) H
def FU(g:Int->Int->V):R2:=fun x y H Q=>∃ i j,x=.int i/\y=.int j/\Q (g i j) H
def rU(g:Int->V):V->Hp->VK->Prop:=fun x H Q=>∃ i,x=.int i/\Q (g i) H
section
variable {X:Cx}{a b:Expr}{ta tb:TE}{pos:Pos}
theorem Se(ha:PE X a ta)(hb:PE X b tb){pins:List (Addr × Obj)}{s:Shared}{σ:St}{H:Hp}{R:V->V->Hp->Prop}(I:Inv X pins σ H s)
  (h:ta σ H fun x H1=>tb σ H1 fun y H2=>R x y H2) {Q:Value->Shared->Prop} {f:Value->Value->Sem Value}
  (hf:∀ v u s2 x y H2,Inv X pins σ H2 s2->RelV x v->RelV y u->R x y H2->wpAny (model X.prog X.w) X.A (f v u) Q X.xe s2) :
  wpAny (model X.prog X.w) X.A (eval a X.env) (fun v ez=>wpAny (model X.prog X.w) X.A (eval b X.env) (fun u DV=>wpAny (model X.prog X.w) X.A (f v u) Q X.xe DV) X.xe ez) X.xe s:=by
 refine cK (ha pins s σ H _ I h) fun v s1 cy=>L2.fz cy fun x H1 I1 r1 q1=>?_
 refine cK (hb pins s1 σ H1 _ I1 q1) fun u s2 cy=>L2.fz cy fun y H2 I2 r2 q2=>?_
 exact hf v u s2 x y H2 I2 r1 r2 q2
theorem aY'{op:Operator}{r:R2}(ho:dr X (binaryOp op) r)(ha:PE X a ta)(hb:PE X b tb):PE X (.BinOp a op b pos) (Lv r ta tb):=by
 intro pins s σ H Q I h
 exact wpAny_BinOp (Se ha hb I h fun v u s2 x y H2 I2 rx ry q=>ho pins s2 σ H2 x y v u Q I2 rx ry q)
theorem aZ'(ho:PR X (unaryOp op) r)(ha:PE X a ta):PE X (.UnaryOp op a pos) (PX r ta):=by
 intro pins s σ H Q I h
 exact UnaryOp_ (cK (ha pins s σ H _ I h) fun v s1 cy=>L2.fz cy fun x H1 I1 r1 q1=>ho pins s1 σ H1 x v Q I1 r1 q1)
theorem Sf{f:Value->Value->Sem Value}{C:Int->Int->Prop}{g:Int->Int->Int}
  (rule:∀ (i j:Int) (t u:Tok) (s:Shared) (Q:Value->Shared->Prop) (E:Value->Shared->Prop),C i j->Q (.int (g i j) s.toks) { s with toks:=s.toks+1 }->wpAny (model X.prog X.w) X.A (f (.int i t) (.int j u)) Q E s) :
  dr X f (rI C fun i j=>.int (g i j)):=by
 intro pins s σ H x y v u Q I rx ry h
 obtain⟨i,j,rfl,rfl,hc,q⟩:=h
 obtain⟨t,rfl⟩:=rx
 obtain⟨t',rfl⟩:=ry
 exact rule i j t t' s _ _ hc ⟨.int (g i j),H,I.tok _,⟨_,rfl⟩,q⟩
theorem ba'{f:Value->Value->Sem Value}{g:Int->Int->Int}
  (rule:∀ (i j:Int) (t u:Tok) (s:Shared) (Q:Value->Shared->Prop) (E:Value->Shared->Prop),Q (.int (g i j) s.toks) { s with toks:=s.toks+1 }->wpAny (model X.prog X.w) X.A (f (.int i t) (.int j u)) Q E s) :
  dr X f (FU fun i j=>.int (g i j)):=by
 intro pins s σ H x y v u Q I rx ry h
 obtain⟨i,j,rfl,rfl,q⟩:=h
 obtain⟨t,rfl⟩:=rx
 obtain⟨t',rfl⟩:=ry
 exact rule i j t t' s _ _ ⟨.int (g i j),H,I.tok _,⟨_,rfl⟩,q⟩
theorem Sg{f:Value->Value->Sem Value}{g:Int->Int->Bool}
  (rule:∀ (i j:Int) (t u:Tok) (s:Shared) (Q:Value->Shared->Prop) (E:Value->Shared->Prop),Q (.bool (g i j)) s->wpAny (model X.prog X.w) X.A (f (.int i t) (.int j u)) Q E s) :
  dr X f (FU fun i j=>.bl (g i j)):=by
 intro pins s σ H x y v u Q I rx ry h
 obtain⟨i,j,rfl,rfl,q⟩:=h
 obtain⟨t,rfl⟩:=rx
 obtain⟨t',rfl⟩:=ry
 exact rule i j t t' s _ _ ⟨.bl (g i j),H,I,rfl,q⟩
def bb'(i j:Int):Prop:=0<j/\j<1073741824
def FV(i j:Int):Prop:=(-(2 ^ 64)<i/\i<2 ^ 64)\/(-(2 ^ 64)<j/\j<2 ^ 64)
theorem FV.ok(h:FV i j):IntMulOk i j:=by
 rcases h with⟨h1,h2⟩|⟨h1,h2⟩
 ·exact .of_left (intBits_le_64 h1 h2)
 ·exact .of_right (intBits_le_64 h1 h2)
theorem bc':dr X (binaryOp .Add) (FU fun i j=>.int (i+j)):=ba' fun _ _ _ _ _ _ _ q=>add_int q
theorem bd':dr X (binaryOp .Mult) (rI FV fun i j=>.int (i*j)):=Sf fun _ _ _ _ _ _ _ hc q=>mul_int q hc.ok
theorem be':dr X (binaryOp .FloorDiv) (rI bb' fun i j=>.int (i / j)):=Sf fun i j _ _ _ _ _ hc q=>by
 have h1:(0:Int)<j:=hc.1
 have h2:j<1073741824:=hc.2
 exact floordiv_int (by lia) (by rw[Int.fdiv_eq_ediv_of_nonneg i (by exact vF ‹_›)];exact q) (.inl (PyProof.noPylong_small (by lia)))
theorem bf':dr X (binaryOp .Mod) (rI (fun _ j=>0<j) fun i j=>.int (i % j)):=Sf fun i j _ _ _ _ _ hc q=>by
 have h1:(0:Int)<j:=hc
 exact mod_int' (by lia) (by rw[Int.fmod_eq_emod_of_nonneg i (by exact vF ‹_›)];exact q)
theorem unI{f:Value->Sem Value}{g:Int->Int}
  (rule:∀ (i:Int) (t:Tok) (s:Shared) (Q:Value->Shared->Prop) (E:Value->Shared->Prop),Q (.int (g i) s.toks) { s with toks:=s.toks+1 }->wpAny (model X.prog X.w) X.A (f (.int i t)) Q E s) :
  PR X f (rU fun i=>.int (g i)):=by
 intro pins s σ H x v Q I rx h
 obtain⟨i,rfl,q⟩:=h
 obtain⟨t,rfl⟩:=rx
 exact rule i t s _ _ ⟨.int (g i),H,I.tok _,⟨_,rfl⟩,q⟩
theorem bh':PR X (unaryOp .USub) (rU fun i=>.int (-i)):=unI fun _ _ _ _ _ q=>neg_int q
end
def WB:V->V->Bool
 |.non,.non=>true|.non,.int _=>true|.int _,.non=>true|.non,.bl _=>true|.bl _,.non=>true|.non,.str _=>true|.str _,.non=>true
 |.int _,.int _=>true|.bl _,.bl _=>true|.str _,.str _=>true|.sN _,.sN _=>true
 |.int _,.str _=>true|.str _,.int _=>true|.bl _,.str _=>true|.str _,.bl _=>true
 |_,_=>false
def rEq:R2:=fun x y H Q=>WB x y=true/\Q (.bl (decide (x=y))) H
def rNe:R2:=fun x y H Q=>WB x y=true/\Q (.bl (!decide (x=y))) H
theorem WC:decide (V.int i=V.int j)=(i == j):=by
 rw[Bi]
 simp
theorem WD:decide (V.bl i=V.bl j)=(i == j):=by
 rw[Bi]
 simp
theorem WH:decide (V.str i=V.str j)=(i == j):=by
 rw[Bi]
 simp
theorem WK:decide (V.sN i=V.sN j)=(i.toList == j.toList):=by
 rw[Bi]
 cases i
 cases j
 simp
section
variable {X:Cx}{a b c:Expr}{ta tb tc:TE}{pos:Pos}
theorem gE(I:Inv X pins σ H s)(q:Q (.bl k) H)(e:k=k'):EP X pins σ Q (.bool k') s:=by
 subst e
 exact⟨.bl k,H,I,rfl,q⟩
theorem bk':dr X (compareOp .Eq) rEq:=by
 intro pins s σ H x y v u Q I rx ry h
 obtain⟨hs,q⟩:=h
 cases x with
 |non =>
  cases rx
  cases y with
  |non=>cases ry;exact PySem.EqNone.eq_none_none (gE I q (by simp))
  |bl j=>cases ry;exact PySem.EqNone.eq_none_bool (gE I q (by simp))
  |int j=>obtain⟨t',rfl⟩:=ry;exact PySem.EqNone.eq_none_int (gE I q (by simp))
  |str j=>obtain⟨t',rfl⟩:=ry;exact PySem.EqNone.eq_none_str (gE I q (by simp))
  |_=>exact absurd (show false=true from hs) iS
 |bl i =>
  cases rx
  cases y with
  |non=>cases ry;exact PySem.EqNone.eq_bool_none (gE I q (by simp))
  |bl j=>cases ry;exact eq_bool (gE I q WD)
  |str j=>obtain⟨t',rfl⟩:=ry;exact PySem.EqMixed.eq_bool_str (gE I q (by simp))
  |_=>exact absurd (show false=true from hs) iS
 |int i =>
  obtain⟨t,rfl⟩:=rx
  cases y with
  |non=>cases ry;exact PySem.EqNone.eq_int_none (gE I q (by simp))
  |int j=>obtain⟨t',rfl⟩:=ry;exact eq_int (gE I q WC)
  |str j=>obtain⟨t',rfl⟩:=ry;exact PySem.EqMixed.eq_int_str (gE I q (by simp))
  |_=>exact absurd (show false=true from hs) iS
 |str i =>
  obtain⟨t,rfl⟩:=rx
  cases y with
  |non=>cases ry;exact PySem.EqNone.eq_str_none (gE I q (by simp))
  |bl j=>cases ry;exact PySem.EqMixed.eq_str_bool (gE I q (by simp))
  |int j=>obtain⟨t',rfl⟩:=ry;exact PySem.EqMixed.eq_str_int (gE I q (by simp))
  |str j=>obtain⟨t',rfl⟩:=ry;exact eq_str (gE I q WH)
  |_=>exact absurd (show false=true from hs) iS
 |sN i =>
  obtain⟨t,rfl⟩:=rx
  cases y with
  |sN j=>obtain⟨t',rfl⟩:=ry;exact PySem.W.eq_bytes (gE I q WK)
  |_=>exact absurd (show false=true from hs) iS
 |_=>cases y<;>exact absurd (show false=true from hs) iS
theorem bl':dr X (compareOp .NotEq) rNe:=by
 intro pins s σ H x y v u Q I rx ry h
 obtain⟨hs,q⟩:=h
 cases x with
 |non =>
  cases rx
  cases y with
  |non=>cases ry;exact PySem.EqNone.ne_none_none (gE I q (by simp))
  |bl j=>cases ry;exact PySem.EqNone.ne_none_bool (gE I q (by simp))
  |int j=>obtain⟨t',rfl⟩:=ry;exact PySem.EqNone.ne_none_int (gE I q (by simp))
  |str j=>obtain⟨t',rfl⟩:=ry;exact PySem.EqNone.ne_none_str (gE I q (by simp))
  |_=>exact absurd (show false=true from hs) iS
 |bl i =>
  cases rx
  cases y with
  |non=>cases ry;exact PySem.EqNone.ne_bool_none (gE I q (by simp))
  |bl j=>cases ry;exact ne_bool (gE I q (congrArg not WD))
  |str j=>obtain⟨t',rfl⟩:=ry;exact PySem.EqMixed.ne_bool_str (gE I q (by simp))
  |_=>exact absurd (show false=true from hs) iS
 |int i =>
  obtain⟨t,rfl⟩:=rx
  cases y with
  |non=>cases ry;exact PySem.EqNone.ne_int_none (gE I q (by simp))
  |int j=>obtain⟨t',rfl⟩:=ry;exact ne_int (gE I q (congrArg not WC))
  |str j=>obtain⟨t',rfl⟩:=ry;exact PySem.EqMixed.ne_int_str (gE I q (by simp))
  |_=>exact absurd (show false=true from hs) iS
 |str i =>
  obtain⟨t,rfl⟩:=rx
  cases y with
  |non=>cases ry;exact PySem.EqNone.ne_str_none (gE I q (by simp))
  |bl j=>cases ry;exact PySem.EqMixed.ne_str_bool (gE I q (by simp))
  |int j=>obtain⟨t',rfl⟩:=ry;exact PySem.EqMixed.ne_str_int (gE I q (by simp))
  |str j=>obtain⟨t',rfl⟩:=ry;exact ne_str (gE I q (congrArg not WH))
  |_=>exact absurd (show false=true from hs) iS
 |sN i =>
  obtain⟨t,rfl⟩:=rx
  cases y with
  |sN j=>obtain⟨t',rfl⟩:=ry;exact PySem.W.ne_bytes (gE I q (congrArg not WK))
  |_=>exact absurd (show false=true from hs) iS
 |_=>cases y<;>exact absurd (show false=true from hs) iS
theorem bm':dr X (compareOp .Lt) (FU fun i j=>.bl (decide (i<j))):=Sg fun _ _ _ _ _ _ _ q=>lt_int q
theorem bn':dr X (compareOp .LtE) (FU fun i j=>.bl (decide (i<=j))):=Sg fun _ _ _ _ _ _ _ q=>le_int q
theorem bo':dr X (compareOp .Gt) (FU fun i j=>.bl (decide (j<i))):=Sg fun _ _ _ _ _ _ _ q=>gt_int q
theorem bp':dr X (compareOp .Lt) (fun x y H Q=>∃ i j,x=.str i/\y=.str j/\Q (.bl (decide (i.cps.toList<j.cps.toList))) H):=by
 intro pins s σ H x y v u Q I rx ry h
 obtain⟨i,j,rfl,rfl,q⟩:=h
 obtain⟨t,rfl⟩:=rx
 obtain⟨t',rfl⟩:=ry
 exact lt_str (gE I q rfl)
theorem bq':dr X (compareOp .In) (fun x y H Q=>∃ i j,x=.str i/\y=.str j/\Q (.bl (!(Builtin.Str.occurrences j i 0 j.length 1).isEmpty)) H):=by
 intro pins s σ H x y v u Q I rx ry h
 obtain⟨i,j,rfl,rfl,q⟩:=h
 obtain⟨t,rfl⟩:=rx
 obtain⟨t',rfl⟩:=ry
 exact in_str (gE I q rfl)
theorem bs':dr X (compareOp .NotIn) (fun x y H Q=>∃ i j,x=.str i/\y=.str j/\Q (.bl (!(!(Builtin.Str.occurrences j i 0 j.length 1).isEmpty))) H):=by
 intro pins s σ H x y v u Q I rx ry h
 obtain⟨i,j,rfl,rfl,q⟩:=h
 obtain⟨t,rfl⟩:=rx
 obtain⟨t',rfl⟩:=ry
 exact notIn_str (gE I q rfl)
theorem dr.or(h:dr X f r)(h':dr X f r'):dr X f (fun x y H Q=>r x y H Q\/r' x y H Q):=by
 intro pins s σ H x y v u Q I rx ry q
 rcases q with q|q
 ·exact h pins s σ H x y v u Q I rx ry q
 ·exact h' pins s σ H x y v u Q I rx ry q
theorem i3(b:Expr)(h:op≠.In:=by decide)(h2:op≠.NotIn:=by decide):behindInMarks op b=false:=by
 have e1:(op == CmpOp.In)=false:=by cases op<;>first|rfl|exact absurd rfl h
 have e2:(op == CmpOp.NotIn)=false:=by cases op<;>first|rfl|exact absurd rfl h2
 cases b<;>simp[behindInMarks,e1,e2]
theorem bt'{op:CmpOp}{r:R2}(ho:dr X (compareOp op) r)(ha:PE X a ta)(hb:PE X b tb)(hm:behindInMarks op b=false):PE X (.Compare a [op] [b] pos) (Lv r ta tb):=by
 intro pins s σ H Q I h
 exact wpAny_Compare1 (Se ha hb I h fun v u s2 x y H2 I2 rx ry q=>ho pins s2 σ H2 x y v u Q I2 rx ry q) hm
def Sh(t:TE):TT:=fun σ H Q=>t σ H fun x H'=>∃ k,x=.bl k/\Q k H'
theorem bu'(ho:dr X (compareOp op) r)(ha:PE X a ta)(hb:PE X b tb)(hm:behindInMarks op b=false):PT X (.Compare a [op] [b] pos) (Sh (Lv r ta tb)):=by
 intro pins s σ H Q I h
 refine wpAny_isTrue_Compare1 (cK (ha pins s σ H _ I h) fun v s1 cy=>L2.fz cy fun x H1 I1 r1 q1=>cK (hb pins s1 σ H1 _ I1 q1) fun u s2 cy=>L2.fz cy fun y H2 I2 r2 q2 =>
  cK (ho pins s2 σ H2 x y v u _ I2 r1 r2 q2) fun c s3 ⟨z,H3,I3,r3,k,e,q3⟩=>?_) hm
 subst e
 cases r3
 exact wpAny_truthy_bool ⟨H3,I3,q3⟩
def WL(r r':R2)(ta tb tc:TE):TE:=fun σ H Q=>ta σ H fun x H1=>tb σ H1 fun y H2=>r x y H2 fun z H3=>∃ k,z=.bl k /\
 (if k=true then tc σ H3 fun w' H4=>r' y w' H4 Q else Q (.bl false) H3)
theorem bv'(ho:dr X (compareOp op) r)(lT:dr X (compareOp op') r')(ha:PE X a ta)(hb:PE X b tb)(hc:PE X c tc)
  (hm:lastMarks [op,op'] [b,c]=false:=by with_unfolding_all rfl):PT X (.Compare a [op,op'] [b,c] pos) (Sh (WL r r' ta tb tc)):=by
 intro pins s σ H Q I h
 refine isTrue_chain (cK (ha pins s σ H _ I h) fun v s1 cy=>L2.fz cy fun x H1 I1 r1 q1=>test_link (cK (hb pins s1 σ H1 _ I1 q1) fun u s2 cy=>L2.fz cy fun y H2 I2 r2 q2 =>
  cK (ho pins s2 σ H2 x y v u _ I2 r1 r2 q2) fun d s3 ⟨z,H3,I3,r3,k,e,q3⟩=>?_)) hm
 subst e
 cases r3
 refine wpAny_truthy_bool ?_
 cases k with
 |false =>
  obtain⟨k',e',q'⟩:=q3
  cases e'
  exact ite_ff ⟨H3,I3,q'⟩
 |true =>
  refine ite_tt (test_last (cK (hc pins s3 σ H3 _ I3 q3) fun w' s4 ⟨z',H4,I4,r4,q4⟩=>cK (lT pins s4 σ H4 y z' u w' _ I4 r2 r4 q4) fun d' s5 df=>?_))
  obtain⟨z2,H5,I5,r5,k2,e2,q5⟩:=df
  subst e2
  cases r5
  exact wpAny_truthy_bool ⟨H5,I5,q5⟩
theorem PY:(sizeLine:Nat)<2 ^ 63:=by rw[sizeLine_eq];decide
theorem bw':dr X (binaryOp .Add) (fun x y H Q=>∃ i j,x=.str i/\y=.str j/\i.length+j.length<=sizeLine/\Q (.str (i++j)) H):=by
 intro pins s σ H x y v u Q I rx ry h
 obtain⟨i,j,rfl,rfl,hz,q⟩:=h
 obtain⟨t,rfl⟩:=rx
 obtain⟨t',rfl⟩:=ry
 exact add_str (fun t' tk=>⟨.str (i++j),H,I.tok _,⟨_,rfl⟩,q⟩) hz
theorem vals1(r:Vals [x] us):∃ u,us=[u]/\RelV x u:=by
 cases r with
 |cons r1 r2=>cases r2;exact⟨_,rfl,r1⟩
theorem vals2(r:Vals [x,y] us):∃ u w',us=[u,w']/\RelV x u/\RelV y w':=by
 cases r with
 |cons r1 r2 =>
  cases r2 with
  |cons r3 r4=>cases r4;exact⟨_,_,rfl,r1,r3⟩
theorem bx' (hc:X.calm=true):mh X (.builtin "max") (fun xs H Q=>∃ i j,xs=[.int i,.int j]/\Q (.int (if j>i then j else i)) H):=by
 intro pins s σ H xs us Q I r h
 obtain⟨i,j,rfl,q⟩:=h
 obtain⟨u,w',rfl,⟨t,rfl⟩,⟨t',rfl⟩⟩:=vals2 r
 refine max_two_ints (I.ok.hd hc) fun h' tk k=>⟨_,H,I.kept k,?_,q⟩
 by_cases hj:j>i
 ·rw[if_pos hj,if_pos hj];exact⟨_,rfl⟩
 ·rw[if_neg hj,if_neg hj];exact⟨_,rfl⟩
def by'(K:PySem.W.Frag)(x:V)(H:Hp)(n:Nat):Prop :=
 match x with
 |.str y=>y.length<=sizeLine/\n=y.length
 |.sN y=>y.size<=sizeLine/\n=y.size
 |.ref p=>(∃ xs,eR K H p xs/\n=xs.length)\/∃ xs,oz K H p xs/\n=xs.length
 |_=>False
theorem Si:mh X (.builtin "len") (fun xs H Q=>∃ x n,xs=[x]/\by' X.K x H n/\Q (.int n) H):=by
 intro pins s σ H xs us Q I r h
 obtain⟨x,n,rfl,e,q⟩:=h
 obtain⟨u,rfl,rx⟩:=vals1 r
 have hl:=PY
 have hs:sizeLine=16777216:=sizeLine_eq
 cases x with
 |str y =>
  obtain⟨t,rfl⟩:=rx
  obtain⟨hy,e'⟩:y.length<=sizeLine/\n=y.length:=e
  subst e'
  exact len_str (by lia) ⟨.int _,H,I.tok _,⟨_,rfl⟩,q⟩
 |sN y =>
  obtain⟨t,rfl⟩:=rx
  obtain⟨hy,e'⟩:y.size<=sizeLine/\n=y.size:=e
  subst e'
  exact PySem.W.len_bytes (by walk_at "s4") ⟨.int _,H,I.tok _,⟨_,rfl⟩,q⟩
 |ref p =>
  cases rx
  have e':(∃ xs,eR X.K H p xs/\n=xs.length)\/∃ xs,oz X.K H p xs/\n=xs.length:=e
  rcases e' with⟨xs,hx,e'⟩|⟨xs,hx,e'⟩
  ·subst e'
   obtain⟨its,r',pl,hz⟩:=I.list hx
   have hlen:=r'.length
   exact Calls.call_len_list pl.isList (by simp only[iq];lia) ⟨.int xs.length,H,I.tok _,⟨_,by simp only[iq];rw[hlen]⟩,q⟩
  ·subst e'
   obtain⟨its,r',pl,hz⟩:=I.tuple hx
   have hlen:=r'.length
   exact len_tuple pl (by simp only[iq];lia) ⟨.int xs.length,H,I.tok _,⟨_,by simp only[iq];rw[hlen]⟩,q⟩
 |_=>exact(show False from e).elim
end
structure Sj(h:Heap)(x dx C:Addr)(mA:Str->Option Value):Prop where
 obj:h.get? x=some (PySem.W.instObj C dx)
 ns:h.Ns1 dx mA
 ne:dx≠x
theorem lookIn_ns{h:Heap}{dx:Addr}{mA:Str->Option Value}(n:h.Ns1 dx mA):∃ od,h.get? dx=some od/\∀ name,PySem.W.lookIn name od=some (mA name):=by
 obtain⟨o,es,ep,ho,hd,hk,_,hm⟩:=n
 refine⟨o,ho,fun name=>?_⟩
 have e:=hm name
 unfold nsFind findBy at e
 rw[<- Array.find?_toList] at e
 unfold PySem.W.lookIn
 rw[hd]
 dsimp only
 split
 ·rename_i y q
  rw[q] at e
  exact congrArg some e
 ·rename_i q
  rw[q] at e
  have a:es.toList.any (·.refKey)=false:=by
   rw[List.any_eq_false]
   intro y hy
   obtain⟨z,t,bz'⟩:=hk y (Array.mem_toList_iff.mp hy)
   simp[DictEntry.refKey,bz']
  have a':¬ es.toList.any (·.refKey)=true:=by rw[a];exact iS
  rw[if_neg a']
  exact congrArg some e
theorem Sj.look(I:Sj h x dx C mA):∃ od,PySem.W.InstAt h x (PySem.W.instObj C dx) C (some od)/\∀ name,PySem.W.lookIn name od=some (mA name) :=
 let ⟨od,ho,hl⟩:=lookIn_ns I.ns
 ⟨od,⟨I.obj,rfl,rfl,ho⟩,hl⟩
theorem sP.some_of(r:sP (some v) o):∃ u,o=some u/\RelV v u:=by
 cases o with
 |none=>exact(show False from r).elim
 |some u=>exact⟨u,rfl,r⟩
section
variable {P:Program}{w:World}{H:Hp}{h:Heap}{a C dx:Addr}{fs:List (Str × V)}
theorem PZ(bp:fT P w H h)(e:H a=some (.ins C dx fs)):∃ mA,Sj h a dx C mA/\(∀ f,sP (fs.lookup f) (mA f))/\PySem.Within mA (fs.map (·.1))/\fs.length<=1000/\H dx=some (.own a):=by
 obtain⟨d,z,ne,ob,mA,n,r,q⟩:=(show fA P w H h a (.ins C dx fs) from bp a _ e)
 exact⟨mA,⟨ob,n,ne⟩,r,q,z,d⟩
end
structure Sn(K:PySem.W.Frag)(C:Addr):Prop where
 pg:PySem.W.plainGet K C Str.empty=true
 hd:PySem.W.hasDictIn K C=true
 po:PySem.W.plainOver K C=true
 sa:PySem.W.findIn K (.ref C) "__setattr__" = some (some (.builtin "object.__setattr__"))
theorem Sn.get{K:PySem.W.Frag}(c:Sn K C)(f:Str):PySem.W.plainGet K C f=true:=c.pg
section
variable {X:Cx}{pins:List (Addr × Obj)}{σ:St}{H:Hp}{s:Shared}{A:Around}{E:Value->Shared->Prop}{Q:Value->Shared->Prop}{c:Value}{b:Bool}
inductive uj(K:PySem.W.Frag)(H:Hp):V->Value->Prop where
 |non:uj K H .non (.type "NoneType")
 |bl (x:Bool):uj K H (.bl x) (.type "bool")
 |int (i:Int):uj K H (.int i) (.type "int")
 |str (x:Str):uj K H (.str x) (.type "str")
 |zS (x:UInt64):uj K H (.zS x) (.type "float")
 |lst {a:Addr} {xs:List V} (e:H a=some (.lst xs)):uj K H (.ref a) (.type "list")
 |lS {a:Addr} {o:Obj} {xs:List V} (e:H a=some (.lS o (.lst xs))):uj K H (.ref a) (.type "list")
 |tup {a:Addr} {xs:List V} (e:H a=some (.tup xs)):uj K H (.ref a) (.type "tuple")
 |dK {a:Addr} {ae:List (Key × V)} (e:H a=some (.dK ae)):uj K H (.ref a) (.type "dict")
 |dT {a:Addr} {ae:List (List Key × V)} (e:H a=some (.dT ae)):uj K H (.ref a) (.type "dict")
 |ins {a C dx:Addr} {fs:List (Str × V)} (e:H a=some (.ins C dx fs)) (cl:Sn K C) (ha:PySem.W.findIn K (.ref C) "__class__" = some (some (.builtin "object.__class__")))
   (hn:PySem.W.specialIn K (.builtin "object.__class__") "__get__" = some (some (.builtin "getset_descriptor.__get__"))) (WM:PySem.W.takesIn K (.builtin "object.__class__")=some true)
   (hm:PySem.W.mroIn K C (.type "object")=some true):uj K H (.ref a) (.ref C)
theorem LB(I:Inv X pins σ H s)(rx:RelV x u)(ty:uj X.K H x t)(e:PySem.W.kitOne X.K t c=some b)(h:∀ tk,Q (.bool b) { s with toks:=tk }) :
  wpAny (model X.prog X.w) A (call (.builtin "isinstance") [u,c]) Q E s:=by
 cases ty with
 |non=>cases (show u=Value.none from rx);exact PySem.W.kia_one PySem.W.kitx_none I.h9 True.intro e (fun z=>nomatch z) h
 |bl y=>cases (show u=Value.bool y from rx);exact PySem.W.kia_one PySem.W.kitx_bool I.h9 True.intro e (fun z=>nomatch z) h
 |int i=>obtain⟨t,q⟩:=(show ∃ t,u=Value.int i t from rx);cases q;exact PySem.W.kia_one PySem.W.kitx_int I.h9 True.intro e (fun z=>nomatch z) h
 |str y=>obtain⟨t,q⟩:=(show ∃ t,u=Value.str y t from rx);cases q;exact PySem.W.kia_one PySem.W.kitx_str I.h9 True.intro e (fun z=>nomatch z) h
 |zS y=>obtain⟨t,q⟩:=(show ∃ t,u=Value.float y t from rx);cases q;exact PySem.W.kia_one PySem.W.kitx_float I.h9 True.intro e (fun z=>nomatch z) h
 |@lst a xs ea =>
  cases (show u=Value.ref a from rx)
  obtain⟨_,_,n,_,h1⟩:=(show fA X.prog X.w H s.heap a (.lst xs) from I.bp a _ ea)
  exact PySem.W.kia_one PySem.W.kitx_list I.h9 ⟨_,h1,rfl⟩ e (fun z=>nomatch z) h
 |@lS a ob xs ea =>
  cases (show u=Value.ref a from rx)
  obtain⟨_,_,_,n,_,h1⟩:=(show fA X.prog X.w H s.heap a (.lS ob (.lst xs)) from I.bp a _ ea)
  exact PySem.W.kia_one PySem.W.kitx_list I.h9 ⟨_,h1,rfl⟩ e (fun z=>nomatch z) h
 |@tup a xs ea =>
  cases (show u=Value.ref a from rx)
  obtain⟨_,_,_,p⟩:=(show fA X.prog X.w H s.heap a (.tup xs) from I.bp a _ ea)
  obtain⟨o,h1,h2,_⟩:=p
  exact PySem.W.kia_one PySem.W.kitx_tuple I.h9 ⟨o,h1,h2⟩ e (fun z=>nomatch z) h
 |@dK a ae ea =>
  cases (show u=Value.ref a from rx)
  obtain⟨_,_,vs,_,p⟩:=(show fA X.prog X.w H s.heap a (.dK ae) from I.bp a _ ea)
  obtain⟨o,es,ep,h1,h2,_⟩:=p
  exact PySem.W.kia_one PySem.W.kitx_dict I.h9 ⟨o,h1,h2.1⟩ e (fun z=>nomatch z) h
 |@dT a ae ea =>
  cases (show u=Value.ref a from rx)
  obtain⟨_,_,xs,_,o,es,ep,h1,h2,_⟩:=(show fA X.prog X.w H s.heap a (.dT ae) from I.bp a _ ea)
  exact PySem.W.kia_one PySem.W.kitx_dict I.h9 ⟨o,h1,h2.1⟩ e (fun z=>nomatch z) h
 |@ins a C dx fs ea cl ha hn WM hm =>
  cases (show u=Value.ref a from rx)
  obtain⟨mA,O,_⟩:=PZ I.bp ea
  obtain⟨od,J,_⟩:=O.look
  exact PySem.W.kia_one (PySem.W.kitx_own (cl.get _) cl.hd ha hn WM hm) I.h9 J e (fun z=>nomatch z) h
end
structure gI(k:Nat)(A:Around):Prop where
 hd:A.handled=none
 dp:A.depth+3*k+5<recursionLimit
 un:A.units+16*k+200<cLine
theorem gI.mono(r:gI k A)(h:j<=k):gI j A:=⟨r.hd,by have:=r.dp;lia,by have:=r.un;lia⟩
theorem gI.deeper(r:gI (k+1) A)(env:Env):gI k (A.deeper env) :=
 ⟨r.hd,by have:=r.dp;show A.depth+1+3*k+5<_;lia,by have:=r.un;show A.units+3+16*k+200<_;lia⟩
theorem gI.depth(r:gI k A):A.depth<recursionLimit:=by have:=r.dp;lia
theorem gI.units(r:gI k A):A.units+64<cLine:=by have:=r.un;lia
def WN:TA:=fun _ H Q=>Q [] H
def WQ(ta:TE)(tr:TA):TA:=fun σ H Q=>ta σ H fun x H1=>tr σ H1 fun xs H2=>Q (x :: xs) H2
section
variable {X:Cx}{e:Expr}{es:List Expr}{te:TE}{t:TA}{pos:Pos}
theorem uk:PA X [] WN:=fun _ _ _ _ H Q I h=>Calls.spliced_nil ⟨[],H,I,.nil,h⟩
theorem pT(ha:PE X e te)(hr:PA X es t)(hs:starEach (e :: es) X.env=(false,eval e X.env) :: starEach es X.env:=by rfl):PA X (e :: es) (WQ te t):=by
 intro pos pins s σ H Q I h
 rw[hs]
 show wpAny _ _ (spliced ((false,eval e X.env) :: backTo pos (starEach es X.env))) _ _ s
 refine Calls.spliced_cons (cK (ha pins s σ H _ I h) fun u s1 cy=>L2.fz cy fun x H1 I1 r1 q1=>?_)
 exact cK (hr pos pins s1 σ H1 _ I1 q1) fun us s2 cy=>L2.fz cy fun xs H2 I2 r2 q2=>⟨x :: xs,H2,I2,.cons r1 r2,q2⟩
def bA'(t:TA):TE:=fun σ H Q=>t σ H fun xs H1=>xs.length<=sizeLine/\∀ p,H1 p=none->Q (.ref p) (upd H1 p (.tup xs))
def bB'(t:TA):TE:=fun σ H Q=>t σ H fun xs H1=>xs.length<=sizeLine/\∀ p,H1 p=none->Q (.ref p) (upd H1 p (.lst xs))
theorem WR{x1}(h:PA X es t):PE X (.Tuple es x1 pos) (bA' t):=by
 intro pins s σ H Q I hq
 refine wpAny_Tuple_spliced (cK (h pos pins s σ H _ I hq) fun us s1 ⟨xs,H1,I1,r,z,q⟩=>⟨by rw[<- r.length];exact z,?_⟩)
 have hf:H1 s1.heap.objs.size=none:=I1.bp.fresh (cq _)
 refine⟨.ref s1.heap.objs.size,upd H1 s1.heap.objs.size (.tup xs),I1.laid (t':=s1.toks) (fun b u e=>fw _ e) (cq _) ?_,rfl,q _ hf⟩
 exact⟨z,us,r,⟨_,kr _ rfl,rfl,_,rfl⟩⟩
theorem bC'(h:PA X es t):PE X (.List es pos) (bB' t):=by
 intro pins s σ H Q I hq
 refine wpAny_List_spliced (cK (h pos pins s σ H _ I hq) fun us s1 ⟨xs,H1,I1,r,z,q⟩=>⟨by rw[<- r.length];exact z,?_⟩)
 have hf:H1 s1.heap.objs.size=none:=I1.bp.fresh (cq _)
 refine⟨.ref s1.heap.objs.size,upd H1 s1.heap.objs.size (.lst xs),I1.laid (t':=s1.toks) (fun b u e=>fw _ e) (cq _) ?_,rfl,q _ hf⟩
 exact⟨z,us,0,r,kr _ rfl⟩
end
abbrev Sp:=List V->Hp->VK->XK->Prop
abbrev Au:=List Env->Hp->Shared->XK->Value->Shared->Prop
structure P2(P:Program)(w:World)(K:PySem.W.Frag)(mg:Str->Option Value)(base:Heap)(A:Around)(outer:List Env)(s:Shared)(H:Hp):Prop where
 frames:A.frames=some outer
 mod:Mod K mg base
 bs:∀ b o,base.get? b=some o->s.heap.get? b=some o/\H b=none
 sQ:base.objs.size<=s.heap.objs.size
 pE:s.heap.FunFrames base outer
 vT:∀ b∈fF outer,H b=none
 bp:fT P w H s.heap
 bare:AllBare s.gens
def CE(outer:List Env)(P:Program)(w:World)(H:Hp)(s:Shared)(Q:VK)(u:Value)(s':Shared):Prop :=
 ∃ v H',s'.os=s.os/\AllBare s'.gens/\Un (fF outer) [] H H' s.heap s'.heap/\fT P w H' s'.heap/\RelV v u/\Q v H'
def CR(CX:Au)(outer:List Env)(P:Program)(w:World)(H:Hp)(s:Shared)(Q:VK)(E:XK)(r:Result)(s':Shared):Prop :=
 match r with
 |.ok (.ret u)=>CE outer P w H s Q u s'
 |.ok _=>False
 |.error e=>CX outer H s E e s'
structure eS(P:Program)(w:World)(K:PySem.W.Frag)(mg:Str->Option Value)(base:Heap)(CX:Au)(k:Nat)(f:Addr)(fd:FuncData)(ps:List Str)(sp:Sp):Prop where
 len:∀ vs H Q E,sp vs H Q E->vs.length=ps.length
 run:∀ (A:Around) (outer:List Env) (s:Shared) (H:Hp) (args:Args) (us:List Value) (vs:List V) (Q:VK) (E:XK),gI k A->P2 P w K mg base A outer s H->BindsTo s fd args (ps.zip us)->Vals vs us->sp vs H Q E ->
  codeAny (model P w) A (.call (.ref f) args) (CR CX outer P w H s Q E) s
theorem eS.imp{P:Program}{K:PySem.W.Frag}{ps:List Str}(F:eS P w K mg base CX k f fd ps sp)
  (h:∀ vs H Q E,sp' vs H Q E->sp vs H Q E):eS P w K mg base CX k f fd ps sp' :=
 ⟨fun vs H Q E q=>F.len vs H Q E (h _ _ _ _ q),fun A outer s H args us vs Q E hr he hb hv hs=>F.run A outer s H args us vs Q E hr he hb hv (h _ _ _ _ hs)⟩
section
variable {X:Cx}{pins:List (Addr × Obj)}{σ:St}{H:Hp}{s s':Shared}
theorem Inv.WU(I:Inv X pins σ H s):P2 X.prog X.w X.K X.mg X.base X.A X.stack s H :=
 ⟨I.ok.frames,I.ok.mod,I.bs,fS I.ok.sQ I.sz,I.stack,I.R3,I.bp,I.bare⟩
theorem Inv.after(I:Inv X pins σ H s)(h:CE X.stack X.prog X.w H s Q u s'):EP X pins σ Q u s':=by
 obtain⟨v,H',os,bare,un,bp,r,q⟩:=h
 obtain⟨hh,g,d,t,Sq⟩:=s'
 obtain rfl:Sq=s.os:=os
 exact⟨v,H',I.call (h':=hh) (g':=g) (d':=d) (t':=t) (ch:=[]) un bp bare (fun b z=>absurd z (by simp)),r,q⟩
end
def DZ(sp:Sp)(BE:List V)(E:XK)(t:TA):TE:=fun σ H Q=>t σ H fun vs H1=>sp (vs++BE) H1 Q E
def Binds(K:PySem.W.Frag)(fd:FuncData)(ps:List Str)(ds:List Value):Prop :=
 ∀ (s:Shared) (us:List Value),K.In s.heap->(us++ds).length=ps.length->BindsTo s fd ⟨us,[]⟩ (ps.zip (us++ds))
theorem Binds.all{K:PySem.W.Frag}{ps:List Str}(h:∀ us:List Value,us.length=ps.length->bindArgs fd ⟨us,[]⟩=pure (ps.zip us)):Binds K fd ps []:=fun s us _ hl=>by
 rw[kF] at hl ⊢
 exact .of_eq (h us hl)
def Passes(CX:Au)(X:Cx)(E:XK):Prop:=∀ (pins:List (Addr × Obj)) (σ:St) (H:Hp) (s:Shared) (e:Value) (s':Shared),Inv X pins σ H s->CX X.stack H s E e s'->X.xe e s'
section
variable {X:Cx}{CX:Au}{k:Nat}{f:Addr}{fd:FuncData}{ps:List Str}{sp:Sp}{BE:List V}{ds:List Value}{E:XK}{x:Str}{p pos:Pos}{e:Expr}{es:List Expr}{t:TA}
theorem bE'(F:eS X.prog X.w X.K X.mg X.base CX k f fd ps sp)(hr:gI k X.A)(hb:Binds X.K fd ps ds)(hd:Vals BE ds)(hx:Passes CX X E)
  (I:Inv X pins σ H s) (r:Vals vs us) (h:sp (vs++BE) H Q E):wpAny (model X.prog X.w) X.A (call (.ref f) us) (EP X pins σ Q) X.xe s:=by
 have r2:Vals (vs++BE) (us++ds):=r.append hd
 have hl:(us++ds).length=ps.length:=by rw[<- r2.length];exact F.len _ _ _ _ h
 refine wpAny_call (codeAny_mono (F.run X.A X.stack s H ⟨us,[]⟩ (us++ds) (vs++BE) Q E hr I.WU (hb s us I.h9 hl) r2 h) fun r s' hq=>?_)
 cases r with
 |error e=>exact hx pins σ H s e s' I hq
 |ok fl =>
  cases fl with
  |ret u=>exact I.after hq
  |next=>exact False.elim hq
  |brk=>exact False.elim hq
  |cont=>exact False.elim hq
theorem WV(F:eS X.prog X.w X.K X.mg X.base CX k f fd ps sp)(hr:gI k X.A)(hg:Gl X x)(hm:X.mg x=some (.ref f))(hk:PySem.W.keepIn X.K (.ref f)=true)(hb:Binds X.K fd ps ds)(hd:Vals BE ds)(hx:Passes CX X E)
  (ha:PA X (e :: es) t) (gL:(x == ("__debug__" : Str))=false:=by decide) (he:starEach (e :: es) X.env=(false,eval e X.env) :: starEach es X.env:=by rfl) (ic:(backTo pos (starEach es X.env)).any (·.1)=false:=by rfl) :
  PE X (.Call (.Name x p) (e :: es) [] pos) (DZ sp BE E t):=by
 intro pins s σ H Q I h
 refine wpAny_Call_Name_kw (K2 I hg hm ?_ gL)
 refine PySem.W.callWith_K (h₀:=X.base) I.ok.mod.KG hk (cK (ha pos pins s σ H _ I h) fun us s1 cy=>L2.fz cy fun vs H1 I1 r q=>⟨I1.h9,?_⟩) he ic
 exact bE' F hr hb hd hx I1 r q
end
structure g9(N P:List Str)(sc:Scope):Prop where
 kind:sc.kind=.function
 co:sc.isCoroutine=false
 gen:sc.isGenerator=false
 nd:N.Nodup
 pre:N.take P.length=P
 par:∀ x∈P,sc.names.lookup x=some .local\/sc.names.lookup x=some .cell
 bF':∀ y∈sc.names,y.2≠.free
theorem WW{kindOf:Str->Option NameKind}:∀ {binds:List (Str × Value)} {m:Str->Option Value},(∀ v,(x,v)∉binds)->bindL kindOf binds m x=m x
 |[],_,_=>rfl
 | (n,v) :: r,m,h=>by
  unfold bindL
  rw[WW fun w hw=>h w (dn _ hw)]
  split
  ·have:x≠n:=by rintro rfl;exact h v dz
   simp[this]
  ·rfl
theorem WY{kindOf:Str->Option NameKind}:∀ {binds:List (Str × Value)} {m:Str->Option Value},(∀ v,(x,v)∉binds)->bindC kindOf binds m x=m x
 |[],_,_=>rfl
 | (n,v) :: r,m,h=>by
  unfold bindC
  rw[WY fun w hw=>h w (dn _ hw)]
  split
  ·rfl
  ·have:x≠n:=by rintro rfl;exact h v dz
   simp[this]
theorem WZ{kindOf:Str->Option NameKind}:∀ {P:List Str} {vs:List Value} {i:Nat} {m:Str->Option Value},P.Nodup->P[i]? = some x->vs[i]? = some v->kindOf x=some .local ->
  bindL kindOf (P.zip vs) m x=some v
 |[],_,_,_,_,h,_,_=>by simp at h
 |_ :: _,[],_,_,_,_,h,_=>by simp at h
 |p :: P,w :: vs,0,m,nd,h1,h2,hk=>by
  simp at h1 h2;subst h1;subst h2
  show bindL kindOf ((p,w) :: P.zip vs) m p=_
  unfold bindL
  rw[WW fun v hv=>(ox.mp nd).1 (List.of_mem_zip hv).1,if_pos hk]
  simp
 |p :: P,w :: vs,i+1,m,nd,h1,h2,hk=>by
  show bindL kindOf ((p,w) :: P.zip vs) m x=_
  unfold bindL
  exact WZ (i:=i) (ox.mp nd).2 (by simpa using h1) (by simpa using h2) hk
theorem W0{kindOf:Str->Option NameKind}:∀ {P:List Str} {vs:List Value} {i:Nat} {m:Str->Option Value},P.Nodup->P[i]? = some x->vs[i]? = some v->kindOf x≠some .local ->
  bindC kindOf (P.zip vs) m x=some v
 |[],_,_,_,_,h,_,_=>by simp at h
 |_ :: _,[],_,_,_,_,h,_=>by simp at h
 |p :: P,w :: vs,0,m,nd,h1,h2,hk=>by
  simp at h1 h2;subst h1;subst h2
  show bindC kindOf ((p,w) :: P.zip vs) m p=_
  unfold bindC
  rw[WY fun v hv=>(ox.mp nd).1 (List.of_mem_zip hv).1,if_neg hk]
  simp
 |p :: P,w :: vs,i+1,m,nd,h1,h2,hk=>by
  show bindC kindOf ((p,w) :: P.zip vs) m x=_
  unfold bindC
  exact W0 (i:=i) (ox.mp nd).2 (by simpa using h1) (by simpa using h2) hk
def start(N:List Str)(vs:List V):St:=vs.map some++List.replicate (N.length-vs.length) none
def mr(CX:Au)(P:Program)(w:World)(K:PySem.W.Frag)(mg:Str->Option Value)(base:Heap)(N:List Str)(qual:Str)(scope:Scope)(f:Addr)(cd:Value)(A:Around)(outer:List Env)(s:Shared)(H:Hp)(E:XK):Cx where
 prog:=P
 w:=w
 K:=K
 mg:=mg
 base:=base
 A:=A.deeper (envOfC qual scope s.heap.objs.size f cd)
 N:=N
 eC:=s
 vS:=H
 env:=envOfC qual scope s.heap.objs.size f cd
 outer:=outer
 stack:=envOfC qual scope s.heap.objs.size f cd :: outer
 ex:=[]
 calm:=true
 fn:=fun _=>true
 pn:=[]
 xe:=fun e s'=>wpAny (model P w) (A.deeper (envOfC qual scope s.heap.objs.size f cd)) (leaving (envOfC qual scope s.heap.objs.size f cd) e) (fun _ BF=>CX outer H s E e BF) (fun e' BF=>CX outer H s E e' BF) s'
theorem W3{sc:Scope}{n:Nat}{x:Str}(h:sc.names.lookup x=some .cell):∃ c,(cellsFrom n sc.names []).lookup x=some c:=by
 have q:=PySem.W.cellsFrom_some sc.names n [] (.inl h)
 exact Option.isSome_iff_exists.mp q
theorem bG'{CX:Au}{P:Program}{w:World}{K:PySem.W.Frag}{mg:Str->Option Value}{base:Heap}{N ps:List Str}{qual:Str}{scope:Scope}{f:Addr}{cd:Value}{A:Around}{outer:List Env}{s s1:Shared}{H:Hp}{E:XK}{us:List Value}{vs:List V}
  (S:g9 N ps scope) (hd:A.handled=none) (e0:P2 P w K mg base A outer s H) (hl:vs.length=ps.length) (r:Vals vs us)
  (x:InCallC s s.heap.objs.size (bindL (envOfC qual scope s.heap.objs.size f cd).kindOf (ps.zip us) fun _=>none) (cellsFrom (s.heap.objs.size+1) scope.names []) (bindC (envOfC qual scope s.heap.objs.size f cd).kindOf (ps.zip us) fun _=>none) s1) :
  Inv (mr CX P w K mg base N qual scope f cd A outer s H E) [] (start N vs) H s1:=by
 have ic:ps.length<=N.length:=by have:=congrArg List.length S.pre;rw[kz] at this;lia
 obtain⟨h1,tk,rfl,hk⟩:=x.done
 have LD:∀ b:Addr,b∉(mr CX P w K mg base N qual scope f cd A outer s H E).ex:=fun b z=>absurd (show b∈([]:List Addr) from z) (by simp)
 refine⟨⟨e0.mod,S.kind,rfl,rfl,cq _,fun y z c h1 h2=>?_,fun y hy=>?_,fun y c _ h=>?_,fun _=>hd,Around.frames_deeper e0.frames,.inr ⟨rfl,rfl⟩,fun b z=>absurd z (LD b),e0.bs,e0.sQ,fun b _ _=>LD b,fun b z=>absurd z (LD b),e0.pE,e0.vT⟩,
  rfl,e0.bare,Un.kept hk,⟨_,x.toInCall.ns,fun i y v h1 h2 h3=>?_⟩,fun y c h=>⟨_,x.cell y c h⟩,e0.bp.fresh (cq _),fun y c h=>?_,fun p hp=>absurd (show p∈([]:List (Addr × Obj)) from hp) (by simp),e0.bp.kept hk,?_⟩
 ·exact name_of_addr x.apart (PySem.mem_of_lookup h1) (PySem.mem_of_lookup h2)
 ·have hy:scope.names.lookup y=some .cell\/scope.names.lookup y=some .free:=hy
  rcases hy with hy|hy
  ·exact W3 hy
  ·exact absurd rfl (S.bF' _ (PySem.mem_of_lookup hy))
 ·exact kR (x.above y c (PySem.mem_of_lookup h))
 ·have hi:i<vs.length:=by
   unfold start at h2
   by_cases hi:i<vs.length
   ·exact hi
   ·rw[A4 (by simpa using hi)] at h2
    rw[List.getElem?_replicate] at h2
    split at h2<;>cases h2
  have ha:vs[i]? = some v:=by
   unfold start at h2
   rw[IG (by simpa using hi),ot] at h2
   cases e:vs[i]? with
   |none=>rw[e] at h2;cases h2
   |some a=>rw[e] at h2;cases h2;rfl
  obtain⟨u,hu,rv⟩:=r.get ha
  have hp:ps[i]? = some y:=by
   rw[<- S.pre,List.getElem?_take_of_lt (by lia)];exact h1
  have W4:ps.Nodup:=by rw[<- S.pre];exact S.nd.sublist (List.take_sublist _ _)
  refine⟨u,rv,?_⟩
  rcases S.par y (sL hp) with k|k
  ·exact .inl ⟨k,WZ W4 hp hu k⟩
  ·obtain⟨c,e⟩:=W3 (n:=s.heap.objs.size+1) k
   refine .inr ⟨.inl k,c,e,?_⟩
   have q:=x.cell y c e
   rw[W0 W4 hp hu (by show scope.names.lookup y≠_;rw[k];decide)] at q
   exact q
 ·exact e0.bp.fresh (kR (x.above y c (PySem.mem_of_lookup h)))
 ·unfold start
  show _=N.length
  rw[js,bP,List.length_replicate]
  lia
theorem W5{P:Program}{K:PySem.W.Frag}{dV kV doc pm cp ct oc:Value}
  {N ps:List Str} (lk:K.lookup f=some ⟨oc,od,.func (PySem.W.fnOf name qual params body scope dV kV doc pm an cp ct),D1⟩) (oy:PySem.W.codeIn K cp qual=true) (S:g9 N ps scope)
  (len:∀ vs H Q E,sp vs H Q E->vs.length=ps.length)
  (AA:∀ (A:Around) (outer:List Env) (s:Shared) (H:Hp) (vs:List V) (Q:VK) (E:XK),gI k (A.deeper (envOfC qual scope s.heap.objs.size f cp))->sp vs H Q E ->
   ∃ t,oa (mr CX P w K mg base N qual scope f cp A outer s H E) body t/\t { nx:=fun _ H'=>Q .non H',rt:=Q } (start N vs) H) :
  eS P w K mg base CX (k+1) f (PySem.W.fnOf name qual params body scope dV kV doc pm an cp ct) ps sp:=by
 refine⟨len,fun A outer s H args us vs Q E hr e0 hb r x5=>?_⟩
 have hl:=len _ _ _ _ x5
 have KX:K.In s.heap:=e0.mod.KG.keeps fun b o e=>(e0.bs b o e).1
 have lim:s.heap.NoLimit:=e0.mod.nolimit.keeps fun b o e=>(e0.bs b o e).1
 have bH':∀ y∈ps.zip us,scope.names.lookup y.1=some .local\/(scope.names.lookup y.1=some .cell/\((cellsFrom (s.heap.objs.size+1) scope.names []).lookup y.1).isSome=true):=fun⟨n,v⟩ hy=>by
  rcases S.par n (List.of_mem_zip hy).1 with q|q
  ·exact .inl q
  ·exact .inr ⟨q,PySem.W.cellsFrom_some _ _ _ (.inl q)⟩
 refine codeAny_call_function hr.depth (KX _ _ lk) rfl S.co S.gen rfl (PySem.W.codeRec_of KX oy) (hb _ _ _ _ ?_)
 refine wpAny_newFunctionEnv_cells S.kind bH' fun env he s1 x=>?_
 subst he
 refine⟨lim.keeps x.toInCall.keep,codeAny_func ?_⟩
 obtain⟨t,ht,hq⟩:=AA A outer s H vs Q E (hr.deeper _) x5
 have I:Inv (mr CX P w K mg base N qual scope f cp A outer s H E) [] (start N vs) H s1:=bG' S hr.hd e0 hl r x
 refine pe (ht [] s1 (start N vs) H _ I hq) (fun fl s' hs=>?_) fun e s' hs=>hs
 have fin:∀ {bE:St} {H':Hp} {v:V} {u:Value},Inv (mr CX P w K mg base N qual scope f cp A outer s H E) [] bE H' s'->RelV v u->Q v H'->CE outer P w H s Q u s' :=
  fun {bE H' v u} J rv q=>⟨v,H',J.os,J.bare,J.base,J.bp,rv,q⟩
 cases fl with
 |ret u =>
  obtain⟨v,bE,H',J,rv,q⟩:=hs
  exact fin J rv q
 |next =>
  obtain⟨bE,H',J,q⟩:=hs
  exact fin (v:=V.non) (u:=Value.none) J rfl q
 |brk =>
  obtain⟨_,_,_,q⟩:=hs
  exact False.elim q
 |cont =>
  obtain⟨_,_,_,q⟩:=hs
  exact False.elim q
section
variable {X:Cx}{x:Str}{p pos:Pos}{e:Expr}{es:List Expr}{t:TA}{id T:String}{r:List V->Hp->VK->Prop}
def Sr(r:List V->Hp->VK->Prop)(t:TA):TE:=fun σ H Q=>t σ H fun vs H1=>r vs H1 Q
theorem Ss (hc:mh X (.builtin id) r) (hg:Gl X x) (hm:X.mg x=none) (hv:bootBuiltins x=some (.builtin id)) (ha:PA X (e :: es) t) (hn:x ≠ "__name__" := by decide) (gL:(x == ("__debug__" : Str))=false:=by decide)
  (he:starEach (e :: es) X.env=(false,eval e X.env) :: starEach es X.env:=by rfl) (ic:(backTo pos (starEach es X.env)).any (·.1)=false:=by rfl):PE X (.Call (.Name x p) (e :: es) [] pos) (Sr r t):=by
 intro pins s σ H Q I h
 refine wpAny_Call_Name_kw (wa I hg hm hv ?_ hn gL)
 exact PyProof.Rows.callWith_builtin1 (cK (ha pos pins s σ H _ I h) fun us s1 cy=>L2.fz cy fun vs H1 I1 r1 q1=>hc pins s1 σ H1 vs us Q I1 r1 q1) he ic
theorem bI' (hc:mh X (.type T) r) (hg:Gl X x) (hm:X.mg x=none) (hv:bootBuiltins x=some (.type T)) (ha:PA X (e :: es) t) (hn:x ≠ "__name__" := by decide) (gL:(x == ("__debug__" : Str))=false:=by decide)
  (he:starEach (e :: es) X.env=(false,eval e X.env) :: starEach es X.env:=by rfl) (ic:(backTo pos (starEach es X.env)).any (·.1)=false:=by rfl):PE X (.Call (.Name x p) (e :: es) [] pos) (Sr r t):=by
 intro pins s σ H Q I h
 refine wpAny_Call_Name_kw (wa I hg hm hv ?_ hn gL)
 exact PyProof.Rows.callWith_type1 (cK (ha pos pins s σ H _ I h) fun us s1 cy=>L2.fz cy fun vs H1 I1 r1 q1=>hc pins s1 σ H1 vs us Q I1 r1 q1) he ic
end
end L2
namespace HT
open PySem PyProof.Rows
section
open PySem.SeqAt
open PySem.AutoSeq1 (wpAny_loadPart')
open PySem.MeetsSeq PySem.MeetsSeq2 PySem.MeetsSeq3
end
section
variable {prog:Program}{w:World}{A:Around}{E:Value->Shared->Prop}{s:Shared}
theorem bJ'(ht:IsTup s.heap t vs.toArray)(hb:IsTup s.heap b ws.toArray)(hv:vs≠[])
  (h1:ws=[]->Q (.ref t) s) (h2:ws≠[]->Q (.ref s.heap.objs.size) { s with heap:=s.heap.push { cls:=.type "tuple",data:=.seq (vs++ws).toArray } })
  (hsz:vs.length+ws.length<=sizeLine):wpAny (model prog w) A (binaryOp .Add (.ref t) (.ref b)) Q E s:=by
 obtain⟨⟨cls,dd,data,sl⟩,ho,hc,n,hd⟩:=id ht
 obtain⟨⟨bK',P4,data2,P5⟩,sR,LG,n2,hd2⟩:=id hb
 simp only at hc hd LG hd2
 subst hc hd LG hd2
 have e:vs.toArray++ws.toArray=(vs++ws).toArray:=by simp
 by_cases hw:ws=[]
 ·exact concat_meets ⟨_,ho,rfl⟩ ⟨_,sR,rfl⟩ noFill_tuple_add seq_tuple_add PySem.F.slot_tuple_add PySem.F.entry_tuple_add (PySem.F.args_tuple_add_2 _ _)
   (tuple_addW1 t b vs.toArray ws.toArray n n2 dd P4 sl P5 (by simpa using hv) (by simp[hw])) ⟨ho,sR,h1 hw⟩
 ·refine concat_meets ⟨_,ho,rfl⟩ ⟨_,sR,rfl⟩ noFill_tuple_add seq_tuple_add PySem.F.slot_tuple_add PySem.F.entry_tuple_add (PySem.F.args_tuple_add_2 _ _)
   (tuple_addW2 t b vs.toArray ws.toArray n n2 dd P4 sl P5 (by simpa using hv) (by simpa using hw) (by rw[iq,iq];exact hsz)) ⟨ho,sR,?_⟩
  rw[e]
  exact h2 hw
def bS(n d:Nat):Option Int->Nat
 |none=>d
 |some v=>if v<0 then (v+(n:Int)).toNat else min v.toNat n
theorem bL'(n d:Nat)(hd:d<=n)(o:Option Int):bS n d o<=n:=by
 cases o with
 |none=>exact hd
 |some v =>
  show(if v<0 then (v+(n:Int)).toNat else min v.toNat n)<=n
  by_cases hv:v<0
  ·rw[if_pos hv];lia
  ·rw[if_neg hv];exact Nat.min_le_right _ _
theorem W6(v:Int)(n d:Nat):(if v<0 then max (v+(n:Int)) 0 else min v (n:Int))=((bS n d (some v):Nat):Int):=by
 show(if v<0 then max (v+(n:Int)) 0 else min v (n:Int))=(((if v<0 then (v+(n:Int)).toNat else min v.toNat n):Nat):Int)
 by_cases hv:v<0
 ·simp only[if_pos hv];lia
 ·simp only[if_neg hv];lia
theorem bM'(lo hi:Option Int)(n:Nat):Builtin.Slice.sliceAdjust lo hi 1 (n:Int)=(((bS n 0 lo:Nat):Int),((bS n n hi:Nat):Int)):=by
 have h1:¬ ((1:Int)<0):=by decide
 unfold Builtin.Slice.sliceAdjust
 simp only[h1,if_false]
 refine Prod.ext ?_ ?_
 ·cases lo with
  |none=>rfl
  |some v=>exact W6 v n 0
 ·cases hi with
  |none=>rfl
  |some v=>exact W6 v n n
theorem bN'(i j:Nat):Builtin.Slice.slicePlaces (i:Int) (j:Int) 1=j-i:=by
 unfold Builtin.Slice.slicePlaces
 have h1:(1:Int)>0:=by exact lP _
 simp only[h1,if_true,Int.ediv_one]
 split<;>lia
theorem W7(p:IsPart v o)(h:Q o s):wpAny (model prog w) A (Builtin.Slice.slicePartIndex v) Q E s:=by
 cases p with
 |none=>exact slicePart_none h
 |int i t=>exact slicePart_int h
theorem bO'{sl:Addr}{vl vu:Value}{lo hi:Option Int}{n:Nat}{Q:Int × Int × Nat->Shared->Prop}(hs:s.heap.IsSliceOf sl vl vu .none)(pl:IsPart vl lo)(pu:IsPart vu hi)
  (h:Q (((bS n 0 lo:Nat):Int),1,bS n n hi-bS n 0 lo) s):wpAny (model prog w) A (Builtin.Slice.sliceApplied (.ref sl) (pure (n:Int))) Q E s:=by
 obtain⟨os,LH,uS,P6⟩:=id hs
 unfold Builtin.Slice.sliceApplied Builtin.Slice.sliceFields
 refine ax (ax (wpAny_field LH P6 (x:=vl) rfl (ax (wpAny_field LH P6 (x:=vu) rfl (ax (wpAny_field LH P6 (x:=.none) rfl (aS ?_)))))))
 refine ax (slicePart_none ?_)
 show wpAny _ _ (if ((1:Int) == 0)=true then _ else _) _ _ s
 rw[if_neg (by decide)]
 refine ax (W7 pl (ax (W7 pu (ax (aS ?_)))))
 show wpAny _ _ (match Builtin.Slice.sliceAdjust lo hi 1 (n:Int) with|(lo,hi)=>pure (lo,(1:Int),Builtin.Slice.slicePlaces lo hi 1)) _ _ s
 rw[bM' lo hi n]
 show wpAny _ _ (pure (((bS n 0 lo:Nat):Int),(1:Int),Builtin.Slice.slicePlaces ((bS n 0 lo:Nat):Int) ((bS n n hi:Nat):Int) 1)) _ _ s
 rw[bN']
 exact aS h
theorem bP'(xs:Array Value)(i k:Nat):((List.range k).filterMap fun(m:Nat)=>xs[((i:Int)+(m:Int)*1).toNat]?).toArray=((xs.toList.drop i).take k).toArray:=by
 have e:(fun(m:Nat)=>xs[((i:Int)+(m:Int)*1).toNat]?)=fun m=>xs[i+m]? := by
  funext m
  have:((i:Int)+(m:Int)*1).toNat=i+m:=by exact(DB ..).symm
  rw[this]
 rw[e]
 have:=pick_run xs i k
 rw[Rz] at this
 have e2:((fun x=>xs[x]?) ∘ fun x=>i+x)=fun m=>xs[i+m]? := rfl
 rw[e2] at this
 rw[this]
theorem bQ'{lo hi:Option Int}(ht:IsTup s.heap t items)(hs:s.heap.IsSliceOf sl vl vu .none)(pl:IsPart vl lo)(pu:IsPart vu hi)
  (hw:¬ (bS items.size 0 lo=0/\bS items.size items.size hi=items.size))
  (h:Q (.ref s.heap.objs.size) { s with heap:=s.heap.push { cls:=.type "tuple",data:=.seq ((items.toList.drop (bS items.size 0 lo)).take (bS items.size items.size hi-bS items.size 0 lo)).toArray } })
  (hsz:items.size<=sizeLine):wpAny (model prog w) A (getItem (.ref t) (.ref sl)) Q E s:=by
 have P7:sizeOk (.seq ((items.toList.drop (bS items.size 0 lo)).take (bS items.size items.size hi-bS items.size 0 lo)).toArray):=by
  show((items.toList.drop (bS items.size 0 lo)).take (bS items.size items.size hi-bS items.size 0 lo)).toArray.size<=sizeLine
  rw[iq,kz,zv,ua]
  lia
 have hj:bS items.size items.size hi<=items.size:=bL' _ _ (cq _) hi
 obtain⟨os,LH,uS,P6⟩:=id hs
 have hTs:s.TypeIs (.ref sl) "slice" := ⟨os,LH,uS⟩
 unfold getItem
 try with_reducible refine wpAny_holding ?_
 first|refine ax (aS ?_)|skip
 refine ax (wpAny_sequenceKey ht.typeIs (by decide) ?_)
 refine ax (wpAny_callSpecial?_slot (name:=Str.ofString "__getitem__") ht.typeIs PyProof.Rows.slot_tuple_getitem
  (wpAny_call_entry PyProof.Rows.slot_tuple_getitem ht.typeIs entry_tuple_getitem ?_ (args_tuple_getitem _ _)))
 show wpAny _ _ (Builtin.Tuple.tupleItemsOf (.ref t) >>= _) _ _ s
 refine ax (tupleItemsOf_ ht ?_)
 refine ax (wpAny_typeOf hTs ?_)
 rw[if_pos (by decide)]
 refine ax (bO' hs pl pu ?_)
 have BG:¬ ((((bS items.size 0 lo:Nat):Int) == 0 && (1:Int) == 1 && (bS items.size items.size hi-bS items.size 0 lo) == items.size)=true):=by
  intro q
  rw[kG,kG] at q
  have q1:((bS items.size 0 lo:Nat):Int)=0:=eq_of_beq q.1.1
  have q2:bS items.size items.size hi-bS items.size 0 lo=items.size:=eq_of_beq q.2
  exact hw ⟨by lia,by lia⟩
 show wpAny _ _ (if (((bS items.size 0 lo:Nat):Int) == 0 && (1:Int) == 1 && (bS items.size items.size hi-bS items.size 0 lo) == items.size)=true then _ else _) _ _ s
 rw[if_neg BG,bP']
 first
  |exact ax (m:=Builtin.Tuple.tupleExact _) (wpAny_newObj_type (aS ⟨_,rfl,aS h⟩) P7)
  |exact ax (m:=Builtin.Tuple.tupleExact _) (wpAny_newObj_type (ax (aS (aS ⟨_,rfl,aS h⟩))) P7)
  |exact ax (ax (m:=Builtin.Tuple.tupleExact _) (wpAny_newObj_type (aS (aS ⟨_,rfl,aS h⟩)) P7))
  |exact ax (ax (m:=Builtin.Tuple.tupleExact _) (wpAny_newObj_type (aS ⟨_,rfl,aS h⟩) P7))
end
end HT
namespace L2
open PySem PySem.Spec PyProof.Rows
abbrev TO:=St->Hp->(Option Int->Hp->Prop)->Prop
def PO(X:Cx)(e:Option Expr)(t:TO):Prop :=
 ∀ (pins:List (Addr × Obj)) (s:Shared) (σ:St) (H:Hp) (Q:Option Int->Hp->Prop),Inv X pins σ H s->t σ H Q ->
  wpAny (model X.prog X.w) X.A (evalPart e X.env) (fun u s'=>∃ o H',Inv X pins σ H' s'/\IsPart u o/\Q o H') X.xe s
def bS':TO:=fun _ H Q=>Q none H
def bT'(t:TE):TO:=fun σ H Q=>t σ H fun x H1=>∃ i,x=.int i/\Q (some i) H1
section
variable {X:Cx}{e:Expr}{te:TE}{lo hi:Option Expr}{tl th:TO}{pos p2:Pos}
theorem bU':PO X none bS':=by
 intro pins s σ H Q I h
 rw[evalPart_none]
 exact aS ⟨none,H,I,.none,h⟩
theorem bV'(h:PE X e te):PO X (some e) (bT' te):=by
 intro pins s σ H Q I hw
 rw[evalPart_some]
 refine cK (h pins s σ H _ I hw) fun u s1 cy=>L2.fz cy fun x H1 I1 r1 q1=>?_
 obtain⟨i,rfl,q⟩:=q1
 obtain⟨t,rfl⟩:=r1
 exact⟨some i,H1,I1,.int i t,q⟩
def FX(X:Cx)(r:V->Option Int->Option Int->Hp->VK->Prop):Prop :=
 ∀ (pins:List (Addr × Obj)) (s:Shared) (σ:St) (H:Hp) (x:V) (v vl vu:Value) (lo hi:Option Int) (sl:Addr) (Q:VK),Inv X pins σ H s->RelV x v->s.heap.IsSliceOf sl vl vu .none->IsPart vl lo->IsPart vu hi->r x lo hi H Q ->
  ∃ T id,typeLookup (.type T) "__getitem__" = pure (some (.builtin id))/\s.TypeIs v T/\wpAny (model X.prog X.w) X.A (getItem v (.ref sl)) (EP X pins σ Q) X.xe s
def tSl(r:V->Option Int->Option Int->Hp->VK->Prop)(te:TE)(tl th:TO):TE:=fun σ H Q=>te σ H fun x H1=>tl σ H1 fun l H2=>th σ H2 fun u H3=>r x l u H3 Q
theorem bX'(hr:FX X r)(he:PE X e te)(hl:PO X lo tl)(hu:PO X hi th):PE X (.Subscript e (.Slice lo hi none p2) pos) (tSl r te tl th):=by
 intro pins s σ H Q I h
 refine Subscript_ (cK (he pins s σ H _ I h) fun v s1 cy=>L2.fz cy fun x H1 I1 r1 q1=>?_)
 refine wpAny_Slice (cK (hl pins s1 σ H1 _ I1 q1) fun vl s2 cy=>L2.fz cy fun l H2 I2 pl q2=>cK (hu pins s2 σ H2 _ I2 q2) fun vu s3 cy=>L2.fz cy fun u H3 I3 pu q3=>?_)
 rw[evalPart_none]
 refine aS ?_
 have I4:Inv X pins σ H3 { s3 with heap:=s3.heap.push { cls:=.type "slice",data:=.fields #[vl,vu,.none] } }:=I3.kept (t':=s3.toks) fun b ob q=>fw _ q
 obtain⟨T,id,hT,ht,hg⟩:=hr pins { s3 with heap:=s3.heap.push { cls:=.type "slice",data:=.fields #[vl,vu,.none] } } σ H3 x v vl vu l u s3.heap.objs.size Q I4 r1 (Heap.IsSliceOf.new ..) pl pu q3
 show wpAny (model X.prog X.w) X.A (subscriptTail e (.Slice lo hi none p2) v (.ref s3.heap.objs.size)) (EP X pins σ Q) X.xe { s3 with heap:=s3.heap.push { cls:=.type "slice",data:=.fields #[vl,vu,.none] } }
 exact tail_any (ops:=[.ref s3.heap.objs.size,v]) ht hT hg (by with_unfolding_all rfl)
def AB(xs:List V)(lo hi:Option Int):List V:=(xs.drop (HT.bS xs.length 0 lo)).take (HT.bS xs.length xs.length hi-HT.bS xs.length 0 lo)
theorem W8(xs:List V)(lo hi:Option Int):(AB xs lo hi).length<=xs.length:=by
 unfold AB
 rw[kz,zv]
 lia
def W9(K:PySem.W.Frag):V->Option Int->Option Int->Hp->VK->Prop:=fun x lo hi H Q=>∃ a xs,x=.ref a/\oz K H a xs /\
 ¬ (HT.bS xs.length 0 lo=0/\HT.bS xs.length xs.length hi=xs.length)/\∀ p,H p=none->Q (.ref p) (upd H p (.tup (AB xs lo hi)))
theorem bY':FX X (W9 X.K):=by
 intro pins s σ H x v vl vu lo hi sl Q I rx hs pl pu h
 obtain⟨a,xs,rfl,hx,hw,q⟩:=h
 cases rx
 obtain⟨its,r,ht,hz⟩:=I.tuple hx
 have hlen:its.toArray.size=xs.length:=by rw[iq];exact r.length.symm
 refine⟨"tuple",_,PyProof.Rows.slot_tuple_getitem.lookup,ht.typeIs,?_⟩
 refine HT.bQ' ht hs pl pu (by rw[hlen];exact hw) ?_ (by rw[hlen];exact hz)
 rw[hlen]
 refine⟨.ref s.heap.objs.size,_,I.laid (t':=s.toks) (o:=.tup (AB xs lo hi)) (fun b ob q=>fw _ q) (cq _) ?_,rfl,q _ (I.bp.fresh (cq _))⟩
 exact⟨fS (W8 xs lo hi) hz,_,(r.drop (HT.bS xs.length 0 lo)).take (HT.bS xs.length xs.length hi-HT.bS xs.length 0 lo),IsTup.new _ _⟩
def Sv(K:PySem.W.Frag):R2:=fun x y H Q=>∃ a b xs ys,x=.ref a/\y=.ref b/\oz K H a xs/\oz K H b ys/\xs≠[]/\xs.length+ys.length<=sizeLine /\
 (ys=[]->Q (.ref a) H)/\(ys≠[]->∀ p,H p=none->Q (.ref p) (upd H p (.tup (xs++ys))))
theorem Vals.Sw(r:Vals xs us):us=[]↔xs=[]:=by
 cases r with
 |nil=>simp
 |cons _ _=>simp
theorem bZ':dr X (binaryOp .Add) (Sv X.K):=by
 intro pins s σ H x y v u Q I rx ry h
 obtain⟨a,b,xs,ys,rfl,rfl,ha,hb,hx,hz,q1,q2⟩:=h
 cases rx
 cases ry
 obtain⟨its,r1,p1,_⟩:=I.tuple ha
 obtain⟨AF,r2,p2,_⟩:=I.tuple hb
 refine HT.bJ' p1 p2 (fun z=>hx (r1.Sw.mp z)) (fun z=>⟨.ref a,H,I,rfl,q1 (r2.Sw.mp z)⟩) (fun z=>?_) (by rw[<- r1.length,<- r2.length];exact hz)
 refine⟨.ref s.heap.objs.size,_,I.laid (t':=s.toks) (o:=.tup (xs++ys)) (fun b ob q=>fw _ q) (cq _) ?_,rfl,q2 (fun w=>z (r2.Sw.mpr w)) _ (I.bp.fresh (cq _))⟩
 exact⟨by rw[js];exact hz,_,r1.append r2,IsTup.new _ _⟩
end
def ve(n:Nat)(i:Int):Option Nat:=if 0<=i then (if i<n then some i.toNat else none) else if -(n:Int)<=i then some (i+n).toNat else none
def fI{α:Type}(xs:List α)(i:Int):Option α:=(ve xs.length i).bind fun j=>xs[j]?
theorem ca'(h:ve n i=some j):seqIndex? i n=some j/\j<n/\-(n:Int)<=i/\i<n:=by
 unfold ve at h
 by_cases h0:0<=i
 ·rw[if_pos h0] at h
  by_cases h1:i<n
  ·rw[if_pos h1] at h
   have e:i.toNat=j:=Option.some.inj h
   exact⟨by rw[seqIndex_of h0 h1,e],by lia,by lia,h1⟩
  ·rw[if_neg h1] at h;cases h
 ·rw[if_neg h0] at h
  by_cases h1:-(n:Int)<=i
  ·rw[if_pos h1] at h
   have e:(i+n).toNat=j:=Option.some.inj h
   exact⟨by rw[seqIndex_neg (by lia) h1,e],by lia,h1,by lia⟩
  ·rw[if_neg h1] at h;cases h
theorem Sx{α:Type}{xs:List α}{i:Int}{v:α}(h:fI xs i=some v):∃ j,seqIndex? i xs.length=some j/\xs[j]? = some v/\j<xs.length/\-(xs.length:Int)<=i/\i<xs.length:=by
 unfold fI at h
 cases e:ve xs.length i with
 |none=>rw[e] at h;cases h
 |some j =>
  rw[e] at h
  obtain⟨h1,h2,h3,h4⟩:=ca' e
  exact⟨j,h1,h,h2,h3,h4⟩
theorem BH{α:Type}{xs:List α}{j:Nat}{v:α}(h:xs[j]? = some v):fI xs (j:Int)=some v:=by
 have hj:j<xs.length:=(mI.mp h).1
 have e:ve xs.length (j:Int)=some j:=by
  unfold ve
  rw[if_pos (by walk_at "s1"),if_pos (by lia)];simp
 unfold fI;rw[e];exact h
theorem W_{α:Type}(xs:List α)(v:α):fI (xs++[v]) (-1)=some v:=by
 have hl:(xs++[v]).length=xs.length+1:=by simp
 have e:ve (xs++[v]).length (-1)=some xs.length:=by
  unfold ve
  rw[hl,if_neg (by decide),if_pos (by lia)]
  congr 1
  lia
 unfold fI
 rw[e]
 show(xs++[v])[xs.length]? = some v
 simp
def Xa(b:Expr):Prop:=∀ o i,subscripted b false o i=operate [o,i] (getItem o i)
def vi(X:Cx)(r:R2):Prop :=
 ∀ (value slice:Expr) (pins:List (Addr × Obj)) (s:Shared) (σ:St) (H:Hp) (x y:V) (v u:Value) (Q:VK),Inv X pins σ H s->RelV x v->RelV y u->r x y H Q ->
  subscripted slice false v u=operate [v,u] (getItem v u)->wpAny (model X.prog X.w) X.A (subscriptTail value slice v u) (EP X pins σ Q) X.xe s
def Xb(X:Cx)(id:String)(r:V->List V->Hp->VK->Prop):Prop :=
 ∀ (pins:List (Addr × Obj)) (s:Shared) (σ:St) (H:Hp) (x:V) (xs:List V) (v:Value) (us:List Value) (Q:VK),Inv X pins σ H s->RelV x v->Vals xs us->r x xs H Q ->
  wpAny (model X.prog X.w) X.A (call (.builtin id) (v :: us)) (EP X pins σ Q) X.xe s
section
variable {X:Cx}{a b:Expr}{ta tb:TE}{pos:Pos}
theorem vi.or(h:vi X r)(h':vi X r'):vi X (fun x y H Q=>r x y H Q\/r' x y H Q):=by
 intro value slice pins s σ H x y v u Q I rx ry q hs
 rcases q with q|q
 ·exact h value slice pins s σ H x y v u Q I rx ry q hs
 ·exact h' value slice pins s σ H x y v u Q I rx ry q hs
theorem cb'{r:R2}(hr:vi X r)(ha:PE X a ta)(hb:PE X b tb)(hs:Xa b):PE X (.Subscript a b pos) (Lv r ta tb):=by
 intro pins s σ H Q I h
 exact Subscript_ (Se ha hb I h fun v u s2 x y H2 I2 rx ry q=>hr a b pins s2 σ H2 x y v u Q I2 rx ry q (hs _ _))
def Xc(K:PySem.W.Frag):R2:=fun x y H Q=>∃ p xs i v,x=.ref p/\y=.int i/\eR K H p xs/\fI xs i=some v/\Q v H
def Xd(K:PySem.W.Frag):R2:=fun x y H Q=>∃ p xs i v,x=.ref p/\y=.int i/\oz K H p xs/\fI xs i=some v/\Q v H
def Xe:R2:=fun x y H Q=>∃ z i c,x=.str z/\y=.int i/\z.length<=sizeLine/\fI z.cps.toList i=some c/\Q (.str ⟨#[c]⟩) H
theorem cc':vi X (Xc X.K):=by
 intro value slice pins s σ H x y v u Q I rx ry h hs
 obtain⟨p,xs,i,z,rfl,rfl,hq,he,q⟩:=h
 cases rx
 obtain⟨t,rfl⟩:=ry
 obtain⟨its,r,pl,hz⟩:=I.list hq
 obtain⟨j,h1,h2,h3,h4,h5⟩:=Sx he
 obtain⟨w,ew,nh⟩:=r.get h2
 have hl:=r.length
 have hn:=PY
 have fin:EP X pins σ Q w s:=⟨z,H,I,nh,q⟩
 by_cases h0:0<=i
 ·have hj:i.toNat=j:=by
   rw[seqIndex_of h0 h5] at h1
   exact Option.some.inj h1
  exact item_listR pl.isList h0 (by lia) (by rw[hj];simpa using ew) fin hs
 ·have hj:(i+(its.toArray.size:Int)).toNat=j:=by
   rw[seqIndex_neg (by exact Int.not_le.mp ‹_›) h4] at h1
   rw[iq,<- hl]
   exact Option.some.inj h1
  exact subscriptTail_builtinR (x:=w) pl.isList.typeIs slot_list_getitem.lookup
   (wpAny_getItem_list_neg (Q:=fun r s'=>r=w/\EP X pins σ Q r s') pl.isList (by exact Int.not_le.mp ‹_›) (by rw[iq]<;>lia) (by lia) (by rw[hj];simpa using ew) ⟨rfl,fin⟩) hs
theorem cd':vi X (Xd X.K):=by
 intro value slice pins s σ H x y v u Q I rx ry h hs
 obtain⟨p,xs,i,z,rfl,rfl,hq,he,q⟩:=h
 cases rx
 obtain⟨t,rfl⟩:=ry
 obtain⟨its,r,pl,hz⟩:=I.tuple hq
 obtain⟨j,h1,h2,h3,h4,h5⟩:=Sx he
 obtain⟨w,ew,nh⟩:=r.get h2
 have hl:=r.length
 have hn:=PY
 have fin:EP X pins σ Q w s:=⟨z,H,I,nh,q⟩
 exact subscriptTail_builtinR (x:=w) pl.typeIs slot_tuple_getitem.lookup
  (getItem_tuple (j:=j) (Q:=fun r s'=>r=w/\EP X pins σ Q r s') pl (by lia) (by lia) (by rw[iq,<- hl];exact h1) (by simpa using ew) ⟨rfl,fin⟩) hs
theorem ce':vi X Xe:=by
 intro value slice pins s σ H x y v u Q I rx ry h hs
 obtain⟨z,i,c,rfl,rfl,hz,he,q⟩:=h
 obtain⟨t,rfl⟩:=rx
 obtain⟨t',rfl⟩:=ry
 obtain⟨j,h1,h2,h3,h4,h5⟩:=Sx he
 have hl:z.cps.toList.length=z.length:=by simp[Str.length]
 rw[hl] at h1 h4 h5
 have hn:=PY
 exact tail_any (typeIs_str s z t) slot_str_getitem.lookup (getItem_str (c:=c) (by
  have e1:decide (i < -(2 ^ 63:Int))=false:=decide_eq_false (by lia)
  have e2:decide (i >= 2 ^ 63)=false:=decide_eq_false (by lia)
  rw[e1,e2,Bool.or_false]) (by rw[h1];simpa using h2) ⟨.str ⟨#[c]⟩,H,I.tok _,⟨_,rfl⟩,q⟩) hs
def rIx(K:PySem.W.Frag):R2:=fun x y H Q=>Xc K x y H Q\/Xd K x y H Q\/Xe x y H Q
theorem cg':vi X (rIx X.K):=cc'.or (cd'.or ce')
theorem ch'(lo hi:Option Int)(n:Nat):(sliceBounds lo hi none n).1=((HT.bS n 0 lo:Nat):Int)/\(sliceBounds lo hi none n).2.1=((HT.bS n n hi:Nat):Int)/\(sliceBounds lo hi none n).2.2=1:=by
 refine⟨?_,?_,rfl⟩
 ·cases lo with
  |none=>simp[sliceBounds,HT.bS]
  |some i =>
   simp only[sliceBounds,HT.bS,RX,show(1:Int)>0 by decide,if_true]
   by_cases h:i<0
   ·simp only[h,if_true]<;>lia
   ·simp only[h,if_false]<;>lia
 ·cases hi with
  |none=>simp[sliceBounds,HT.bS]
  |some i =>
   simp only[sliceBounds,HT.bS,RX,show(1:Int)>0 by decide,if_true]
   by_cases h:i<0
   ·simp only[h,if_true]<;>lia
   ·simp only[h,if_false]<;>lia
theorem ci'(its:List Value)(lo hi:Option Int):slicePick its.toArray lo hi none=((its.drop (HT.bS its.length 0 lo)).take (HT.bS its.length its.length hi-HT.bS its.length 0 lo)).toArray:=by
 obtain⟨h1,h2,h3⟩:=ch' lo hi its.toArray.size
 unfold slicePick
 rw[h1,h2,h3]
 simp only[sliceRange_one,pick_run,iq]<;>rfl
def cj'(K:PySem.W.Frag):V->Option Int->Option Int->Hp->VK->Prop:=fun x lo hi H Q=>∃ a xs,x=.ref a/\eR K H a xs/\∀ p,H p=none->Q (.ref p) (upd H p (.lst (AB xs lo hi)))
theorem ck':FX X (cj' X.K):=by
 intro pins s σ H x v vl vu lo hi sl Q I rx hs pl pu h
 obtain⟨a,xs,rfl,hx,q⟩:=h
 cases rx
 obtain⟨its,r,ht,hz⟩:=I.list hx
 have hlen:=r.length
 refine⟨"list",_,slot_list_getitem.lookup,ht.isList.typeIs,?_⟩
 refine wpAny_getItem_list_slice ht.isList hs pl pu .none (by simp) ?_ (by rw[iq]<;>lia)
 rw[ci',<- hlen]
 refine⟨.ref s.heap.objs.size,_,I.laid (t':=s.toks) (o:=.lst (AB xs lo hi)) (fun b ob q=>fw _ q) (cq _) ?_,rfl,q _ (I.bp.fresh (cq _))⟩
 exact⟨fS (W8 xs lo hi) hz,_,0,(r.drop (HT.bS xs.length 0 lo)).take (HT.bS xs.length xs.length hi-HT.bS xs.length 0 lo),kr _ rfl⟩
def x6:V->Bool
 |.non=>true
 |.bl _=>true
 |.int _=>true
 |.str _=>true
 |_=>false
def AG:V->V->Bool
 |.non,.non=>true
 |.bl a,.bl b=>a == b
 |.bl a,.int b=>(if a then 1 else 0) == b
 |.int a,.bl b=>a == (if b then 1 else 0)
 |.int a,.int b=>a == b
 |.str a,.str b=>a == b
 |_,_=>false
theorem cl'(ry:RelV y u)(rx:RelV x v)(fy:x6 y=true)(fx:x6 x=true):SeqAt.EqAt A s u v (AG y x):=by
 cases y with
 |non =>
  cases ry
  cases x with
  |non=>cases rx;exact SeqAt.EqAt.same _
  |bl b=>cases rx;exact SeqAt.EqAt.none_bool b
  |int b=>obtain⟨t,rfl⟩:=rx;exact SeqAt.EqAt.none_int b t
  |str b=>obtain⟨t,rfl⟩:=rx;exact SeqAt.EqAt.none_str b t
  |_=>exact absurd (show false=true from fx) iS
 |bl a =>
  cases ry
  cases x with
  |non=>cases rx;exact SeqAt.EqAt.bool_none a
  |bl b=>cases rx;exact SeqAt.EqAt.bool_bool a b
  |int b=>obtain⟨t,rfl⟩:=rx;exact SeqAt.EqAt.bool_int a b t
  |str b=>obtain⟨t,rfl⟩:=rx;exact SeqAt.EqAt.bool_str a b t
  |_=>exact absurd (show false=true from fx) iS
 |int a =>
  obtain⟨t',rfl⟩:=ry
  cases x with
  |non=>cases rx;exact SeqAt.EqAt.int_none a t'
  |bl b=>cases rx;exact SeqAt.EqAt.int_bool a t' b
  |int b=>obtain⟨t,rfl⟩:=rx;exact SeqAt.EqAt.int_int a t' b t
  |str b=>obtain⟨t,rfl⟩:=rx;exact SeqAt.EqAt.int_str a t' b t
  |_=>exact absurd (show false=true from fx) iS
 |str a =>
  obtain⟨t',rfl⟩:=ry
  cases x with
  |non=>cases rx;exact SeqAt.EqAt.str_none a t'
  |bl b=>cases rx;exact SeqAt.EqAt.str_bool a t' b
  |int b=>obtain⟨t,rfl⟩:=rx;exact SeqAt.EqAt.str_int a t' b t
  |str b=>obtain⟨t,rfl⟩:=rx;exact SeqAt.EqAt.str_str a t' b t
  |_=>exact absurd (show false=true from fx) iS
 |_=>exact absurd (show false=true from fy) iS
def rg(x:V)(u:Value):Bool:=match u with
 |.none=>AG .non x
 |.bool b=>AG (.bl b) x
 |.int i _=>AG (.int i) x
 |.str z _=>AG (.str z) x
 |_=>false
theorem Xf(r:RelV y u)(f:x6 y=true):rg x u=AG y x:=by
 cases y with
 |non=>cases r;rfl
 |bl b=>cases r;rfl
 |int i=>obtain⟨t,rfl⟩:=r;rfl
 |str z=>obtain⟨t,rfl⟩:=r;rfl
 |_=>exact absurd (show false=true from f) iS
theorem LJ:∀ {xs:List V} {us:List Value},Vals xs us->xs.all x6=true->us.any (rg x)=xs.any fun y=>AG y x
 |_,_,.nil,_=>rfl
 |y :: xs,u :: us,.cons r t,f=>by
  rw[A7,kG] at f
  rw[zD,zD,Xf r f.1,LJ t f.2]
theorem LM(rx:RelV x v)(fx:x6 x=true):∀ {xs:List V} {us:List Value},Vals xs us->xs.all x6=true->∀ u∈us,SeqAt.EqAt A s u v (rg x u)
 |_,_,.nil,_=>fun u hu=>by cases hu
 |y :: xs,u :: us,.cons r t,f=>fun u' hu=>by
  rw[A7,kG] at f
  rcases dv.mp hu with rfl|hu
  ·rw[Xf r f.1];exact cl' r rx f.1 fx
  ·exact LM rx fx t f.2 u' hu
def P8(x:V)(xs:List V):Bool:=xs.any fun y=>AG y x
def LN(K:PySem.W.Frag)(neg:Bool):R2:=fun x y H Q=>∃ p xs,y=.ref p/\(eR K H p xs\/oz K H p xs)/\x6 x=true/\xs.all x6=true/\Q (.bl (if neg then !P8 x xs else P8 x xs)) H
theorem cm':dr X (compareOp .In) (LN X.K false):=by
 intro pins s σ H x y v u Q I rx ry h
 obtain⟨p,xs,rfl,hq,fx,fs,q⟩:=h
 cases ry
 rcases hq with hq|hq
 ·obtain⟨its,r,pl,hz⟩:=I.list hq
  refine SeqAt.in_listAt (rg x) pl.isList (fun w hw=>LM rx fx r fs w (by simpa using hw)) ⟨.bl _,H,I,rfl,?_⟩
  rw[show its.toArray.any (rg x)=its.any (rg x) by simp,LJ r fs]
  exact q
 ·obtain⟨its,r,pl,hz⟩:=I.tuple hq
  refine SeqAt.in_tupleAt (rg x) pl (fun w hw=>LM rx fx r fs w (by simpa using hw)) ⟨.bl _,H,I,rfl,?_⟩
  rw[show its.toArray.any (rg x)=its.any (rg x) by simp,LJ r fs]
  exact q
theorem cn':dr X (compareOp .NotIn) (LN X.K true):=by
 intro pins s σ H x y v u Q I rx ry h
 obtain⟨p,xs,rfl,hq,fx,fs,q⟩:=h
 cases ry
 rcases hq with hq|hq
 ·obtain⟨its,r,pl,hz⟩:=I.list hq
  refine SeqAt.notIn_listAt (rg x) pl.isList (fun w hw=>LM rx fx r fs w (by simpa using hw)) ⟨.bl _,H,I,rfl,?_⟩
  rw[show its.toArray.any (rg x)=its.any (rg x) by simp,LJ r fs]
  exact q
 ·obtain⟨its,r,pl,hz⟩:=I.tuple hq
  refine SeqAt.notIn_tupleAt (rg x) pl (fun w hw=>LM rx fx r fs w (by simpa using hw)) ⟨.bl _,H,I,rfl,?_⟩
  rw[show its.toArray.any (rg x)=its.any (rg x) by simp,LJ r fs]
  exact q
theorem mh.or(h:mh X f r)(h':mh X f r'):mh X f (fun xs H Q=>r xs H Q\/r' xs H Q):=by
 intro pins s σ H xs us Q I rs q
 rcases q with q|q
 ·exact h pins s σ H xs us Q I rs q
 ·exact h' pins s σ H xs us Q I rs q
theorem co':mh X (.type "list") (fun xs H Q=>∃ p ys,xs=[.ref p]/\(eR X.K H p ys\/oz X.K H p ys)/\∀ l,H l=none->Q (.ref l) (upd H l (.lst ys))):=by
 intro pins s σ H xs us Q I r h
 obtain⟨p,ys,rfl,hq,q⟩:=h
 obtain⟨u,rfl,rx⟩:=vals1 r
 cases rx
 have fin:∀ (its:List Value),Vals ys its->ys.length<=sizeLine->∀ (h':Heap) (c':Nat),(∀ b o',s.heap.get? b=some o'->h'.get? b=some o') ->
   h'.get? s.heap.objs.size=some { cls:=.type "list",dict:=none,data:=.seq its.toArray c',slots:=#[] }->EP X pins σ Q (.ref s.heap.objs.size) { s with heap:=h' }:=fun its r' hz h' c' kp e =>
  ⟨.ref s.heap.objs.size,_,I.laid (t':=s.toks) kp (cq _) (show fA X.prog X.w _ h' _ (.lst ys) from⟨hz,its,c',r',e⟩),rfl,q _ (I.bp.fresh (cq _))⟩
 rcases hq with hq|hq
 ·obtain⟨its,r',pl,hz⟩:=I.list hq
  have hlen:=r'.length
  obtain⟨o,ho,hc,n,hd⟩:=pl.isList
  exact call_list_seq p (.inl rfl) ho hc hd (fun h' c' kp e=>fin its r' hz h' c' kp e) (by simp only[iq]<;>lia)
 ·obtain⟨its,r',pl,hz⟩:=I.tuple hq
  have hlen:=r'.length
  obtain⟨o,ho,hc,n,hd⟩:=pl
  exact call_list_seq p (.inr rfl) ho hc hd (fun h' c' kp e=>fin its r' hz h' c' kp e) (by simp only[iq]<;>lia)
def Xg(K:PySem.W.Frag)(T:String)(x:V)(H:Hp):Prop:=match x with
 |.str _=>T = "str"
 |.int _=>T = "int"
 |.ref p=>(T = "list"/\∃ xs,eR K H p xs)\/(T = "tuple"/\∃ o,K.lookup p=some o/\o.cls=.type "tuple"/\o.dict=none) \/
   (T = "dict"/\((∃ ae,H p=some (.dK ae))\/∃ ae,H p=some (.dT ae)))\/(T = "set"/\∃ S n,H p=some (.set S n))
 |_=>False
theorem cp'{T:String}(I:Inv X pins σ H s)(r:RelV x v)(ty:Xg X.K T x H) :
  s.TypeIs v T/\∀ a,v=.ref a->∃ ob,s.heap.get? a=some ob/\ob.dict=none:=by
 cases x with
 |str z =>
  obtain⟨t,rfl⟩:=r
  cases (show T = "str" from ty)
  exact⟨typeIs_str s z t,fun _ e=>nomatch e⟩
 |int i =>
  obtain⟨t,rfl⟩:=r
  cases (show T = "int" from ty)
  exact⟨typeIs_int s i t,fun _ e=>nomatch e⟩
 |ref p =>
  cases r
  rcases ty with⟨rfl,xs,hq⟩|⟨rfl,o,hk,hc,hd⟩|⟨rfl,hk⟩|⟨rfl,S,n,hk⟩
  ·obtain⟨its,_,pl,_⟩:=I.list hq
   refine⟨pl.isList.typeIs,fun a e=>?_⟩
   cases e
   obtain⟨o,n,e,c,hd,_⟩:=pl
   exact⟨o,e,hd⟩
  ·refine⟨⟨o,I.h9 p o hk,hc⟩,fun a e=>?_⟩
   cases e
   exact⟨o,I.h9 _ o hk,hd⟩
  ·have z:∃ o,s.heap.get? p=some o/\o.ExactDict:=by
    rcases hk with⟨ae,hk⟩|⟨ae,hk⟩
    ·obtain⟨_,_,_,_,o,_,_,e,ex,_⟩:=I.bp p _ hk
     exact⟨o,e,ex⟩
    ·obtain⟨_,_,_,_,o,_,_,e,ex,_⟩:=I.bp p _ hk
     exact⟨o,e,ex⟩
   obtain⟨o,e,ex⟩:=z
   refine⟨⟨o,e,ex.1⟩,fun a e2=>?_⟩
   cases e2
   exact⟨o,e,ex.2.1⟩
  ·obtain⟨o,_,_,_,e,ex,_⟩:=I.bp p _ hk
   refine⟨⟨o,e,ex.1⟩,fun a e2=>?_⟩
   cases e2
   exact⟨o,e,ex.2.1⟩
 |_=>exact False.elim ty
def tBM(K:PySem.W.Frag)(T:String)(r:V->List V->Hp->VK->Prop)(to:TE)(t:TA):TE:=fun σ H Q=>to σ H fun x H1=>Xg K T x H1/\t σ H1 fun xs H2=>r x xs H2 Q
variable {o e:Expr}{es:List Expr}{to:TE}{t:TA}{name:Str}{apos dk:Pos}{T id:String}{r:V->List V->Hp->VK->Prop}
theorem Sy (pa:PlainAttrs T) (slot:Slot T name id) (FY:typeOf (.builtin id)=pure (.type "method_descriptor")) (hm:Xb X id r) (ho:PE X o to) (ha:PA X (e :: es) t)
  (D2:attributeBase o name X.env (eval o X.env)=eval o X.env:=by rfl)
  (wm:((backTo dk (starEach (e :: es) X.env)).all (fun x=>!x.1) && (backToKw dk (keywordEach [] X.env)).all (fun x=>x.1.isSome)
   && decide ((e :: es).length+([]:List Keyword).length+(if ([]:List Keyword).isEmpty then 0 else 1)<30))=true:=by rfl)
  (hline:(apos.endLine == dk.line)=true:=by rfl) (hs:starEach (e :: es) X.env=(false,eval e X.env) :: starEach es X.env:=by rfl) (D3:(backTo dk (starEach es X.env)).any (·.1)=false:=by rfl) :
  PE X (.Call (.Attribute o name apos) (e :: es) [] dk) (tBM X.K T r to t):=by
 intro pins s σ H Q I h
 refine wpAny_Call_method_late D2 wm hline rfl (cK (ho pins s σ H _ I h) fun v s1 df=>?_)
 obtain⟨x,H1,I1,r1,ty,q1⟩:=df
 obtain⟨h1,h2⟩:=cp' I1 r1 ty
 refine⟨T,id,pa,slot,FY,h1,h2,?_⟩
 have hA:=ha dk pins s1 σ H1 _ I1 q1
 rw[hs] at hA ⊢
 refine Calls.callWith_builtin (by show(false || (backTo dk (starEach es X.env)).any (·.1))=false;rw[D3]<;>rfl) (Calls.evalArgs_plain ?_)
 exact cK hA fun us s2 cy=>L2.fz cy fun vs H2 I2 r2 q2=>hm pins s2 σ H2 x vs v us Q I2 r1 r2 q2
end
def Xh(X:Cx)(id:String)(r:V->List V->Hp->VK->Prop):Prop :=
 ∀ (pins:List (Addr × Obj)) (s:Shared) (σ:St) (H:Hp) (x:V) (xs:List V) (v:Value) (us:List Value) (Q:VK),Inv X pins σ H s->RelV x v->Vals xs us->r x xs H Q ->
  wpAny (model X.prog X.w) X.A (call (.builtin id) (v :: us)) (EP X pins σ Q) X.xe s
theorem Vals.one{x:V}{us:List Value}(h:Vals [x] us):∃ u,us=[u]/\RelV x u:=by
 cases h
 rename_i r h
 cases h
 exact⟨_,rfl,‹_›⟩
theorem Vals.two{x y:V}{us:List Value}(h:Vals [x,y] us):∃ u v,us=[u,v]/\RelV x u/\RelV y v:=by
 cases h
 rename_i r h
 cases h
 rename_i q h
 cases h
 exact⟨_,_,rfl,‹_›,‹_›⟩
theorem Vals.zero:∀ {us:List Value},Vals [] us->us=[]
 |_,.nil=>rfl
theorem Vals.rep(h:Vals xs us):∀ k:Nat,Vals (List.replicate k xs).flatten (List.replicate k us).flatten
 |0=>.nil
 |k+1=>by
  rw[IJ,IJ,O9,O9]
  exact Vals.append h (Vals.rep h k)
section
variable {X:Cx}{pins:List (Addr × Obj)}{σ:St}{H:Hp}{s:Shared}{l:Addr}{xs ys:List V}
theorem Inv.Xi{its its':List Value}{n:Nat}{f:Array Value->Array Value}{t':Nat}(I:Inv X pins σ H s)(hH:H l=some (.lst xs))
  (e:s.heap.get? l=some { cls:=.type "list",data:=.seq its.toArray n }) (hf:f its.toArray=its'.toArray) (hv:Vals ys its') (hz:ys.length<=sizeLine) :
  Inv X pins σ (upd H l (.lst ys)) { s with heap:=s.heap.update l (Obj.mapSeq f),toks:=t' }:=by
 have q:=PySem.IsL.update e f
 rw[hf] at q
 refine I.write (x:=l) (e:=l) (by rw[hH];exact trivial) (.inl rfl) (fun b' u hb hu=>(Kb s.heap (Obj.mapSeq f) (Ne.symm hb)).trans hu) ⟨_,q⟩ ?_
 exact⟨hz,its',_,hv,q⟩
theorem Inv.Xj(I:Inv X pins σ H s)(hv:Vals ys its)(hz:ys.length<=sizeLine) :
  Inv X pins σ (upd H s.heap.objs.size (.lst ys)) { s with heap:=s.heap.push { cls:=.type "list",data:=.seq its.toArray },toks:=t' } :=
 I.laid (fun _ _ q=>fw _ q) (cq _) ⟨hz,its,0,hv,kr _ rfl⟩
theorem Inv.fresh(I:Inv X pins σ H s):H s.heap.objs.size=none:=I.bp.fresh (cq _)
theorem Inv.Sz (I:Inv X pins σ H s) (hH:H l=some (.lst xs)):xs.length<=sizeLine/\∃ (its:List Value) (n:Nat),Vals xs its/\xs.length=its.length/\s.heap.get? l=some { cls:=.type "list",data:=.seq its.toArray n }:=by
 obtain⟨z,its,n,r,e⟩:=I.bp l _ hH
 exact⟨z,its,n,r,r.length,e⟩
theorem cr'(h:n<=sizeLine):Builtin.List.listTooLong n=false:=by
 unfold Builtin.List.listTooLong
 exact decide_eq_false (by lia)
end
section
variable {X:Cx}
def cs':V->List V->Hp->VK->Prop:=fun x vs H Q=>∃ l xs y,x=.ref l/\vs=[y]/\H l=some (.lst xs)/\xs.length<sizeLine/\Q .non (upd H l (.lst (xs++[y])))
theorem Xk:Xh X "list.append" cs':=by
 intro pins s σ H x vs v us Q I rx rv h
 obtain⟨l,xs,y,rfl,rfl,hH,hz,q⟩:=h
 cases rx
 obtain⟨u,rfl,ru⟩:=rv.one
 obtain⟨z,its,n,r,hl,e⟩:=I.Sz hH
 refine call_meets F.slot_list_append ⟨_,e,rfl⟩ F.entry_list_append (F.args_list_append_2 _ _) (PySem.list_append l its.toArray n u (by rw[iq];lia)) ⟨e,?_⟩
 refine⟨.non,_,I.Xi (its':=its++[u]) hH e (by simp) (r.append (.cons ru .nil)) ?_,rfl,q⟩
 rw[js,List.length_singleton]
 assumption
def ct':V->List V->Hp->VK->Prop:=fun x vs H Q=>∃ l b xs zs,x=.ref l/\vs=[.ref b]/\H l=some (.lst xs)/\H b=some (.lst zs)/\xs.length+zs.length<=sizeLine/\Q .non (upd H l (.lst (xs++zs)))
theorem cu':Xh X "list.extend" ct':=by
 intro pins s σ H x vs v us Q I rx rv h
 obtain⟨l,b,xs,zs,rfl,rfl,hH,hB,hz,q⟩:=h
 cases rx
 obtain⟨u,rfl,ru⟩:=rv.one
 cases ru
 obtain⟨z,its,n,r,hl,e⟩:=I.Sz hH
 obtain⟨z2,AF,n2,r2,x8,e2⟩:=I.Sz hB
 have hsz:its.toArray.size+AF.toArray.size<=sizeLine:=by rw[iq,iq];lia
 have cv':¬ (!its.toArray.isEmpty && Builtin.List.listTooLong (its.toArray.size+AF.toArray.size))=true:=by
  rw[cr' hsz,Bool.and_false]
  exact iS
 refine call_meets F.slot_list_extend ⟨_,e,rfl⟩ F.entry_list_extend (F.args_list_extend_2 _ _)
  (AutoSeq1.list_extend_list_list_0 l its.toArray n b AF.toArray n2 cv' (by rw[iq];lia) (by lia)) ⟨e,e2,?_⟩
 refine⟨.non,_,I.Xi (its':=its++AF) hH e (by simp) (r.append r2) ?_,rfl,q⟩
 rw[js]
 lia
theorem len_rep{α:Type}(xs:List α)(k:Nat):(List.replicate k xs).flatten.length=k*xs.length:=by
 induction k with
 |zero=>simp
 |succ k ih=>rw[IJ,O9,js,ih,Nat.succ_mul,JJ]
end
section
set_option maxRecDepth 100000 in
end
section
variable {κ:Type}[DecidableEq κ]
def ky(ae:List (κ × V))(k:κ):Option V:=(ae.find? fun kv=>decide (kv.1=k)).map (·.2)
def putK(ae:List (κ × V))(k:κ)(v:V):List (κ × V) :=
 if (ae.any fun kv=>decide (kv.1=k))=true then ae.map (fun kv=>if kv.1=k then (kv.1,v) else kv) else ae++[(k,v)]
def Xl(ae:List (κ × V))(k:κ):List (κ × V):=ae.filter fun kv=>decide (kv.1≠k)
theorem P9{p:κ × V}{r:List (κ × V)}{k:κ}(e:p.1=k):ky (p :: r) k=some p.2:=by simp[ky,Fh,e]
theorem P_{p:κ × V}{r:List (κ × V)}{k:κ}(e:¬ p.1=k):ky (p :: r) k=ky r k:=by simp[ky,Fh,e]
theorem Xm(k:κ):∀ ae:List (κ × V),(ae.any fun kv=>decide (kv.1=k))=(ky ae k).isSome
 |[]=>rfl
 |p :: r=>by
  rw[zD]
  by_cases e:p.1=k
  ·simp only[P9 e,decide_eq_true e,Bool.true_or,Option.isSome_some]
  ·rw[P_ e,decide_eq_false e,Bool.false_or];exact Xm k r
theorem SD(ae:List (κ × V))(k:κ)(v:V):(putK ae k v).length<=ae.length+1:=by
 unfold putK
 split
 ·rw[bP];exact A8 _ _
 ·rw[js,pj,IQ];exact cq _
theorem sP.LP(r:sP o u):o.isSome=u.isSome:=by
 cases o with
 |none=>cases u with
  |none=>rfl
  |some _=>exact(show False from r).elim
 |some _=>cases u with
  |none=>exact(show False from r).elim
  |some _=>rfl
theorem sP.getD(r:sP o u)(rd:RelV d d'):RelV (o.getD d) (u.getD d'):=by
 cases o with
 |none=>cases u with
  |none=>exact rd
  |some _=>exact(show False from r).elim
 |some _=>cases u with
  |none=>exact(show False from r).elim
  |some _=>exact r
theorem KV.val{ae:List (κ × V)}{vs:List (κ × Value)}(r:KV ae vs)(k:κ):sP (ky ae k) (valueAt vs k):=by
 unfold KV at r
 induction r with
 |nil=>exact True.intro
 |@cons p q ps qs h t ih =>
  obtain⟨h1,h2⟩:=h
  by_cases e:p.1=k
  ·have e':q.1=k:=h1.symm.trans e
   have b:valueAt (q :: qs) k=some q.2:=by simp[valueAt,Fh,e']
   rw[P9 e,b];exact h2
  ·have e':¬ q.1=k:=fun z=>e (h1.trans z)
   have b:valueAt (q :: qs) k=valueAt qs k:=by simp[valueAt,Fh,e']
   rw[P_ e,b];exact ih
theorem KV.any(r:KV ae vs)(k:κ):(ae.any fun kv=>decide (kv.1=k))=vs.any fun kv=>decide (kv.1=k):=by
 unfold KV at r
 induction r with
 |nil=>rfl
 |cons h t ih=>rw[zD,zD,ih,h.1]
theorem KV.repl(r:KV ae vs)(k:κ)(ry:RelV y u) :
  KV (ae.map fun kv=>if kv.1=k then (kv.1,y) else kv) (vs.map fun kv=>if kv.1=k then (kv.1,u) else kv):=by
 unfold KV at r ⊢
 induction r with
 |nil=>exact .nil
 |@cons p q ps qs h t ih =>
  rw[fP,fP]
  refine .cons ?_ ih
  obtain⟨h1,h2⟩:=h
  by_cases e:p.1=k
  ·rw[if_pos e,if_pos (h1.symm.trans e)];exact⟨h1,ry⟩
  ·rw[if_neg e,if_neg (fun z=>e (h1.trans z))];exact⟨h1,h2⟩
theorem KV.put(r:KV ae vs)(k:κ)(ry:RelV y u):KV (putK ae k y) (stored vs k u):=by
 unfold putK stored
 rw[r.any k]
 by_cases e:(vs.any fun kv=>decide (kv.1=k))=true
 ·rw[if_pos e,if_pos e];exact r.repl k ry
 ·rw[if_neg e,if_neg e];exact Paired.snoc r ⟨rfl,ry⟩
theorem KV.drop(r:KV ae vs)(k:κ):KV (Xl ae k) (without vs k):=by
 unfold KV at r ⊢
 unfold Xl without
 induction r with
 |nil=>exact .nil
 |@cons p q ps qs h t ih =>
  obtain⟨h1,h2⟩:=h
  rw[RA,RA]
  by_cases e:p.1=k
  ·have a:¬ decide (p.1≠k)=true:=by simp[e]
   have b:¬ decide (q.1≠k)=true:=by simp[h1.symm.trans e]
   rw[if_neg a,if_neg b];exact ih
  ·have e':¬ q.1=k:=fun z=>e (h1.trans z)
   have a:decide (p.1≠k)=true:=by simp[e]
   have b:decide (q.1≠k)=true:=by simp[e']
   rw[if_pos a,if_pos b];exact .cons ⟨h1,h2⟩ ih
theorem KV.length(r:KV ae vs):ae.length=vs.length:=Paired.length r
end
theorem D4{P:Program}(r:RelV (kV k) u):(jv P w).is k u=true:=by
 cases k with
 |inl i=>obtain⟨t,e⟩:=(show ∃ t,u=Value.int i t from r);subst e;exact Z6 P w i t
 |inr x=>obtain⟨t,e⟩:=(show ∃ t,u=Value.str x t from r);subst e;exact Z7 P w x t
theorem Qa{P:Program}:∀ {ks:List Key} {us:List Value},Vals (ks.map kV) us->ItemsAre (jv P w) ks us
 |[],_,r=>by rw[IZ] at r;cases r;exact .nil
 |k :: ks,_,r=>by
  rw[fP] at r
  cases r with
  |cons h t=>exact .cons (D4 h) (Qa t)
abbrev KT(H:Hp):List (List Key × V)->List (List Key × Addr × Value)->Prop:=Paired fun p q=>p.1=q.1/\H q.2.1=some (.tup (p.1.map kV))/\RelV p.2 q.2.2
theorem KT.val{H:Hp}{ae:List (List Key × V)}{xs:List (List Key × Addr × Value)}(r:KT H ae xs)(k:List Key):sP (ky ae k) ((atKey xs k).map (·.2)):=by
 induction r with
 |nil=>exact True.intro
 |@cons p q ps qs h t ih =>
  obtain⟨h1,_,h2⟩:=h
  by_cases e:p.1=k
  ·have e':q.1=k:=h1.symm.trans e
   have b:atKey (q :: qs) k=some q.2:=by simp[atKey,Fh,e']
   rw[P9 e,b];exact h2
  ·have e':¬ q.1=k:=fun z=>e (h1.trans z)
   have b:atKey (q :: qs) k=atKey qs k:=by simp[atKey,Fh,e']
   rw[P_ e,b];exact ih
theorem KT.repl(r:KT H ae xs)(k:List Key)(ry:RelV y u) :
  KT H (ae.map fun kv=>if kv.1=k then (kv.1,y) else kv) (xs.map (putAt k u)):=by
 induction r with
 |nil=>exact .nil
 |@cons p q ps qs h t ih =>
  rw[fP,fP]
  refine .cons ?_ ih
  obtain⟨h1,h2,h3⟩:=h
  unfold putAt
  by_cases e:p.1=k
  ·rw[if_pos e,if_pos (h1.symm.trans e)];exact⟨h1,h2,ry⟩
  ·rw[if_neg e,if_neg (fun z=>e (h1.trans z))];exact⟨h1,h2,h3⟩
theorem KT.put(r:KT H ae xs)(k:List Key)(hb:H b=some (.tup (k.map kV)))(ry:RelV y u) :
  KT H (putK ae k y) (storedH xs k b u):=by
 have e:(ae.any fun kv=>decide (kv.1=k))=(atKey xs k).isSome:=by
  rw[Xm,(r.val k).LP,RW]
 unfold putK storedH
 rw[e]
 by_cases q:(atKey xs k).isSome=true
 ·rw[if_pos q,if_pos q];exact r.repl k ry
 ·rw[if_neg q,if_neg q];exact Paired.snoc r ⟨rfl,hb,ry⟩
theorem KT.keeps(r:KT H ae xs)(ht:∀ b ys,H b=some (.tup ys)->H' b=some (.tup ys)):KT H' ae xs :=
 Paired.RZ r fun _ _ z=>⟨z.1,ht _ _ z.2.1,z.2.2⟩
section
variable {P:Program}{w:World}{H:Hp}{h:Heap}{a:Addr}
theorem Xn(ok:fT P w H h)(e:Rd H a u):fA P w H h a u:=e.ok ok
theorem BI(ok:fT P w H h)(e:Rd H a (.dK ae)):ae.length<=sizeLine/\(a == sysModules)=false/\∃ vs,KV ae vs/\h.DictOf (jv P w) a vs :=
 show fA P w H h a (.dK ae) from Xn ok e
theorem Xo(ok:fT P w H h)(e:H a=some (.dK ae)):ae.length<=sizeLine/\(a == sysModules)=false/\∃ vs,KV ae vs/\h.DictOf (jv P w) a vs:=BI ok (.inl e)
theorem GA(ok:fT P w H h)(e:H a=some (.tup (ks.map kV))):(tupleKind (jv P w)).is h ks a:=by
 obtain⟨_,its,r,o,h1,h2,n,h3⟩:=(show fA P w H h a (.tup (ks.map kV)) from ok a _ e)
 exact⟨o,its.toArray,n,h1,h2,h3,by simpa using Qa r⟩
theorem D5(ok:fT P w H h)(e:Rd H a (.dT ae)):ae.length<=sizeLine/\(a == sysModules)=false /\
  ∃ xs,KT H ae xs/\h.DictOfH (tupleKind (jv P w)) a xs:=by
 obtain⟨z,y,xs,r,o,es,ep,h1,h2,h3,h4,h5⟩:=(show fA P w H h a (.dT ae) from Xn ok e)
 refine⟨z,y,xs,r,o,es,ep,h1,h2,h3,h4,fun x hx=>?_,h5⟩
 have all:∀ {l:List (List Key × V)} {m:List (List Key × Addr × Value)},KT H l m->∀ x∈m,(tupleKind (jv P w)).is h x.1 x.2.1:=by
  intro l m q
  induction q with
  |nil=>intro x hx;exact nomatch hx
  |@cons p q ps qs hq t ih =>
   intro x hx
   rcases dv.mp hx with e|hx
   ·subst e
    exact GA ok (by rw[<- hq.1];exact hq.2.1)
   ·exact ih x hx
 exact all r x hx
theorem cw'(ok:fT P w H h)(e:H a=some (.dT ae)):ae.length<=sizeLine/\(a == sysModules)=false /\
  ∃ xs,KT H ae xs/\h.DictOfH (tupleKind (jv P w)) a xs:=D5 ok (.inl e)
end
def kA(H:Hp)(a:Addr)(y:V)(r:Option V):Prop :=
 (∃ ae k,Rd H a (.dK ae)/\y=kV k/\r=ky ae k)\/∃ ae k b,Rd H a (.dT ae)/\y=.ref b/\H b=some (.tup (k.map kV))/\r=ky ae k
def BM(H:Hp)(a:Addr)(y v:V)(H':Hp):Prop :=
 (∃ ae k,H a=some (.dK ae)/\y=kV k/\ae.length<sizeLine/\H'=upd H a (.dK (putK ae k v))) \/
 ∃ ae k b,H a=some (.dT ae)/\y=.ref b/\H b=some (.tup (k.map kV))/\ae.length<sizeLine/\H'=upd H a (.dT (putK ae k v))
theorem kA.k{H:Hp}{a:Addr}{ae:List (Key × V)}{k:Key}(e:H a=some (.dK ae)):kA H a (kV k) (ky ae k):=.inl ⟨ae,k,.inl e,rfl,rfl⟩
theorem kA.t{H:Hp}{a b:Addr}{ae:List (List Key × V)}{k:List Key}(e:H a=some (.dT ae))(eb:H b=some (.tup (k.map kV))):kA H a (.ref b) (ky ae k):=.inr ⟨ae,k,b,.inl e,rfl,eb,rfl⟩
theorem BM.k{H:Hp}{a:Addr}{ae:List (Key × V)}{k:Key}{v:V}(e:H a=some (.dK ae))(hl:ae.length<sizeLine):BM H a (kV k) v (upd H a (.dK (putK ae k v))):=.inl ⟨ae,k,e,rfl,hl,rfl⟩
theorem BM.t{H:Hp}{a b:Addr}{ae:List (List Key × V)}{k:List Key}{v:V}(e:H a=some (.dT ae))(eb:H b=some (.tup (k.map kV)))(hl:ae.length<sizeLine) :
  BM H a (.ref b) v (upd H a (.dT (putK ae k v))):=.inr ⟨ae,k,b,e,rfl,eb,hl,rfl⟩
section
variable {X:Cx}{pins:List (Addr × Obj)}{σ:St}{H:Hp}{s:Shared}{a:Addr}{y v:V}{u r:Value}{o:Option V}{A:Around}{E:Value->Shared->Prop}
theorem Inv.big(I:Inv X pins σ H s):sysModules<s.heap.objs.size:=by
 have h:mainGlobals<s.heap.objs.size:=(I.mod.glob.keeps I.bk).lt
 exact RL (by decide) h
theorem cx'(hu:A.units+1<cLine)(I:Inv X pins σ H s)(g:kA H a y (some v))(ry:RelV y u)(h:∀ w' s',Inv X pins σ H s'->RelV v w'->Q w' s') :
  wpAny (model X.prog X.w) A (getItem (.ref a) u) Q E s:=by
 rcases g with⟨ae,k,e,ey,l⟩|⟨ae,k,b,e,ey,eb,l⟩
 ·subst ey
  obtain⟨z,hd,vs,rel,dd⟩:=BI I.bp e
  obtain⟨w',hw,nh⟩:=sP.some_of (v:=v) (o:=valueAt vs k) (by rw[l];exact rel.val k)
  exact wpAny_getItem_of (D4 ry) dd.mapOf hw (h w' _ (I.tok _) nh)
 ·subst ey
  cases (show u=Value.ref b from ry)
  obtain⟨z,hd,xs,rel,dd⟩:=D5 I.bp e
  obtain⟨w',hw,nh⟩:=sP.some_of (v:=v) (o:=(atKey xs k).map (·.2)) (by rw[l];exact rel.val k)
  obtain⟨p,hp,hp2⟩:=Option.map_eq_some_iff.mp hw
  refine wpAny_getItem_heap (tupleKind_room_in1 hu) (GA I.bp eb) dd hp ?_
  rw[hp2]
  exact h w' _ (I.tok _) nh
theorem cz'(hu:A.units+1<cLine)(I:Inv X pins σ H s)(g:kA H a y o)(ry:RelV y u)(h:∀ s',Inv X pins σ H s'->Q (.bool o.isSome) s') :
  wpAny (model X.prog X.w) A (compareOp .In u (.ref a)) Q E s:=by
 rcases g with⟨ae,k,e,ey,l⟩|⟨ae,k,b,e,ey,eb,l⟩
 ·subst ey
  obtain⟨z,hd,vs,rel,dd⟩:=BI I.bp e
  refine wpAny_in_of (D4 ry) hd dd.mapOf ?_
  rw[<- (rel.val k).LP,<- l]
  exact h _ (I.tok _)
 ·subst ey
  cases (show u=Value.ref b from ry)
  obtain⟨z,hd,xs,rel,dd⟩:=D5 I.bp e
  refine wpAny_in_heap (tupleKind_room_in1 hu) (GA I.bp eb) hd dd ?_
  have q:=(rel.val k).LP
  rw[RW] at q
  rw[<- q,<- l]
  exact h _ (I.tok _)
theorem cA'(hu:A.units+1<cLine)(I:Inv X pins σ H s)(g:kA H a y o)(ry:RelV y u)(h:∀ s',Inv X pins σ H s'->Q (.bool (!o.isSome)) s') :
  wpAny (model X.prog X.w) A (compareOp .NotIn u (.ref a)) Q E s:=by
 rcases g with⟨ae,k,e,ey,l⟩|⟨ae,k,b,e,ey,eb,l⟩
 ·subst ey
  obtain⟨z,hd,vs,rel,dd⟩:=BI I.bp e
  refine wpAny_notIn_of (D4 ry) hd dd.mapOf ?_
  rw[<- (rel.val k).LP,<- l]
  exact h _ (I.tok _)
 ·subst ey
  cases (show u=Value.ref b from ry)
  obtain⟨z,hd,xs,rel,dd⟩:=D5 I.bp e
  refine wpAny_notIn_heap (tupleKind_room_in1 hu) (GA I.bp eb) hd dd ?_
  have q:=(rel.val k).LP
  rw[RW] at q
  rw[<- q,<- l]
  exact h _ (I.tok _)
theorem SF(I:Inv X pins σ H s)(mu:Kx (H a))(hs:Heap.SameBut a s.heap h')(he:∃ q,h'.get? a=some q)(new:fA X.prog X.w (upd H a ob) h' a ob) :
  Inv X pins σ (upd H a ob) { s with heap:=h',toks:=t' } :=
 I.write (x:=a) (e:=a) mu (.inl rfl) (fun b q hb z=>(hs.2 b hb).trans z) he new
theorem Xp{P:Program}(z:ae.length<=sizeLine)(hd:(a == sysModules)=false)(rel:KV ae vs)(dd:h'.DictOf (jv P w) a vs) :
  fA P w H' h' a (.dK ae):=⟨z,hd,vs,rel,dd⟩
theorem cB'(hu:A.units+1<cLine)(I:Inv X pins σ H s)(g:BM H a y v H')(ry:RelV y u)(rv:RelV v r)(h:∀ s',Inv X pins σ H' s'->Q () s') :
  wpAny (model X.prog X.w) A (setItem (.ref a) u r) Q E s:=by
 rcases g with⟨ae,k,e,ey,l,eH⟩|⟨ae,k,b,e,ey,eb,l,eH⟩
 ·subst ey eH
  obtain⟨z,hd,vs,rel,dd⟩:=Xo I.bp e
  have hz:vs.length<=sizeLine:=by rw[<- rel.length];exact z
  have hl:(putK ae k v).length<=sizeLine:=by have:=SD ae k v;lia
  refine wpAny_setItem_pairs (hsz:=hz) (D4 ry) dd fun h' D6 hs=>h _ ?_
  have he:∃ q,h'.get? a=some q:=let ⟨q,_,_,hq,_⟩:=D6;⟨q,hq⟩
  exact SF I (by rw[e];exact True.intro) hs he (Xp hl hd (rel.put k rv) D6)
 ·subst ey eH
  cases (show u=Value.ref b from ry)
  obtain⟨z,hd,xs,rel,dd⟩:=cw' I.bp e
  have hz:xs.length<=sizeLine:=by rw[<- Paired.length rel];exact z
  have hl:(putK ae k v).length<=sizeLine:=by have:=SD ae k v;lia
  refine wpAny_setItem_heap (hsz:=hz) (tupleKind_room_in1 hu) (GA I.bp eb) dd fun h' D6 hs=>h _ ?_
  obtain⟨q,es,ep,hq,h2,h3,h4,_,h5⟩:=D6
  refine SF I (by rw[e];exact True.intro) hs ⟨q,hq⟩ ⟨hl,hd,_,(rel.put k eb rv).keeps fun c ys ec=>?_,q,es,ep,hq,h2,h3,h4,h5⟩
  rw[g7 (Z8 ec e (fun z=>nomatch z))]
  exact ec
end
section
variable {X:Cx}{pins:List (Addr × Obj)}{σ:St}{H:Hp}{s:Shared}{a:Addr}{ae:List (Key × V)}{A:Around}{E:Value->Shared->Prop}
theorem cC' (I:Inv X pins σ H s) (e:Rd H a (.dK ae)) (h:∀ t s',Inv X pins σ H s'->Q (.int ae.length t) s'):wpAny (model X.prog X.w) A (call (.builtin "len") [.ref a]) Q E s:=by
 obtain⟨z,hd,vs,rel,dd⟩:=BI I.bp e
 refine call_len_dict hd dd (by rw[<- rel.length];rw[sizeLine_eq] at z;lia) ?_
 rw[<- rel.length]
 exact h _ _ (I.tok _)
end
theorem cD' {X:Cx} (I:Inv X pins σ H s) (g:kA H a y o):s.TypeIs (.ref a) "dict" := by
 rcases g with⟨ae,k,e,_,_⟩|⟨ae,k,b,e,_,_,_⟩
 ·obtain⟨_,_,vs,_,dd⟩:=BI I.bp e
  exact dd.typeIs
 ·obtain⟨_,_,xs,_,dd⟩:=D5 I.bp e
  exact dd.typeIs
def cE'(td ty tv:TE):TS:=fun D σ H=>tv σ H fun v H1=>td σ H1 fun x H2=>ty σ H2 fun y H3=>∃ a H4,x=.ref a/\BM H3 a y v H4/\D.nx σ H4
section
variable {X:Cx}{o i value:Expr}{pos pos':Pos}{td ty tv:TE}
theorem cF'(hu:X.A.units+1<cLine)(ho:PE X o td)(hi:PE X i ty)(hv:PE X value tv)(hs:swapsWith value (some (.Subscript o i pos')) pos.line X.env=pure false) :
  PS X (.Assign [.Subscript o i pos'] value pos) (cE' td ty tv):=by
 intro pins s σ H D I h
 refine wpAny_Assign_Subscript (cK (hv pins s σ H _ I h) fun r s1 cy=>L2.fz cy fun v H1 I1 rv q1=>cK (ho pins s1 σ H1 _ I1 q1) fun u s2 cy=>L2.fz cy fun x H2 I2 rx q2=>cK (hi pins s2 σ H2 _ I2 q2) fun iv s3 df=>?_) hs
 obtain⟨y,H3,I3,ry,a,H4,ex,g,q3⟩:=df
 subst ex
 obtain rfl:u=Value.ref a:=rx
 exact cB' hu I3 g ry rv fun s4 I4=>⟨σ,H4,I4,q3⟩
end
theorem cG' {P:Program} (h:Heap) (hb:sysModules<h.objs.size):fA P w H (h.push { cls:=.type "dict",data:=.dict #[] }) h.objs.size (.dK []) :=
 ⟨eu _,beq_eq_false_iff_ne.mpr (Ne.symm (gi hb)),[],.nil,Heap.DictOf.new h⟩
def cH':TE:=fun _ H Q=>∀ p,H p=none->Q (.ref p) (upd H p (.dK []))
section
variable {X:Cx}{pos:Pos}
theorem cI':PE X (.Dict [] [] pos) cH':=fun pins s σ H Q I h =>
 wpAny_Dict_empty ⟨.ref s.heap.objs.size,_,I.laid (a:=s.heap.objs.size) (o:=.dK []) (t':=s.toks) (fun _ _ q=>fw _ q) (cq _) (cG' s.heap I.big),rfl,h _ (I.bp.fresh (cq _))⟩
end
structure M1(X:Cx)(o:Expr)(m:Str)(apos:Pos)(e:Expr)(dk:Pos):Prop where
 base:attributeBase o m X.env (eval o X.env)=eval o X.env
 few:((backTo dk (starEach [e] X.env)).all (fun x=>!x.1) && (backToKw dk (keywordEach [] X.env)).all (fun x=>x.1.isSome)
  && decide (([e]:List Expr).length+([]:List Keyword).length+(if ([]:List Keyword).isEmpty then 0 else 1)<30))=true
 line:(apos.endLine == dk.line)=true
 trees:backTo dk (starEach [e] X.env)=[(false,eval e X.env)]
structure M2(X:Cx)(o:Expr)(m:Str)(apos:Pos)(e f:Expr)(dk:Pos):Prop where
 base:attributeBase o m X.env (eval o X.env)=eval o X.env
 few:((backTo dk (starEach [e,f] X.env)).all (fun x=>!x.1) && (backToKw dk (keywordEach [] X.env)).all (fun x=>x.1.isSome)
  && decide (([e,f]:List Expr).length+([]:List Keyword).length+(if ([]:List Keyword).isEmpty then 0 else 1)<30))=true
 line:(apos.endLine == dk.line)=true
 trees:backTo dk (starEach [e,f] X.env)=[(false,eval e X.env),(false,eval f X.env)]
def Qb(H:Hp)(a:Addr):Prop:=(∃ ae,Rd H a (.dK ae))\/∃ ae,Rd H a (.dT ae)
theorem Xq{X:Cx}(I:Inv X pins σ H s)(d:Qb H a) :
  s.TypeIs (.ref a) "dict"/\(∀ b,Value.ref a=.ref b->∃ ob,s.heap.get? b=some ob/\ob.dict=none)/\(a == sysModules)=false:=by
 rcases d with⟨ae,e⟩|⟨ae,e⟩
 ·obtain⟨_,hd,vs,_,dd⟩:=BI I.bp e
  refine⟨dd.typeIs,fun b q=>?_,hd⟩
  cases q
  obtain⟨ob,_,_,h1,h2,_⟩:=dd
  exact⟨ob,h1,h2.2.1⟩
 ·obtain⟨_,hd,xs,_,dd⟩:=D5 I.bp e
  refine⟨dd.typeIs,fun b q=>?_,hd⟩
  cases q
  obtain⟨ob,_,_,h1,h2,_⟩:=dd
  exact⟨ob,h1,h2.2.1⟩
section
variable {X:Cx}{pins:List (Addr × Obj)}{σ:St}{H:Hp}{s:Shared}{a:Addr}{y d:V}{u r:Value}{o:Option V}{A:Around}{E:Value->Shared->Prop}
theorem cJ'(hu:A.units+1<cLine)(I:Inv X pins σ H s)(g:kA H a y o)(ry:RelV y u)(rd:RelV d r)(h:∀ w' s',Inv X pins σ H s'->RelV (o.getD d) w'->Q w' s') :
  wpAny (model X.prog X.w) A (call (.builtin "dict.get") [.ref a,u,r]) Q E s:=by
 rcases g with⟨ae,k,e,ey,l⟩|⟨ae,k,b,e,ey,eb,l⟩
 ·subst ey
  obtain⟨z,hd,vs,rel,dd⟩:=BI I.bp e
  refine call_meetsIn PySem.F.slot_dict_get dd.typeIs PySem.F.entry_dict_get (PySem.F.args_dict_get_3 _ _ _) (meets_dict_get_default (jv X.prog X.w) a (D4 ry) hd r) ⟨_,dd.mapOf,h _ _ (I.tok _) ?_⟩
  rw[l]
  exact(rel.val k).getD rd
 ·subst ey
  cases (show u=Value.ref b from ry)
  obtain⟨z,hd,xs,rel,dd⟩:=D5 I.bp e
  refine call_meetsIn PySem.F.slot_dict_get dd.typeIs PySem.F.entry_dict_get (PySem.F.args_dict_get_3 _ _ _) (meetsH_dict_get_default (tupleKind (jv X.prog X.w)) a b hd r) ⟨tupleKind_room_in1 hu,k,xs,GA I.bp eb,dd,h _ _ (I.tok _) ?_⟩
  rw[l]
  exact(rel.val k).getD rd
end
def Xr(td ty tx:TE):TE:=fun σ H Q=>td σ H fun x H1=>∃ a,x=.ref a/\Qb H1 a/\ty σ H1 fun y H2=>tx σ H2 fun z H3=>∃ o,kA H3 a y o/\Q (o.getD z) H3
section
variable {X:Cx}{o e f:Expr}{apos dk:Pos}{td ty tx:TE}
theorem cK' (hu:X.A.units+1<cLine) (ho:PE X o td) (he:PE X e ty) (hf:PE X f tx) (m:M2 X o "get" apos e f dk):PE X (.Call (.Attribute o "get" apos) [e,f] [] dk) (Xr td ty tx):=by
 intro pins s σ H Q I h
 refine wpAny_Call_method m.base m.few m.line PySem.F.plainAttrs_dict PySem.F.slot_dict_get PySem.F.type_dict_get (cK (ho pins s σ H _ I h) fun u s1 df=>?_)
 obtain⟨x,H1,I1,rx,a,ex,d,q1⟩:=df
 subst ex
 obtain rfl:u=Value.ref a:=rx
 obtain⟨t1,t2,_⟩:=Xq I1 d
 refine⟨t1,t2,?_⟩
 rw[m.trees]
 refine Calls.callWith_builtin rfl (Calls.evalArgs_plain (Calls.spliced_cons (cK (he pins s1 σ H1 _ I1 q1) fun iv s2 cy=>L2.fz cy fun y H2 I2 ry q2 =>
  Calls.spliced_cons (cK (hf pins s2 σ H2 _ I2 q2) fun fv s3 ⟨z,H3,I3,rz,ov,g,q3⟩=>Calls.spliced_nil ?_))))
 exact cJ' hu I3 g ry rz fun w' s4 I4 nh=>⟨_,H3,I4,nh,q3⟩
end
end L2
namespace Xu
open PySem PySem.W PySem.Calls PyProof.Rows
theorem cL'{P:Params}:∀ (ns:List Int) (vs:List Value),WellAll P h vs (ns.map WData.int)->IntsAre vs ns:=by
 intro ns
 induction ns with
 |nil =>
  intro vs w
  rw[IZ] at w
  cases w
  exact .nil
 |cons n ns ih =>
  intro vs w
  rw[fP] at w
  cases w with
  |cons a b =>
   cases a
   exact .cons _ _ (ih _ b)
theorem cM'{l:OpenLaw}{n:Nat}(hn:l.most=some n){P:Params}{h:Heap}{args:List WData}{vals:List Value}
  (BO:l.row.toRowW.claim.pre args=true) (SG:WellAll P h vals args) :
  ∃ a vs ns,vals=[Value.ref a]/\args=[WData.list (ns.map WData.int)]/\h.get? a=some { cls:=.type "list",data:=.seq vs.toArray }/\IntsAre vs ns/\ns.length<=n:=by
 have wo:WShape.hasAll [] args [.list .int]=true:=(pre_splitW BO).1
 have hc:l.pre.holds [] { args:=args }=true:=(pre_splitW BO).2
 obtain⟨d,r,rfl,h1,h2⟩:=hasAllW_cons wo
 obtain rfl:=hasAllW_nil h2
 obtain⟨xs,rfl,h3⟩:=hasW_list h1
 obtain⟨ns,rfl⟩:=items_int h3
 have hlen:ns.length<=n:=by
  unfold OpenLaw.pre at hc
  have h4:(WTm.not (.lt (.lit (.int (n:Int))) (.len (.arg 0)))).holds [] { args:=[.list (ns.map .int)] }=true:=by
   have h4:=(holds_andW hc).1
   rw[hn] at h4
   exact h4
  have h5:=condW_of h4 (w_not (w_lt w_lit (w_len_list (w_arg rfl))))
  rw[bP] at h5
  refine Jn fun q=>?_
  have q':(n:Int)<((ns.length:Nat):Int):=by lia
  first
   | (rw[decide_eq_true q'] at h5;exact absurd h5 (by decide))
   | (simp at h5;lia)
 cases SG with
 |cons w1 w2 =>
  cases w2
  cases w1 with
  |list ho mw=>exact⟨_,_,ns,rfl,rfl,ho,cL' ns _ mw,hlen⟩
theorem cN'(l:OpenLaw)(args:List WData):l.row.toRowW.claim.post args (.bool true) args=true :=
 postW_of (r:=l.row.toRowW) (X:=(true == true))
  (show WShape.has [] (.bool true) .bool=true by first|rfl|decide|simp[WShape.has,WShape.arms,WShape.armsAll])
  (show(WTm.eq .res (.lit (.bool true))).value [] { args:=args,res:=some (.bool true),after:=args }=some (.bool (true == true)) from w_eq_bool (w_res rfl) w_lit) rfl
theorem cO'{l:OpenLaw}{n:Nat}{q:Program}{loose:List Str}{XP:(Str->Option Value)->Heap->Prop}{YP:World->Heap->Prop}{d:DefRec}
  (hn:l.most=some n) (LS:d.params.defaults=[])
  (call:∀ (w:World) (eC ez:Shared) (mg mb:Str->Option Value) (fa:Addr) (o:Obj) (pm cd doc:Value) (a:Addr) (vs:List Value) (ns:List Int),
   Ground q loose [] XP w eC mg mb ez.heap->YP w ez.heap ->
   ez.heap.get? fa=some o->o.data=.func (docDef d.name d.params d.body d.scope pm cd doc)->ez.heap.CodeRec cd d.name->mg d.name=some (.ref fa) ->
   ez.heap.get? a=some { cls:=.type "list",data:=.seq vs.toArray }->IntsAre vs ns->ns.length<=n->ez.gens = #[] ->
   codeAny (model l.prog w) callerA (.call (.ref fa) ⟨[.ref a],[]⟩) (fun r s'=>r=.ok (.ret (.bool true))/\OldK ez.heap s'.heap/\s'.os=ez.os/\AllBare s'.gens) ez) :
  WalkO q loose XP YP l.row.toRowW d [] (fun f vs=>PySem.call f vs):=by
 intro w eC ez mg mb G Y fa o pm cd doc dV kV ho hd oy hD LV hg args vals as BO hlay hrd SG BQ
 obtain rfl:dV=.none:=Dflts.none hD LS
 obtain rfl:kV=.none:=Dflts.noKw hD
 obtain⟨a,vs,ns,rfl,rfl,SJ,hints,hlen⟩:=cM' hn BO SG
 refine enter_call (codeAny_mono (call w eC ez mg mb fa o pm cd doc a vs ns G Y ho (fd_plain hd) oy LV SJ hints hlen hg) fun r s' hq=>?_)
 obtain⟨rfl,h2,h3,h4⟩:=hq
 exact⟨.inl ⟨.bool true,.bool true,[],rfl,fun _=>rfl,.bool true,cN' l _,fun _=>⟨List.Pairwise.nil,fun _ hm=>(nomatch hm)⟩⟩,h2,h3,h4⟩
end Xu
namespace L2
open PySem PySem.Spec PyProof.Rows
theorem Xv:∀ {vs:List Value} {ns:List Int},IntsAre vs ns->Vals (ns.map V.int) vs
 |_,_,.nil=>.nil
 |_,_,.cons n t h=>.cons ⟨t,rfl⟩ (Xv h)
def Only(H:Hp):Prop:=∀ b,H b=none\/∃ o xs,H b=some (.lS o (.lst xs))
theorem cP'{P:Program}{K:PySem.W.Frag}
  (KX:K.In ez.heap) (Xw:ez.heap.Ns mainGlobals mg) (hb:ez.heap.Ns builtinsNs mb) (hbb:∀ x:Str,x ≠ "__name__"->mb x=bootBuiltins x) (cR':ez.heap.NoLimit) (hg:ez.gens = #[])
  (ha:ez.heap.get? a=some { cls:=.type "list",data:=.seq vs.toArray }) (hi:IntsAre vs ns) (hl:ns.length<=sizeLine) (hr:gI k callerA)
  (F:∀ base:Heap,K.In base->base.Ns mainGlobals mg->eS P w K mg base CX k fa fd [x] sp) (cS':∀ (s:Shared) (u:Value),BindsTo s fd ⟨[u],[]⟩ [(x,u)])
  (x5:∀ H:Hp,Only H->eR K H a (ns.map V.int)->sp [.ref a] H (fun v _=>v=.bl true) fun _ _ _=>False)
  (SK:∀ H e s',CX [] H ez (fun _ _ _=>False) e s'->False) :
  codeAny (model P w) callerA (.call (.ref fa) ⟨[.ref a],[]⟩) (fun r s'=>r=.ok (.ret (.bool true))/\OldK ez.heap s'.heap/\s'.os=ez.os/\AllBare s'.gens) ez:=by
 have rv:=Xv hi
 have cT':=hi.length
 -- from an abstract heap in which nothing but the script may be tracked
 have core:∀ H:Hp,Only H->eR K H a (ns.map V.int)->fT P w H ez.heap->(∀ b,H b≠none->b=a)->(H a≠none->K.lookup a=none) ->
   codeAny (model P w) callerA (.call (.ref fa) ⟨[.ref a],[]⟩) (fun r s'=>r=.ok (.ret (.bool true))/\OldK ez.heap s'.heap/\s'.os=ez.os/\AllBare s'.gens) ez:=by
  intro H hO hS bp hA hK
  have Xx:∀ {b:Addr} {o:Obj},ez.heap.get? b=some o->H b=none->(z0 ez.heap H).get? b=some o:=fun e n=>aa' e n
  have LD:∀ {b:Addr} {o:Obj} {es:Array DictEntry} {ep:Nat},ez.heap.get? b=some o->o.data=.dict es ep->H b=none:=fun {b o es ep} e d=>by
   cases q:H b with
   |none=>rfl
   |some u =>
    have e':b=a:=hA b (by rw[q];simp)
    subst e'
    rw[ha] at e;cases e
    have d':Data.seq vs.toArray _=Data.dict es ep:=d
    cases d'
  have Qc:∀ {b:Addr} {m:Str->Option Value},ez.heap.Ns b m->(z0 ez.heap H).Ns b m:=fun {b m} ⟨o,es,ep,e,d,r⟩=>⟨o,es,ep,Xx e (LD e d),d,r⟩
  have Xy:K.In (z0 ez.heap H):=fun b o e=>Xx (KX b o e) (by
   cases q:H b with
   |none=>rfl
   |some u =>
    have e':b=a:=hA b (by rw[q];simp)
    subst e'
    rw[hK (by rw[q];simp)] at e;cases e)
  have hM:Mod K mg (z0 ez.heap H):=⟨Xy,Qc Xw,⟨mb,Qc hb,hbb⟩,let ⟨mc,h1,h2⟩:=cR';⟨mc,Qc h1,h2⟩⟩
  have e0:P2 P w K mg (z0 ez.heap H) callerA [] ez H:=⟨rfl,hM,fun b o e=>ab' e,Nat.le_of_eq (Z_ _ _),trivial,fun b hb=>absurd (show b∈([]:List Addr) from hb) (by simp),bp,.of_eq hg⟩
  refine codeAny_mono ((F _ Xy (Qc Xw)).run callerA [] ez H ⟨[.ref a],[]⟩ [.ref a] [.ref a] _ _ hr e0 (cS' ez (.ref a)) (.cons rfl .nil) (x5 H hO hS)) fun r s' h=>?_
  cases r with
  |error e=>exact(SK H e s' h).elim
  |ok fl =>
   cases fl with
   |next=>exact False.elim h
   |brk=>exact False.elim h
   |cont=>exact False.elim h
   |ret u =>
    obtain⟨v,H',os,bare,un,cU',r',q⟩:=h
    have q':v=.bl true:=q
    subst q'
    obtain rfl:u=Value.bool true:=r'
    refine⟨rfl,OldK.of_keep fun b o e=>?_,os,bare⟩
    cases q:H b with
    |none=>exact un.keep b o e q (by intro z;exact absurd (show b∈([]:List Addr) from z) (by simp)) (by simp)
    |some u =>
     rcases hO b with z|⟨ob,xs,z⟩
     ·rw[q] at z;cases z
     ·have z2:=un.pz b ob _ z
      obtain⟨e1,_⟩:=bp b _ z
      obtain⟨e2,_⟩:=cU' b _ z2
      rw[e] at e1;cases e1
      exact e2
 cases hk:K.lookup a with
 |some o =>
  -- the script is one of the module's own objects
  have e:=KX a o hk
  rw[ha] at e
  cases e
  refine core (fun _=>none) (fun _=>.inl rfl) (.inr ⟨_,vs.toArray,_,hk,rfl,rfl,rfl,by rw[iq,cT'];exact hl,by simpa using rv⟩) (fun b u z=>by have z':(none:Option HO)=some u:=z;cases z') (fun b z=>absurd rfl z) fun z=>absurd rfl z
 |none =>
  refine core (fun b=>if b=a then some (.lS { cls:=.type "list",data:=.seq vs.toArray } (.lst (ns.map V.int))) else none) (fun b=>?_) (.inl (.inr ⟨{ cls:=.type "list",data:=.seq vs.toArray },if_pos rfl⟩)) (fun b u z=>?_) (fun b z=>?_) fun _=>hk
  ·by_cases hb:b=a
   ·exact .inr ⟨_,_,if_pos hb⟩
   ·exact .inl (if_neg hb)
  ·by_cases hb:b=a
   ·have z':=(if_pos hb).symm.trans z
    cases z'
    subst hb
    exact⟨ha,by rw[bP];exact hl,vs,_,rv,ha⟩
   ·have z':=(if_neg hb).symm.trans z
    cases z'
  ·by_cases hb:b=a
   ·exact hb
   ·exact absurd (if_neg hb) z
theorem cV'{l:PySem.W.OpenLaw}{n k:Nat}{q:Program}{loose:List Str}{XP:(Str->Option Value)->Heap->Prop}{YP:World->Heap->Prop}{d:DefRec}{K:Params->PySem.W.Frag}{CX:World->Au}{sp:World->Sp}{x:Str}
  (hn:l.most=some n) (GB:n<=sizeLine) (LS:d.params.defaults=[]) (hr:gI k callerA)
  (hY:∀ (w:World) (h:Heap),YP w h->(K w.params).In h)
  (F:∀ (w:World) (mg:Str->Option Value) (fa:Addr) (h:Heap),(K w.params).In h->h.Ns mainGlobals mg->mg d.name=some (.ref fa) ->
   ∃ fd:FuncData,(∀ (s:Shared) (u:Value),BindsTo s fd ⟨[u],[]⟩ [(x,u)]) /\
    ∀ base:Heap,(K w.params).In base->base.Ns mainGlobals mg->eS l.prog w (K w.params) mg base (CX w) k fa fd [x] (sp w))
  (x5:∀ (w:World) (H:Hp) (a:Addr) (ns:List Int),ns.length<=n->Only H->eR (K w.params) H a (ns.map V.int)->sp w [.ref a] H (fun v _=>v=.bl true) fun _ _ _=>False)
  (SK:∀ (w:World) (H:Hp) (s:Shared) (e:Value) (s':Shared),CX w [] H s (fun _ _ _=>False) e s'->False) :
  PySem.W.WalkO q loose XP YP l.row.toRowW d [] (fun f vs=>PySem.call f vs):=by
 refine Xu.cO' hn LS fun w eC ez mg mb fa o pm cd doc a vs ns G Y ho hd oy LV SJ hints hlen hg=>?_
 have KX:=hY w _ Y
 obtain⟨fd,hb,hF⟩:=F w mg fa _ KX G.T.g LV
 exact cP' KX G.T.g G.T.b G.T.builtins G.T.nolimit hg SJ hints (fS hlen GB) hr hF hb (fun H hO hS=>x5 w H a ns hlen hO hS) fun H e s'=>SK w H ez e s'
def gS(s:Stmt):Arguments:=match s with
 |.FunctionDef _ a _ _ _ _ _ _ _ _=>a
 |_=>{ posonlyargs:=[],args:=[],vararg:=none,kwonlyargs:=[],kw_defaults:=[],kwarg:=none,defaults:=[] }
def eI(s:Stmt):List Stmt:=match s with
 |.FunctionDef _ _ b _ _ _ _ _ _ _=>b
 |_=>[]
def bI(s:Stmt):Scope:=match s with
 |.FunctionDef _ _ _ _ _ _ sc _ _ _=>sc
 |_=>{ kind:=.function,names:=[],isGenerator:=false,isCoroutine:=false }
abbrev iA:Au:=fun _ _ _ _ _ _=>False
abbrev E0:XK:=fun _ _ _=>False
theorem cW'{X:Cx}:Passes iA X E0:=fun _ _ _ _ _ _ _ h=>h.elim
structure eJ(K:PySem.W.Frag)(x qual:Str)(st:Stmt)(f:Addr)(fd:FuncData):Prop where
 ex:∃ (oc:Value) (od:Option Addr) (kV doc pm:Value) (an:Option Addr) (cp ct:Value) (D1:Array (Option Value)),
  fd=PySem.W.fnOf x qual (gS st) (eI st) (bI st) .none kV doc pm an cp ct/\K.lookup f=some ⟨oc,od,.func fd,D1⟩/\PySem.W.codeIn K cp qual=true
 kp:PySem.W.keepIn K (.ref f)=true
section
variable {P:Program}{w:World}{K:PySem.W.Frag}{mg:Str->Option Value}{base:Heap}
theorem eJ.ok{st:Stmt}{N ps:List Str}(F:eJ K x qual st f fd)(S:g9 N ps (bI st))(len:∀ vs H Q E,sp vs H Q E->vs.length=ps.length)
  (AA:∀ (cp:Value) (A:Around) (outer:List Env) (s:Shared) (H:Hp) (vs:List V) (Q:VK) (E:XK),gI k (A.deeper (envOfC qual (bI st) s.heap.objs.size f cp))->sp vs H Q E ->
   ∃ t,oa (mr iA P w K mg base N qual (bI st) f cp A outer s H E).FR (eI st) t/\t { nx:=fun _ H'=>Q .non H',rt:=Q } (start N vs) H):eS P w K mg base iA (k+1) f fd ps sp:=by
 obtain⟨oc,od,kV,doc,pm,an,cp,ct,D1,rfl,lk,oy⟩:=F.ex
 refine W5 lk oy S len fun A outer s H vs Q E hr x5=>?_
 obtain⟨t,h,q⟩:=AA cp A outer s H vs Q E hr x5
 exact⟨t,h.FR,q⟩
theorem eJ.binds{st:Stmt}{ps:List Str}(F:eJ K x qual st f fd)
  (h:∀ (kV doc pm:Value) (an:Option Addr) (cp ct:Value) (us:List Value),us.length=ps.length->bindArgs (PySem.W.fnOf x qual (gS st) (eI st) (bI st) .none kV doc pm an cp ct) ⟨us,[]⟩=pure (ps.zip us)):Binds K fd ps []:=by
 obtain⟨oc,od,kV,doc,pm,an,cp,ct,D1,rfl,lk,oy⟩:=F.ex
 exact .all (h kV doc pm an cp ct)
theorem jI{st:Stmt}{kV doc pm cp ct:Value}(l:K.lookup f=some ⟨oc,od,.func (PySem.W.fnOf x qual (gS st) (eI st) (bI st) .none kV doc pm an cp ct),D1⟩)
  (c:PySem.W.codeIn K cp qual=true) (k:PySem.W.keepIn K (.ref f)=true):eJ K x qual st f (PySem.W.fnOf x qual (gS st) (eI st) (bI st) .none kV doc pm an cp ct):=⟨⟨oc,od,kV,doc,pm,an,cp,ct,D1,rfl,l,c⟩,k⟩
end
section
variable {X:Cx}
theorem pv (i:Nat) (hN:X.N[i]? = some x:=by rfl) (hv:Pz X.env.scope x:=by first|exact Or.inl rfl|exact Or.inr (Or.inl rfl)|exact Or.inr (Or.inr rfl)) (hd:(x == ("__debug__" : Str))=false:=by decide)
  (oy:(x == ("__classdict__" : Str))=false:=by decide):PE X (.Name x pos) (FP i):=Wl hN hv hd oy
end
def aI(H H':Hp):Prop:=∀ b o,H b=some o->H' b=some o
theorem aI.refl(H:Hp):aI H H:=fun _ _ h=>h
theorem aI.trans(a:aI H H1)(b:aI H1 H2):aI H H2:=fun c o h=>b c o (a c o h)
theorem aI.free(e:aI H H')(h:H' l=Option.none):H l=Option.none:=by
 cases q:H l with
 |none=>rfl
 |some o =>
  rw[e l o q] at h
  cases h
theorem aI.seq{K:PySem.W.Frag}(e:aI H H')(h:eR K H a xs):eR K H' a xs:=by
 rcases h with(h|⟨o,h⟩)|h
 ·exact .inl (.inl (e _ _ h))
 ·exact .inl (.inr ⟨o,e _ _ h⟩)
 ·exact .inr h
end L2
set_option maxHeartbeats 4000000
namespace L2
open PySem PySem.Spec PyProof.Rows
def rh(env:Env):List (Str × NameKind)->List (Str × Addr)->List (Str × Addr)
 |[],cs=>cs
 | (n,k) :: r,cs=>rh env r (if k == NameKind.free then (n,(env.cells.lookup n).getD 0) :: cs else cs)
theorem jH(env:Env):∀ (names:List (Str × NameKind)) (cs:List (Str × Addr)),(∀ y∈names,y.2=.free->∃ c,env.cells.lookup y.1=some c) ->
  (forIn names cs fun x r=>match x with
   | (name,kind)=>if (kind == NameKind.free)=true then do let a <- cellOf env name;pure (ForInStep.yield ((name,a) :: r)) else pure (ForInStep.yield r):Sem (List (Str × Addr)))=pure (rh env names cs)
 |[],cs,_=>rfl
 | (n,k) :: r,cs,h=>by
  rw[List.forIn_cons]
  have ih:=jH env r
  by_cases hk:k=.free
  ·subst hk
   obtain⟨c,e⟩:=h (n,.free) dz rfl
   have e:env.cells.lookup n=some c:=e
   have e2:cellOf env n=pure c:=by unfold cellOf;rw[e]
   have e3:rh env ((n,.free) :: r) cs=rh env r ((n,c) :: cs):=by
    show rh env r (if (NameKind.free == NameKind.free)=true then (n,(env.cells.lookup n).getD 0) :: cs else cs)=_
    rw[e];rfl
   rw[e3,<- ih ((n,c) :: cs) fun y hy=>h y (dn _ hy)]
   simp only[beq_self_eq_true,if_true,e2]
   rfl
  ·have hb:(k == NameKind.free)=false:=by simpa using hk
   have e3:rh env ((n,k) :: r) cs=rh env r cs:=by
    show rh env r (if (k == NameKind.free)=true then _ else cs)=_
    rw[hb];rfl
   rw[e3,<- ih cs fun y hy=>h y (dn _ hy)]
   simp only[hb,gy,if_false]
   rfl
theorem qx(h:∀ y∈scope.names,y.2=.free->∃ c,env.cells.lookup y.1=some c):closureFor scope env=pure (rh env scope.names []):=by
 have:=jH env scope.names [] h
 unfold closureFor
 rw[<- bind_pure (forIn scope.names [] _)] at this
 exact this
theorem pJ:∀ {names:List (Str × NameKind)} {cs:List (Str × Addr)},(∀ y∈names,y.2=.free->∃ c,env.cells.lookup y.1=some c)->(∀ y d,cs.lookup y=some d->env.cells.lookup y=some d) ->
  (rh env names cs).lookup x=some c->env.cells.lookup x=some c
 |[],cs,_,h,e=>h x c e
 | (n,k) :: r,cs,hf,h,e=>by
  refine pJ (names:=r) (fun y hy=>hf y (dn _ hy)) ?_ e
  intro y d hd
  by_cases hk:k=.free
  ·subst hk
   obtain⟨c',e'⟩:=hf (n,.free) dz rfl
   have e':env.cells.lookup n=some c':=e'
   simp only[beq_self_eq_true,if_true,e',Option.getD_some,RB] at hd
   cases hb:y == n with
   |true=>rw[hb] at hd;have:y=n:=eq_of_beq hb;subst this;rw[e'];exact hd
   |false=>rw[hb] at hd;exact h y d hd
  ·have hb:(k == NameKind.free)=false:=by simpa using hk
   simp only[hb,gy,if_false] at hd
   exact h y d hd
theorem m5:∀ {names:List (Str × NameKind)} {cs:List (Str × Addr)},((x,NameKind.free)∈names\/∃ c,cs.lookup x=some c)->∃ c,(rh env names cs).lookup x=some c
 |[],cs,h=>by
  rcases h with h|h
  ·exact nomatch h
  ·exact h
 | (n,k) :: r,cs,h=>by
  refine m5 (names:=r) ?_
  rcases h with h|⟨c,h⟩
  ·rcases dv.mp h with e|h
   ·cases e
    refine .inr ⟨(env.cells.lookup x).getD 0,?_⟩
    simp only[beq_self_eq_true,if_true,RB]
   ·exact .inl h
  ·refine .inr ?_
   by_cases hk:(k == NameKind.free)=true
   ·simp only[hk,if_true,RB]
    cases hb:x == n with
    |true=>exact⟨_,rfl⟩
    |false=>exact⟨c,h⟩
   ·simp only[hk,if_false]
    exact⟨c,h⟩
def bJ(X:Cx)(scope:Scope)(C:Addr)(N:List Str)(fp:List Addr)(gp:Shared)(hG:Hp):Cx :=
 { X with N:=N,eC:=gp,vS:=hG,env:=compEnvC scope (rh X.env scope.names []) C X.env,outer:=X.stack,stack:=X.stack,ex:=fp,fn:=fun _=>false,pn:=[],xe:=fun _ _=>False }
def ya(X:Cx)(ifs:List Expr)(t:TT):Prop :=
 ∀ (pins:List (Addr × Obj)) (s:Shared) (σ:St) (H:Hp) (Q:Bool->Hp->Prop),Inv X pins σ H s->t σ H Q ->
  wpAny (model X.prog X.w) X.A (forIn ifs true fun c r=>if r=true then do let ok <- isTrue c X.env (eval c X.env);pure (ForInStep.yield ok) else pure (ForInStep.yield r)) (TP X pins σ Q) X.xe s
def cX':TT:=fun _ H Q=>Q true H
theorem Dv{X:Cx}:ya X [] cX':=fun _ _ _ H _ I h=>wpAny_tests_nil ⟨H,I,h⟩
theorem F_{X:Cx}(h:PT X c t):ya X [c] t:=fun pins s σ H Q I hw=>wpAny_tests_one (h pins s σ H Q I hw)
theorem iG{R:Result->Shared->Prop}(I:Nat->Shared->Prop)(E:Value->Shared->Prop)
  (turn:∀ n s,I n s->wpAny (model prog w) A (pyNext it) (fun r ez=>match r with
   |none=>R (.ok .next) ez
   |some v=>wpAny (model prog w) A (letOwnedTupleGo target it v) (fun _ eC=>wpAny (model prog w) A (assign target env v) (fun _ DV =>
     wpAny (model prog w) A (forIn ifs true fun c r=>if r=true then do let ok <- isTrue c env (eval c env);pure (ForInStep.yield ok) else pure (ForInStep.yield r)) (fun ok gp =>
      if ok=true then wpAny (model prog w) A (eval elt env) (fun x Xz =>
       wpAny (model prog w) A (call (.builtin "list.append") [acc,x]) (fun _ XC=>∃ m,m<n/\I m XC) E Xz) E gp
      else ∃ m,m<n/\I m gp) E DV) E eC) E ez) E s)
  (hE:∀ e s',E e s'->notedBy (model prog w) A env (fun e s'=>R (.error e) s') e s')
  (n:Nat) (h:I n s) :
  codeAny (model prog w) A (.compLoop (.ListComp elt [⟨target,iter,ifs,0⟩] scope pos) 0 it acc env) R s:=by
 refine codeAny_loop rfl I (fun n s hI=>?_) n h
 show wpAny _ A ((compTurn (.ListComp elt [⟨target,iter,ifs,0⟩] scope pos) 0 it acc env).onRaise (fun x=>do noteFrame x env;theTreesLotGoes x)) _ _ s
 refine wpAny_noted ?_
 rw[compTurn_list]
 refine pe (Q:=_) (E:=E) ?_ (fun _ _ q=>q) hE
 refine ax (wpAny_standAt (ax (pe (turn n s hI) (fun r ez LW=>?_) fun _ _ h'=>h')))
 cases r with
 |none=>exact aS LW
 |some v =>
  refine ax (pe LW (fun _ eC h₀=>?_) fun _ _ h'=>h')
  refine ax (pe h₀ (fun _ DV cY'=>ax (pe cY' (fun ok gp XD=>?_) fun _ _ h'=>h')) fun _ _ h'=>h')
  cases ok with
  |false=>exact aS ⟨rfl,XD⟩
  |true =>
   exact ax (ax (pe XD (fun x Xz cZ'=>ax (pe cZ' (fun _ XC da'=>aS (aS ⟨rfl,da'⟩)) fun _ _ h'=>h')) fun _ _ h'=>h'))
def qC(tn:Nat)(ix:List Nat)(σ:St):St:=List.replicate tn none++ix.map fun j=>(σ[j]?).join
def yQ(wi:TI)(g:TG)(tc:TT)(te:TE)(tn:Nat)(ix:List Nat):TE:=fun σ H Q=>wi σ H fun J H1=>∀ D,H1 D=none ->
 ∃ W:Nat->Nat->St->Hp->Prop,(∃ m,W 0 m (qC tn ix σ) (upd H1 D (.lst [])))/\∀ i m τ H,W i m τ H ->
  (J.stop i H/\Q (.ref D) H)\/(J.go i H/\∃ (N1:St->V->Hp->Prop) (N2:St->Hp->Prop),
   (∀ kS v H4,N1 kS v H4->∃ ys m',H4 D=some (.lst ys)/\ys.length<sizeLine/\m'<m/\W (i+1) m' kS (upd H4 D (.lst (ys++[v])))) /\
   (∀ kS H3,N2 kS H3->∃ m',m'<m/\W (i+1) m' kS H3) /\
   ∀ x H',J.ng i H x H'->g x τ H' fun kS H2=>tc kS H2 fun b H3=>if b=true then te kS H3 (N1 kS) else N2 kS H3)
section
variable {X:Cx}{tg iter elt:Expr}{ifs:List Expr}{scope:Scope}{pos:Pos}{wi:TI}{g:TG}{tc:TT}{te:TE}{tn cn:List Str}{ix:List Nat}
structure bU(X:Cx)(scope:Scope)(tn cn:List Str)(ix:List Nat):Prop where
 kind:scope.kind=.function
 db':∀ y∈scope.names,y.2≠.cell
 free:∀ y∈scope.names,y.2=.free->X.env.scope.names.lookup y.1=some .cell\/X.env.scope.names.lookup y.1=some .free
 names:∀ y∈scope.names,y.2=.local->scope.names.lookup y.1=some .local
 len:ix.length=cn.length
 cap:∀ (k j:Nat),ix[k]? = some j->∃ y,cn[k]? = some y/\X.N[j]? = some y/\(X.env.scope.names.lookup y=some .cell\/X.env.scope.names.lookup y=some .free)/\(y,NameKind.free)∈scope.names /\
  ((relabel scope X.env).names.lookup y=some .cell\/(relabel scope X.env).names.lookup y=some .free)
 all:∀ x,(relabel scope X.env).names.lookup x=some .cell\/(relabel scope X.env).names.lookup x=some .free->(x,NameKind.free)∈scope.names
theorem yV(O:bU X scope tn cn ix)(I:Inv X pins σ H s)(hf:∀ b∈fp,wc X pins H b)(SN:∀ b∈fp,b<s.heap.objs.size)(hC:s.heap.objs.size<=C) :
  (bJ X scope C (tn++cn) fp s H).Ok:=by
 have yb:∀ y∈scope.names,y.2=.free->∃ c,X.env.cells.lookup y.1=some c:=fun y hy hk=>I.ok.has y.1 (O.free y hy hk)
 have sub:∀ x c,(rh X.env scope.names []).lookup x=some c->X.env.cells.lookup x=some c:=fun x c e=>pJ yb (fun y d h=>by simp at h) e
 refine⟨I.ok.mod,O.kind,I.ok.glob,I.ok.blt,hC,fun x y c h1 h2=>I.ok.inj x y c (sub x c h1) (sub y c h2),fun x hx=>m5 (.inl (O.all x hx)),(fun x c h _=>nomatch h),I.ok.hd,I.ok.frames,.inl rfl,fun b hb=>⟨?_,fun x c e=>?_⟩,
  I.bs,fS I.ok.sQ I.sz,fun b o e hb=>?_,fun b hb=>?_,I.stack,I.R3⟩
 ·exact gi (n5 (SN b hb) hC)
 ·exact(hf b hb).2.2.2.2.1 x c (sub x c e)
 ·rcases (hf b hb).2.2.2.1 with z|z
  ·exact I.ok.xE b o e z
  ·exact absurd (n5 (dP e) (fS I.ok.sQ z)) (sd _)
 ·intro hz
  rcases dv.mp (I.R1 b hz) with e|e
  ·exact(hf b hb).2.1 e
  ·exact(hf b hb).2.2.1 e
theorem vd{P:Value->Shared->Prop}(hc:X.calm=true)(hi:PI X tg iter wi)(O:bU X scope tn cn ix)
  (hg:∀ C fp gp hG,PG (bJ X scope C (tn++cn) fp gp hG) tg g) (uS:∀ C fp gp hG,ya (bJ X scope C (tn++cn) fp gp hG) ifs tc) (he:∀ C fp gp hG,PE (bJ X scope C (tn++cn) fp gp hG) elt te)
  (hs:∀ x,foldedSetIterable iter X.env x=pure x) (I:Inv X pins σ H s) (h:yQ wi g tc te tn.length ix σ H Q)
  (fin:∀ (C D:Addr) (m:Str->Option Value) (H5:Hp) (s6:Shared) (r:Flow),Inv X pins σ H5 s6->s6.heap.Ns C m->H5 C=none->wc X pins H5 C->Q (.ref D) H5->compPost (model X.prog X.w) X.A X.xe use P (.ref D) C (.ok r) s6) :
  wpAny (model X.prog X.w) X.A (comprehension (.ListComp elt [⟨tg,iter,ifs,0⟩] scope pos) scope X.env hG' (newList []) false (eval iter X.env) use) P X.xe s:=by
 have yb:∀ y∈scope.names,y.2=.free->∃ c,X.env.cells.lookup y.1=some c:=fun y hy hk=>I.ok.has y.1 (O.free y hy hk)
 have sub:∀ x c,(rh X.env scope.names []).lookup x=some c->X.env.cells.lookup x=some c:=fun x c e=>pJ yb (fun y d h=>by simp at h) e
 refine wpAny_comprehension_free (use:=use) rfl hs (qx yb) O.kind O.names (cK (hi pins s σ H _ I h) fun v s1 h1=>cK h1 fun Sb s2 h2=>?_)
 obtain⟨it,fp,Qe,J,H2,e,I2,T,ub,f2,h2⟩:=h2
 subst e
 obtain⟨W,⟨m0,w0⟩,turn⟩:=h2 s2.heap.objs.size (I2.bp.fresh (cq _))
 refine wpAny_newObj_type ?_
 have I3:Inv X pins σ (upd H2 s2.heap.objs.size (.lst [])) { s2 with heap:=s2.heap.push { cls:=.type "list",data:=.seq ([]:List Value).toArray } }:=I2.Xj (its:=[]) (t':=s2.toks) .nil (eu _)
 generalize hD:s2.heap.objs.size=D at *
 generalize XF:({ s2 with heap:=s2.heap.push { cls:=.type "list",data:=.seq ([]:List Value).toArray } }:Shared)=s3 at *
 have LZ:∀ b o,s2.heap.get? b=some o->s3.heap.get? b=some o:=fun b o e=>by rw[<- XF];exact fw _ e
 have sz3:s3.heap.objs.size=D+1:=by rw[<- XF,<- hD];exact Heap.size_push ..
 have f3:∀ b∈fp,wc X pins (upd H2 D (.lst [])) b:=fun b hb=>by
  obtain⟨f0,fr⟩:=f2 b hb
  obtain⟨o,ho,_⟩:=T.obj _ _ ub b hb
  refine⟨?_,fr⟩
  rw[g7 (gi (by rw[<- hD];exact dP ho))]
  exact f0
 have ui:Qe 0 s3.heap:=T.keep _ _ _ ub fun b hb o e=>LZ b o e
 have lt3:∀ b∈fp,b<s3.heap.objs.size:=fun b hb=>by
  obtain⟨o,ho,_⟩:=T.obj _ _ ui b hb
  exact dP ho
 refine wpAny_newFunctionEnv O.db' (by intro y hy;simp at hy) (fun LW de' df'=>?_) O.kind
 have D7:∀ b o,s3.heap.get? b=some o->LW.get? b=some o:=fun b o e=>df'.extBut b o (gi (dP e)) (fw _ e)
 -- the block's context
 have Qf:=yV (C:=s3.heap.objs.size) O I3 f3 lt3 (cq _)
 have I4:Inv (bJ X scope s3.heap.objs.size (tn++cn) fp s3 (upd H2 D (.lst []))) [] (qC tn.length ix σ) (upd H2 D (.lst [])) { s3 with heap:=LW,toks:=s3.toks+([]:List (Str × Value)).length }:=by
  refine⟨Qf,rfl,I3.bare,Un.kept D7,⟨_,de',fun i x v e1 e2 e3=>?_⟩,fun x c e=>?_,I3.bp.fresh (cq _),fun x c e=>I3.pS x c (sub x c e),fun p hp=>absurd hp (by simp[bJ]),I3.bp.kept D7,?_⟩
  ·have kU:tn.length<=i:=by
    by_cases q:i<tn.length
    ·unfold qC at e2
     rw[IG (by simpa using q),List.getElem?_replicate] at e2
     simp[q] at e2
    ·lia
   unfold qC at e2
   rw[A4 (by simpa using kU),List.length_replicate,ot] at e2
   have e1:(tn++cn)[i]? = some x:=e1
   rw[A4 kU] at e1
   cases q:ix[i-tn.length]? with
   |none=>rw[q] at e2;cases e2
   |some j =>
    rw[q] at e2
    obtain⟨y,c1,c2,c3,c4,c5⟩:=O.cap _ _ q
    rw[c1] at e1;cases e1
    have e2:σ[j]?.join=some v:=Option.some.inj e2
    have ej:σ[j]? = some (some v):=by
     cases z:σ[j]? with
     |none=>rw[z] at e2;cases e2
     |some o=>rw[z] at e2;exact congrArg some e2
    obtain⟨m,hn,hl⟩:=I3.loc
    obtain⟨u,r,l⟩:=hl j x v c2 ej (c3.elim (fun z=>.inr (.inl z)) fun z=>.inr (.inr z))
    refine⟨u,r,.inr ⟨c5,?_⟩⟩
    rcases l with⟨hk,_⟩|⟨hk,c,PD,hce⟩
    ·have hk:X.env.scope.names.lookup x=some .local:=hk
     rcases c3 with z|z
     ·rw[z] at hk;cases hk
     ·rw[z] at hk;cases hk
    ·obtain⟨c',Ap⟩:=m5 (env:=X.env) (cs:=[]) (Or.inl c4)
     have:=sub x c' Ap
     rw[PD] at this;cases this
     obtain⟨o,ho,hd⟩:=hce
     exact⟨c,Ap,o,D7 _ _ ho,hd⟩
  ·obtain⟨v,o,ho,hd⟩:=I3.cell x c (sub x c e)
   exact⟨v,o,D7 _ _ ho,hd⟩
  ·show(qC tn.length ix σ).length=(tn++cn).length
   unfold qC
   simp[O.len]
 -- from the block back to the body
 have back:∀ {τ:St} {H':Hp} {s':Shared},Inv (bJ X scope s3.heap.objs.size (tn++cn) fp s3 (upd H2 D (.lst []))) [] τ H' s'->Inv X pins σ H' s':=fun {τ H' s'} I' =>
  Inv.ah' (ch:=fp) I3 I'.os I'.base I'.bp I'.bare fun b hb=>by
   obtain⟨_,f1,_,f3',f4,f5⟩:=f3 b hb
   exact⟨f3',f1,f4,f5⟩
 have SQ:∀ {H':Hp},(∀ b∈fp,H' b=none)->∀ b∈fp,wc (bJ X scope s3.heap.objs.size (tn++cn) fp s3 (upd H2 D (.lst []))) [] H' b:=fun hn b hb =>
  ⟨hn b hb,(Qf.An b hb).1,Qf.xI b hb,.inl hb,(Qf.An b hb).2,fun p hp=>absurd hp (by simp[bJ])⟩
 have loop:∀ s4:Shared,Inv (bJ X scope s3.heap.objs.size (tn++cn) fp s3 (upd H2 D (.lst []))) [] (qC tn.length ix σ) (upd H2 D (.lst [])) s4->Qe 0 s4.heap ->
   codeAny (model X.prog X.w) X.A (.compLoop (.ListComp elt [⟨tg,iter,ifs,0⟩] scope pos) 0 (.ref it) (.ref D) (compEnvC scope (rh X.env scope.names []) s3.heap.objs.size X.env))
    (compPost (model X.prog X.w) X.A X.xe use P (.ref D) s3.heap.objs.size) s4:=by
  intro s4 I4 sT
  refine iG (fun n s'=>∃ i τ H',Inv (bJ X scope s3.heap.objs.size (tn++cn) fp s3 (upd H2 D (.lst []))) [] τ H' s'/\Qe i s'.heap/\(∀ b∈fp,H' b=none)/\W i n τ H') (fun _ _=>False) ?_ (fun _ _ z=>z.elim) m0
   ⟨0,_,_,I4,sT,fun b hb=>(f3 b hb).1,w0⟩
  rintro n s5 ⟨i,τ,H5,I5,DU,PQ,w5⟩
  rcases turn i n τ H5 w5 with⟨stop,qn⟩|⟨go,N1,N2,hN1,SV,step⟩
  ·refine cK (T.done (bJ X scope s3.heap.objs.size (tn++cn) fp s3 (upd H2 D (.lst []))) rfl rfl rfl hc i [] s5 τ H5 (fun _ _=>False) I5 (SQ PQ) DU stop) fun r s6 df=>?_
   obtain⟨hr,I6⟩:=df
   subst hr
   have J6:=back I6
   obtain⟨m,hn,_⟩:=I6.loc
   exact fin _ D m H5 s6 _ J6 hn I6.free (I3.PJ (b:=s3.heap.objs.size) (H':=H5) (cq _) I6.free) qn
  ·refine cK (T.item (bJ X scope s3.heap.objs.size (tn++cn) fp s3 (upd H2 D (.lst []))) rfl rfl rfl hc i [] s5 τ H5 (fun _ _=>False) I5 (SQ PQ) DU go) fun r s6 df=>?_
   obtain⟨u,hr,h6⟩:=df
   subst hr
   refine cK h6 fun _ s7 df=>?_
   obtain⟨x,H7,I7,r7,y7,SW,fr7⟩:=df
   have I7':=I7.pinned (SQ fr7) (T.obj _ _ SW)
   refine cK (hg _ _ _ _ _ s7 τ H7 x u _ I7' r7 (step x H7 y7)) fun _ s8 df=>?_
   obtain⟨GH,H8,I8,q8⟩:=df
   refine cK (uS _ _ _ _ _ s8 GH H8 _ I8 q8) fun ok s9 df=>?_
   obtain⟨H9,I9,q9⟩:=df
   have again:∀ {s':Shared} {H':Hp} {m':Nat},Inv (bJ X scope s3.heap.objs.size (tn++cn) fp s3 (upd H2 D (.lst []))) ([]++Lc fp s7.heap) GH H' s'->m'<n->W (i+1) m' GH H' ->
     ∃ m,m<n/\∃ i τ H',Inv (bJ X scope s3.heap.objs.size (tn++cn) fp s3 (upd H2 D (.lst []))) [] τ H' s'/\Qe i s'.heap/\(∀ b∈fp,H' b=none)/\W i m τ H':=fun {s' H' m'} J hm w'=>by
    refine⟨m',hm,i+1,GH,H',J.PN,T.keep _ _ _ SW fun b hb o e=>(J.pin (b,o) (fE _ (fE _ (PL hb e)))).1,fun b hb=>?_,w'⟩
    obtain⟨o,e,d⟩:=T.obj _ _ SW b hb
    exact(J.pin (b,o) (fE _ (fE _ (PL hb e)))).2.1
   cases ok with
   |false =>
    rw[if_neg iS] at q9 ⊢
    obtain⟨m',hm,w'⟩:=SV _ _ q9
    exact again I9 hm w'
   |true =>
    rw[if_pos rfl] at q9 ⊢
    refine cK (he _ _ _ _ _ s9 GH H9 _ I9 q9) fun x9 s10 cy=>L2.fz cy fun v10 XH I10 SX q10=>?_
    obtain⟨ys,m',hH,hz,hm,w'⟩:=hN1 _ _ _ q10
    refine cK (Xk _ s10 GH XH (.ref D) [v10] (.ref D) [x9] (fun _ H'=>H'=upd XH D (.lst (ys++[v10]))) I10 rfl (.cons SX .nil) ⟨D,ys,v10,rfl,rfl,hH,hz,rfl⟩) fun _ s11 cy=>L2.fz cy fun _ H11 I11 _ q11=>?_
    subst q11
    exact again I11 hm w'
 exact codeAny_compStart_list (loop _ I4 (T.keep _ _ _ ui fun b hb o e=>D7 b o e)) (T.self _ 0 _ _ _ (T.keep _ _ _ ui fun b hb o e=>D7 b o e) (loop _ I4 (T.keep _ _ _ ui fun b hb o e=>D7 b o e)))
theorem Dy(hc:X.calm=true)(hi:PI X tg iter wi)(O:bU X scope tn cn ix)
  (hg:∀ C fp gp hG,PG (bJ X scope C (tn++cn) fp gp hG) tg g) (uS:∀ C fp gp hG,ya (bJ X scope C (tn++cn) fp gp hG) ifs tc) (he:∀ C fp gp hG,PE (bJ X scope C (tn++cn) fp gp hG) elt te)
  (hs:∀ x,foldedSetIterable iter X.env x=pure x:=by intro _;rfl):PE X (.ListComp elt [⟨tg,iter,ifs,0⟩] scope pos) (yQ wi g tc te tn.length ix):=by
 intro pins s σ H Q I h
 rw[eval_ListComp]
 refine vd (use:=none) (P:=EP X pins σ Q) hc hi O hg uS he hs I h fun C D m H5 s6 r J6 hn hf ⟨_,g1,_,g3,g4,g5⟩ qn=>⟨m,hn,fun h' Qg=>⟨.ref D,H5,?_,rfl,qn⟩⟩
 exact J6.turned (t':=s6.toks) (fun b o hb e=>Qg.extBut b o hb e) hf g1 g3 g4 g5
theorem wW(hN:X.N.Nodup)(AH:X.N[i]? = some x)(hx:Loc X.env.scope x)(hc:X.calm=true)(hi:PI X tg iter wi)(O:bU X scope tn cn ix)
  (hg:∀ C fp gp hG,PG (bJ X scope C (tn++cn) fp gp hG) tg g) (uS:∀ C fp gp hG,ya (bJ X scope C (tn++cn) fp gp hG) ifs tc) (he:∀ C fp gp hG,PE (bJ X scope C (tn++cn) fp gp hG) elt te)
  (SY:swapsWith (.ListComp elt [⟨tg,iter,ifs,0⟩] scope pos) (some (.Name x pos')) S0.line X.env=pure true)
  (hs:∀ x,foldedSetIterable iter X.env x=pure x:=by intro _;rfl) (hf:X.fn x=true\/X.env.scope.names.lookup x=some .local:=by first|exact .inl rfl|exact .inr rfl|assumption) :
  PS X (.Assign [.Name x pos'] (.ListComp elt [⟨tg,iter,ifs,0⟩] scope pos) S0) (R9 (yQ wi g tc te tn.length ix) (R6 i)):=by
 intro pins s σ H D0 I h
 rw[exec_Assign_Name_used _ _ _ _ SY]
 refine ax (wpAny_standAt (ax ?_))
 show wpAny _ _ (do let _ <- comprehension (.ListComp elt [⟨tg,iter,ifs,0⟩] scope pos) scope X.env _ (newList []) false (eval iter X.env) (some (assign (.Name x pos') X.env))) _ _ s
 refine ax (pe (vd (use:=some (assign (.Name x pos') X.env)) (P:=fun _ s'=>SP X pins D0 .next s') hc hi O hg uS he hs I h fun C D m H5 s6 r J6 hn BU ⟨_,g1,_,g3,g4,g5⟩ qn=>?_) (fun _ s' hq=>aS (aS hq)) fun _ _ e=>e)
 refine(show wpAny _ _ (assign (.Name x pos') X.env (.ref D)) _ _ s6 from wpAny_assign_Name (Wh J6 hN AH hx (v:=.ref D) rfl (fun s7 I7 df=>?_) hf))
 obtain⟨a,sb,ha⟩:=df
 have hCa:C≠a:=by
  rcases ha with rfl|ha
  ·exact g1
  ·exact Ne.symm (g4 _ a ha)
 refine⟨m,hn.sameBut sb hCa,fun h' Qg=>⟨_,H5,?_,qn⟩⟩
 exact I7.turned (t':=s7.toks) (fun b o hb e=>Qg.extBut b o hb e) BU g1 g3 g4 g5
end
def GL (a b:String):Bool:=a == b || (a == "bool" && b == "int")
def S4 (b:String):Bool:=["str", "int", "bool", "list", "tuple", "dict"].contains b
theorem lr (K:PySem.W.Frag) (a b:String) (ha:a∈["NoneType", "bool", "int", "str", "list", "tuple", "dict"]) (hb:b∈["str", "int", "bool", "list", "tuple", "dict"]):PySem.W.kitOne K (.type a) (.type b)=some (GL a b):=by
 simp only[dv,Fc,or_false] at ha hb
 rcases ha with rfl|rfl|rfl|rfl|rfl|rfl|rfl<;>rcases hb with rfl|rfl|rfl|rfl|rfl|rfl<;>kernel_rfl
section
variable {X:Cx}
theorem dr.imp(h:dr X f r)(hi:∀ x y H Q,r' x y H Q->r x y H Q):dr X f r' :=
 fun pins s σ H x y v u Q I rx ry q=>h pins s σ H x y v u Q I rx ry (hi x y H Q q)
def Ju(K:PySem.W.Frag):R2:=fun x y H Q=>∃ l b xs zs,x=.ref l/\y=.ref b/\eR K H l xs/\eR K H b zs/\xs.length+zs.length<=sizeLine/\∀ p,H p=none->Q (.ref p) (upd H p (.lst (xs++zs)))
theorem Fy:dr X (binaryOp .Add) (Ju X.K):=by
 intro pins s σ H x y v u Q I rx ry h
 obtain⟨l,b,xs,zs,rfl,rfl,hH,hB,hz,q⟩:=h
 cases rx
 cases ry
 obtain⟨its,r,pl,z⟩:=I.list hH
 obtain⟨AF,r2,pl2,z2⟩:=I.list hB
 have hl:=r.length
 have x8:=r2.length
 obtain⟨⟨cls,dd,data,sl⟩,ho,hc,n,hd⟩:=id pl.isList
 obtain⟨⟨bK',P4,data2,P5⟩,sR,LG,n2,hd2⟩:=id pl2.isList
 simp only at hc hd LG hd2
 subst hc hd LG hd2
 have ea:its.toArray++AF.toArray=(its++AF).toArray:=by simp
 refine concat_meets ⟨_,ho,rfl⟩ ⟨_,sR,rfl⟩ noFill_list_add seq_list_add PySem.F.slot_list_add PySem.F.entry_list_add (PySem.F.args_list_add_2 _ _) (list_addW l b its.toArray AF.toArray n n2 dd P4 sl P5 (by simp only[iq];lia)) ⟨ho,sR,?_⟩
 rw[ea]
 exact⟨.ref _,_,I.Xj (t':=s.toks) (r.append r2) (by rw[js];lia),rfl,q _ I.fresh⟩
def BR(K:PySem.W.Frag):R2:=fun x y H Q=>match x,y with
 |.int i,.int j=>Q (.int (i+j)) H
 |.str i,.str j=>i.length+j.length<=sizeLine/\Q (.str (i++j)) H
 |.ref a,.ref b=>∃ xs zs,eR K H a xs/\eR K H b zs/\xs.length+zs.length<=sizeLine/\∀ p,H p=none->Q (.ref p) (upd H p (.lst (xs++zs)))
 |_,_=>False
theorem Ds:dr X (binaryOp .Add) (BR X.K):=by
 refine(bc'.or (bw'.or Fy)).imp fun x y H Q h=>?_
 unfold BR at h
 split at h
 ·exact .inl ⟨_,_,rfl,rfl,h⟩
 ·exact .inr (.inl ⟨_,_,rfl,rfl,h.1,h.2⟩)
 ·obtain⟨xs,zs,h1,h2,h3,h4⟩:=h
  exact .inr (.inr ⟨_,_,xs,zs,rfl,rfl,h1,h2,h3,h4⟩)
 ·exact h.elim
def DW:R2:=fun x y H Q=>match x,y with
 |.int i,.int j=>FV i j/\Q (.int (i*j)) H
 |_,_=>False
theorem Fq:dr X (binaryOp .Mult) DW:=bd'.imp fun x y H Q h=>by
 unfold DW at h
 split at h
 ·exact⟨_,_,rfl,rfl,h.1,h.2⟩
 ·exact h.elim
def Dt:R2:=fun x y H Q=>match x,y with
 |.int i,.int j=>(0<j/\j<1073741824)/\Q (.int (i / j)) H
 |_,_=>False
theorem Fb:dr X (binaryOp .FloorDiv) Dt:=be'.imp fun x y H Q h=>by
 unfold Dt at h
 split at h
 ·exact⟨_,_,rfl,rfl,h.1,h.2⟩
 ·exact h.elim
def DY:R2:=fun x y H Q=>match x,y with
 |.int i,.int j=>0<j/\Q (.int (i % j)) H
 |_,_=>False
theorem Dw:dr X (binaryOp .Mod) DY:=bf'.imp fun x y H Q h=>by
 unfold DY at h
 split at h
 ·exact⟨_,_,rfl,rfl,h.1,h.2⟩
 ·exact h.elim
def oB(x y:Str):Bool:=decide (x.cps.toList<y.cps.toList)
def S5:R2:=fun x y H Q=>match x,y with
 |.int i,.int j=>Q (.bl (decide (i<j))) H
 |.str i,.str j=>Q (.bl (oB i j)) H
 |_,_=>False
theorem vA:dr X (compareOp .Lt) S5:=(bm'.or bp').imp fun x y H Q h=>by
 unfold S5 at h
 split at h
 ·exact .inl ⟨_,_,rfl,rfl,h⟩
 ·exact .inr ⟨_,_,rfl,rfl,h⟩
 ·exact h.elim
theorem yS:dr X (compareOp .LtE) (fun x y H Q=>∃ i j,x=.str i/\y=.str j/\Q (.bl (!oB j i)) H):=by
 intro pins s σ H x y v u Q I rx ry h
 obtain⟨i,j,rfl,rfl,q⟩:=h
 obtain⟨t,rfl⟩:=rx
 obtain⟨t',rfl⟩:=ry
 exact PySem.P.le_str ⟨.bl _,H,I,rfl,q⟩
def S6:R2:=fun x y H Q=>match x,y with
 |.int i,.int j=>Q (.bl (decide (i<=j))) H
 |.str i,.str j=>Q (.bl (!oB j i)) H
 |_,_=>False
theorem CW:dr X (compareOp .LtE) S6:=(bn'.or yS).imp fun x y H Q h=>by
 unfold S6 at h
 split at h
 ·exact .inl ⟨_,_,rfl,rfl,h⟩
 ·exact .inr ⟨_,_,rfl,rfl,h⟩
 ·exact h.elim
def S7:R2:=fun x y H Q=>match x,y with
 |.int i,.int j=>Q (.bl (decide (j<i))) H
 |_,_=>False
theorem sZ:dr X (compareOp .Gt) S7:=bo'.imp fun x y H Q h=>by
 unfold S7 at h
 split at h
 ·exact⟨_,_,rfl,rfl,h⟩
 ·exact h.elim
theorem Inv.rd(I:Inv X pins σ H s)(e:Rd H a u):fA X.prog X.w H s.heap a u:=e.elim (I.bp a _) fun⟨o,e⟩=>(show fA X.prog X.w H s.heap a (.lS o u) from I.bp a _ e).2
def Qh(K:PySem.W.Frag):List V->Hp->VK->Prop:=fun xs H Q=>match xs with
 |[.str y]=>y.length<=sizeLine/\Q (.int y.length) H
 |[.ref p]=>(∃ ys,eR K H p ys/\Q (.int ys.length) H)\/(∃ ys,oz K H p ys/\Q (.int ys.length) H)\/∃ ae,Rd H p (.dK ae)/\Q (.int ae.length) H
 |_=>False
theorem xV:mh X (.builtin "len") (Qh X.K):=by
 intro pins s σ H xs us Q I r h
 unfold Qh at h
 split at h
 ·exact Si pins s σ H _ us Q I r ⟨_,_,rfl,⟨h.1,rfl⟩,h.2⟩
 ·rcases h with⟨ys,h1,h2⟩|⟨ys,h1,h2⟩|⟨ae,h1,h2⟩
  ·exact Si pins s σ H _ us Q I r ⟨_,_,rfl,.inl ⟨ys,h1,rfl⟩,h2⟩
  ·exact Si pins s σ H _ us Q I r ⟨_,_,rfl,.inr ⟨ys,h1,rfl⟩,h2⟩
  ·obtain⟨u,rfl,ru⟩:=vals1 r
   cases ru
   exact cC' I h1 fun t s' I'=>⟨.int ae.length,H,I',⟨t,rfl⟩,h2⟩
 ·exact h.elim
def S8(K:PySem.W.Frag):R2:=fun x y H Q=>match x,y with
 |.ref p,.int i=>(∃ xs v,eR K H p xs/\fI xs i=some v/\Q v H)\/∃ xs v,oz K H p xs/\fI xs i=some v/\Q v H
 |.str z,.int i=>z.length<=sizeLine/\∃ c,fI z.cps.toList i=some c/\Q (.str ⟨#[c]⟩) H
 |_,_=>False
theorem Ih:vi X (S8 X.K):=by
 intro value slice pins s σ H x y v u Q I rx ry h hs
 refine cg' value slice pins s σ H x y v u Q I rx ry ?_ hs
 unfold S8 at h
 split at h
 ·rcases h with⟨xs,w,h1,h2,h3⟩|⟨xs,w,h1,h2,h3⟩
  ·exact .inl ⟨_,xs,_,w,rfl,rfl,h1,h2,h3⟩
  ·exact .inr (.inl ⟨_,xs,_,w,rfl,rfl,h1,h2,h3⟩)
 ·obtain⟨h1,c,h2,h3⟩:=h
  exact .inr (.inr ⟨_,_,c,rfl,rfl,h1,h2,h3⟩)
 ·exact h.elim
def jS(z:Str)(lo hi:Option Int):Str:=⟨((z.cps.toList.drop (HT.bS z.length 0 lo)).take (HT.bS z.length z.length hi-HT.bS z.length 0 lo)).toArray⟩
end
theorem yj(l:List Nat)(lo hi:Option Int)(h:((l.drop (HT.bS l.length 0 lo)).take (HT.bS l.length l.length hi-HT.bS l.length 0 lo)).length=l.length) :
  (l.drop (HT.bS l.length 0 lo)).take (HT.bS l.length l.length hi-HT.bS l.length 0 lo)=l:=by
 generalize HT.bS l.length 0 lo=a at *
 generalize HT.bS l.length l.length hi=b at *
 by_cases hl:l.length=0
 ·have:l=[]:=O4.mp hl
  subst this;simp
 ·rw[kz,zv] at h
  have h1:a=0:=by lia
  subst h1
  rw[List.drop_zero]
  exact O5 (by lia)
theorem zM(lo hi:Option Int)(n:Nat):Builtin.Str.strSliceIndices lo hi 1 n=(List.range (HT.bS n n hi-HT.bS n 0 lo)).map (HT.bS n 0 lo + ·):=by
 unfold Builtin.Str.strSliceIndices
 have e1:(match lo with|none=>(0:Int)|some i=>max 0 (min (if i<0 then i+n else i) n))=((HT.bS n 0 lo:Nat):Int):=by
  cases lo with
  |none=>simp[HT.bS]
  |some i =>
   simp only[HT.bS]
   by_cases h:i<0
   ·simp only[h,if_true]<;>lia
   ·simp only[h,if_false]<;>lia
 have e2:(match hi with|none=>(n:Int)|some i=>max 0 (min (if i<0 then i+n else i) n))=((HT.bS n n hi:Nat):Int):=by
  cases hi with
  |none=>simp[HT.bS]
  |some i =>
   simp only[HT.bS]
   by_cases h:i<0
   ·simp only[h,if_true]<;>lia
   ·simp only[h,if_false]<;>lia
 rw[<- sliceRange_one,<- e1,<- e2]
 simp only[show(1:Int)>0 by decide,if_true]
 cases lo<;>cases hi<;>rfl
section
variable {X:Cx}
theorem part_of(h:IsPart v o):∃ p:Option (Int × Tok),v=partValue p/\p.map (·.1)=o:=by
 cases h with
 |none=>exact⟨none,rfl,rfl⟩
 |int i t=>exact⟨some (i,t),rfl,rfl⟩
def S9(K:PySem.W.Frag):V->Option Int->Option Int->Hp->VK->Prop:=fun x lo hi H Q=>match x with
 |.str z=>z.length<=sizeLine/\Q (.str (jS z lo hi)) H
 |.ref a=>∃ xs,eR K H a xs/\∀ p,H p=none->Q (.ref p) (upd H p (.lst (AB xs lo hi)))
 |_=>False
theorem HH:FX X (fun x lo hi H Q=>∃ z,x=.str z/\z.length<=sizeLine/\Q (.str (jS z lo hi)) H):=by
 intro pins s σ H x v vl vu lo hi sl Q I rx hs pl pu h
 obtain⟨z,rfl,hz,q⟩:=h
 obtain⟨t,rfl⟩:=rx
 obtain⟨p1,rfl,e1⟩:=part_of pl
 obtain⟨p2,rfl,e2⟩:=part_of pu
 refine⟨"str",_,F.slot_str_getitem.lookup,typeIs_str s z t,wpAny_getItem_str_slice (l:=p1) (u:=p2) (st:=none) hs rfl ?_⟩
 have hl:z.cps.toList.length=z.length:=by simp[Str.length]
 have ep:slicePicked z p1 p2 none=(List.range (HT.bS z.length z.length hi-HT.bS z.length 0 lo)).map (HT.bS z.length 0 lo + ·):=by
  unfold slicePicked
  rw[e1,e2]
  exact zM lo hi z.length
 have ef:(slicePicked z p1 p2 none).filterMap (z.cps[·]?)=(z.cps.toList.drop (HT.bS z.length 0 lo)).take (HT.bS z.length z.length hi-HT.bS z.length 0 lo):=by
  rw[ep];exact pick_run z.cps _ _
 unfold sliceMade
 split
 ·rename_i hc
  have hw:(slicePicked z p1 p2 none).length=z.length:=by simpa using hc
  have:jS z lo hi=z:=by
   unfold jS
   have e3:((z.cps.toList.drop (HT.bS z.cps.toList.length 0 lo)).take (HT.bS z.cps.toList.length z.cps.toList.length hi-HT.bS z.cps.toList.length 0 lo)).length=z.cps.toList.length:=by
    rw[hl,kz,zv,hl]
    rw[ep,bP,E9] at hw
    have h0:HT.bS z.length 0 lo<=z.length:=by
     cases lo with
     |none=>simp[HT.bS]
     |some i=>simp only[HT.bS];split<;>lia
    have h1:HT.bS z.length z.length hi<=z.length:=by
     cases hi with
     |none=>simp[HT.bS]
     |some i=>simp only[HT.bS];split<;>lia
    lia
   have:=yj z.cps.toList lo hi e3
   rw[hl] at this
   rw[this]
  rw[this] at q
  exact⟨.str z,H,I,⟨t,rfl⟩,q⟩
 ·rw[ef]
  exact⟨by
   show(jS z lo hi).length<=sizeLine
   unfold jS Str.length
   simp only[iq,kz,zv,hl]
   have:z.cps.toList.length=z.length:=hl
   lia,⟨.str (jS z lo hi),H,I.tok _,⟨_,rfl⟩,q⟩⟩
theorem I_:FX X (S9 X.K):=by
 intro pins s σ H x v vl vu lo hi sl Q I rx hs pl pu h
 unfold S9 at h
 split at h
 ·exact HH pins s σ H _ v vl vu lo hi sl Q I rx hs pl pu ⟨_,rfl,h.1,h.2⟩
 ·obtain⟨xs,h1,h2⟩:=h
  exact ck' pins s σ H _ v vl vu lo hi sl Q I rx hs pl pu ⟨_,xs,rfl,h1,h2⟩
 ·exact h.elim
def L4(z:Str):It:=⟨fun i _=>i<z.cps.size,fun i H x H'=>H'=H/\∃ c,z.cps[i]? = some c/\x=.str ⟨#[c]⟩,fun i _=>z.cps.size<=i⟩
theorem wz {P:Program} {K:PySem.W.Frag} (FY:ty = "str_ascii_iterator"\/ty = "str_iterator") :
  Turn P w K tg (L4 z) [it] it (fun i h=>h.IsStrIter it ty z t i/\i<=z.cps.size) where
 mem:=by simp
 obj:=fun i h st b hb=>by
  have e:b=it:=by simpa using hb
  subst e
  obtain⟨⟨o,e,c,d⟩,_⟩:=st
  exact⟨o,e,fun v z=>by rw[d] at z;cases z⟩
 keep:=fun i h h' st k=>let ⟨⟨o,e,c,d⟩,l⟩:=st;⟨⟨o,k it (by simp) o e,c,d⟩,l⟩
 item:=by
  intro X hP hw hK hc i pins s σ H E I hf st hg
  subst hP hw hK
  obtain⟨f0,f1,f2,f3,f4,f5⟩:=hf it (by simp)
  obtain⟨st,_⟩:=st
  have hg:i<z.cps.size:=hg
  have W:Walks X.prog X.w X.A it [it] [it] z.cps.size (SignAt z) (fun i h=>h.IsStrIter it ty z t i):=by
   rcases FY with rfl|rfl
   ·exact Walks.strAscii (I.ok.hd hc) it z t
   ·exact Walks.strWide (I.ok.hd hc) it z t
  refine W.item i s _ _ hg st fun v h' tk hv ah kk=>?_
  obtain⟨c,u,ec,rfl⟩:=hv
  have I1:Inv X pins σ H { s with heap:=h',toks:=tk }:=I.turned (fun b o hb e=>kk b o (by simpa using hb) e) f0 f1 f3 f4 f5
  obtain⟨o,e,c',d⟩:=id ah
  exact⟨_,rfl,Sd (s:={ s with heap:=h',toks:=tk }) e c' d (by rcases FY with rfl|rfl<;>decide) ⟨.str ⟨#[c]⟩,H,I1,⟨u,rfl⟩,⟨rfl,c,ec,rfl⟩,⟨ah,hg⟩,fun b hb=>(hf b hb).1⟩⟩
 done:=by
  intro X hP hw hK hc i pins s σ H E I hf st hg
  subst hP hw hK
  obtain⟨f0,f1,f2,f3,f4,f5⟩:=hf it (by simp)
  obtain⟨st,hle⟩:=st
  have hg:z.cps.size<=i:=hg
  have e:i=z.cps.size:=JA hle hg
  subst e
  have W:Walks X.prog X.w X.A it [it] [it] z.cps.size (SignAt z) (fun i h=>h.IsStrIter it ty z t i):=by
   rcases FY with rfl|rfl
   ·exact Walks.strAscii (I.ok.hd hc) it z t
   ·exact Walks.strWide (I.ok.hd hc) it z t
  exact W.done s _ _ st fun h' tk kk=>⟨rfl,I.turned (fun b o hb e=>kk b o (by simpa using hb) e) f0 f1 f3 f4 f5⟩
 self:=fun A i s Q E st h=>by
  rcases FY with rfl|rfl
  ·exact wpAny_pyIter_striter_ascii st.1 h
  ·exact wpAny_pyIter_striter_wide st.1 h
theorem Jd(hl:PE X l tl):PI X tg l (fun σ H R=>tl σ H fun x H1=>∃ z,x=.str z/\R (L4 z) H1):=by
 intro pins s σ H R I h
 refine cK (hl pins s σ H _ I h) fun v s1 cy=>L2.fz cy fun x H1 I1 r1 q1=>?_
 obtain⟨z,rfl,q⟩:=q1
 obtain⟨t,rfl⟩:=r1
 have fp:∀ b∈[s1.heap.objs.size],wc X pins H1 b:=fun b hb=>by
  have e:b=s1.heap.objs.size:=by simpa using hb
  subst e
  exact I1.PJ (cq _) (I1.bp.fresh (cq _))
 cases ha:z.cps.all (· < 128)
 ·exact wpAny_pyIter_wide ha ⟨s1.heap.objs.size,[s1.heap.objs.size],_,_,H1,rfl,I1.kept (t':=s1.toks) fun b o e=>fw _ e,wz (.inr rfl),⟨⟨_,kr _ rfl,rfl,rfl⟩,eu _⟩,fp,q⟩
 ·exact wpAny_pyIter_ascii ha ⟨s1.heap.objs.size,[s1.heap.objs.size],_,_,H1,rfl,I1.kept (t':=s1.toks) fun b o e=>fw _ e,wz (.inl rfl),⟨⟨_,kr _ rfl,rfl,rfl⟩,eu _⟩,fp,q⟩
end
structure mq(J:It)(its:List V)(cond:Hp->Prop):Prop where
 go:∀ i H,cond H->i<its.length->J.go i H
 ng:∀ i H x H',cond H->i<its.length->J.ng i H x H'->H'=H/\its[i]? = some x
 stop:∀ H,cond H->J.stop its.length H
def Qi(z:Str):List V:=z.cps.toList.map fun c=>.str ⟨#[c]⟩
theorem DQ(z:Str):mq (L4 z) (Qi z) (fun _=>True) where
 go:=fun i H _ h=>by simpa[Qi,L4] using h
 ng:=fun i H x H' _ _ h=>by
  obtain⟨rfl,c,e,rfl⟩:=h
  refine⟨rfl,?_⟩
  unfold Qi
  rw[ot,mS,e]
  rfl
 stop:=fun H _=>by simp[Qi,L4]
theorem By(K:PySem.W.Frag)(a:Addr)(xs:List V):mq (PK K a) xs (fun H=>eR K H a xs) where
 go:=fun i H h hi=>⟨xs,xs[i],h,by simp[hi]⟩
 ng:=fun i H x H' h _ y=>⟨y.1,y.2 xs h⟩
 stop:=fun H h=>⟨xs,h,cq _⟩
def yP(lo:Int)(n:Nat):List V:=(List.range n).map fun i=>.int (lo+(i:Nat))
theorem zV(lo:Int)(n:Nat):mq (DT lo n) (yP lo n) (fun _=>True) where
 go:=fun i H _ h=>by simpa[yP,DT] using h
 ng:=fun i H x H' _ hi h=>by
  have hi:i<n:=by simpa[yP] using hi
  obtain⟨rfl,rfl⟩:=h
  refine⟨rfl,?_⟩
  simp[yP,hi]
 stop:=fun H _=>by simp[yP,DT]
def du'(J:It)(g:TG)(tb:TS)(D:Ends)(σ:St)(H:Hp):Prop :=
 ∃ W:Nat->Nat->St->Hp->Prop,(∃ m,W 0 m σ H)/\∀ i m σ H,W i m σ H ->
   (J.stop i H/\D.nx σ H)\/(J.go i H/\∃ N:St->Hp->Prop,(∀ bE H',N bE H'->∃ m',m'<m/\W (i+1) m' bE H')/\∀ x H',J.ng i H x H'->g x σ H' fun ku H2=>tb { D with nx:=N,ct:=N,bk:=D.nx } ku H2)
theorem Em(wi:TI)(g:TG)(tb:TS)(D:Ends)(σ:St)(H:Hp):Wy wi g tb D σ H=wi σ H fun J H1=>du' J g tb D σ H1:=rfl
def Ke(J:It)(g:TG)(tc:TT)(te:TE)(τ0:St)(H1:Hp)(D:Addr)(Q:VK):Prop :=
 ∃ W:Nat->Nat->St->Hp->Prop,(∃ m,W 0 m τ0 (upd H1 D (.lst [])))/\∀ i m τ H,W i m τ H ->
  (J.stop i H/\Q (.ref D) H)\/(J.go i H/\∃ (N1:St->V->Hp->Prop) (N2:St->Hp->Prop),
   (∀ kS v H4,N1 kS v H4->∃ ys m',H4 D=some (.lst ys)/\ys.length<sizeLine/\m'<m/\W (i+1) m' kS (upd H4 D (.lst (ys++[v])))) /\
   (∀ kS H3,N2 kS H3->∃ m',m'<m/\W (i+1) m' kS H3) /\
   ∀ x H',J.ng i H x H'->g x τ H' fun kS H2=>tc kS H2 fun b H3=>if b=true then te kS H3 (N1 kS) else N2 kS H3)
theorem Av(wi:TI)(g:TG)(tc:TT)(te:TE)(tn:Nat)(ix:List Nat)(σ:St)(H:Hp)(Q:VK):yQ wi g tc te tn ix σ H Q=wi σ H fun J H1=>∀ D,H1 D=none->Ke J g tc te (qC tn ix σ) H1 D Q:=rfl
mutual
inductive Rep(K:PySem.W.Frag)(H:Hp):PyData->V->Prop
 |none:Rep K H .none .non
 |bool (b:Bool):Rep K H (.bool b) (.bl b)
 |int (i:Int):Rep K H (.int i) (.int i)
 |str (x:Str):Rep K H (.str x) (.str x)
 |list {a:Addr} {vs:List V} {ds:List PyData}:eR K H a vs->aT K H ds vs->Rep K H (.list ds) (.ref a)
 |tuple {a:Addr} {vs:List V} {ds:List PyData}:oz K H a vs->aT K H ds vs->Rep K H (.tuple ds) (.ref a)
inductive aT(K:PySem.W.Frag)(H:Hp):List PyData->List V->Prop
 |nil:aT K H [] []
 |cons {d:PyData} {v:V} {ds:List PyData} {vs:List V}:Rep K H d v->aT K H ds vs->aT K H (d :: ds) (v :: vs)
end
section
variable {X:Cx}{pins:List (Addr × Obj)}{σ:St}{H:Hp}{s:Shared}
mutual
theorem Rep.reads(I:Inv X pins σ H s):∀ {d:PyData} {v:V} {u:Value},Rep X.K H d v->RelV v u->∃ as,Reads s.heap u d as
 |_,_,_,.none,r=>by cases (show _=Value.none from r);exact⟨_,.none⟩
 |_,_,_,.bool b,r=>by cases (show _=Value.bool b from r);exact⟨_,.bool b⟩
 |_,_,_,.int i,r=>by obtain⟨t,e⟩:=r;subst e;exact⟨_,.int i t⟩
 |_,_,_,.str x,r=>by obtain⟨t,e⟩:=r;subst e;exact⟨_,.str x t⟩
 |_,_,_,.list h hs,r=>by
  cases r
  obtain⟨its,rv,pl,_⟩:=I.list h
  obtain⟨o,e,c,n,d⟩:=pl.isList
  obtain⟨as,q⟩:=aT.reads I hs rv
  exact⟨_,.list e c d q⟩
 |_,_,_,.tuple h hs,r=>by
  cases r
  obtain⟨its,rv,⟨o,e,c,n,d⟩,_⟩:=I.tuple h
  obtain⟨as,q⟩:=aT.reads I hs rv
  exact⟨_,.tuple e c d q⟩
theorem aT.reads(I:Inv X pins σ H s):∀ {ds:List PyData} {vs:List V} {us:List Value},aT X.K H ds vs->Vals vs us->∃ as,ReadsAll s.heap us ds as
 |_,_,_,.nil,.nil=>⟨_,.nil⟩
 |_,_,_,.cons h hs,.cons r rs=>by
  obtain⟨as,q⟩:=Rep.reads I h r
  obtain⟨bs,q'⟩:=aT.reads I hs rs
  exact⟨_,.cons q q'⟩
end
def S_(K:PySem.W.Frag):R2:=fun x y H Q=>∃ d e,Rep K H d x/\Rep K H e y/\d.canLay0=true/\e.canLay0=true/\d.depth<=60/\Q (.bl (PyData.eqv d e)) H
def Ta(K:PySem.W.Frag):R2:=fun x y H Q=>∃ d e,Rep K H d x/\Rep K H e y/\d.canLay0=true/\e.canLay0=true/\d.depth<=60/\Q (.bl (!PyData.eqv d e)) H
theorem G7(hu:X.A.units+64<cLine):dr X (compareOp .Eq) (S_ X.K):=by
 intro pins s σ H x y v u Q I rx ry h
 obtain⟨d,e,h1,h2,h3,h4,h5,q⟩:=h
 obtain⟨as,r1⟩:=h1.reads I rx
 obtain⟨bs,r2⟩:=h2.reads I ry
 exact PySem.SeqAt.rcAt_reads r1 r2 h3 h4 (by lia) X.prog X.w X.xe _ ⟨.bl _,H,I,rfl,q⟩
theorem Ia(hu:X.A.units+64<cLine):dr X (compareOp .NotEq) (Ta X.K):=by
 intro pins s σ H x y v u Q I rx ry h
 obtain⟨d,e,h1,h2,h3,h4,h5,q⟩:=h
 obtain⟨as,r1⟩:=h1.reads I rx
 obtain⟨bs,r2⟩:=h2.reads I ry
 exact PySem.SeqAt.rcNeAt_reads r1 r2 h3 h4 (by lia) X.prog X.w X.xe _ ⟨.bl _,H,I,rfl,q⟩
def Qj(K:PySem.W.Frag):R2:=fun x y H Q=>match x,y with
 |.int i,.int j=>Q (.bl (decide (i=j))) H
 |.str i,.str j=>Q (.bl (decide (i=j))) H
 |.bl i,.bl j=>Q (.bl (decide (i=j))) H
 |_,_=>S_ K x y H Q
theorem Gv(hu:X.A.units+64<cLine):dr X (compareOp .Eq) (Qj X.K):=(bk'.or (G7 hu)).imp fun x y H Q h=>by
 unfold Qj at h
 split at h
 ·refine .inl ⟨rfl,?_⟩;simpa using h
 ·refine .inl ⟨rfl,?_⟩;simpa using h
 ·refine .inl ⟨rfl,?_⟩;simpa using h
 ·exact .inr h
def Qk(K:PySem.W.Frag):R2:=fun x y H Q=>match x,y with
 |.int i,.int j=>Q (.bl (!decide (i=j))) H
 |.str i,.str j=>Q (.bl (!decide (i=j))) H
 |.bl i,.bl j=>Q (.bl (!decide (i=j))) H
 |_,_=>Ta K x y H Q
theorem G9(hu:X.A.units+64<cLine):dr X (compareOp .NotEq) (Qk X.K):=(bl'.or (Ia hu)).imp fun x y H Q h=>by
 unfold Qk at h
 split at h
 ·refine .inl ⟨rfl,?_⟩;simpa using h
 ·refine .inl ⟨rfl,?_⟩;simpa using h
 ·refine .inl ⟨rfl,?_⟩;simpa using h
 ·exact .inr h
def Ql(K:PySem.W.Frag):List V->Hp->VK->Prop:=fun xs H Q=>match xs with
 |[.ref a]=>∃ bs:List Bool,eR K H a (bs.map V.bl)/\Q (.bl (bs.all id)) H
 |_=>False
theorem y_ (hc:X.calm=true):mh X (.builtin "all") (Ql X.K):=by
 intro pins s σ H xs us Q I r h
 unfold Ql at h
 split at h
 ·rename_i a
  obtain⟨bs,e,q⟩:=h
  obtain⟨u,rfl,ru⟩:=Vals.one r
  cases ru
  obtain⟨its,rv,pl,hz⟩:=I.list e
  have hl:s.heap.IsList a its.toArray:=pl.isList
  obtain⟨o,ho,PC,n,D8⟩:=id hl
  have hlen:=rv.length
  rw[bP] at hlen
  refine call_all_walk (wpAny_pyIter_list hl ?_)
  have kc:a≠s.heap.objs.size:=gi (dP ho)
  have yi:X.A.in1.handled=none:=I.ok.hd hc
  refine⟨s.heap.objs.size,_,_,_,_,_,fun i=>bs.getD i true,rfl,Walks.list yi s.heap.objs.size a kc its.toArray,⟨⟨_,kr _ rfl,rfl,rfl⟩,⟨_,fw _ ho,PC,n,D8⟩⟩,?_,fun h' tk hk=>?_⟩
  ·intro i v s' Q' E' hv hq
   have hv:its.toArray[i]? = some v:=hv
   have mz:its[i]? = some v:=by simpa using hv
   have hi:i<bs.length:=by
    have:=(mI.mp mz).1
    lia
   obtain⟨w',e1,r1⟩:=rv.get (i:=i) (x:=V.bl bs[i]) (by simp[hi])
   rw[mz] at e1
   cases e1
   cases (show v=Value.bool bs[i] from r1)
   have e2:bs.getD i true=bs[i]:=by simp[List.getD,hi]
   have hq:Q' (bs.getD i true) s':=hq
   rw[e2] at hq
   exact wpAny_truthy_bool hq
  ·have e3:((List.range its.toArray.size).all fun i=>bs.getD i true)=bs.all id:=by
    rw[iq,<- hlen]
    apply Bi.mpr
    simp only[zC,px,id]
    constructor
    ·intro h b hb
     obtain⟨i,hi,rfl⟩:=List.mem_iff_getElem.mp hb
     have:=h i hi
     simpa[List.getD,hi] using this
    ·intro h i hi
     have:=h bs[i] (RC hi)
     simpa[List.getD,hi] using this
   rw[e3]
   refine⟨.bl (bs.all id),H,?_,rfl,q⟩
   exact I.kept (t':=tk) fun b o e=>hk b o (by simp;exact gi (dP e)) (fw _ e)
 ·exact h.elim
end
end L2
namespace L2
open PySem PySem.Spec PyProof.Rows
def L5(sc:Scope)(names:List (Str × NameKind)):List (Str × NameKind):=names.map fun y=>if (y.2 == NameKind.free && sc.kind == .function && sc.names.lookup y.1 == some .cell)=true then (y.1,NameKind.cell) else (y.1,y.2)
def L6(o:Option NameKind):Bool:=o == some .cell || o == some .free
def HR(sc scope:Scope)(N cn:List Str)(ix:List Nat):Bool :=
 scope.kind == .function && scope.names.all (fun y=>y.2 != .cell) && scope.names.all (fun y=>y.2 != .free || L6 (sc.names.lookup y.1)) && scope.names.all (fun y=>y.2 != .local || scope.names.lookup y.1 == some .local) &&
 ix.length == cn.length && (List.range ix.length).all (fun k=>match ix[k]?,cn[k]? with
  |some j,some y=>N[j]? == some y && L6 (sc.names.lookup y) && scope.names.contains (y,NameKind.free) && L6 ((L5 sc scope.names).lookup y)
  |_,_=>false) &&
 (L5 sc scope.names).all (fun y=>!(y.2 == .cell || y.2 == .free) || scope.names.contains (y.1,NameKind.free))
theorem uX(h:L6 o=true):o=some .cell\/o=some .free:=by
 unfold L6 at h
 simpa using h
theorem bU.of{X:Cx}(oC:X.env.scope=sc)(hN:X.N=N)(h:HR sc scope N cn ix=true):bU X scope tn cn ix:=by
 unfold HR at h
 simp only[kG] at h
 obtain⟨⟨⟨⟨⟨⟨h1,h2⟩,h3⟩,h4⟩,h5⟩,h6⟩,h7⟩:=h
 rw[zC] at h2 h3 h4 h6 h7
 have XJ:(relabel scope X.env).names=L5 sc scope.names:=by
  unfold relabel L5
  rw[<- oC]
  rfl
 refine⟨by simpa using h1,fun y hy=>by simpa using h2 y hy,fun y hy hk=>?_,fun y hy hk=>?_,by simpa using h5,fun k j hk=>?_,fun x hx=>?_⟩
 ·have:=h3 y hy
  rw[hk] at this
  rw[oC]
  exact uX (by simpa using this)
 ·have:=h4 y hy
  rw[hk] at this
  simpa using this
 ·have nk:k<ix.length:=(mI.mp hk).1
  have:=h6 k (px.mpr nk)
  rw[hk] at this
  cases e:cn[k]? with
  |none=>rw[e] at this;cases this
  |some y =>
   rw[e] at this
   simp only[kG] at this
   obtain⟨⟨⟨a1,a2⟩,a3⟩,a4⟩:=this
   refine⟨y,rfl,by rw[hN];simpa using a1,by rw[oC];exact uX a2,by simpa using a3,by rw[XJ];exact uX a4⟩
 ·rw[XJ] at hx
  have mem:∃ k,(x,k)∈L5 sc scope.names/\(k=.cell\/k=.free):=by
   rcases hx with hx|hx
   ·exact⟨_,PySem.mem_of_lookup hx,.inl rfl⟩
   ·exact⟨_,PySem.mem_of_lookup hx,.inr rfl⟩
  obtain⟨k,hm,hk⟩:=mem
  have:=h7 _ hm
  rcases hk with rfl|rfl<;>simpa using this
structure dy(P:Program)(w:World)(K:PySem.W.Frag)(mg:Str->Option Value)(base:Heap)(k:Nat)(x:Str)(ps:List Str)(sp:Sp):Prop where
 ex:∃ (g:Addr) (fd:FuncData),mg x=some (.ref g)/\PySem.W.keepIn K (.ref g)=true/\Binds K fd ps []/\eS P w K mg base iA k g fd ps sp
section
variable {X:Cx}{k:Nat}{x:Str}{ps:List Str}{sp:Sp}{p pos:Pos}{e:Expr}{es:List Expr}{t:TA}
theorem GZ (C:dy X.prog X.w X.K X.mg X.base k x ps sp) (hr:gI k X.A) (ha:PA X (e :: es) t) (hg:Gl X x:=by rfl) (gL:(x == ("__debug__" : Str))=false:=by decide) (he:starEach (e :: es) X.env=(false,eval e X.env) :: starEach es X.env:=by rfl)
  (ic:(backTo pos (starEach es X.env)).any (·.1)=false:=by rfl):PE X (.Call (.Name x p) (e :: es) [] pos) (DZ sp [] E0 t):=by
 obtain⟨g,fd,hm,hk,hb,F⟩:=C.ex
 exact WV F hr hg hm hk hb .nil cW' ha gL he ic
end
theorem eJ.nr{P:Program}{K:PySem.W.Frag}{st:Stmt}{ps:List Str}(F:eJ K x qual st f fd)(hm:mg x=some (.ref f))
  (G:eS P w K mg base iA k f fd ps sp)
  (h:∀ (kV doc pm:Value) (an:Option Addr) (cp ct:Value) (us:List Value),us.length=ps.length->bindArgs (PySem.W.fnOf x qual (gS st) (eI st) (bI st) .none kV doc pm an cp ct) ⟨us,[]⟩=pure (ps.zip us)):dy P w K mg base k x ps sp :=
 ⟨f,fd,hm,F.kp,F.binds h,G⟩
def Qm(mg:Str->Option Value)(x:Str)(z:Str):Prop:=∃ t,mg x=some (.str z t)
def GN(mg:Str->Option Value)(x:Str)(i:Int):Prop:=∃ t,mg x=some (.int i t)
theorem Jq {X:Cx} (h:Qm X.mg x z) (hg:Gl X x:=by rfl) (hd:(x == ("__debug__" : Str))=false:=by decide):PE X (.Name x pos) (tC (.str z)):=by
 obtain⟨t,e⟩:=h
 exact Wn hg e ⟨t,rfl⟩ hd
theorem JD {X:Cx} (h:GN X.mg x i) (hg:Gl X x:=by rfl) (hd:(x == ("__debug__" : Str))=false:=by decide):PE X (.Name x pos) (tC (.int i)):=by
 obtain⟨t,e⟩:=h
 exact Wn hg e ⟨t,rfl⟩ hd
theorem CK:bootBuiltins "str" = some (.type "str"):=by decide +kernel
theorem Ck:bootBuiltins "int" = some (.type "int"):=by decide +kernel
theorem Ek:bootBuiltins "bool" = some (.type "bool"):=by decide +kernel
theorem pZ:bootBuiltins "list" = some (.type "list"):=by decide +kernel
theorem vU:bootBuiltins "tuple" = some (.type "tuple"):=by decide +kernel
theorem ql:bootBuiltins "isinstance" = some (.builtin "isinstance"):=by decide +kernel
theorem HF:bootBuiltins "all" = some (.builtin "all"):=by decide +kernel
theorem ir:bootBuiltins "len" = some (.builtin "len"):=by decide +kernel
theorem uP {X:Cx} {T:String} (hm:X.mg x=none) (hv:bootBuiltins x=some (.type T)) (hg:Gl X x:=by rfl) (hn:x ≠ "__name__" := by decide) (hd:(x == ("__debug__" : Str))=false:=by decide):PE X (.Name x pos) (tC (.ty T)) :=
 am' hg hm hv rfl hn hd
def yk(i j:Str):Bool:=!(Builtin.Str.occurrences j i 0 j.length 1).isEmpty
theorem DR(c:Nat)(j:Str):yk ⟨#[c]⟩ j=decide (c∈j.cps.toList):=PySem.StrLaws.found_one j c
def D9(K:PySem.W.Frag)(neg:Bool):R2:=fun x y H Q=>match x,y with
 |.str i,.str j=>Q (.bl (if neg then !yk i j else yk i j)) H
 |_,.ref p=>(∃ o,kA H p x o/\Q (.bl (if neg then !o.isSome else o.isSome)) H)\/LN K neg x y H Q
 |_,_=>False
theorem Iu{X:Cx}(hu:X.A.units+64<cLine):dr X (compareOp .In) (D9 X.K false):=by
 intro pins s σ H x y v u Q I rx ry h
 unfold D9 at h
 split at h
 ·exact bq' pins s σ H _ _ v u Q I rx ry ⟨_,_,rfl,rfl,h⟩
 ·rcases h with⟨o,g,q⟩|h
  ·cases ry
   exact cz' (by lia) I g rx fun s3 I3=>⟨.bl o.isSome,H,I3,rfl,q⟩
  ·exact cm' pins s σ H _ _ v u Q I rx ry h
 ·exact h.elim
theorem yt{X:Cx}(hu:X.A.units+64<cLine):dr X (compareOp .NotIn) (D9 X.K true):=by
 intro pins s σ H x y v u Q I rx ry h
 unfold D9 at h
 split at h
 ·exact bs' pins s σ H _ _ v u Q I rx ry ⟨_,_,rfl,rfl,h⟩
 ·rcases h with⟨o,g,q⟩|h
  ·cases ry
   exact cA' (by lia) I g rx fun s3 I3=>⟨.bl (!o.isSome),H,I3,rfl,q⟩
  ·exact cn' pins s σ H _ _ v u Q I rx ry h
 ·exact h.elim
theorem aI.upd(h:aI H H')(hp:H' p=none):aI H (upd H' p o):=fun b u e=>by
 have e':=h b u e
 rw[g7 (FK e' hp)]
 exact e'
theorem aI.lst{K:PySem.W.Frag}(e:aI H H')(h:eR K H a xs):eR K H' a xs:=e.seq h
theorem aI.tup{K:PySem.W.Frag}(e:aI H H')(h:oz K H a xs):oz K H' a xs:=by
 rcases h with(h|⟨o,h⟩)|h
 ·exact .inl (.inl (e _ _ h))
 ·exact .inl (.inr ⟨o,e _ _ h⟩)
 ·exact .inr h
mutual
theorem Rep.same{K:PySem.W.Frag}(s:aI H H'):∀ {d:PyData} {v:V},Rep K H d v->Rep K H' d v
 |_,_,.none=>.none
 |_,_,.bool b=>.bool b
 |_,_,.int i=>.int i
 |_,_,.str x=>.str x
 |_,_,.list h hs=>.list (s.lst h) (aT.same s hs)
 |_,_,.tuple h hs=>.tuple (s.tup h) (aT.same s hs)
theorem aT.same{K:PySem.W.Frag}(s:aI H H'):∀ {ds:List PyData} {vs:List V},aT K H ds vs->aT K H' ds vs
 |_,_,.nil=>.nil
 |_,_,.cons h hs=>.cons (Rep.same s h) (aT.same s hs)
end
section
variable {X:Cx}{K:PySem.W.Frag}
theorem ri(hu:X.A.units+64<cLine)(hK:X.K=K:=by rfl):dr X (compareOp .Eq) (Qj K):=by subst hK;exact Gv hu
theorem Tb(hu:X.A.units+64<cLine)(hK:X.K=K:=by rfl):dr X (compareOp .NotEq) (Qk K):=by subst hK;exact G9 hu
theorem h9(hu:X.A.units+64<cLine)(hK:X.K=K:=by rfl):dr X (compareOp .In) (D9 K false):=by subst hK;exact Iu hu
theorem wA(hu:X.A.units+64<cLine)(hK:X.K=K:=by rfl):dr X (compareOp .NotIn) (D9 K true):=by subst hK;exact yt hu
theorem dw' (hc:X.calm=true:=by rfl) (hK:X.K=K:=by rfl):mh X (.builtin "all") (Ql K):=by subst hK;exact y_ hc
end
theorem Oq{α:Type}{a:α}{p:α->Prop}:(∃ v,a=v/\p v)↔p a:=⟨fun⟨_,e,h⟩=>e ▸ h,fun h=>⟨a,rfl,h⟩⟩
end L2
namespace L2
open PySem PySem.Spec PyProof.Rows
abbrev Tc:=Array DictEntry
def sj(h:Heap)(d:Addr)(es:Tc)(ep:Nat):Prop:=∃ o,h.get? d=some o/\o.ExactDict/\o.data=.dict es ep
theorem sj.typ {s:Shared} {d:Addr} {es:Tc} {ep:Nat} (x:sj s.heap d es ep):s.TypeIs (.ref d) "dict" := let ⟨o,e,c,_⟩:=x;⟨o,e,c.1⟩
section
variable {prog:Program}{w:World}{A:Around}{E:Value->Shared->Prop}{s:Shared}{d it:Addr}{es:Tc}{ep i:Nat}
theorem BV{Q:Value->Shared->Prop}(lo:(d == sysModules)=false)(x:sj s.heap d es ep)
  (q:Q (.ref s.heap.objs.size) { s with heap:=s.heap.push { cls:=.type "dict_keyiterator",data:=.fields #[.ref d,.int 0 0,.int es.size 0,.int ep 0] } }):wpAny (model prog w) A (pyIter (.ref d)) Q E s:=by
 obtain⟨o,ho,hc,Qn⟩:=id x
 refine wpAny_pyIter_slot x.typ F.slot_dict_iter (wpAny_call_entry F.slot_dict_iter x.typ F.entry_dict_iter ?_ (F.args_dict_iter_1 _))
 unfold Builtin.«dict.__iter__»
 refine ax ?_
 unfold Builtin.Dict.dictSlotNone
 refine ax (wpAny_notOrdered_dict x.typ ?_)
 refine(show wpAny _ _ (pure (Value.ref d)) _ _ s from aS ?_)
 refine(show wpAny _ _ (Builtin.Dict.showsAll d >>= _) _ _ s from ?_)
 unfold Builtin.Dict.showsAll
 rw[if_neg (by rw[lo];decide)]
 refine ax (aS (ax (wpAny_dictEntries ho Qn (ax (wpAny_dictEpoch ho Qn (ax (wpAny_newObj_type (aS ⟨_,rfl, "dict_keyiterator",_,⟨_,kr _ rfl,rfl⟩,F.slot_dict_keyiterator_next.lookup,?_⟩))))))))
 simpa[rawInt] using q
theorem Aw(hit:s.heap.IsKeyIter it d i es.size ep)(x:sj s.heap d es ep)(hx:i<es.size)
  (q:∀ h',h'.IsKeyIter it d (i+1) es.size ep->Heap.SameBut it s.heap h'->Q (some es[i].key) { s with heap:=h' }):wpAny (model prog w) A (pyNext (.ref it)) Q E s:=by
 obtain⟨o,ho,hc,hd⟩:=id hit
 obtain⟨od,D8,oy,B1⟩:=id x
 have ty:=hit.typeIs
 unfold pyNext
 refine ax (wpAny_attempt (wpAny_callSpecial?_slot (name:=Str.ofString "__next__") ty F.slot_dict_keyiterator_next (wpAny_call_entry F.slot_dict_keyiterator_next ty F.entry_dict_keyiterator_next ?_ (F.args_dict_keyiterator_next_1 _))))
 refine ax (aS (ax (ax ?_)))
 first|refine ax (wpAny_typeNameOfWhole_keyiter ty (aS ?_))|refine ax (wpAny_typeNameOf_keyiter ty (aS ?_))
 refine ax (wpAny_fieldsOf ho hd ?_)
 simp only[show Builtin.Dict_items.ownsTuple "dict_keyiterator" = false by decide,gy,if_false]
 refine(show wpAny _ _ (if (Value.ref d == Value.none)=true then _ else _) _ _ s from ?_)
 rw[if_neg (show ¬ ((Value.ref d == Value.none)=true) by intro h;cases h)]
 refine ax (aS (ax (wpAny_dictEntries D8 B1 ?_)))
 rw[if_neg (by intro h;simp at h)]
 refine ax (aS (ax (wpAny_dictEpoch D8 B1 ?_)))
 rw[if_neg (by intro h;simp at h)]
 refine aS ?_
 simp only[show ¬ ((i:Int)<0) by lia,if_false,Kj,xA hx]
 refine ax ?_
 first|refine ax (wpAny_typeNameOfWhole_keyiter ty (aS ?_))|refine ax (wpAny_typeNameOf_keyiter ty (aS ?_))
 refine ax (wpAny_isOneOf_keyiter ty ?_)
 refine(show wpAny _ _ (setField (.ref it) 1 (rawInt ((i:Int)+1)) >>= _) _ _ s from ax (wpAny_setField ho hd (by simp) ?_))
 have XM:(s.heap.update it (Obj.mapFields (·.setIfInBounds 1 (rawInt ((i:Int)+1))))).IsKeyIter it d (i+1) es.size ep :=
  ⟨_,DC _ ho (Obj.isFreed_of_fields (Obj.data_mapFields hd _)),(Obj.cls_mapFields ..).trans hc,by rw[Obj.data_mapFields hd];simp[rawInt]⟩
 refine ax (wpAny_holding (ax (wpAny_isOneOf_keyiter (s:={ s with heap:=s.heap.update it (Obj.mapFields (·.setIfInBounds 1 (rawInt ((i:Int)+1)))) }) XM.typeIs ?_)))
 refine(show wpAny _ _ (pure es[i].key) _ _ _ from aS (aS ⟨_,rfl,aS (q _ XM (Heap.SameBut.update ..))⟩))
theorem Bb(hh:A.handled=none)(hit:s.heap.IsKeyIter it d es.size es.size ep)(x:sj s.heap d es ep)(q:∀ h',Heap.ExtBut it s.heap h'->Q none { s with heap:=h' }) :
  wpAny (model prog w) A (pyNext (.ref it)) Q E s:=by
 obtain⟨o,ho,hc,hd⟩:=id hit
 obtain⟨od,D8,oy,B1⟩:=id x
 have ty:=hit.typeIs
 unfold pyNext
 refine ax (wpAny_attempt (wpAny_callSpecial?_slot (name:=Str.ofString "__next__") ty F.slot_dict_keyiterator_next (wpAny_call_entry F.slot_dict_keyiterator_next ty F.entry_dict_keyiterator_next ?_ (F.args_dict_keyiterator_next_1 _))))
 refine ax (aS (ax (ax ?_)))
 first|refine ax (wpAny_typeNameOfWhole_keyiter ty (aS ?_))|refine ax (wpAny_typeNameOf_keyiter ty (aS ?_))
 refine ax (wpAny_fieldsOf ho hd ?_)
 simp only[show Builtin.Dict_items.ownsTuple "dict_keyiterator" = false by decide,gy,if_false]
 refine(show wpAny _ _ (if (Value.ref d == Value.none)=true then _ else _) _ _ s from ?_)
 rw[if_neg (show ¬ ((Value.ref d == Value.none)=true) by intro h;cases h)]
 refine ax (aS (ax (wpAny_dictEntries D8 B1 ?_)))
 rw[if_neg (by intro h;simp at h)]
 refine ax (aS (ax (wpAny_dictEpoch D8 B1 ?_)))
 rw[if_neg (by intro h;simp at h)]
 refine aS ?_
 simp only[show ¬ ((es.size:Int)<0) by lia,if_false,Kj,FG (cq es.size)]
 refine ax ?_
 first|refine ax (wpAny_typeNameOfWhole_keyiter ty (aS ?_))|refine ax (wpAny_typeNameOf_keyiter ty (aS ?_))
 refine(show wpAny _ _ (setField (.ref it) 0 .none >>= _) _ _ s from ax (wpAny_setField ho hd (by simp) ?_))
 refine(show wpAny _ _ (newExc (.type "StopIteration") [] >>= _) _ _ _ from ax ?_)
 simp only[newExc,newTuple]
 refine ax (wpAny_newObj_type ?_ (by size_fits))
 refine ax (m:=firstArgMember _ _) (wpAny_of_eq (a:=Value.none) (by first|rfl|(simp only[firstArgMember];rfl)) (wpAny_newObj_type ?_ (by size_fits)))
 simp only[raiseNew]
 refine ax (wpAny_handled ?_)
 rw[show A.in1.handled=none from hh]
 refine ax (aS (wpAny_throw ?_))
 refine ax (wpAny_isInstance (b:=true) (T := "StopIteration") ⟨_,kr _ rfl,rfl⟩ isSubtype_stop ?_)
 exact aS (q _ (((Heap.SameBut.update ..).extBut.push _).push _))
theorem sj.at(x:sj h d es ep)(e:∀ o,h.get? d=some o->h'.get? d=some o):sj h' d es ep:=let ⟨o,ho,r⟩:=x;⟨o,e o ho,r⟩
theorem sj.lt(x:sj h d es ep):d<h.objs.size:=let ⟨_,e,_⟩:=x;dP e
theorem yZ(hh:A.handled=none)(I:Addr)(kc:d≠I):Walks prog w A I [I,d] [I] es.size (fun i v=>∃ e,es[i]? = some e/\v=e.key) (fun i h=>h.IsKeyIter I d i es.size ep/\sj h d es ep) where
 sub:=fun b hb=>by simp at hb;simp[hb]
 frame:=fun _ _ _ st hk=>⟨st.1.at fun o e=>hk I (by simp) o e,st.2.at fun o e=>hk d (by simp) o e⟩
 item:=fun i s Q E hi st hQ=>Aw st.1 st.2 hi fun h' a b=>hQ _ h' s.toks ⟨es[i],by simp[hi],rfl⟩ ⟨a,st.2.at fun o e=>b.extBut d o kc e⟩ fun c o hb e=>b.extBut c o (fun h=>hb (by simp[h])) e
 done:=fun s Q E st hQ=>Bb hh st.1 st.2 fun h' Qo=>hQ h' s.toks fun b o hb e=>Qo b o (fun h=>hb (by simp[h])) e
 self:=fun _ _ _ _ st hQ=>wpAny_pyIter_keyiter st.1 hQ
theorem Et (lo:(d == sysModules)=false):PySem.W.KdlSrc prog w "dict" d d es.size (fun i v=>∃ e,es[i]? = some e/\v=e.key) (fun h=>sj h d es ep) where
 type:=fun _ x=>x.typ
 there:=fun _ x=>⟨x.lt,x.lt⟩
 keep:=fun _ _ x hk=>x.at fun o e=>hk d (.inl rfl) o e
 notList:=by decide
 notTuple:=by decide
 hint:=fun _ _ _ _ x hq=>PySem.W.kdl_hint_dict x.typ hq
 iter:=fun _ _ hh x=>⟨_,_,(fun _ _ hq=>BV lo x hq),yZ hh _ (gi x.lt),⟨⟨_,kr _ rfl,rfl,rfl⟩,x.at fun o e=>fw _ e⟩⟩
end
theorem Paired.n0{α β:Type}{R:α->β->Prop}{bs:List β}(h:Paired R [] bs):bs=[]:=by cases h;rfl
theorem Paired.c{α β:Type}{R:α->β->Prop}{a:α}{as:List α}{bs:List β}(h:Paired R (a :: as) bs):∃ b cs,bs=b :: cs/\R a b/\Paired R as cs:=by
 cases h with
 |cons r t=>exact⟨_,_,rfl,r,t⟩
def dw(H:Hp)(ys:List V)(ks:List (List Key)):Prop:=Paired (fun(v:V) (k:List Key)=>∃ b,v=.ref b/\H b=some (.tup (k.map kV))) ys ks
section
variable {X:Cx}
def wH:List V->Hp->VK->Prop:=fun xs H Q=>match xs with
 |[.ref p]=>∃ ae,Rd H p (.dT ae)/\∀ ys l,dw H ys (ae.map (·.1))->H l=none->Q (.ref l) (upd H l (.lst ys))
 |_=>False
theorem Gg
  (h:Paired (fun(p:List Key × V) (q:List Key × Addr × Value)=>p.1=q.1/\H q.2.1=some (.tup (p.1.map kV))/\RelV p.2 q.2.2) ae xs) :
  dw H (xs.map fun q=>.ref q.2.1) (ae.map (·.1))/\Vals (xs.map fun q=>.ref q.2.1) ((xs.map (entryOfKey (tupleKind (jv prog w)))).map (·.key)):=by
 induction h with
 |nil=>exact⟨.nil,.nil⟩
 |cons r t ih=>exact⟨.cons ⟨_,rfl,r.2.1⟩ ih.1,.cons rfl ih.2⟩
theorem xn (hc:X.calm=true):mh X (.type "list") wH:=by
 intro pins s σ H xs us Q I r h
 unfold wH at h
 split at h
 ·rename_i p
  obtain⟨ae,e,q⟩:=h
  obtain⟨u,rfl,ru⟩:=Vals.one r
  cases ru
  obtain⟨z,y,ps,rel,o,es,ep,h1,h2,h3,h4,h5⟩:=(show fA X.prog X.w H s.heap p (.dT ae) from I.rd e)
  obtain⟨ta,va⟩:=Gg (prog:=X.prog) (w:=X.w) rel
  have hlen:es.size=ae.length:=by
   have:=congrArg List.length h4
   rw[ua,bP] at this
   rw[this];exact rel.length.symm
  refine PySem.W.kdl_call (Et (es:=es) (ep:=ep) y) (I.ok.hd hc) ⟨o,h1,h2,h3⟩ (by lia) fun h' tk acc c kp eo L7=>?_
  have hv:acc.toList=(ps.map (entryOfKey (tupleKind (jv X.prog X.w)))).map (·.key):=by
   apply IL
   intro i
   by_cases hi:i<es.size
   ·have og:i<acc.size:=by rw[L7.1];exact hi
    obtain⟨en,e1,e2⟩:=L7.2 i acc[i] (by simp[og])
    rw[<- h4,ot,mS,mS,e1]
    simp[og,e2]
   ·rw[<- h4,ot,mS,mS,FG (by rw[L7.1];lia),FG (by lia)]
    rfl
  refine⟨.ref s.heap.objs.size,_,I.laid (t':=tk) kp (cq _) (show fA X.prog X.w _ h' _ (.lst (ps.map fun q=>.ref q.2.1)) from⟨?_,acc.toList,c,?_,?_⟩),rfl,q _ _ ta (I.bp.fresh (cq _))⟩
  ·rw[bP,<- rel.length];exact z
  ·rw[hv];exact va
  ·rw[Array.toArray_toList];exact eo
 ·exact h.elim
end
end L2
namespace yn
open PySem PyProof.Rows
def R(r:Value->Int)(xs:Array Keyed)(i:Nat):Int:=match xs[i]? with
 |some p=>r p.1
 |none=>0
theorem eG(h:xs[i]? = ys[j]?):R r xs i=R r ys j:=by unfold R;rw[h]
def nv(prog:Program)(w:World)(A:Around)(s:Shared)(κ:SortKind)(r:Value->Int)(P:Value->Prop):Prop :=
 ∀ x y,P x->P y->∀ (Q:Bool->Shared->Prop) (E:Value->Shared->Prop),Q (decide (r x<r y)) s->wpAny (model prog w) A (keyLt' κ x y) Q E s
def AllP(P:Value->Prop)(xs:Array Keyed):Prop:=∀ p∈xs.toList,P p.1
theorem AllP.perm{P:Value->Prop}(h:AllP P xs)(hp:ys.Perm xs):AllP P ys:=fun p hm=>h p ((RP.mp hp).mem_iff.mp hm)
theorem AllP.at{P:Value->Prop}{xs:Array Keyed}(h:AllP P xs){i:Nat}{p:Keyed}(e:xs[i]? = some p):P p.1:=h p (by
 obtain⟨hi,rfl⟩:=FE.mp e
 simp)
structure kH(lo hi:Nat)(st ah:SortSt):Prop where
 kind:kindOf ah=kindOf st
 failed:failedOf ah=failedOf st
 pend:pendingOf ah=pendingOf st
 perm:(arrOf ah).Perm (arrOf st)
 out:∀ k,k<lo\/hi<=k->(arrOf ah)[k]? = (arrOf st)[k]?
theorem kH.refl(lo hi:Nat)(st:SortSt):kH lo hi st st:=⟨rfl,rfl,rfl,Array.Perm.refl _,fun _ _=>rfl⟩
theorem kH.trans{lo hi:Nat}{a b c:SortSt}(h:kH lo hi a b)(g:kH lo hi b c):kH lo hi a c :=
 ⟨g.kind.trans h.kind,g.failed.trans h.failed,g.pend.trans h.pend,g.perm.trans h.perm,fun k hk=>(g.out k hk).trans (h.out k hk)⟩
theorem kH.mono{lo hi Ee kU:Nat}{a b:SortSt}(h:kH lo hi a b)(h1:Ee<=lo)(h2:hi<=kU):kH Ee kU a b :=
 ⟨h.kind,h.failed,h.pend,h.perm,fun k hk=>h.out k (by lia)⟩
theorem kH.size{lo hi:Nat}{a b:SortSt}(h:kH lo hi a b):(arrOf b).size=(arrOf a).size:=h.perm.size_eq
def Up(r:Value->Int)(xs:Array Keyed)(lo hi:Nat):Prop:=∀ i j,lo<=i->i<=j->j<hi->R r xs i<=R r xs j
def Down(r:Value->Int)(xs:Array Keyed)(lo hi:Nat):Prop:=∀ i j,lo<=i->i<=j->j<hi->R r xs j<=R r xs i
theorem vp(hs:src<xs.size)(hd:d<=src)(k:Nat) :
  R r (bubble xs src d) k=if k=src-d then R r xs src else if src-d<k/\k<=src then R r xs (k-1) else R r xs k:=by
 have e:=getElem?_bubble hs d hd k
 by_cases h1:k=src-d
 ·rw[if_pos h1] at e ⊢;exact eG e
 ·rw[if_neg h1] at e ⊢
  by_cases h2:src-d<k/\k<=src
  ·rw[if_pos h2] at e ⊢;exact eG e
  ·rw[if_neg h2] at e ⊢;exact eG e
theorem qF(hj:j<=xs.size)(k:Nat) :
  R r (mirror xs i j ((j-i) / 2)) k=if i<=k/\k<j then R r xs (i+j-1-k) else R r xs k:=by
 have e:=getElem?_mirror_all (i:=i) hj k
 by_cases h1:i<=k/\k<j
 ·rw[if_pos h1] at e ⊢;exact eG e
 ·rw[if_neg h1] at e ⊢;exact eG e
theorem cC(hj:j<=xs.size)(heq:∀ k,i<=k->k<j->R r xs k=R r xs (j-1))(k:Nat) :
  R r (mirror xs i j ((j-i) / 2)) k=R r xs k:=by
 rw[qF hj]
 split
 ·rw[heq _ (by lia) (by lia),heq k (by lia) (by lia)]
 ·rfl
section
variable {prog:Program}{w:World}{A:Around}{E:Value->Shared->Prop}{s:Shared}{κ:SortKind}{r:Value->Int}{P:Value->Prop}
theorem sX{st:SortSt}{x y:Keyed}{Q:Option Bool->SortSt->Prop}(C:nv prog w A s κ r P)(hk:kindOf st=κ)(hx:P x.1)(hy:P y.1)(h:Q (some (decide (r x.1<r y.1))) st) :
  wpS (model prog w) A E s (lt' x y) Q st:=by
 rw[lt'_eq]
 refine wpS_bind (wpS_get ?_)
 rw[hk]
 refine wpS_bind (wpS_lift (wpAny_attempt (C x.1 y.1 hx hy _ _ ⟨rfl,?_⟩)))
 exact wpS_pure h
theorem aN{xs:Array Keyed}{i:Nat}{Q:Keyed->SortSt->Prop}{st:SortSt}(hi:i<xs.size)(h:∀ p,xs[i]? = some p->Q p st):wpS (model prog w) A E s (elem' xs i) Q st:=by
 rw[elem'_eq,getElem?_pos xs i hi]
 exact wpS_pure (h _ (getElem?_pos xs i hi))
theorem mW{st:SortSt}{i j:Nat}{Q:Option Bool->SortSt->Prop}(C:nv prog w A s κ r P)(hk:kindOf st=κ)(hP:AllP P (arrOf st))(hi:i<(arrOf st).size)(hj:j<(arrOf st).size)
  (h:Q (some (decide (R r (arrOf st) i<R r (arrOf st) j))) st):wpS (model prog w) A E s (ltAt' i j) Q st:=by
 rw[ltAt'_eq]
 refine wpS_bind (wpS_get ?_)
 show wpS _ _ _ _ (do let x <- elem' (arrOf st) i;let y <- elem' (arrOf st) j;lt' x y) Q st
 refine wpS_bind (aN hi fun p ep=>wpS_bind (aN hj fun q eq=>sX C hk (hP.at ep) (hP.at eq) ?_))
 have e1:R r (arrOf st) i=r p.1:=by unfold R;rw[ep]
 have e2:R r (arrOf st) j=r q.1:=by unfold R;rw[eq]
 rw[<- e1,<- e2]
 exact h
theorem eX{st:SortSt}{i j:Nat}{Q:Unit->SortSt->Prop}(h:Q () (setArr st (mirror (arrOf st) i j ((j-i) / 2)))) :
  wpS (model prog w) A E s (reverseSlice' i j) Q st:=by
 rw[reverseSlice'_eq];exact wpS_modify h
theorem iB{st:SortSt}{i j:Nat}(hj:j<=(arrOf st).size):kH i j st (setArr st (mirror (arrOf st) i j ((j-i) / 2))) :=
 ⟨rfl,rfl,rfl,mirror_perm _ _ _ _,fun k hk=>by
  have e:=getElem?_mirror_all (i:=i) hj k
  rw[if_neg (by lia)] at e
  exact e⟩
theorem xu{st:SortSt}{lo src d:Nat}(hs:src<(arrOf st).size)(hd:lo+d<=src):kH lo (src+1) st (setArr st (bubble (arrOf st) src d)) :=
 ⟨rfl,rfl,rfl,bubble_perm _ _ _,fun k hk=>by
  have e:=getElem?_bubble hs d (by walk_at "s4") k
  rw[if_neg (by lia),if_neg (by lia)] at e
  exact e⟩
theorem wpS_binarySort{st:SortSt}{lo n ok:Nat}{Q:Bool->SortSt->Prop}(C:nv prog w A s κ r P)(hk:kindOf st=κ)(hP:AllP P (arrOf st))(hn:lo+n<=(arrOf st).size)(bp:ok<=n)(hs:Up r (arrOf st) lo (lo+ok))
  (h:∀ ah,kH lo (lo+n) st ah->Up r (arrOf ah) lo (lo+n)->Q true ah):wpS (model prog w) A E s (binarySort' lo n ok) Q st:=by
 rw[binarySort'_eq]
 refine wpS_bind (wpS_mono (wpS_forRange (I:=fun k c ah=>c=(none,())/\kH lo (lo+n) st ah/\Up r (arrOf ah) lo (lo+min k n))
  (Q:=fun c ah=>c=(none,())/\kH lo (lo+n) st ah/\Up r (arrOf ah) lo (lo+n)) ?step ?fin ?init) ?post)
 case post =>
  rintro c ah ⟨rfl,iE,fe⟩
  exact wpS_pure (h ah iE fe)
 case init =>
  refine⟨rfl,.refl _ _ _,fun i j hl kB hj=>?_⟩
  by_cases h1:ok=0
  ·have:i=j:=by lia
   subst this;exact lP _
  ·exact hs i j hl kB (by lia)
 case fin =>
  rintro c ah ⟨hc,iE,fe⟩
  refine⟨hc,iE,?_⟩
  rwa[show min (max (max ok 1) n) n=n by lia] at fe
 case step =>
  rintro k c ah hak hkn ⟨rfl,iE,fe⟩
  rw[show min k n=k by lia] at fe
  have hsz:=iE.size
  have nk:kindOf ah=κ:=iE.kind.trans hk
  have pV:=hP.perm iE.perm
  refine wpS_bind (wpS_mono (wpS_forRange (I:=fun x c wq=>wq=ah/\∃ l r',c=(none,l,r')/\l<=r'/\r'<=k/\r'-l<=k-x /\
    (∀ i,lo<=i->i<lo+l->R r (arrOf ah) i<=R r (arrOf ah) (lo+k))/\(∀ i,lo+r'<=i->i<lo+k->R r (arrOf ah) (lo+k)<R r (arrOf ah) i))
   (Q:=fun c wq=>wq=ah/\∃ l r',c=(none,l,r')/\l<=k /\
    (∀ i,lo<=i->i<lo+l->R r (arrOf ah) i<=R r (arrOf ah) (lo+k))/\(∀ i,lo+l<=i->i<lo+k->R r (arrOf ah) (lo+k)<R r (arrOf ah) i)) ?dx' ?dy' ?dz') ?dA')
  case dz'=>exact⟨rfl,0,k,rfl,by exact eu _,by exact cq _,by exact Nat.sub_le _ _,fun i _ hi=>by lia,fun i h1 h2=>by lia⟩
  case dy' =>
   rintro c wq ⟨rfl,l,r',rfl,hlr,Td,hm,BQ,yv⟩
   have:l=r':=by lia
   subst this
   exact⟨rfl,l,l,rfl,Td,BQ,yv⟩
  case dx' =>
   rintro x c wq _ hxk ⟨rfl,l,r',rfl,hlr,Td,hm,BQ,yv⟩
   dsimp only
   by_cases qa:l >= r'
   ·rw[if_pos qa]
    have:l=r':=by exact JA ‹_› ‹_›
    subst this
    exact wpS_pure ⟨rfl,l,l,rfl,Td,BQ,yv⟩
   ·rw[if_neg qa]
    refine wpS_bind (mW C nk pV (by lia) (by lia) ?_)
    by_cases tf:R r (arrOf wq) (lo+k)<R r (arrOf wq) (lo+(l+r') / 2)
    ·simp only[tf,decide_true,if_true]
     refine wpS_pure ⟨rfl,l,(l+r') / 2,rfl,by lia,by lia,by lia,BQ,fun i h1 h2=>?_⟩
     exact RV tf (fe _ _ (by exact A8 _ _) h1 h2)
    ·simp only[tf,decide_false,gy,if_false]
     refine wpS_pure ⟨rfl,(l+r') / 2+1,r',rfl,by lia,by lia,by lia,fun i h0 h1=>?_,yv⟩
     exact qS (fe i (lo+(l+r') / 2) h0 (by lia) (by lia)) (Int.not_lt.mp tf)
  case dA' =>
   rintro c wq ⟨rfl,l,r',rfl,hlk,BQ,yv⟩
   show wpS _ _ _ _ (do moveDown' (lo+k) (lo+l);pure (ForInStep.yield (none,()))) _ _
   rw[moveDown'_eq]
   have Te:lo+k<(arrOf wq).size:=by lia
   refine wpS_bind (wpS_modify (wpS_pure ⟨rfl,iE.trans ((xu (lo:=lo) Te (by lia)).mono (cq _) (by lia)),?_⟩))
   rw[show min (k+1) n=k+1 by exact Nat.min_eq_left ‹_›]
   intro i j hl kB hj
   show R r (bubble (arrOf wq) (lo+k) (lo+k-(lo+l))) i<=R r (bubble (arrOf wq) (lo+k) (lo+k-(lo+l))) j
   rw[vp Te (by exact Nat.sub_le _ _),vp Te (by exact Nat.sub_le _ _),show lo+k-(lo+k-(lo+l))=lo+l by lia]
   repeat' split
   all_goals first
    | (exfalso;lia)
    |exact lP _
    |exact BQ _ (by lia) (by lia)
    |exact vF (yv _ (by lia) (by lia))
    |exact fe _ _ (by lia) (by lia) (by lia)
end
def ascL(lo a nrem:Nat):StateT SortSt Sem AscSt :=
 forIn [a:nrem] ((none,a):AscSt) fun _ __s=>do
  let __x ← ltAt' (lo + __s.snd) (lo + __s.snd - 1)
  match __x with
  |some smaller=>if smaller=true then pure (ForInStep.done (none,__s.snd)) else pure (ForInStep.yield (none,__s.snd+1))
  |_=>pure (ForInStep.done (some none,__s.snd))
def sY(lo n nrem:Nat):StateT SortSt Sem (Option Nat):=do
 reverseSlice' lo (lo+n)
 let __s ← ascL lo n nrem
 match __s.fst with
 |some r=>pure r
 |none=>pure (some __s.snd)
def Af(lo n nrem:Nat):StateT SortSt Sem DescSt :=
 forIn [n:nrem] ((none,n,0):DescSt) fun _ __s=>do
  let __x ← ltAt' (lo + __s.snd.fst) (lo + __s.snd.fst - 1)
  match __x with
  |some smaller =>
   if smaller=true then
    if __s.snd.snd>0 then do
     reverseSlice' (lo+__s.snd.fst-(__s.snd.snd+1)) (lo+__s.snd.fst)
     pure (ForInStep.yield (none,__s.snd.fst+1,0))
    else pure (ForInStep.yield (none,__s.snd.fst+1,0))
   else do
    let __x ← ltAt' (lo+__s.snd.fst - 1) (lo+__s.snd.fst)
    match __x with
    |some larger =>
     if larger=true then pure (ForInStep.done (none,__s.snd.fst,__s.snd.snd))
     else pure (ForInStep.yield (none,__s.snd.fst+1,__s.snd.snd+1))
    |_=>pure (ForInStep.done (some none,__s.snd.fst,__s.snd.snd))
  |_=>pure (ForInStep.done (some none,__s.snd.fst,__s.snd.snd))
def gF(lo n nrem:Nat):StateT SortSt Sem (Option Nat):=do
 liftM (rule "list.sort.descending-run")
 let __s ← Af lo (n+1) nrem
 match __s.fst with
 |some r=>pure r
 |none =>
  if __s.snd.snd>0 then do
   reverseSlice' (lo+__s.snd.fst-(__s.snd.snd+1)) (lo+__s.snd.fst)
   sY lo __s.snd.fst nrem
  else sY lo __s.snd.fst nrem
theorem tM(lo nrem:Nat):countRun' lo nrem=(do
  let __s ← ascL lo 1 nrem
  match __s.fst with
  |some r=>pure r
  |none =>
   if (__s.snd == nrem)=true then pure (some __s.snd)
   else if __s.snd>1 then do
    let __x ← ltAt' lo (lo+__s.snd - 1)
    match __x with
    |some XQ=>if XQ=true then pure (some __s.snd) else do
      reverseSlice' lo (lo+__s.snd)
      gF lo __s.snd nrem
    |_=>pure none
   else gF lo __s.snd nrem):=by
 rw[countRun'_eq]
 dsimp only
 unfold gF sY Af ascL
 congr 1
 funext __s
 obtain⟨r,n⟩:=__s
 cases r with
 |some r=>rfl
 |none =>
  dsimp only
  split
  ·rfl
  ·split
   ·congr 1
    funext x
    cases x with
    |none=>rfl
    |some XQ =>
     dsimp only
     split
     ·rfl
     ·congr 1
      funext _r
      (congr 1;funext _u;congr 1;congr 1;funext s2;obtain⟨r2,n2,q2⟩:=s2;cases r2 with
       |some r2=>rfl
       |none=>(dsimp only;split;(congr 1;funext _v;(congr 1;funext _w;congr 1;(funext s3;obtain⟨r3,n3⟩:=s3;cases r3<;>rfl)));(congr 1;funext _w;congr 1;(funext s3;obtain⟨r3,n3⟩:=s3;cases r3<;>rfl))))
   ·(congr 1;funext _u;congr 1;congr 1;funext s2;obtain⟨r2,n2,q2⟩:=s2;cases r2 with
     |some r2=>rfl
     |none=>(dsimp only;split;(congr 1;funext _v;(congr 1;funext _w;congr 1;(funext s3;obtain⟨r3,n3⟩:=s3;cases r3<;>rfl)));(congr 1;funext _w;congr 1;(funext s3;obtain⟨r3,n3⟩:=s3;cases r3<;>rfl))))
section
variable {prog:Program}{w:World}{A:Around}{E:Value->Shared->Prop}{s:Shared}{κ:SortKind}{r:Value->Int}{P:Value->Prop}
theorem vZ{st:SortSt}{lo a nrem:Nat}{Q:AscSt->SortSt->Prop}(C:nv prog w A s κ r P)(hk:kindOf st=κ)(hP:AllP P (arrOf st))(hn:lo+nrem<=(arrOf st).size)(ha:1<=a)(han:a<=nrem)
  (hs:Up r (arrOf st) lo (lo+a))
  (h:∀ n,a<=n->n<=nrem->Up r (arrOf st) lo (lo+n)->(n=nrem\/R r (arrOf st) (lo+n)<R r (arrOf st) (lo+n-1))->Q (none,n) st) :
  wpS (model prog w) A E s (ascL lo a nrem) Q st:=by
 unfold ascL
 refine wpS_forRange (I:=fun x c ah=>ah=st/\c=(none,x)/\Up r (arrOf st) lo (lo+x)) ?step ?fin ⟨rfl,rfl,hs⟩
 case fin =>
  rintro c ah ⟨rfl,rfl,fe⟩
  rw[show max a nrem=nrem by lia] at fe ⊢
  exact h nrem han (cq _) fe (.inl rfl)
 case step =>
  rintro x c ah Tf hxn ⟨rfl,rfl,fe⟩
  dsimp only
  refine wpS_bind (mW C hk hP (by lia) (by lia) ?_)
  by_cases tf:R r (arrOf ah) (lo+x)<R r (arrOf ah) (lo+x-1)
  ·simp only[tf,decide_true,if_true]
   exact wpS_pure (h x Tf (by exact kR ‹_›) fe (.inr tf))
  ·simp only[tf,decide_false,gy,if_false]
   refine wpS_pure ⟨rfl,rfl,fun i j hl kB hj=>?_⟩
   by_cases L8:j<lo+x
   ·exact fe i j hl kB L8
   ·have vj:j=lo+x:=by lia
    subst vj
    by_cases kU:i=lo+x
    ·subst kU;exact lP _
    ·exact qS (fe i (lo+x-1) hl (by lia) (by lia)) (Int.not_lt.mp tf)
theorem oE{st:SortSt}{lo n nrem:Nat}{Q:Option Nat->SortSt->Prop}(C:nv prog w A s κ r P)(hk:kindOf st=κ)(hP:AllP P (arrOf st))(hn:lo+nrem<=(arrOf st).size)(h1:1<=n)(AI:n<=nrem)
  (hs:Down r (arrOf st) lo (lo+n)) (h:∀ m ah,kH lo (lo+nrem) st ah->1<=m->m<=nrem->Up r (arrOf ah) lo (lo+m)->Q (some m) ah) :
  wpS (model prog w) A E s (sY lo n nrem) Q st:=by
 unfold sY
 have hsz:lo+n<=(arrOf st).size:=by lia
 refine wpS_bind (eX ?_)
 have iE:=iB (i:=lo) hsz
 refine wpS_bind (vZ C (iE.kind.trans hk) (hP.perm iE.perm) (by rw[iE.size];exact hn) h1 AI ?_ fun m wt ny Tg _=>wpS_pure (h m _ (iE.mono (cq _) (by lia)) (by walk_at "s1") ny Tg))
 intro i j hl kB hj
 show R r (mirror (arrOf st) lo (lo+n) ((lo+n-lo) / 2)) i<=R r (mirror (arrOf st) lo (lo+n) ((lo+n-lo) / 2)) j
 rw[qF hsz,qF hsz,if_pos (by lia),if_pos (by lia)]
 exact hs _ _ (by lia) (by lia) (by lia)
theorem yq{st:SortSt}{lo n nrem:Nat}{Q:DescSt->SortSt->Prop}(C:nv prog w A s κ r P)(hk:kindOf st=κ)(hP:AllP P (arrOf st))(hn:lo+nrem<=(arrOf st).size)(h1:1<=n)(AI:n<=nrem)
  (hs:Down r (arrOf st) lo (lo+n))
  (h:∀ m qc ah,kH lo (lo+nrem) st ah->n<=m->m<=nrem->Down r (arrOf ah) lo (lo+m)->qc+1<=m->(∀ i,lo+m-(qc+1)<=i->i<lo+m->R r (arrOf ah) i=R r (arrOf ah) (lo+m-1))->Q (none,m,qc) ah) :
  wpS (model prog w) A E s (Af lo n nrem) Q st:=by
 unfold Af
 refine wpS_forRange (I:=fun x c ah=>∃ qc,c=(none,x,qc)/\kH lo (lo+nrem) st ah/\Down r (arrOf ah) lo (lo+x)/\qc+1<=x /\
   (∀ i,lo+x-(qc+1)<=i->i<lo+x->R r (arrOf ah) i=R r (arrOf ah) (lo+x-1))) ?step ?fin ⟨0,rfl,.refl _ _ _,hs,by lia,fun i h1 h2=>by congr 1;lia⟩
 case fin =>
  rintro c ah ⟨qc,rfl,iE,fe,hq,he⟩
  rw[show max n nrem=nrem by lia] at fe hq he ⊢
  exact h nrem qc ah iE AI (cq _) fe hq he
 case step =>
  rintro x c ah Tf hxn ⟨qc,rfl,iE,fe,hq,he⟩
  dsimp only
  have hz:=iE.size
  have hsz:lo+x<=(arrOf ah).size:=by lia
  have nk:=iE.kind.trans hk
  have pV:=hP.perm iE.perm
  refine wpS_bind (mW C nk pV (by lia) (by lia) ?_)
  by_cases tf:R r (arrOf ah) (lo+x)<R r (arrOf ah) (lo+x-1)
  ·simp only[tf,decide_true,if_true]
   have XR:∀ xs:Array Keyed,(∀ k,R r xs k=R r (arrOf ah) k)->Down r xs lo (lo+(x+1)):=by
    intro xs XS i j hl kB hj
    rw[XS,XS]
    by_cases L8:j<lo+x
    ·exact fe i j hl kB L8
    ·have vj:j=lo+x:=by lia
     subst vj
     by_cases kU:i=lo+x
     ·subst kU;exact lP _
     ·exact qS (vF tf) (fe i (lo+x-1) hl (by lia) (by lia))
   by_cases L9:qc>0
   ·rw[if_pos L9]
    refine wpS_bind (eX (wpS_pure ⟨0,rfl,iE.trans ((iB hsz).mono (by lia) (by lia)),XR _ (cC hsz he),by exact sM _,fun i h1 h2=>by congr 1;lia⟩))
   ·rw[if_neg L9]
    exact wpS_pure ⟨0,rfl,iE,XR _ (fun _=>rfl),by exact sM _,fun i h1 h2=>by congr 1;lia⟩
  ·simp only[tf,decide_false,gy,if_false]
   refine wpS_bind (mW C nk pV (by lia) (by lia) ?_)
   by_cases XX:R r (arrOf ah) (lo+x-1)<R r (arrOf ah) (lo+x)
   ·simp only[XX,decide_true,if_true]
    exact wpS_pure (h x qc ah iE Tf (by exact kR ‹_›) fe hq he)
   ·simp only[XX,decide_false,gy,if_false]
    have X3:R r (arrOf ah) (lo+x)=R r (arrOf ah) (lo+x-1):=by lia
    refine wpS_pure ⟨qc+1,rfl,iE,fun i j hl kB hj=>?_,by exact A9 ‹_›,fun i h1 h2=>?_⟩
    ·by_cases L8:j<lo+x
     ·exact fe i j hl kB L8
     ·have vj:j=lo+x:=by lia
      subst vj
      by_cases kU:i=lo+x
      ·subst kU;exact lP _
      ·rw[X3];exact fe i (lo+x-1) hl (by lia) (by lia)
    ·rw[show lo+(x+1)-1=lo+x by rfl]
     by_cases EA:i=lo+x
     ·subst EA;rfl
     ·rw[X3];exact he i (by lia) (by lia)
theorem jx{st:SortSt}{lo n nrem:Nat}{Q:Option Nat->SortSt->Prop}(C:nv prog w A s κ r P)(hk:kindOf st=κ)(hP:AllP P (arrOf st))(hn:lo+nrem<=(arrOf st).size)(AI:n+1<=nrem)
  (hs:Down r (arrOf st) lo (lo+(n+1))) (h:∀ m ah,kH lo (lo+nrem) st ah->1<=m->m<=nrem->Up r (arrOf ah) lo (lo+m)->Q (some m) ah) :
  wpS (model prog w) A E s (gF lo n nrem) Q st:=by
 unfold gF
 refine wpS_bind (wpS_lift (wpAny_rule ⟨rfl,?_⟩))
 refine wpS_bind (yq C hk hP hn (by exact sM _) AI hs fun m qc ah iE wt ny fe hq he=>?_)
 dsimp only
 have hz:=iE.size
 have hsz:lo+m<=(arrOf ah).size:=by lia
 have nk:=iE.kind.trans hk
 have pV:=hP.perm iE.perm
 by_cases L9:qc>0
 ·rw[if_pos L9]
  have hW:=iB (i:=lo+m-(qc+1)) hsz
  refine wpS_bind (eX (oE C (hW.kind.trans nk) (pV.perm hW.perm) (by rw[hW.size,hz];exact hn) (by walk_at "s2") ny ?_ fun m2 ub Mb=>h m2 ub ((iE.trans (hW.mono (by lia) (by lia))).trans Mb)))
  intro i j hl kB hj
  show R r (mirror (arrOf ah) _ _ _) j<=R r (mirror (arrOf ah) _ _ _) i
  rw[cC hsz he,cC hsz he]
  exact fe i j hl kB hj
 ·rw[if_neg L9]
  exact oE C nk pV (by rw[hz];exact hn) (by lia) ny fe fun m2 ub Mb=>h m2 ub (iE.trans Mb)
theorem wpS_countRun{st:SortSt}{lo nrem:Nat}{Q:Option Nat->SortSt->Prop}(C:nv prog w A s κ r P)(hk:kindOf st=κ)(hP:AllP P (arrOf st))(hn:lo+nrem<=(arrOf st).size)(h1:1<=nrem)
  (h:∀ m ah,kH lo (lo+nrem) st ah->1<=m->m<=nrem->Up r (arrOf ah) lo (lo+m)->Q (some m) ah) :
  wpS (model prog w) A E s (countRun' lo nrem) Q st:=by
 rw[tM]
 refine wpS_bind (vZ C hk hP hn (cq 1) h1 (fun i j hl kB hj=>by
  have:i=j:=by lia
  subst this;exact lP _) fun n X4 GB nE hor=>?_)
 dsimp only
 by_cases AI:n=nrem
 ·rw[if_pos (by simpa using AI)]
  exact wpS_pure (h n st (.refl _ _ _) X4 GB nE)
 ·rw[if_neg (by simpa using AI)]
  have fR:R r (arrOf st) (lo+n)<R r (arrOf st) (lo+n-1):=hor.resolve_left AI
  by_cases X5:n>1
  ·rw[if_pos X5]
   refine wpS_bind (mW C hk hP (by lia) (by lia) ?_)
   by_cases X6:R r (arrOf st) lo<R r (arrOf st) (lo+n-1)
   ·simp only[X6,decide_true,if_true]
    exact wpS_pure (h n st (.refl _ _ _) X4 GB nE)
   ·simp only[X6,decide_false,gy,if_false]
    have hsz:lo+n<=(arrOf st).size:=by lia
    have mw:∀ k,lo<=k->k<lo+n->R r (arrOf st) k=R r (arrOf st) (lo+n-1):=by
     intro k hl hk
     have a1:=nE lo k (by exact cq _) hl hk
     have a2:=nE k (lo+n-1) hl (by lia) (by lia)
     lia
    have hW:=iB (i:=lo) hsz
    refine wpS_bind (eX (jx C (hW.kind.trans hk) (hP.perm hW.perm) (by rw[hW.size];exact hn) (by lia) ?_ fun m2 ub Mb=>h m2 ub ((hW.mono (cq _) (by lia)).trans Mb)))
    intro i j hl kB hj
    show R r (mirror (arrOf st) _ _ _) j<=R r (mirror (arrOf st) _ _ _) i
    rw[cC hsz mw,cC hsz mw]
    by_cases hjn:j<lo+n
    ·rw[mw i hl (by walk_at "s1"),mw j (by walk_at "s1") hjn];exact lP _
    ·have vj:j=lo+n:=by lia
     subst vj
     by_cases kU:i=lo+n
     ·subst kU;exact lP _
     ·rw[mw i hl (by lia)];exact vF fR
  ·rw[if_neg X5]
   have dG':n=1:=by lia
   subst dG'
   refine jx C hk hP hn (by lia) ?_ h
   intro i j hl kB hj
   by_cases kU:i=j
   ·subst kU;exact lP _
   ·have AH:i=lo:=by lia
    have hj1:j=lo+1:=by lia
    subst AH;subst hj1
    exact vF fR
end
def z7(left:Bool)(key:Keyed)(arr:Array Keyed)(base i:Nat):StateT SortSt Sem (Option Bool):=do
 let x ← elem' arr (base+i)
 if left then lt' x key else return (<- lt' key x).map (!·)
def m_:Bool->Keyed->Array Keyed->Nat->Nat->Nat->StateT SortSt Sem (Option Nat):=sortPriv% PySem.Builtin.gallop
section
variable {prog:Program}{w:World}{A:Around}{E:Value->Shared->Prop}{s:Shared}{κ:SortKind}{r:Value->Int}{P:Value->Prop}
def eT(r:Value->Int)(left:Bool)(key:Keyed)(arr:Array Keyed)(base i:Nat):Bool :=
 if left then decide (R r arr (base+i)<r key.1) else !decide (r key.1<R r arr (base+i))
theorem fW{st:SortSt}{left:Bool}{key:Keyed}{arr:Array Keyed}{base i:Nat}{Q:Option Bool->SortSt->Prop}(C:nv prog w A s κ r P)(hk:kindOf st=κ)(hP:AllP P arr)(hy:P key.1)(hi:base+i<arr.size)
  (h:Q (some (eT r left key arr base i)) st):wpS (model prog w) A E s (z7 left key arr base i) Q st:=by
 unfold z7
 refine wpS_bind (aN hi fun p ep=>?_)
 have e1:R r arr (base+i)=r p.1:=by unfold R;rw[ep]
 unfold eT at h
 rw[e1] at h
 cases left with
 |true =>
  simp only[if_true] at h ⊢
  exact sX C hk (hP.at ep) hy h
 |false =>
  simp only[gy,if_false] at h ⊢
  exact wpS_bind (sX C hk hy (hP.at ep) (wpS_pure h))
theorem Bm(hu:Up r arr base (base+n))(kB:i<=j)(hj:j<n)(h:eT r left key arr base j=true):eT r left key arr base i=true:=by
 have q:=hu (base+i) (base+j) (by lia) (by lia) (by lia)
 unfold eT at h ⊢
 cases left with
 |true=>simp only[if_true,decide_eq_true_eq] at h ⊢;lia
 |false=>simp only[gy,if_false,RN,decide_eq_false_iff_not] at h ⊢;lia
theorem dX{st:SortSt}{left:Bool}{key:Keyed}{arr:Array Keyed}{base n hint:Nat}{Q:Option Nat->SortSt->Prop}(C:nv prog w A s κ r P)(hk:kindOf st=κ)(hP:AllP P arr)(hy:P key.1)(hn:base+n<=arr.size)(hh:hint<n)
  (hu:Up r arr base (base+n))
  (h:∀ k,k<=n->(∀ i,i<k->eT r left key arr base i=true)->(∀ i,k<=i->i<n->eT r left key arr base i=false)->Q (some k) st):wpS (model prog w) A E s (m_ left key arr base n hint) Q st:=by
 have mono:∀ {i j},i<=j->j<n->eT r left key arr base j=true->eT r left key arr base i=true:=fun a b c=>Bm hu a b c
 have Qp:∀ {i j},i<=j->j<n->eT r left key arr base i=false->eT r left key arr base j=false:=fun {i j} a b c=>by
  cases q:eT r left key arr base j with
  |false=>rfl
  |true=>rw[mono a b q] at c;cases c
 refine wpS_bind (fW C hk hP hy (by lia) ?_)
 dsimp only
 cases q0:eT r left key arr base hint with
 |true =>
  simp only[if_true]
  refine wpS_bind (wpS_mono (wpS_forRange (I:=fun x c ah=>ah=st/\∃ lst eK,c=(none,lst,eK)/\lst<eK/\lst<n-hint/\x+1<=eK/\eT r left key arr base (hint+lst)=true)
   (Q:=fun c ah=>ah=st/\∃ lst eK,c=(none,lst,eK)/\lst<eK/\lst<n-hint/\eT r left key arr base (hint+lst)=true/\(n-hint<=eK\/eT r left key arr base (hint+eK)=false)) ?step ?fin ?init) ?post)
  case init=>exact⟨rfl,0,1,rfl,by exact sM _,by lia,by exact sM _,q0⟩
  case fin =>
   rintro c ah ⟨rfl,lst,eK,rfl,h1,h2,h3,h4⟩
   exact⟨rfl,lst,eK,rfl,h1,h2,h4,.inl (by lia)⟩
  case step =>
   rintro x c ah _ hx ⟨rfl,lst,eK,rfl,h1,h2,h3,h4⟩
   dsimp only
   by_cases qa:eK >= n-hint
   ·rw[if_pos qa]
    exact wpS_pure ⟨rfl,lst,eK,rfl,h1,h2,h4,.inl qa⟩
   ·rw[if_neg qa]
    refine wpS_bind (fW C hk hP hy (by lia) ?_)
    cases q:eT r left key arr base (hint+eK) with
    |true =>
     simp only[Pt,gy,if_false]
     exact wpS_pure ⟨rfl,_,_,rfl,by lia,by exact Pl ‹_›,by lia,q⟩
    |false =>
     simp only[Bool.not_false,if_true]
     exact wpS_pure ⟨rfl,lst,eK,rfl,h1,h2,h4,.inr q⟩
  case post =>
   rintro c ah ⟨rfl,lst,eK,rfl,h1,h2,h4,h5⟩
   dsimp only
   generalize ah=st at *
   have hl:∀ i,i<hint+lst+1->eT r left key arr base i=true:=fun i hi=>mono (j:=hint+lst) (by lia) (by lia) h4
   have yv:∀ i,hint+min eK (n-hint)<=i->i<n->eT r left key arr base i=false:=fun i hi nI=>by
    rcases h5 with h5|h5
    ·lia
    ·by_cases z:n-hint<=eK
     ·lia
     ·exact Qp (i:=hint+eK) (by lia) nI h5
   have Ti:hint+lst+1<=hint+min eK (n-hint):=by lia
   have Tj:hint+min eK (n-hint)<=n:=by lia
   generalize hint+lst+1=lo at *
   generalize hint+min eK (n-hint)=hi at *
   refine wpS_bind (wpS_mono (wpS_forRange (I:=fun x c ah=>ah=st/\∃ l u,c=(none,l,u)/\l<=u/\u<=n/\u-l<=n-x/\(∀ i,i<l->eT r left key arr base i=true)/\(∀ i,u<=i->i<n->eT r left key arr base i=false))
    (Q:=fun c ah=>ah=st/\∃ l,c=(none,l,l)/\l<=n/\(∀ i,i<l->eT r left key arr base i=true)/\(∀ i,l<=i->i<n->eT r left key arr base i=false)) ?dI' ?dJ' ?dK') ?postA)
   case dK'=>exact⟨rfl,lo,hi,rfl,Ti,Tj,by lia,hl,yv⟩
   case dJ' =>
    rintro c ah ⟨rfl,l,u,rfl,h1,h2,h3,h4,h5⟩
    have:l=u:=by lia
    subst this
    exact⟨rfl,l,rfl,h2,h4,h5⟩
   case dI' =>
    rintro x c ah _ hx ⟨rfl,l,u,rfl,h1,h2,h3,h4,h5⟩
    dsimp only
    by_cases qa:l >= u
    ·rw[if_pos qa]
     have:l=u:=by exact JA ‹_› ‹_›
     subst this
     exact wpS_pure ⟨rfl,l,rfl,h2,h4,h5⟩
    ·rw[if_neg qa]
     refine wpS_bind (fW C hk hP hy (by lia) ?_)
     cases q:eT r left key arr base (l+(u-l) / 2) with
     |true =>
      simp only[if_true]
      exact wpS_pure ⟨rfl,_,_,rfl,by lia,by lia,by lia,fun i hi=>mono (j:=l+(u-l) / 2) (by lia) (by lia) q,h5⟩
     |false =>
      simp only[gy,if_false]
      exact wpS_pure ⟨rfl,_,_,rfl,by exact A8 _ _,by lia,by lia,h4,fun i hi nI=>Qp (i:=l+(u-l) / 2) (by lia) nI q⟩
   case postA =>
    rintro c ah ⟨rfl,l,rfl,h2,h4,h5⟩
    exact wpS_pure (h l h2 h4 h5)
 |false =>
  simp only[gy,if_false]
  refine wpS_bind (wpS_mono (wpS_forRange (I:=fun x c ah=>ah=st/\∃ lst eK,c=(none,lst,eK)/\lst<eK/\lst<hint+1/\x+1<=eK/\eT r left key arr base (hint-lst)=false)
   (Q:=fun c ah=>ah=st/\∃ lst eK,c=(none,lst,eK)/\lst<eK/\lst<hint+1/\eT r left key arr base (hint-lst)=false/\(hint+1<=eK\/eT r left key arr base (hint-eK)=true)) ?dL' ?fin2 ?dM') ?dN')
  case dM'=>exact⟨rfl,0,1,rfl,by exact sM _,by exact sM _,by exact sM _,q0⟩
  case fin2 =>
   rintro c ah ⟨rfl,lst,eK,rfl,h1,h2,h3,h4⟩
   exact⟨rfl,lst,eK,rfl,h1,h2,h4,.inl (by walk_at "s2")⟩
  case dL' =>
   rintro x c ah _ hx ⟨rfl,lst,eK,rfl,h1,h2,h3,h4⟩
   dsimp only
   by_cases qa:eK >= hint+1
   ·rw[if_pos qa]
    exact wpS_pure ⟨rfl,lst,eK,rfl,h1,h2,h4,.inl qa⟩
   ·rw[if_neg qa]
    refine wpS_bind (fW C hk hP hy (by lia) ?_)
    cases q:eT r left key arr base (hint-eK) with
    |true =>
     simp only[if_true]
     exact wpS_pure ⟨rfl,lst,eK,rfl,h1,h2,h4,.inr q⟩
    |false =>
     simp only[gy,if_false]
     exact wpS_pure ⟨rfl,_,_,rfl,by lia,by exact Pl ‹_›,by lia,q⟩
  case dN' =>
   rintro c ah ⟨rfl,lst,eK,rfl,h1,h2,h4,h5⟩
   dsimp only
   generalize ah=st at *
   have hl:∀ i,i<hint+1-min eK (hint+1)->eT r left key arr base i=true:=fun i hi=>by
    rcases h5 with h5|h5
    ·lia
    ·by_cases z:hint+1<=eK
     ·lia
     ·exact mono (j:=hint-eK) (by lia) (by lia) h5
   have yv:∀ i,hint-lst<=i->i<n->eT r left key arr base i=false:=fun i hi nI=>Qp (i:=hint-lst) (by lia) nI h4
   have Ti:hint+1-min eK (hint+1)<=hint-lst:=by lia
   have Tj:hint-lst<=n:=by lia
   generalize hint+1-min eK (hint+1)=lo at *
   generalize hint-lst=hi at *
   refine wpS_bind (wpS_mono (wpS_forRange (I:=fun x c ah=>ah=st/\∃ l u,c=(none,l,u)/\l<=u/\u<=n/\u-l<=n-x/\(∀ i,i<l->eT r left key arr base i=true)/\(∀ i,u<=i->i<n->eT r left key arr base i=false))
    (Q:=fun c ah=>ah=st/\∃ l,c=(none,l,l)/\l<=n/\(∀ i,i<l->eT r left key arr base i=true)/\(∀ i,l<=i->i<n->eT r left key arr base i=false)) ?dO' ?dP' ?dQ') ?dR')
   case dQ'=>exact⟨rfl,lo,hi,rfl,Ti,Tj,by lia,hl,yv⟩
   case dP' =>
    rintro c ah ⟨rfl,l,u,rfl,h1,h2,h3,h4,h5⟩
    have:l=u:=by lia
    subst this
    exact⟨rfl,l,rfl,h2,h4,h5⟩
   case dO' =>
    rintro x c ah _ hx ⟨rfl,l,u,rfl,h1,h2,h3,h4,h5⟩
    dsimp only
    by_cases qa:l >= u
    ·rw[if_pos qa]
     have:l=u:=by exact JA ‹_› ‹_›
     subst this
     exact wpS_pure ⟨rfl,l,rfl,h2,h4,h5⟩
    ·rw[if_neg qa]
     refine wpS_bind (fW C hk hP hy (by lia) ?_)
     cases q:eT r left key arr base (l+(u-l) / 2) with
     |true =>
      simp only[if_true]
      exact wpS_pure ⟨rfl,_,_,rfl,by lia,by lia,by lia,fun i hi=>mono (j:=l+(u-l) / 2) (by lia) (by lia) q,h5⟩
     |false =>
      simp only[gy,if_false]
      exact wpS_pure ⟨rfl,_,_,rfl,by exact A8 _ _,by lia,by lia,h4,fun i hi nI=>Qp (i:=l+(u-l) / 2) (by lia) nI q⟩
   case dR' =>
    rintro c ah ⟨rfl,l,rfl,h2,h4,h5⟩
    exact wpS_pure (h l h2 h4 h5)
end
abbrev Le(r:Value->Int)(x y:Keyed):Prop:=r x.1<=r y.1
theorem nK(e:xs[i]? = some p):R r xs i=r p.1:=by unfold R;rw[e]
theorem G6(h:i<xs.size):R r xs i=r xs[i].1:=nK (getElem?_pos xs i h)
structure MI(r:Value->Int)(a b out:Array Keyed)(ia ib:Nat):Prop where
 ha:ia<=a.size
 hb:ib<=b.size
 perm:out.toList.Perm (a.toList.take ia++b.toList.take ib)
 up:out.toList.Pairwise (Le r)
 la:∀ x∈out.toList,∀ i,ia<=i->i<a.size->r x.1<=R r a i
 lb:∀ x∈out.toList,∀ j,ib<=j->j<b.size->r x.1<=R r b j
section
variable {r:Value->Int}{a b out:Array Keyed}{ia ib:Nat}
theorem oO{α:Type}{l:List α}{i:Nat}{x:α}(h:l[i]? = some x):l.take (i+1)=l.take i++[x]:=by
 rw[xt,h];rfl
theorem MI.rA(M:MI r a b out ia ib)(hA:Up r a 0 a.size)(hB:Up r b 0 b.size)(e:b[ib]? = some y)(hl:ia<a.size->R r b ib<=R r a ia):MI r a b (out.push y) ia (ib+1):=by
 have X7:ib<b.size:=(FE.mp e).1
 have ey:=nK (r:=r) e
 refine⟨M.ha,X7,?_,?_,?_,?_⟩
 ·rw[n9,oO (x:=y) (by simpa using e),<- tT]
  exact M.perm.append_right _
 ·rw[n9,II]
  refine⟨M.up,by simp,fun x hx z hz=>?_⟩
  have:z=y:=by simpa using hz
  subst this
  show r x.1<=r z.1
  rw[<- ey]
  exact M.lb x hx ib (cq _) X7
 ·intro x hx i hi GO
  rw[n9] at hx
  rcases dA.mp hx with hx|hx
  ·exact M.la x hx i hi GO
  ·have:x=y:=by simpa using hx
   subst this
   rw[<- ey]
   exact qS (hl (by lia)) (hA ia i (eu _) hi GO)
 ·intro x hx j hj Mk
  rw[n9] at hx
  rcases dA.mp hx with hx|hx
  ·exact M.lb x hx j (by lia) Mk
  ·have:x=y:=by simpa using hx
   subst this
   rw[<- ey]
   exact hB ib j (eu _) (by lia) Mk
theorem MI.rT(M:MI r a b out ia ib)(hA:Up r a 0 a.size)(hB:Up r b 0 b.size)(e:a[ia]? = some y)(hl:ib<b.size->R r a ia<=R r b ib):MI r a b (out.push y) (ia+1) ib:=by
 have GO:ia<a.size:=(FE.mp e).1
 have ey:=nK (r:=r) e
 refine⟨GO,M.hb,?_,?_,?_,?_⟩
 ·rw[n9,oO (x:=y) (by simpa using e),tT]
  refine(M.perm.append_right [y]).trans ?_
  rw[tT]
  exact List.Perm.append_left _ Rw
 ·rw[n9,II]
  refine⟨M.up,by simp,fun x hx z hz=>?_⟩
  have:z=y:=by simpa using hz
  subst this
  show r x.1<=r z.1
  rw[<- ey]
  exact M.la x hx ia (cq _) GO
 ·intro x hx i hi og
  rw[n9] at hx
  rcases dA.mp hx with hx|hx
  ·exact M.la x hx i (by lia) og
  ·have:x=y:=by simpa using hx
   subst this
   rw[<- ey]
   exact hA ia i (eu _) (by lia) og
 ·intro x hx j hj Mk
  rw[n9] at hx
  rcases dA.mp hx with hx|hx
  ·exact M.lb x hx j hj Mk
  ·have:x=y:=by simpa using hx
   subst this
   rw[<- ey]
   exact qS (hl (by lia)) (hB ib j (eu _) hj Mk)
theorem gK{xs:Array Keyed}{i k:Nat}(h:i+k<xs.size):xs.extract i (i+(k+1))=(xs.extract i (i+k)).push xs[i+k]:=by
 apply Pw.mp
 rw[n9]
 simp only[RQ,Ru]
 rw[show i+(k+1)-i=k+1 by exact Nat.add_sub_cancel_left ..,show i+k-i=k by exact Nat.add_sub_cancel_left ..,xt]
 congr 1
 rw[List.getElem?_drop]
 simp[h]
theorem MI.AJ(hA:Up r a 0 a.size)(hB:Up r b 0 b.size):∀ (k:Nat) {out:Array Keyed} {ia:Nat},MI r a b out ia ib->ia+k<=a.size->(ib<b.size->∀ i,i<k->R r a (ia+i)<=R r b ib)->MI r a b (out++a.extract ia (ia+k)) (ia+k) ib
 |0,out,ia,M,h1,h2=>by
  have:a.extract ia (ia+0) = #[]:=Ki (by simp only[DE];lia)
  rw[this]
  simpa using M
 |k+1,out,ia,M,h1,h2=>by
  have q:=MI.AJ hA hB k M (by exact kR ‹_›) fun hb i hi=>h2 hb i (by exact xv ‹_›)
  have e:a[ia+k]? = some a[ia+k]:=getElem?_pos a (ia+k) (by assumption)
  have z:=q.rT hA hB e fun hb=>h2 hb k (by exact cq _)
  rw[gK (by assumption),Array.append_push]
  exact z
theorem MI.AK(hA:Up r a 0 a.size)(hB:Up r b 0 b.size):∀ (k:Nat) {out:Array Keyed} {ib:Nat},MI r a b out ia ib->ib+k<=b.size->(ia<a.size->∀ i,i<k->R r b (ib+i)<=R r a ia)->MI r a b (out++b.extract ib (ib+k)) ia (ib+k)
 |0,out,ib,M,h1,h2=>by
  have:b.extract ib (ib+0) = #[]:=Ki (by simp only[DE];lia)
  rw[this]
  simpa using M
 |k+1,out,ib,M,h1,h2=>by
  have q:=MI.AK hA hB k M (by exact kR ‹_›) fun ha i hi=>h2 ha i (by exact xv ‹_›)
  have e:b[ib+k]? = some b[ib+k]:=getElem?_pos b (ib+k) (by assumption)
  have z:=q.rA hA hB e fun ha=>h2 ha k (by exact cq _)
  rw[gK (by assumption),Array.append_push]
  exact z
def cQ(r:Value->Int)(a b out:Array Keyed):Prop:=out.toList.Perm (a.toList++b.toList)/\out.toList.Pairwise (Le r)
theorem MI.whole(M:MI r a b out a.size b.size):cQ r a b out:=by
 refine⟨?_,M.up⟩
 have h:=M.perm
 rw[O5 (by simp),O5 (by simp)] at h
 exact h
theorem MI.JH(M:MI r a b out ia b.size)(hA:Up r a 0 a.size)(hB:Up r b 0 b.size):cQ r a b (out++a.extract ia a.size++b.extract b.size b.size):=by
 have e:b.extract b.size b.size = #[]:=by simp
 rw[e,RT]
 have ha:=M.ha
 have q:=MI.AJ hA hB (a.size-ia) M (by lia) fun hb=>absurd hb (sd _)
 rw[show ia+(a.size-ia)=a.size by exact Dp ‹_›] at q
 exact q.whole
theorem MI.J8(M:MI r a b out a.size ib)(hA:Up r a 0 a.size)(hB:Up r b 0 b.size):cQ r a b (out++a.extract a.size a.size++b.extract ib b.size):=by
 have e:a.extract a.size a.size = #[]:=by simp
 rw[e,RT]
 have hb:=M.hb
 have q:=MI.AK hA hB (b.size-ib) M (by lia) fun ha=>absurd ha (sd _)
 rw[show ib+(b.size-ib)=b.size by exact Dp ‹_›] at q
 exact q.whole
theorem MI.GP(M:MI r a b out ia ib)(hA:Up r a 0 a.size)(hB:Up r b 0 b.size)(e:ib=b.size):cQ r a b (out++a.extract ia a.size++b.extract ib b.size):=by subst e;exact M.JH hA hB
theorem MI.GU(M:MI r a b out ia ib)(hA:Up r a 0 a.size)(hB:Up r b 0 b.size)(e:ia=a.size):cQ r a b (out++a.extract ia a.size++b.extract ib b.size):=by subst e;exact M.J8 hA hB
theorem MI.JF(M:MI r a b out ia ib)(hA:Up r a 0 a.size)(hB:Up r b 0 b.size)(GO:ia+1=a.size)(hg:∀ j,j<b.size->R r b j<=R r a ia):cQ r a b (out++b.extract ib b.size++a.extract ia a.size):=by
 have hb:=M.hb
 have q:=MI.AK hA hB (b.size-ib) M (by lia) fun ha i hi=>hg _ (by lia)
 rw[show ib+(b.size-ib)=b.size by exact Dp ‹_›] at q
 have z:=MI.AJ hA hB (a.size-ia) q (by lia) fun hb=>absurd hb (sd _)
 rw[show ia+(a.size-ia)=a.size by lia] at z
 exact z.whole
theorem MI.start(hA:Up r a 0 a.size)(hB:Up r b 0 b.size):MI r a b #[] 0 0:=⟨eu _,eu _,by simp,by simp,fun x hx=>by simp at hx,fun x hx=>by simp at hx⟩
end
def b_:Nat->StateT SortSt Sem Unit:=sortPriv% PySem.Builtin.setMinGallop
def vX:Array Keyed->Array Keyed->StateT SortSt Sem (Array Keyed):=sortPriv% PySem.Builtin.mergeLo
def vY:Array Keyed->Array Keyed->StateT SortSt Sem (Array Keyed):=sortPriv% PySem.Builtin.mergeHi
theorem lG(g:Nat):b_ g=modify fun s=>SortSt.mk' (kindOf s) (arrOf s) (pendingOf s) g (failedOf s):=rfl
def Mg(st ah:SortSt):Prop:=∃ g,ah=SortSt.mk' (kindOf st) (arrOf st) (pendingOf st) g (failedOf st)
theorem Mg.refl(st:SortSt):Mg st st:=⟨gallopOf st,rfl⟩
theorem Mg.kind{st ah:SortSt}(h:Mg st ah):kindOf ah=kindOf st:=by obtain⟨g,rfl⟩:=h;rfl
theorem Mg.set{st ah:SortSt}(h:Mg st ah)(g:Nat):Mg st (SortSt.mk' (kindOf ah) (arrOf ah) (pendingOf ah) g (failedOf ah)):=by obtain⟨g',rfl⟩:=h;exact⟨g,rfl⟩
section
variable {prog:Program}{w:World}{A:Around}{E:Value->Shared->Prop}{s:Shared}{r:Value->Int}
theorem ju{st:SortSt}{g:Nat}{Q:Unit->SortSt->Prop}(h:Q () (SortSt.mk' (kindOf st) (arrOf st) (pendingOf st) g (failedOf st))):wpS (model prog w) A E s (b_ g) Q st:=by
 rw[lG];exact wpS_modify h
theorem Bq(h:eT r false key arr base i=true):R r arr (base+i)<=r key.1:=by
 unfold eT at h;simp only[gy,if_false,RN,decide_eq_false_iff_not] at h;lia
theorem yl(h:eT r false key arr base i=false):r key.1<R r arr (base+i):=by
 unfold eT at h;simp only[gy,if_false,Bool.not_eq_false',decide_eq_true_eq] at h;exact h
theorem Fe(h:eT r true key arr base i=true):R r arr (base+i)<r key.1:=by
 unfold eT at h;simp only[if_true,decide_eq_true_eq] at h;exact h
theorem wI(h:eT r true key arr base i=false):r key.1<=R r arr (base+i):=by
 unfold eT at h;simp only[if_true,decide_eq_false_iff_not] at h;lia
end
theorem Mg.trans{a b c:SortSt}(h:Mg a b)(g:Mg b c):Mg a c:=by obtain⟨x,rfl⟩:=h;obtain⟨y,rfl⟩:=g;exact⟨y,rfl⟩
theorem Ea{K G:Prop}(pk:K)(h:K->G):G:=h pk
abbrev SM:=StateT SortSt Sem
abbrev L1:=Option (Array Keyed) × Array Keyed × Nat × Nat × Nat
abbrev EB:=Option (Array Keyed) × Array Keyed × Nat × Nat × Nat × Nat
abbrev L3:=Option (Array Keyed) × Array Keyed × Nat × Nat × Nat × Nat × Nat
def B3(a b out:Array Keyed)(ia ib:Nat):Array Keyed:=out++a.extract ia a.size++b.extract ib b.size
def My(a b out:Array Keyed)(ia ib:Nat):Array Keyed:=out++b.extract ib b.size++a.extract ia a.size
def Tn(a b:Array Keyed)(mg ac bc ia ib:Nat)(out:Array Keyed):SM (ForInStep L3):=elem' a ia >>= fun p =>
 if (ia+1+1 == a.size)=true then pure (.done (some (My a b (out.push p) (ia+1) ib),out.push p,ia+1,ib,mg,ac,bc))
 else if (decide (ac<7) && decide (bc<7))=true then pure (.done (none,out.push p,ia+1,ib,mg,ac,bc)) else pure (.yield (none,out.push p,ia+1,ib,mg,ac,bc))
def EC(a b:Array Keyed)(mg ac bc ia ib:Nat)(out:Array Keyed):SM (ForInStep L3):=elem' a ia >>= fun p=>m_ true p b ib (b.size-ib) 0 >>= fun x=>match x with
 |some k=>if k>0 then
   if (ib+k == b.size)=true then pure (.done (some (B3 a b (out++b.extract ib (ib+k)) ia (ib+k)),out++b.extract ib (ib+k),ia,ib+k,mg,ac,k))
   else Tn a b mg ac k ia (ib+k) (out++b.extract ib (ib+k))
  else Tn a b mg ac k ia ib out
 |_=>pure (.done (some (B3 a b out ia ib),out,ia,ib,mg,ac,bc))
def lo1(a b:Array Keyed)(mg ac bc ia ib:Nat)(out:Array Keyed):SM (ForInStep L3):=elem' b ib >>= fun p =>
 if (ib+1 == b.size)=true then pure (.done (some (B3 a b (out.push p) ia (ib+1)),out.push p,ia,ib+1,mg,ac,bc)) else EC a b mg ac bc ia (ib+1) (out.push p)
def To(a b:Array Keyed)(mg ac bc ia ib:Nat)(out:Array Keyed):SM (ForInStep L3):=b_ mg >>= fun _=>elem' b ib >>= fun p=>m_ false p a ia (a.size-ia) 0 >>= fun x=>match x with
 |some k=>if k>0 then
   if (ia+k+1 == a.size)=true then pure (.done (some (My a b (out++a.extract ia (ia+k)) (ia+k) ib),out++a.extract ia (ia+k),ia+k,ib,mg,k,bc))
   else if (ia+k == a.size)=true then pure (.done (some (B3 a b (out++a.extract ia (ia+k)) (ia+k) ib),out++a.extract ia (ia+k),ia+k,ib,mg,k,bc))
   else lo1 a b mg k bc (ia+k) ib (out++a.extract ia (ia+k))
  else lo1 a b mg k bc ia ib out
 |_=>pure (.done (some (B3 a b out ia ib),out,ia,ib,mg,ac,bc))
def X8(a b:Array Keyed)(_:Nat)(s:L3):SM (ForInStep L3) :=
 if s.2.2.2.2.1>1 then To a b (s.2.2.2.2.1-1) s.2.2.2.2.2.1 s.2.2.2.2.2.2 s.2.2.1 s.2.2.2.1 s.2.1 else To a b s.2.2.2.2.1 s.2.2.2.2.2.1 s.2.2.2.2.2.2 s.2.2.1 s.2.2.2.1 s.2.1
def X_(a b:Array Keyed)(mg bc ia ib:Nat)(out:Array Keyed):SM (ForInStep EB):=elem' b ib >>= fun p =>
 if (ib+1 == b.size)=true then pure (.done (some (B3 a b (out.push p) ia (ib+1)),out.push p,ia,ib+1,0,bc+1))
 else if bc+1 >= mg then pure (.done (none,out.push p,ia,ib+1,0,bc+1)) else pure (.yield (none,out.push p,ia,ib+1,0,bc+1))
def Ya(a b:Array Keyed)(mg ac ia ib:Nat)(out:Array Keyed):SM (ForInStep EB):=elem' a ia >>= fun p =>
 if (ia+1+1 == a.size)=true then pure (.done (some (My a b (out.push p) (ia+1) ib),out.push p,ia+1,ib,ac+1,0))
 else if ac+1 >= mg then pure (.done (none,out.push p,ia+1,ib,ac+1,0)) else pure (.yield (none,out.push p,ia+1,ib,ac+1,0))
def Yb(a b:Array Keyed)(mg:Nat)(_:Nat)(s:EB):SM (ForInStep EB):=elem' b s.2.2.2.1 >>= fun pb=>elem' a s.2.2.1 >>= fun pa=>lt' pb pa >>= fun x=>match x with
 |some w=>if w=true then X_ a b mg s.2.2.2.2.2 s.2.2.1 s.2.2.2.1 s.2.1 else Ya a b mg s.2.2.2.2.1 s.2.2.1 s.2.2.2.1 s.2.1
 |_=>pure (.done (some (B3 a b s.2.1 s.2.2.1 s.2.2.2.1),s.2.1,s.2.2.1,s.2.2.2.1,s.2.2.2.2.1,s.2.2.2.2.2))
def Yc (a b:Array Keyed) (mg:Nat) (t:EB):SM (ForInStep L1):=(liftM (rule "list.sort.gallop"):SM Unit) >>= fun _ =>
 forIn [:a.size+b.size] ((none,t.2.1,t.2.2.1,t.2.2.2.1,mg+1,t.2.2.2.2.1,t.2.2.2.2.2):L3) (X8 a b) >>= fun u=>match u.1 with
 |some r=>pure (.done (some r,u.2.1,u.2.2.1,u.2.2.2.1,u.2.2.2.2.1))
 |none=>b_ (u.2.2.2.2.1+1) >>= fun _=>pure (.yield (none,u.2.1,u.2.2.1,u.2.2.2.1,u.2.2.2.2.1+1))
def Yd(a b:Array Keyed)(_:Nat)(s:L1):SM (ForInStep L1):=forIn [:a.size+b.size] ((none,s.2.1,s.2.2.1,s.2.2.2.1,0,0):EB) (Yb a b s.2.2.2.2) >>= fun t=>match t.1 with
 |some r=>pure (.done (some r,t.2.1,t.2.2.1,t.2.2.2.1,s.2.2.2.2))
 |none=>Yc a b s.2.2.2.2 t
def loM (a b:Array Keyed):SM (Array Keyed):=(liftM (rule "list.sort.merge-lo"):SM Unit) >>= fun _=>elem' b 0 >>= fun y =>
 if (1 == b.size)=true then pure (B3 a b #[y] 0 1)
 else if (0+1 == a.size)=true then pure (My a b #[y] 0 1)
 else get >>= fun st=>forIn [:a.size+b.size] ((none,#[y],0,1,gallopOf st):L1) (Yd a b) >>= fun t=>match t.1 with
 |some r=>pure r
 |none=>(liftM (unsupported (α:=Array Keyed) "internal:list.sort.merge-bound"):SM (Array Keyed))
set_option smartUnfolding false in
theorem wJ:vX=loM:=rfl
section
variable {prog:Program}{w:World}{A:Around}{E:Value->Shared->Prop}{s:Shared}{κ:SortKind}{r:Value->Int}{P:Value->Prop}{a b out:Array Keyed}{mg ac bc ia ib N:Nat}{st:SortSt}
structure MC(prog:Program)(w:World)(A:Around)(s:Shared)(κ:SortKind)(r:Value->Int)(P:Value->Prop)(a b:Array Keyed):Prop where
 C:nv prog w A s κ r P
 pa:AllP P a
 pb:AllP P b
 hA:Up r a 0 a.size
 hB:Up r b 0 b.size
 hl:∀ i,i<a.size->R r b 0<=R r a i
 hg:∀ j,j<b.size->R r b j<=R r a (a.size-1)
def HS{β:Type}(r:Value->Int)(a b:Array Keyed)(c:Option (Array Keyed) × β):Prop:=∃ out rest,c=(some out,rest)/\cQ r a b out
def LY(r:Value->Int)(a b:Array Keyed)(N:Nat)(c:L3):Prop:=∃ out ia ib mg ac bc,c=(none,out,ia,ib,mg,ac,bc)/\MI r a b out ia ib/\ia+1<a.size/\ib<b.size/\N<=ia+ib
def LI(r:Value->Int)(a b:Array Keyed)(N:Nat)(c:EB):Prop:=∃ out ia ib ac bc,c=(none,out,ia,ib,ac,bc)/\MI r a b out ia ib/\ia+1<a.size/\ib<b.size/\N<=ia+ib
theorem MC.last(c:MC prog w A s κ r P a b)(M:MI r a b out ia ib)(z:ia+1=a.size):cQ r a b (My a b out ia ib):=M.JF c.hA c.hB z fun j hj=>by
 have:=c.hg j hj
 rwa[show a.size-1=ia by lia] at this
theorem Dh(c:MC prog w A s κ r P a b)(M:MI r a b out ia ib)(h1:ia+1<a.size)(lt:R r a ia<=R r b ib)(h2:ib<b.size)(hN:N<=ia+ib)(D:∀ c,HS r a b c->Q (.done c) st)(Y:∀ c,LY r a b N c->Q (.done c) st/\Q (.yield c) st):wpS (model prog w) A E s (Tn a b mg ac bc ia ib out) Q st:=by
 refine wpS_bind (aN (by lia) fun p e=>?_)
 have M2:=M.rT c.hA c.hB e fun _=>lt
 by_cases z:ia+1+1=a.size
 ·rw[if_pos (by simpa using z)]
  exact wpS_pure (D _ ⟨_,_,rfl,c.last M2 z⟩)
 ·rw[if_neg (by simpa using z)]
  have y:=Y _ ⟨_,_,_,mg,ac,bc,rfl,M2,by lia,h2,by lia⟩
  split
  ·exact wpS_pure y.1
  ·exact wpS_pure y.2
theorem GQ(c:MC prog w A s κ r P a b)(hk:kindOf st=κ)(M:MI r a b out ia ib)(h1:ia+1<a.size)(h2:ib<b.size)(hN:N<=ia+ib)(D:∀ c,HS r a b c->Q (.done c) st)(Y:∀ c,LY r a b N c->Q (.done c) st/\Q (.yield c) st):wpS (model prog w) A E s (EC a b mg ac bc ia ib out) Q st:=by
 refine wpS_bind (aN (by lia) fun p e=>wpS_bind (dX c.C hk c.pb (c.pa.at e) (by lia) (by lia) (fun i j u v w=>c.hB i j (by lia) v (by lia)) fun l GV x8 GW=>?_))
 have ra:=nK (r:=r) e
 dsimp only
 have lt:ib+l<b.size->R r a ia<=R r b (ib+l):=fun z=>by have:=wI (GW l (cq _) (by lia));lia
 by_cases l0:l>0
 ·have M5:=MI.AK c.hA c.hB l M (by lia) fun _ i hi=>by have:=Fe (x8 i hi);lia
  rw[if_pos l0]
  by_cases z:ib+l=b.size
  ·rw[if_pos (by simpa using z)]
   exact wpS_pure (D _ ⟨_,_,rfl,M5.GP c.hA c.hB z⟩)
  ·rw[if_neg (by simpa using z)]
   exact Dh c M5 h1 (lt (by lia)) (by lia) (by lia) D Y
 ·rw[if_neg l0]
  obtain rfl:l=0:=by lia
  exact Dh c M h1 (lt h2) h2 hN D Y
theorem Ci(c:MC prog w A s κ r P a b)(hk:kindOf st=κ)(M:MI r a b out ia ib)(h1:ia+1<a.size)(lt:R r b ib<=R r a ia)(h2:ib<b.size)(hN:N<=ia+ib)(D:∀ c,HS r a b c->Q (.done c) st)(Y:∀ c,LY r a b N c->Q (.done c) st/\Q (.yield c) st):wpS (model prog w) A E s (lo1 a b mg ac bc ia ib out) Q st:=by
 refine wpS_bind (aN h2 fun p e=>?_)
 have M4:=M.rA c.hA c.hB e fun _=>lt
 by_cases z:ib+1=b.size
 ·rw[if_pos (by simpa using z)]
  exact wpS_pure (D _ ⟨_,_,rfl,M4.GP c.hA c.hB z⟩)
 ·rw[if_neg (by simpa using z)]
  exact GQ c hk M4 h1 (by lia) (by lia) D Y
theorem GX(c:MC prog w A s κ r P a b)(hk:kindOf st=κ)(M:MI r a b out ia ib)(h1:ia+1<a.size)(h2:ib<b.size)(hN:N<=ia+ib)(D:∀ ah,Mg st ah->∀ c,HS r a b c->Q (.done c) ah)(Y:∀ ah,Mg st ah->∀ c,LY r a b N c->Q (.done c) ah/\Q (.yield c) ah):wpS (model prog w) A E s (To a b mg ac bc ia ib out) Q st:=by
 have g:=(Mg.refl st).set mg
 refine wpS_bind (ju ?_)
 refine wpS_bind (aN h2 fun p e=>wpS_bind (dX c.C (g.kind.trans hk) c.pa (c.pb.at e) (by lia) (by lia) (fun i j u v w=>c.hA i j (by lia) v (by lia)) fun k Ye B4 ED=>?_))
 have rb:=nK (r:=r) e
 dsimp only
 have lt:ia+k<a.size->R r b ib<=R r a (ia+k):=fun z=>by have:=yl (ED k (cq _) (by lia));lia
 by_cases k0:k>0
 ·have M3:=MI.AJ c.hA c.hB k M (by lia) fun _ i hi=>by have:=Bq (B4 i hi);lia
  rw[if_pos k0]
  by_cases z:ia+k+1=a.size
  ·rw[if_pos (by simpa using z)]
   exact wpS_pure (D _ g _ ⟨_,_,rfl,c.last M3 z⟩)
  ·rw[if_neg (by simpa using z)]
   by_cases z2:ia+k=a.size
   ·rw[if_pos (by simpa using z2)]
    exact wpS_pure (D _ g _ ⟨_,_,rfl,M3.GU c.hA c.hB z2⟩)
   ·rw[if_neg (by simpa using z2)]
    exact Ci c (g.kind.trans hk) M3 (by lia) (lt (by lia)) h2 (by lia) (D _ g) (Y _ g)
 ·rw[if_neg k0]
  obtain rfl:k=0:=by lia
  exact Ci c (g.kind.trans hk) M h1 (lt (by lia)) h2 hN (D _ g) (Y _ g)
theorem Hr(c:MC prog w A s κ r P a b)(M:MI r a b out ia ib)(h1:ia+1<a.size)(lt:R r b ib<=R r a ia)(h2:ib<b.size)(hN:N<=ia+ib+1)(D:∀ c,HS r a b c->Q (.done c) st)(Y:∀ c,LI r a b N c->Q (.done c) st/\Q (.yield c) st):wpS (model prog w) A E s (X_ a b mg bc ia ib out) Q st:=by
 refine wpS_bind (aN h2 fun p e=>?_)
 have M2:=M.rA c.hA c.hB e fun _=>lt
 by_cases z:ib+1=b.size
 ·rw[if_pos (by simpa using z)]
  exact wpS_pure (D _ ⟨_,_,rfl,M2.GP c.hA c.hB z⟩)
 ·rw[if_neg (by simpa using z)]
  have y:=Y _ ⟨_,_,_,0,bc+1,rfl,M2,h1,by lia,hN⟩
  split
  ·exact wpS_pure y.1
  ·exact wpS_pure y.2
theorem Jb(c:MC prog w A s κ r P a b)(M:MI r a b out ia ib)(h1:ia+1<a.size)(lt:R r a ia<=R r b ib)(h2:ib<b.size)(hN:N<=ia+ib+1)(D:∀ c,HS r a b c->Q (.done c) st)(Y:∀ c,LI r a b N c->Q (.done c) st/\Q (.yield c) st):wpS (model prog w) A E s (Ya a b mg ac ia ib out) Q st:=by
 refine wpS_bind (aN (by lia) fun p e=>?_)
 have M2:=M.rT c.hA c.hB e fun _=>lt
 by_cases z:ia+1+1=a.size
 ·rw[if_pos (by simpa using z)]
  exact wpS_pure (D _ ⟨_,_,rfl,c.last M2 z⟩)
 ·rw[if_neg (by simpa using z)]
  have y:=Y _ ⟨_,_,_,ac+1,0,rfl,M2,by lia,h2,by lia⟩
  split
  ·exact wpS_pure y.1
  ·exact wpS_pure y.2
theorem Ht(c:MC prog w A s κ r P a b)(hk:kindOf st=κ)(M:MI r a b out ia ib)(h1:ia+1<a.size)(h2:ib<b.size)(hN:N<=ia+ib+1)(D:∀ c,HS r a b c->Q (.done c) st)(Y:∀ c,LI r a b N c->Q (.done c) st/\Q (.yield c) st):wpS (model prog w) A E s (Yb a b mg x (none,out,ia,ib,ac,bc)) Q st:=by
 refine wpS_bind (aN h2 fun pb eb=>wpS_bind (aN (show ia<a.size by lia) fun pa ea=>wpS_bind (sX c.C hk (c.pb.at eb) (c.pa.at ea) ?_)))
 have rb:R r b ib=r pb.1:=nK eb
 have ra:R r a ia=r pa.1:=nK ea
 dsimp only
 by_cases hw:r pb.1<r pa.1
 ·rw[if_pos (decide_eq_true hw)]
  exact Hr c M h1 (by lia) h2 hN D Y
 ·rw[if_neg (by simpa using hw)]
  exact Jb c M h1 (by lia) h2 hN D Y
theorem G4(c:MC prog w A s κ r P a b)(hk:kindOf st=κ)(M:MI r a b out ia ib)(h1:ia+1<a.size)(h2:ib<b.size)(hN:N<=ia+ib)(D:∀ ah,Mg st ah->∀ c,HS r a b c->Q (.done c) ah)
  (Y:∀ ah,Mg st ah->∀ out ia ib mg,MI r a b out ia ib->ia+1<a.size->ib<b.size->N<=ia+ib->Q (.yield (none,out,ia,ib,mg)) ah):wpS (model prog w) A E s (Yc a b mg (none,out,ia,ib,ac,bc)) Q st:=by
 refine wpS_bind (wpS_lift (wpAny_rule ⟨rfl,?_⟩))
 refine wpS_bind (wpS_mono (wpS_forRange (I:=fun _ c ah=>Mg st ah/\LY r a b N c) (Q:=fun c ah=>Mg st ah/\(HS r a b c\/LY r a b N c)) ?step ?fin ⟨.refl st,_,_,_,_,_,_,rfl,M,h1,h2,hN⟩) ?post)
 case fin =>
  rintro c ah ⟨hm,q⟩
  exact⟨hm,.inr q⟩
 case step =>
  rintro y c1 AO _ _ ⟨hm,out,ia,ib,mg,ac,bc,rfl,M,h1,h2,hN⟩
  unfold X8
  dsimp only
  split<;>exact GX c (hm.kind.trans hk) M h1 h2 hN (fun ah g c q=>⟨hm.trans g,.inl q⟩) fun ah g c q=>⟨⟨hm.trans g,.inr q⟩,hm.trans g,q⟩
 case post =>
  rintro c ah ⟨hm,⟨o,rest,rfl,hM⟩|⟨out,ia,ib,mg,ac,bc,rfl,M,h1,h2,hN⟩⟩
  ·exact wpS_pure (D _ hm _ ⟨_,_,rfl,hM⟩)
  ·exact wpS_bind (ju (wpS_pure (Y _ (hm.set _) _ _ _ _ M h1 h2 hN)))
theorem Hw(c:MC prog w A s κ r P a b)(hk:kindOf st=κ)(M:MI r a b out ia ib)(h1:ia+1<a.size)(h2:ib<b.size)(hN:N<=ia+ib)(D:∀ ah,Mg st ah->∀ c,HS r a b c->Q (.done c) ah)
  (Y:∀ ah,Mg st ah->∀ out ia ib mg,MI r a b out ia ib->ia+1<a.size->ib<b.size->N+1<=ia+ib->Q (.yield (none,out,ia,ib,mg)) ah):wpS (model prog w) A E s (Yd a b x (none,out,ia,ib,mg)) Q st:=by
 refine wpS_bind (wpS_mono (wpS_forRange (I:=fun y c ah=>ah=st/\LI r a b (N+y) c) (Q:=fun c ah=>ah=st/\(HS r a b c\/LI r a b (N+1) c)) ?step ?fin ⟨rfl,_,_,_,_,_,rfl,M,h1,h2,hN⟩) ?post)
 case fin =>
  rintro c ah ⟨rfl,o,ia',ib',ac,bc,rfl,M',q1,q2,q3⟩
  exact⟨rfl,.inr ⟨_,_,_,_,_,rfl,M',q1,q2,by lia⟩⟩
 case step =>
  rintro y c1 AO _ hy ⟨rfl,o,ia',ib',ac,bc,rfl,M',q1,q2,q3⟩
  exact Ht (N:=N+y+1) c hk M' q1 q2 (by lia) (fun c q=>⟨rfl,.inl q⟩) fun c q=>by
   obtain⟨o,ia,ib,ac,bc,rfl,M,h1,h2,h3⟩:=q
   exact⟨⟨rfl,.inr ⟨_,_,_,_,_,rfl,M,h1,h2,by lia⟩⟩,rfl,_,_,_,_,_,rfl,M,h1,h2,by lia⟩
 case post =>
  rintro c1 ah ⟨rfl,⟨o,rest,rfl,hM⟩|⟨o,ia,ib,ac,bc,rfl,M',q1,q2,q3⟩⟩
  ·exact wpS_pure (D _ (.refl _) _ ⟨_,_,rfl,hM⟩)
  ·exact G4 c hk M' q1 q2 q3 D Y
theorem uz{st:SortSt}{a b:Array Keyed}{Q:Array Keyed->SortSt->Prop}(C:nv prog w A s κ r P)(hk:kindOf st=κ)(Tp:AllP P a)(Tq:AllP P b)(hA:Up r a 0 a.size)(hB:Up r b 0 b.size)(na:1<=a.size)(nb:1<=b.size)
  (h0:R r b 0<=R r a 0) (hg:∀ j,j<b.size->R r b j<=R r a (a.size-1)) (h:∀ out ah,cQ r a b out->Mg st ah->Q out ah):wpS (model prog w) A E s (vX a b) Q st:=by
 have c:MC prog w A s κ r P a b:=⟨C,Tp,Tq,hA,hB,fun i hi=>qS h0 (hA 0 i (cq _) (eu _) hi),hg⟩
 rw[wJ]
 refine wpS_bind (wpS_lift (wpAny_rule ⟨rfl,?_⟩))
 refine wpS_bind (aN nb fun y0 e0=>?_)
 have M1:MI r a b #[y0] 0 1:=(MI.start hA hB).rA hA hB e0 fun _=>h0
 by_cases c1:1=b.size
 ·rw[if_pos (by simpa using c1)]
  exact wpS_pure (h _ _ (M1.GP hA hB c1) (.refl st))
 ·rw[if_neg (by simpa using c1)]
  by_cases c2:0+1=a.size
  ·rw[if_pos (by simpa using c2)]
   exact wpS_pure (h _ _ (c.last M1 c2) (.refl st))
  ·rw[if_neg (by simpa using c2)]
   refine wpS_bind (wpS_get ?_)
   refine wpS_bind (wpS_mono (wpS_forRange (I:=fun x c ah=>Mg st ah/\∃ out ia ib mg,c=(none,out,ia,ib,mg)/\MI r a b out ia ib/\ia+1<a.size/\ib<b.size/\x+1<=ia+ib)
    (Q:=fun c ah=>Mg st ah/\HS r a b c) ?step ?fin ⟨.refl st,_,_,_,_,rfl,M1,by lia,by lia,by exact sM _⟩) ?post)
   case fin =>
    rintro c ah ⟨_,out,ia,ib,mg,rfl,M,h1,h2,h3⟩
    lia
   case post =>
    rintro c ah ⟨hm,out,rest,rfl,hM⟩
    exact wpS_pure (h out ah hM hm)
   case step =>
    rintro x c1 AO _ hx ⟨wt,out,ia,ib,mg,rfl,M,h1,h2,h3⟩
    exact Hw (N:=x+1) c (wt.kind.trans hk) M h1 h2 h3 (fun ah g c q=>⟨wt.trans g,q⟩) fun ah g out ia ib mg M h1 h2 h3=>⟨wt.trans g,_,_,_,_,rfl,M,h1,h2,h3⟩
end
abbrev Ge(r:Value->Int)(x y:Keyed):Prop:=r y.1<=r x.1
structure MH(r:Value->Int)(a b out:Array Keyed)(na nb:Nat):Prop where
 ha:na<=a.size
 hb:nb<=b.size
 perm:out.toList.Perm (a.toList.drop na++b.toList.drop nb)
 down:out.toList.Pairwise (Ge r)
 ga:∀ x∈out.toList,∀ i,i<na->R r a i<=r x.1
 gb:∀ x∈out.toList,∀ j,j<nb->R r b j<=r x.1
section
variable {r:Value->Int}{a b out:Array Keyed}{na nb:Nat}
theorem rC{α:Type}{l:List α}{i:Nat}{x:α}(h0:0<i)(h:l[i-1]? = some x):l.drop (i-1)=x :: l.drop i:=by
 obtain⟨hi,e⟩:=mI.mp h
 rw[E5 hi,e,show i-1+1=i by exact Nat.sub_add_cancel ‹_›]
theorem MH.rT(M:MH r a b out na nb)(hA:Up r a 0 a.size)(hB:Up r b 0 b.size)(h0:0<na)(e:a[na-1]? = some y)(hl:0<nb->R r b (nb-1)<=R r a (na-1)):MH r a b (out.push y) (na-1) nb:=by
 have ey:=nK (r:=r) e
 have ha:=M.ha
 have hb:=M.hb
 refine⟨by lia,M.hb,?_,?_,?_,?_⟩
 ·rw[n9,rC (x:=y) h0 (by simpa using e)]
  refine(M.perm.append_right [y]).trans ?_
  exact Rw
 ·rw[n9,II]
  refine⟨M.down,by simp,fun x hx z hz=>?_⟩
  have:z=y:=by simpa using hz
  subst this
  show r z.1<=r x.1
  rw[<- ey]
  exact M.ga x hx (na-1) (by lia)
 ·intro x hx i hi
  rw[n9] at hx
  rcases dA.mp hx with hx|hx
  ·exact M.ga x hx i (by lia)
  ·have:x=y:=by simpa using hx
   subst this
   rw[<- ey]
   exact hA i (na-1) (eu _) (by lia) (by lia)
 ·intro x hx j hj
  rw[n9] at hx
  rcases dA.mp hx with hx|hx
  ·exact M.gb x hx j hj
  ·have:x=y:=by simpa using hx
   subst this
   rw[<- ey]
   exact qS (hB j (nb-1) (eu _) (by lia) (by lia)) (hl (by lia))
theorem MH.rA(M:MH r a b out na nb)(hA:Up r a 0 a.size)(hB:Up r b 0 b.size)(h0:0<nb)(e:b[nb-1]? = some y)(hl:0<na->R r a (na-1)<=R r b (nb-1)):MH r a b (out.push y) na (nb-1):=by
 have ey:=nK (r:=r) e
 have ha:=M.ha
 have hb:=M.hb
 refine⟨M.ha,by lia,?_,?_,?_,?_⟩
 ·rw[n9,rC (x:=y) h0 (by simpa using e)]
  refine(M.perm.append_right [y]).trans ?_
  rw[tT]
  exact List.Perm.append_left _ Rw
 ·rw[n9,II]
  refine⟨M.down,by simp,fun x hx z hz=>?_⟩
  have:z=y:=by simpa using hz
  subst this
  show r z.1<=r x.1
  rw[<- ey]
  exact M.gb x hx (nb-1) (by lia)
 ·intro x hx i hi
  rw[n9] at hx
  rcases dA.mp hx with hx|hx
  ·exact M.ga x hx i hi
  ·have:x=y:=by simpa using hx
   subst this
   rw[<- ey]
   exact qS (hA i (na-1) (eu _) (by lia) (by lia)) (hl (by lia))
 ·intro x hx j hj
  rw[n9] at hx
  rcases dA.mp hx with hx|hx
  ·exact M.gb x hx j (by lia)
  ·have:x=y:=by simpa using hx
   subst this
   rw[<- ey]
   exact hB j (nb-1) (eu _) (by lia) (by lia)
theorem mK{xs:Array Keyed}{i n:Nat}(h:i<n)(hn:n<=xs.size):(xs.extract i n).reverse = #[xs[n-1]'(by lia)]++(xs.extract i (n-1)).reverse:=by
 obtain⟨k,rfl⟩:∃ k,n=i+(k+1):=⟨n-1-i,by lia⟩
 have e3:i+(k+1)-1=i+k:=by rfl
 simp only[e3]
 rw[gK (by assumption),Array.reverse_push]
theorem MH.AJ(hA:Up r a 0 a.size)(hB:Up r b 0 b.size):∀ (k:Nat) {out:Array Keyed} {na p:Nat},MH r a b out na nb->p+k=na->(0<nb->∀ i,p<=i->i<na->R r b (nb-1)<=R r a i)->MH r a b (out++(a.extract p na).reverse) p nb
 |0,out,na,p,M,h1,h2=>by
  have:a.extract p na = #[]:=Ki (by simp only[DE];lia)
  have e:na=p:=by walk_at "s1"
  subst e
  rw[this]
  simpa using M
 |k+1,out,na,p,M,h1,h2=>by
  have ha:=M.ha
  have e:a[na-1]? = some (a[na-1]'(by lia)):=getElem?_pos a (na-1) (by lia)
  have q:=M.rT hA hB (by lia) e fun hb=>h2 hb _ (by lia) (by lia)
  have z:=MH.AJ hA hB k (p:=p) q (by lia) fun hb i qf og=>h2 hb i qf (by walk_at "s4")
  rw[mK (by lia) ha,<- FH]
  simpa using z
theorem MH.AK(hA:Up r a 0 a.size)(hB:Up r b 0 b.size):∀ (k:Nat) {out:Array Keyed} {nb p:Nat},MH r a b out na nb->p+k=nb->(0<na->∀ i,p<=i->i<nb->R r a (na-1)<=R r b i)->MH r a b (out++(b.extract p nb).reverse) na p
 |0,out,nb,p,M,h1,h2=>by
  have:b.extract p nb = #[]:=Ki (by simp only[DE];lia)
  have e:nb=p:=by walk_at "s1"
  subst e
  rw[this]
  simpa using M
 |k+1,out,nb,p,M,h1,h2=>by
  have hb:=M.hb
  have e:b[nb-1]? = some (b[nb-1]'(by lia)):=getElem?_pos b (nb-1) (by lia)
  have q:=M.rA hA hB (by lia) e fun ha=>h2 ha _ (by lia) (by lia)
  have z:=MH.AK hA hB k (p:=p) q (by lia) fun ha i qf og=>h2 ha i qf (by walk_at "s4")
  rw[mK (by lia) hb,<- FH]
  simpa using z
theorem MH.whole(M:MH r a b out 0 0):cQ r a b out.reverse:=by
 refine⟨?_,?_⟩
 ·have h:=M.perm
  rw[List.drop_zero,List.drop_zero] at h
  rw[Array.toList_reverse]
  exact(List.reverse_perm _).trans h
 ·rw[Array.toList_reverse,List.pairwise_reverse]
  exact M.down
theorem pD(x y:Array Keyed):(x++y.reverse).reverse=y++x.reverse:=by
 apply Pw.mp
 simp
theorem MH.GU(M:MH r a b out na nb)(hA:Up r a 0 a.size)(hB:Up r b 0 b.size)(e:na=0):cQ r a b (a.extract 0 na++b.extract 0 nb++out.reverse):=by
 subst e
 have z:=MH.AK hA hB nb (p:=0) M (by exact JJ ..) fun ha=>absurd ha (sd _)
 have q:=z.whole
 rw[pD] at q
 have e2:a.extract 0 0 = #[]:=by simp
 rw[e2,Array.empty_append]
 exact q
theorem MH.GP(M:MH r a b out na nb)(hA:Up r a 0 a.size)(hB:Up r b 0 b.size)(e:nb=0):cQ r a b (a.extract 0 na++b.extract 0 nb++out.reverse):=by
 subst e
 have z:=MH.AJ hA hB na (p:=0) M (by exact JJ ..) fun hb=>absurd hb (sd _)
 have q:=z.whole
 rw[pD] at q
 have e2:b.extract 0 0 = #[]:=by simp
 rw[e2,RT]
 exact q
theorem MH.vQ(M:MH r a b out na nb)(hA:Up r a 0 a.size)(hB:Up r b 0 b.size)(e:nb=1)(hl:∀ i,i<a.size->R r b 0<=R r a i):cQ r a b (b.extract 0 nb++a.extract 0 na++out.reverse):=by
 subst e
 have ha:=M.ha
 have z:=MH.AJ hA hB na (p:=0) M (by exact JJ ..) fun _ i _ hi=>hl i (by walk_at "s1")
 have z2:=MH.AK hA hB 1 (p:=0) z (by exact JJ ..) fun h=>absurd h (sd _)
 have q:=z2.whole
 rw[pD,pD] at q
 rw[FH]
 exact q
theorem MH.start:MH r a b #[] a.size b.size:=⟨cq _,cq _,by simp,by simp,fun x hx=>by simp at hx,fun x hx=>by simp at hx⟩
end
abbrev S1:=Option (Array Keyed) × Nat × Nat × Array Keyed × Nat
abbrev S2:=Option (Array Keyed) × Nat × Nat × Array Keyed × Nat × Nat
abbrev S3:=Option (Array Keyed) × Nat × Nat × Array Keyed × Nat × Nat × Nat
def B5(a b out:Array Keyed)(na nb:Nat):Array Keyed:=a.extract 0 na++b.extract 0 nb++out.reverse
def Qq(a b out:Array Keyed)(na nb:Nat):Array Keyed:=b.extract 0 nb++a.extract 0 na++out.reverse
def Tr(a b:Array Keyed)(mg ac bc na nb:Nat)(out:Array Keyed):SM (ForInStep S3):=elem' a (na-1) >>= fun p =>
 if (na-1 == 0)=true then pure (.done (some (B5 a b (out.push p) (na-1) nb),na-1,nb,out.push p,mg,ac,bc))
 else if (decide (ac<7) && decide (bc<7))=true then pure (.done (none,na-1,nb,out.push p,mg,ac,bc)) else pure (.yield (none,na-1,nb,out.push p,mg,ac,bc))
def og(a b:Array Keyed)(mg ac bc na nb:Nat)(out:Array Keyed):SM (ForInStep S3):=elem' a (na-1) >>= fun p=>m_ true p b 0 nb (nb-1) >>= fun x=>match x with
 |some k=>if nb-k>0 then
   if (k == 1)=true then pure (.done (some (Qq a b (out++(b.extract k nb).reverse) na k),na,k,out++(b.extract k nb).reverse,mg,ac,nb-k))
   else if (k == 0)=true then pure (.done (some (B5 a b (out++(b.extract k nb).reverse) na k),na,k,out++(b.extract k nb).reverse,mg,ac,nb-k))
   else Tr a b mg ac (nb-k) na k (out++(b.extract k nb).reverse)
  else Tr a b mg ac (nb-k) na nb out
 |_=>pure (.done (some (B5 a b out na nb),na,nb,out,mg,ac,bc))
def qf(a b:Array Keyed)(mg ac bc na nb:Nat)(out:Array Keyed):SM (ForInStep S3):=elem' b (nb-1) >>= fun p =>
 if (nb-1 == 1)=true then pure (.done (some (Qq a b (out.push p) na (nb-1)),na,nb-1,out.push p,mg,ac,bc)) else og a b mg ac bc na (nb-1) (out.push p)
def AH(a b:Array Keyed)(mg ac bc na nb:Nat)(out:Array Keyed):SM (ForInStep S3):=b_ mg >>= fun _=>elem' b (nb-1) >>= fun p=>m_ false p a 0 na (na-1) >>= fun x=>match x with
 |some k=>if na-k>0 then
   if (k == 0)=true then pure (.done (some (B5 a b (out++(a.extract k na).reverse) k nb),k,nb,out++(a.extract k na).reverse,mg,na-k,bc))
   else qf a b mg (na-k) bc k nb (out++(a.extract k na).reverse)
  else qf a b mg (na-k) bc na nb out
 |_=>pure (.done (some (B5 a b out na nb),na,nb,out,mg,ac,bc))
def Yf(a b:Array Keyed)(_:Nat)(s:S3):SM (ForInStep S3) :=
 if s.2.2.2.2.1>1 then AH a b (s.2.2.2.2.1-1) s.2.2.2.2.2.1 s.2.2.2.2.2.2 s.2.1 s.2.2.1 s.2.2.2.1 else AH a b s.2.2.2.2.1 s.2.2.2.2.2.1 s.2.2.2.2.2.2 s.2.1 s.2.2.1 s.2.2.2.1
def Yg(a b:Array Keyed)(mg ac na nb:Nat)(out:Array Keyed):SM (ForInStep S2):=elem' a (na-1) >>= fun p =>
 if (na-1 == 0)=true then pure (.done (some (B5 a b (out.push p) (na-1) nb),na-1,nb,out.push p,ac+1,0))
 else if ac+1 >= mg then pure (.done (none,na-1,nb,out.push p,ac+1,0)) else pure (.yield (none,na-1,nb,out.push p,ac+1,0))
def Yh(a b:Array Keyed)(mg bc na nb:Nat)(out:Array Keyed):SM (ForInStep S2):=elem' b (nb-1) >>= fun p =>
 if (nb-1 == 1)=true then pure (.done (some (Qq a b (out.push p) na (nb-1)),na,nb-1,out.push p,0,bc+1))
 else if bc+1 >= mg then pure (.done (none,na,nb-1,out.push p,0,bc+1)) else pure (.yield (none,na,nb-1,out.push p,0,bc+1))
def Yi(a b:Array Keyed)(mg:Nat)(_:Nat)(s:S2):SM (ForInStep S2):=elem' b (s.2.2.1-1) >>= fun pb=>elem' a (s.2.1-1) >>= fun pa=>lt' pb pa >>= fun x=>match x with
 |some w=>if w=true then Yg a b mg s.2.2.2.2.1 s.2.1 s.2.2.1 s.2.2.2.1 else Yh a b mg s.2.2.2.2.2 s.2.1 s.2.2.1 s.2.2.2.1
 |_=>pure (.done (some (B5 a b s.2.2.2.1 s.2.1 s.2.2.1),s.2.1,s.2.2.1,s.2.2.2.1,s.2.2.2.2.1,s.2.2.2.2.2))
def Yj (a b:Array Keyed) (mg:Nat) (t:S2):SM (ForInStep S1):=(liftM (rule "list.sort.gallop"):SM Unit) >>= fun _ =>
 forIn [:a.size+b.size] ((none,t.2.1,t.2.2.1,t.2.2.2.1,mg+1,t.2.2.2.2.1,t.2.2.2.2.2):S3) (Yf a b) >>= fun u=>match u.1 with
 |some r=>pure (.done (some r,u.2.1,u.2.2.1,u.2.2.2.1,u.2.2.2.2.1))
 |none=>b_ (u.2.2.2.2.1+1) >>= fun _=>pure (.yield (none,u.2.1,u.2.2.1,u.2.2.2.1,u.2.2.2.2.1+1))
def Yk(a b:Array Keyed)(_:Nat)(s:S1):SM (ForInStep S1):=forIn [:a.size+b.size] ((none,s.2.1,s.2.2.1,s.2.2.2.1,0,0):S2) (Yi a b s.2.2.2.2) >>= fun t=>match t.1 with
 |some r=>pure (.done (some r,t.2.1,t.2.2.1,t.2.2.2.1,s.2.2.2.2))
 |none=>Yj a b s.2.2.2.2 t
def hiM (a b:Array Keyed):SM (Array Keyed):=(liftM (rule "list.sort.merge-hi"):SM Unit) >>= fun _=>elem' a (a.size-1) >>= fun y =>
 if (a.size-1 == 0)=true then pure (B5 a b #[y] (a.size-1) b.size)
 else if (b.size == 1)=true then pure (Qq a b #[y] (a.size-1) b.size)
 else get >>= fun st=>forIn [:a.size+b.size] ((none,a.size-1,b.size,#[y],gallopOf st):S1) (Yk a b) >>= fun t=>match t.1 with
 |some r=>pure r
 |none=>(liftM (unsupported (α:=Array Keyed) "internal:list.sort.merge-bound"):SM (Array Keyed))
set_option smartUnfolding false in
theorem xF:vY=hiM:=rfl
section
variable {prog:Program}{w:World}{A:Around}{E:Value->Shared->Prop}{s:Shared}{κ:SortKind}{r:Value->Int}{P:Value->Prop}{a b out:Array Keyed}{mg ac bc na nb N:Nat}{st:SortSt}{Q:ForInStep S3->SortSt->Prop}
def HD(r:Value->Int)(a b:Array Keyed)(Q:ForInStep S3->SortSt->Prop)(st:SortSt):Prop:=∀ o rest,cQ r a b o->Q (.done (some o,rest)) st
def HY(r:Value->Int)(a b:Array Keyed)(N:Nat)(Q:ForInStep S3->SortSt->Prop)(st:SortSt):Prop :=
 ∀ o na nb mg ac bc,MH r a b o na nb->1<=na->2<=nb->na+nb<=N->Q (.done (none,na,nb,o,mg,ac,bc)) st/\Q (.yield (none,na,nb,o,mg,ac,bc)) st
theorem Cp(c:MC prog w A s κ r P a b)(M:MH r a b out na nb)(h1:0<na)(lt:R r b (nb-1)<=R r a (na-1))(h2:2<=nb)(hN:na+nb<=N)(D:HD r a b Q st)(Y:HY r a b N Q st):wpS (model prog w) A E s (Tr a b mg ac bc na nb out) Q st:=by
 have ha:=M.ha
 refine wpS_bind (aN (by lia) fun p e=>?_)
 have M2:=M.rT c.hA c.hB h1 e fun _=>lt
 by_cases z:na-1=0
 ·rw[if_pos (by simpa using z)]
  exact wpS_pure (D _ _ (M2.GU c.hA c.hB z))
 ·rw[if_neg (by simpa using z)]
  have y:=Y _ _ _ mg ac bc M2 (by lia) h2 (by lia)
  split
  ·exact wpS_pure y.1
  ·exact wpS_pure y.2
theorem IV(c:MC prog w A s κ r P a b)(hk:kindOf st=κ)(M:MH r a b out na nb)(h1:0<na)(h2:2<=nb)(hN:na+nb<=N)(D:HD r a b Q st)(Y:HY r a b N Q st):wpS (model prog w) A E s (og a b mg ac bc na nb out) Q st:=by
 have ha:=M.ha
 have hb:=M.hb
 refine wpS_bind (aN (by lia) fun p e=>wpS_bind (dX c.C hk c.pb (c.pa.at e) (by lia) (by lia) (fun i j u v w=>c.hB i j u v (by lia)) fun l GV x8 GW=>?_))
 have ra:=nK (r:=r) e
 dsimp only
 have lt:0<l->R r b (l-1)<=R r a (na-1):=fun z=>by have:=Fe (x8 (l-1) (by exact FC ‹_› Fu));rw[Pn] at this;lia
 by_cases l0:nb-l>0
 ·have M5:=MH.AK c.hA c.hB (nb-l) (p:=l) M (by exact Dp ‹_›) fun _ i qf og=>by have:=wI (GW i qf og);rw[Pn] at this;lia
  rw[if_pos l0]
  by_cases z4:l=1
  ·rw[if_pos (by simpa using z4)]
   exact wpS_pure (D _ _ (M5.vQ c.hA c.hB z4 c.hl))
  ·rw[if_neg (by simpa using z4)]
   by_cases z6:l=0
   ·rw[if_pos (by simpa using z6)]
    exact wpS_pure (D _ _ (M5.GP c.hA c.hB z6))
   ·rw[if_neg (by simpa using z6)]
    exact Cp c M5 h1 (lt (by lia)) (by lia) (by lia) D Y
 ·rw[if_neg l0]
  obtain rfl:l=nb:=by lia
  exact Cp c M h1 (lt (by exact RJ ‹_›)) h2 hN D Y
theorem Cy(c:MC prog w A s κ r P a b)(hk:kindOf st=κ)(M:MH r a b out na nb)(h1:0<na)(h2:2<=nb)(lt:R r a (na-1)<=R r b (nb-1))(hN:na+nb<=N)(D:HD r a b Q st)(Y:HY r a b N Q st):wpS (model prog w) A E s (qf a b mg ac bc na nb out) Q st:=by
 have hb:=M.hb
 refine wpS_bind (aN (by lia) fun p e=>?_)
 have M4:=M.rA c.hA c.hB (by exact RJ ‹_›) e fun _=>lt
 by_cases z:nb-1=1
 ·rw[if_pos (by simpa using z)]
  exact wpS_pure (D _ _ (M4.vQ c.hA c.hB z c.hl))
 ·rw[if_neg (by simpa using z)]
  exact IV c hk M4 h1 (by lia) (by lia) D Y
theorem Hg(c:MC prog w A s κ r P a b)(hk:kindOf st=κ)(M:MH r a b out na nb)(h1:0<na)(h2:2<=nb)(hN:na+nb<=N)(D:∀ ah,Mg st ah->HD r a b Q ah)(Y:∀ ah,Mg st ah->HY r a b N Q ah):wpS (model prog w) A E s (AH a b mg ac bc na nb out) Q st:=by
 have ha:=M.ha
 have hb:=M.hb
 have g:=(Mg.refl st).set mg
 refine wpS_bind (ju ?_)
 refine wpS_bind (aN (by lia) fun p e=>wpS_bind (dX c.C (g.kind.trans hk) c.pa (c.pb.at e) (by lia) (by exact FC ‹_› Fu) (fun i j u v w=>c.hA i j u v (by lia)) fun k Ye B4 ED=>?_))
 have rb:=nK (r:=r) e
 dsimp only
 have lt:0<k->R r a (k-1)<=R r b (nb-1):=fun z=>by have:=Bq (B4 (k-1) (by exact FC ‹_› Fu));rw[Pn] at this;lia
 by_cases k0:na-k>0
 ·have M3:=MH.AJ c.hA c.hB (na-k) (p:=k) M (by exact Dp ‹_›) fun _ i qf og=>by have:=yl (ED i qf og);rw[Pn] at this;lia
  rw[if_pos k0]
  by_cases z:k=0
  ·rw[if_pos (by simpa using z)]
   exact wpS_pure (D _ g _ _ (M3.GU c.hA c.hB z))
  ·rw[if_neg (by simpa using z)]
   exact Cy c (g.kind.trans hk) M3 (by lia) h2 (lt (by lia)) (by lia) (D _ g) (Y _ g)
 ·rw[if_neg k0]
  obtain rfl:k=na:=by lia
  exact Cy c (g.kind.trans hk) M h1 h2 (lt h1) hN (D _ g) (Y _ g)
def HI(r:Value->Int)(a b:Array Keyed)(N:Nat)(c:S2):Prop:=∃ na nb out ac bc,c=(none,na,nb,out,ac,bc)/\MH r a b out na nb/\1<=na/\2<=nb/\na+nb<=N
theorem Hb{Q:ForInStep S2->SortSt->Prop}(c:MC prog w A s κ r P a b)(M:MH r a b out na nb)(h1:0<na)(lt:R r b (nb-1)<=R r a (na-1))(h2:2<=nb)(hN:na+nb<=N+1)(D:∀ c,HS r a b c->Q (.done c) st)(Y:∀ c,HI r a b N c->Q (.done c) st/\Q (.yield c) st):wpS (model prog w) A E s (Yg a b mg ac na nb out) Q st:=by
 have ha:=M.ha
 refine wpS_bind (aN (by lia) fun p e=>?_)
 have M2:=M.rT c.hA c.hB h1 e fun _=>lt
 by_cases z:na-1=0
 ·rw[if_pos (by simpa using z)]
  exact wpS_pure (D _ ⟨_,_,rfl,M2.GU c.hA c.hB z⟩)
 ·rw[if_neg (by simpa using z)]
  have y:=Y _ ⟨_,_,_,ac+1,0,rfl,M2,by lia,h2,by lia⟩
  split
  ·exact wpS_pure y.1
  ·exact wpS_pure y.2
theorem Ij{Q:ForInStep S2->SortSt->Prop}(c:MC prog w A s κ r P a b)(M:MH r a b out na nb)(h1:0<na)(lt:R r a (na-1)<=R r b (nb-1))(h2:2<=nb)(hN:na+nb<=N+1)(D:∀ c,HS r a b c->Q (.done c) st)(Y:∀ c,HI r a b N c->Q (.done c) st/\Q (.yield c) st):wpS (model prog w) A E s (Yh a b mg bc na nb out) Q st:=by
 have hb:=M.hb
 refine wpS_bind (aN (by lia) fun p e=>?_)
 have M2:=M.rA c.hA c.hB (by exact RJ ‹_›) e fun _=>lt
 by_cases z:nb-1=1
 ·rw[if_pos (by simpa using z)]
  exact wpS_pure (D _ ⟨_,_,rfl,M2.vQ c.hA c.hB z c.hl⟩)
 ·rw[if_neg (by simpa using z)]
  have y:=Y _ ⟨_,_,_,0,bc+1,rfl,M2,h1,by lia,by lia⟩
  split
  ·exact wpS_pure y.1
  ·exact wpS_pure y.2
theorem Gy{Q:ForInStep S2->SortSt->Prop}{x:Nat}(c:MC prog w A s κ r P a b)(hk:kindOf st=κ)(M:MH r a b out na nb)(h1:0<na)(h2:2<=nb)(hN:na+nb<=N+1)(D:∀ c,HS r a b c->Q (.done c) st)(Y:∀ c,HI r a b N c->Q (.done c) st/\Q (.yield c) st):wpS (model prog w) A E s (Yi a b mg x (none,na,nb,out,ac,bc)) Q st:=by
 have ha:=M.ha
 have hb:=M.hb
 refine wpS_bind (aN (show nb-1<b.size by lia) fun pb eb=>wpS_bind (aN (show na-1<a.size by lia) fun pa ea=>wpS_bind (sX c.C hk (c.pb.at eb) (c.pa.at ea) ?_)))
 have rb:R r b (nb-1)=r pb.1:=nK eb
 have ra:R r a (na-1)=r pa.1:=nK ea
 dsimp only
 by_cases hw:r pb.1<r pa.1
 ·rw[if_pos (decide_eq_true hw)]
  exact Hb c M h1 (by lia) h2 hN D Y
 ·rw[if_neg (by simpa using hw)]
  exact Ij c M h1 (by lia) h2 hN D Y
theorem G5{Q:ForInStep S1->SortSt->Prop}(c:MC prog w A s κ r P a b)(hk:kindOf st=κ)(M:MH r a b out na nb)(h1:0<na)(h2:2<=nb)(hN:na+nb<=N)(D:∀ ah,Mg st ah->∀ c,HS r a b c->Q (.done c) ah)
  (Y:∀ ah,Mg st ah->∀ out na nb mg,MH r a b out na nb->1<=na->2<=nb->na+nb<=N->Q (.yield (none,na,nb,out,mg)) ah):wpS (model prog w) A E s (Yj a b mg (none,na,nb,out,ac,bc)) Q st:=by
 refine wpS_bind (wpS_lift (wpAny_rule ⟨rfl,?_⟩))
 refine wpS_bind (wpS_mono (wpS_forRange (I:=fun _ c ah=>Mg st ah/\∃ na nb out mg ac bc,c=(none,na,nb,out,mg,ac,bc)/\MH r a b out na nb/\1<=na/\2<=nb/\na+nb<=N)
  (Q:=fun c ah=>Mg st ah/\(HS r a b c\/∃ na nb out mg ac bc,c=(none,na,nb,out,mg,ac,bc)/\MH r a b out na nb/\1<=na/\2<=nb/\na+nb<=N)) ?step ?fin ⟨.refl st,_,_,_,_,_,_,rfl,M,h1,h2,hN⟩) ?post)
 case fin =>
  rintro c ah ⟨hm,q⟩
  exact⟨hm,.inr q⟩
 case step =>
  rintro y c1 AO _ _ ⟨hm,na,nb,out,mg,ac,bc,rfl,M,h1,h2,hN⟩
  unfold Yf
  dsimp only
  split<;>exact Hg c (hm.kind.trans hk) M h1 h2 hN (fun ah g o rest hM=>⟨hm.trans g,.inl ⟨o,rest,rfl,hM⟩⟩) fun ah g o na nb mg ac bc M h1 h2 hN=>⟨⟨hm.trans g,.inr ⟨_,_,_,_,_,_,rfl,M,h1,h2,hN⟩⟩,hm.trans g,_,_,_,_,_,_,rfl,M,h1,h2,hN⟩
 case post =>
  rintro c ah ⟨hm,⟨o,rest,rfl,hM⟩|⟨na,nb,out,mg,ac,bc,rfl,M,h1,h2,hN⟩⟩
  ·exact wpS_pure (D _ hm _ ⟨_,_,rfl,hM⟩)
  ·exact wpS_bind (ju (wpS_pure (Y _ (hm.set _) _ _ _ _ M h1 h2 hN)))
theorem Hh{Q:ForInStep S1->SortSt->Prop}{x:Nat}(c:MC prog w A s κ r P a b)(hk:kindOf st=κ)(M:MH r a b out na nb)(h1:0<na)(h2:2<=nb)(hN:na+nb<=N+1)(D:∀ ah,Mg st ah->∀ c,HS r a b c->Q (.done c) ah)
  (Y:∀ ah,Mg st ah->∀ out na nb mg,MH r a b out na nb->1<=na->2<=nb->na+nb<=N->Q (.yield (none,na,nb,out,mg)) ah):wpS (model prog w) A E s (Yk a b x (none,na,nb,out,mg)) Q st:=by
 have ha:=M.ha
 have hb:=M.hb
 refine wpS_bind (wpS_mono (wpS_forRange (I:=fun y c ah=>ah=st/\HI r a b (N+1-y) c) (Q:=fun c ah=>ah=st/\(HS r a b c\/HI r a b N c)) ?step ?fin ⟨rfl,_,_,_,_,_,rfl,M,h1,h2,hN⟩) ?post)
 case fin =>
  rintro c ah ⟨rfl,na',nL,o,ac,bc,rfl,M',q1,q2,q3⟩
  exact⟨rfl,.inr ⟨_,_,_,_,_,rfl,M',q1,q2,by lia⟩⟩
 case step =>
  rintro y c1 AO _ hy ⟨rfl,na',nL,o,ac,bc,rfl,M',q1,q2,q3⟩
  exact Gy (N:=N-y) c hk M' q1 q2 (by lia) (fun c q=>⟨rfl,.inl q⟩) fun c q=>by
   obtain⟨na,nb,o,ac,bc,rfl,M,h1,h2,h3⟩:=q
   exact⟨⟨rfl,.inr ⟨_,_,_,_,_,rfl,M,h1,h2,by walk_at "s4"⟩⟩,rfl,_,_,_,_,_,rfl,M,h1,h2,by lia⟩
 case post =>
  rintro c1 ah ⟨rfl,⟨o,rest,rfl,hM⟩|⟨na,nb,o,ac,bc,rfl,M',q1,q2,q3⟩⟩
  ·exact wpS_pure (D _ (.refl _) _ ⟨_,_,rfl,hM⟩)
  ·exact G5 c hk M' q1 q2 q3 D Y
theorem uA{st:SortSt}{a b:Array Keyed}{Q:Array Keyed->SortSt->Prop}(C:nv prog w A s κ r P)(hk:kindOf st=κ)(Tp:AllP P a)(Tq:AllP P b)(hA:Up r a 0 a.size)(hB:Up r b 0 b.size)(na:1<=a.size)(nb:1<=b.size)
  (h0:R r b 0<=R r a 0) (hg:∀ j,j<b.size->R r b j<=R r a (a.size-1)) (h:∀ out ah,cQ r a b out->Mg st ah->Q out ah):wpS (model prog w) A E s (vY a b) Q st:=by
 have c:MC prog w A s κ r P a b:=⟨C,Tp,Tq,hA,hB,fun i hi=>qS h0 (hA 0 i (cq _) (eu _) hi),hg⟩
 rw[xF]
 refine wpS_bind (wpS_lift (wpAny_rule ⟨rfl,?_⟩))
 refine wpS_bind (aN (by exact FC ‹_› Fu) fun y0 e0=>?_)
 have M1:MH r a b #[y0] (a.size-1) b.size:=MH.start.rT hA hB na e0 fun _=>hg _ (by exact FC ‹_› Fu)
 by_cases c1:a.size-1=0
 ·rw[if_pos (by simpa using c1)]
  exact wpS_pure (h _ _ (M1.GU hA hB c1) (.refl st))
 ·rw[if_neg (by simpa using c1)]
  by_cases c2:b.size=1
  ·rw[if_pos (by simpa using c2)]
   exact wpS_pure (h _ _ (M1.vQ hA hB c2 c.hl) (.refl st))
  ·rw[if_neg (by simpa using c2)]
   refine wpS_bind (wpS_get ?_)
   refine wpS_bind (wpS_mono (wpS_forRange (I:=fun x c ah=>Mg st ah/\∃ na nb out mg,c=(none,na,nb,out,mg)/\MH r a b out na nb/\1<=na/\2<=nb/\na+nb<=a.size+b.size-x)
    (Q:=fun c ah=>Mg st ah/\HS r a b c) ?step ?fin ⟨.refl st,_,_,_,_,rfl,M1,by lia,by lia,by lia⟩) ?post)
   case fin =>
    rintro c ah ⟨_,na,nb,out,mg,rfl,M,h1,h2,h3⟩
    lia
   case post =>
    rintro c ah ⟨hm,out,rest,rfl,hM⟩
    exact wpS_pure (h out ah hM hm)
   case step =>
    rintro x c1 AO _ hx ⟨wt,na,nb,out,mg,rfl,M,h1,h2,h3⟩
    exact Hh (N:=a.size+b.size-(x+1)) c (wt.kind.trans hk) M h1 h2 (by lia) (fun ah g c q=>⟨wt.trans g,q⟩) fun ah g out na nb mg M h1 h2 h3=>⟨wt.trans g,_,_,_,_,rfl,M,h1,h2,h3⟩
end
def wr(p:Nat)(m:List Keyed)(n:Nat)(xs:Array Keyed):Array Keyed:=(m.zipIdx n).foldl (fun a (q:Keyed × Nat)=>a.setIfInBounds (p+q.2) q.1) xs
theorem xN(p:Nat):∀ (m:List Keyed) (n:Nat) (xs:Array Keyed),p+n+m.length<=xs.size->∀ k:Nat,(wr p m n xs)[k]? = if p+n<=k/\k<p+n+m.length then m[k-(p+n)]? else xs[k]?
 |[],n,xs,h,k=>by
  rw[if_neg (by simp only[IQ];lia)];rfl
 |q :: m,n,xs,h,k=>by
  have ih:=xN p m (n+1) (xs.setIfInBounds (p+n) q) (by rw[Array.size_setIfInBounds];simp only[pj] at h;lia) k
  have e:wr p (q :: m) n xs=wr p m (n+1) (xs.setIfInBounds (p+n) q):=by unfold wr;rw[List.zipIdx_cons,IU]
  simp only[pj] at h ⊢
  rw[e,ih]
  by_cases h1:p+(n+1)<=k/\k<p+(n+1)+m.length
  ·rw[if_pos h1,if_pos (by lia),show k-(p+n)=(k-(p+(n+1)))+1 by lia,List.getElem?_cons_succ]
  ·rw[if_neg h1]
   by_cases h2:k=p+n
   ·subst h2
    rw[if_pos (by walk_at "s4"),Nat.sub_self,List.getElem?_cons_zero,Array.getElem?_setIfInBounds_self_of_lt (by lia)]
   ·rw[if_neg (by lia),Array.getElem?_setIfInBounds_ne (by walk_at "s1")]
theorem Dl(h:p+m.length<=xs.size):(wr p m 0 xs).toList=xs.toList.take p++m++xs.toList.drop (p+m.length):=by
 have hl:xs.toList.length=xs.size:=by simp
 apply IL
 intro k
 have e:=xN p m 0 xs h k
 rw[Fn] at e
 rw[mS,e]
 by_cases h1:k<p
 ·rw[if_neg (by lia),tT,IG (by rw[kz];lia),List.getElem?_take_of_lt h1,mS]
 ·by_cases h2:k<p+m.length
  ·rw[if_pos (by lia),tT,A4 (by rw[kz];lia),kz,show min p xs.toList.length=p by lia,IG (by lia)]
  ·rw[if_neg (by lia),tT,A4 (by rw[kz];lia),kz,show min p xs.toList.length=p by lia,A4 (by lia),List.getElem?_drop,
    show p+m.length+(k-p-m.length)=k by lia,mS]
theorem Jc{p q:Nat}{xs:Array Keyed}(h:p<=q)(h2:q<=xs.size):xs.toList=xs.toList.take p++(xs.extract p q).toList++xs.toList.drop q:=by
 rw[RQ,Ru]
 have e1:xs.toList.take p++(xs.toList.drop p).take (q-p)=xs.toList.take q:=by
  rw[<- CY p (xs.toList.take q),List.take_take,List.drop_take,Nat.min_eq_left h]
 rw[e1,CY]
theorem Ed{p q:Nat}{m:List Keyed}{xs:Array Keyed}(h:p<=q)(h2:q<=xs.size)(hm:m.Perm (xs.extract p q).toList):(wr p m 0 xs).Perm xs:=by
 have hl:m.length=q-p:=by rw[hm.length_eq];simp;lia
 rw[RP,Dl (by lia),show p+m.length=q by lia]
 have e:=Jc (xs:=xs) h h2
 exact(List.Perm.append_right _ (List.Perm.append_left _ hm)).trans (by rw[<- e])
def Runs(r:Value->Int)(xs:Array Keyed):List (Nat × Nat × Nat)->Nat->Nat->Prop
 |[],a,b=>a=b
 | (s,n,_) :: rest,a,b=>s=a/\1<=n/\Up r xs s (s+n)/\Runs r xs rest (s+n) b
section
variable {r:Value->Int}{xs ys:Array Keyed}
theorem Runs.le:∀ {ps:List (Nat × Nat × Nat)} {a b:Nat},Runs r xs ps a b->a+ps.length<=b
 |[],a,b,h=>by simp only[Runs] at h;simp;lia
 | (s,n,p) :: rest,a,b,h=>by
  obtain⟨rfl,h1,_,h3⟩:=h
  have:=Runs.le h3
  simp only[pj];lia
theorem Runs.append:∀ {ps qs:List (Nat × Nat × Nat)} {a b:Nat},Runs r xs (ps++qs) a b↔∃ c,Runs r xs ps a c/\Runs r xs qs c b
 |[],qs,a,b=>by simp[Runs]
 | (s,n,p) :: rest,qs,a,b=>by
  simp only[O_,Runs]
  constructor
  ·rintro⟨h1,h2,h3,h4⟩
   obtain⟨c,h5,h6⟩:=Runs.append.mp h4
   exact⟨c,⟨h1,h2,h3,h5⟩,h6⟩
  ·rintro⟨c,⟨h1,h2,h3,h5⟩,h6⟩
   exact⟨h1,h2,h3,Runs.append.mpr ⟨c,h5,h6⟩⟩
theorem Up.congr(h:Up r xs a b)(e:∀ k,a<=k->k<b->ys[k]? = xs[k]?):Up r ys a b:=fun i j h1 h2 h3=>by
 rw[eG (e i h1 (by lia)),eG (e j (by lia) h3)];exact h i j h1 h2 h3
theorem Runs.congr:∀ {ps:List (Nat × Nat × Nat)} {a b:Nat},Runs r xs ps a b->(∀ k,a<=k->k<b->ys[k]? = xs[k]?)->Runs r ys ps a b
 |[],a,b,h,_=>h
 | (s,n,p) :: rest,a,b,h,e=>by
  obtain⟨rfl,h1,h2,h3⟩:=h
  have l:=h3.le
  exact⟨rfl,h1,h2.congr fun k u v=>e k u (by lia),Runs.congr h3 fun k u v=>e k (by walk_at "s4") v⟩
theorem Up.glue(h1:Up r xs a b)(h2:Up r xs b c)(h:∀ i j,a<=i->i<b->b<=j->j<c->R r xs i<=R r xs j):Up r xs a c:=fun i j u v w=>by
 by_cases hj:j<b
 ·exact h1 i j u v hj
 ·by_cases hi:i<b
  ·exact h i j u hi (by lia) w
  ·exact h2 i j (by lia) v w
end
section
variable {prog:Program}{w:World}{A:Around}{E:Value->Shared->Prop}{s:Shared}{κ:SortKind}{r:Value->Int}{P:Value->Prop}
theorem AllP.extract(h:AllP P xs)(i j:Nat):AllP P (xs.extract i j):=fun p hp=>h p (by
 rw[RQ,Ru] at hp
 exact O6 (O7 hp))
theorem fX(h:i+k<j)(hj:j<=xs.size):R r (xs.extract i j) k=R r xs (i+k):=by
 apply eG
 rw[Pu,if_pos (by lia)]
theorem Up.extract(h:Up r xs i j)(kB:i<=j)(hj:j<=xs.size):Up r (xs.extract i j) 0 (xs.extract i j).size:=fun a b _ h2 h3=>by
 have e:(xs.extract i j).size=j-i:=by simp only[DE];lia
 rw[e] at h3
 rw[fX (by lia) hj,fX (by lia) hj]
 exact h _ _ (by lia) (by lia) (by lia)
theorem zT(hz:sa+na+nb<=xs.size)(hk:k<na)(hnb:nL<=nb)(hA:Up r xs sa (sa+na))(hB:Up r xs (sa+na) (sa+na+nb))
  (lo1:∀ i,i<k->R r xs (sa+i)<=R r xs (sa+na)) (EC:R r xs (sa+na)<R r xs (sa+k)) (qf:∀ i,i<nL->R r xs (sa+na+i)<R r xs (sa+na-1)) (og:∀ i,nL<=i->i<nb->R r xs (sa+na-1)<=R r xs (sa+na+i))
  (hm:cQ r (xs.extract (sa+k) (sa+na)) (xs.extract (sa+na) (sa+na+nL)) m) :
  Up r (wr (sa+k) m.toList 0 xs) sa (sa+na+nb)/\(wr (sa+k) m.toList 0 xs).Perm xs/\∀ j,j<sa\/sa+na+nb<=j->(wr (sa+k) m.toList 0 xs)[j]? = xs[j]? := by
 obtain⟨mp,mu⟩:=hm
 have eab:(xs.extract (sa+k) (sa+na)).toList++(xs.extract (sa+na) (sa+na+nL)).toList=(xs.extract (sa+k) (sa+na+nL)).toList:=by
  rw[<- Array.toList_append,Array.extract_append_extract,show min (sa+k) (sa+na)=sa+k by lia,show max (sa+na) (sa+na+nL)=sa+na+nL by lia]
 rw[eab] at mp
 have ml:m.toList.length=na+nL-k:=by rw[mp.length_eq];simp;lia
 have hw:sa+k+m.toList.length<=xs.size:=by lia
 have get:=xN (sa+k) m.toList 0 xs (by lia)
 rw[Fn,ml] at get
 -- every merged item is one of the hR'
 have mem:∀ (j:Nat) (p:Keyed),m.toList[j]? = some p->∃ i,sa+k<=i/\i<sa+na+nL/\r p.1=R r xs i:=fun j p e=>by
  have hp:p∈(xs.extract (sa+k) (sa+na+nL)).toList:=mp.mem_iff.mp (sL e)
  obtain⟨i,hi⟩:=List.getElem?_of_mem hp
  rw[mS,Pu] at hi
  split at hi
  ·exact⟨sa+k+i,by lia,by lia,(nK hi).symm⟩
  ·cases hi
 have low:∀ i,sa+k<=i->i<sa+na+nL->R r xs (sa+na)<=R r xs i:=fun i h1 h2=>by
  by_cases h3:i<sa+na
  ·exact qS (vF EC) (hA (sa+k) i (by lia) h1 h3)
  ·exact hB (sa+na) i (cq _) (by lia) (by lia)
 have high:∀ i,sa+k<=i->i<sa+na+nL->R r xs i<=R r xs (sa+na-1):=fun i h1 h2=>by
  by_cases h3:i<sa+na
  ·exact hA i (sa+na-1) (by lia) (by lia) (by lia)
  ·have:=qf (i-(sa+na)) (by lia)
   rw[show sa+na+(i-(sa+na))=i by lia] at this
   lia
 have Yl:∀ j,j<na+nL-k->∃ i,sa+k<=i/\i<sa+na+nL/\R r (wr (sa+k) m.toList 0 xs) (sa+k+j)=R r xs i:=fun j hj=>by
  have e:=get (sa+k+j)
  rw[if_pos (by lia),show sa+k+j-(sa+k)=j by lia] at e
  have vj:j<m.toList.length:=by lia
  obtain⟨i,h1,h2,h3⟩:=mem j m.toList[j] (zo vj)
  rw[zo vj] at e
  exact⟨i,h1,h2,(nK e).trans h3⟩
 have GY:∀ j,j<sa+k\/sa+na+nL<=j->(wr (sa+k) m.toList 0 xs)[j]? = xs[j]? := fun j hj=>by
  have e:=get j
  rw[if_neg (by lia)] at e
  exact e
 refine⟨?_,Ed (by lia) (by lia) mp,fun j hj=>GY j (by lia)⟩
 have U1:Up r (wr (sa+k) m.toList 0 xs) sa (sa+k):=Up.congr (xs:=xs) (fun i j h1 h2 h3=>hA i j h1 h2 (by lia)) fun j h1 h2=>GY j (.inl h2)
 have U2:Up r (wr (sa+k) m.toList 0 xs) (sa+k) (sa+na+nL):=fun i j h1 h2 h3=>by
  have ei:=get i
  have ej:=get j
  rw[if_pos (by lia)] at ei ej
  have li:i-(sa+k)<m.toList.length:=by lia
  have lj:j-(sa+k)<m.toList.length:=by lia
  rw[zo li] at ei
  rw[zo lj] at ej
  rw[nK ei,nK ej]
  by_cases kB:i=j
  ·subst kB;exact lP _
  ·exact(Rv.mp mu) _ _ li lj (by lia)
 have U3:Up r (wr (sa+k) m.toList 0 xs) (sa+na+nL) (sa+na+nb):=Up.congr (xs:=xs) (fun i j h1 h2 h3=>hB i j (by lia) h2 h3) fun j h1 h2=>GY j (.inr h1)
 refine(U1.glue U2 fun i j h1 h2 h3 h4=>?_).glue U3 fun i j h1 h2 h3 h4=>?_
 ·obtain⟨q,q1,q2,q3⟩:=Yl (j-(sa+k)) (by lia)
  rw[show sa+k+(j-(sa+k))=j by lia] at q3
  rw[q3,eG (GY i (.inl h2))]
  have:=lo1 (i-sa) (by lia)
  rw[show sa+(i-sa)=i by lia] at this
  exact qS this (low q q1 q2)
 ·have e2:=og (j-(sa+na)) (by lia) (by lia)
  rw[show sa+na+(j-(sa+na))=j by lia] at e2
  rw[eG (GY j (.inr h3))]
  by_cases hi:i<sa+k
  ·rw[eG (GY i (.inl hi))]
   have:=lo1 (i-sa) (by lia)
   rw[show sa+(i-sa)=i by lia] at this
   have:=low (sa+na-1) (by lia) (by lia)
   lia
  ·obtain⟨q,q1,q2,q3⟩:=Yl (i-(sa+k)) (by lia)
   rw[show sa+k+(i-(sa+k))=i by lia] at q3
   rw[q3]
   exact qS (high q q1 q2) e2
structure St(r:Value->Int)(κ:SortKind)(dS:Array Keyed)(st:SortSt)(ps:List (Nat × Nat × Nat))(lo:Nat):Prop where
 kind:kindOf st=κ
 failed:failedOf st=none
 perm:(arrOf st).Perm dS
 pend:pendingOf st=ps.toArray
 runs:Runs r (arrOf st) ps 0 lo
theorem St.size{dS:Array Keyed}{st:SortSt}{ps:List (Nat × Nat × Nat)}{lo:Nat}(h:St r κ dS st ps lo):(arrOf st).size=dS.size:=h.perm.size_eq
theorem Al{ps:List (Nat × Nat × Nat)}(h:i+1<ps.length):∃ pre x y post,ps=pre++x :: y :: post/\pre.length=i:=by
 refine⟨ps.take i,ps[i],ps[i+1],ps.drop (i+2),?_,by rw[kz];lia⟩
 rw[<- E5 (by lia),<- E5 (by lia),CY]
theorem lY{st:SortSt}{dS:Array Keyed}{ps:List (Nat × Nat × Nat)}{lo i:Nat}{Q:Bool->SortSt->Prop}(C:nv prog w A s κ r P)(hP:AllP P dS)(H:St r κ dS st ps lo)(BQ:lo<=dS.size)(hi:i+1<ps.length)
  (h:∀ ah hJ,St r κ dS ah hJ lo->hJ.length+1=ps.length->hJ≠[]->(∀ k,lo<=k->(arrOf ah)[k]? = (arrOf st)[k]?)->Q true ah):wpS (model prog w) A E s (mergeAt' i) Q st:=by
 obtain⟨pre,⟨sa,na,pa⟩,⟨sb,nb,pb⟩,post,rfl,BO⟩:=Al hi
 have hz:=H.size
 have pV:AllP P (arrOf st):=hP.perm H.perm
 obtain⟨c,Ym,hr2⟩:=Runs.append.mp H.runs
 obtain⟨rfl,n1,u1,rfl,n2,u2,Yn⟩:=hr2
 have le3:=Yn.le
 have le1:=Ym.le
 -- the new pending list
 have dZ':((pendingOf st).setIfInBounds i (sa,na+nb,pa)).eraseIdxIfInBounds (i+1)=(pre++(sa,na+nb,pa) :: post).toArray:=by
  rw[H.pend]
  apply Pw.mp
  simp[<- BO,List.eraseIdx_append_of_length_le]
 have new:∀ (xs:Array Keyed) (g:Nat),xs.Perm (arrOf st)->(∀ j,j<sa\/sa+na+nb<=j->xs[j]? = (arrOf st)[j]?)->Up r xs sa (sa+(na+nb)) ->
   St r κ dS (SortSt.mk' (kindOf st) xs (pre++(sa,na+nb,pa) :: post).toArray g (failedOf st)) (pre++(sa,na+nb,pa) :: post) lo:=fun xs g hp ho hu =>
  ⟨H.kind,H.failed,hp.trans H.perm,rfl,Runs.append.mpr ⟨sa,Ym.congr fun k _ hk=>ho k (.inl hk),rfl,by walk_at "s4",hu,by
   rw[show sa+(na+nb)=sa+na+nb by exact(DB ..).symm]
   exact Yn.congr fun k hk _=>ho k (.inr hk)⟩⟩
 have len:(pre++(sa,na+nb,pa) :: post).length+1=(pre++(sa,na,pa) :: (sa+na,nb,pb) :: post).length:=by simp;exact DB ..
 have e0:(pendingOf st)[i]? = some (sa,na,pa):=by rw[H.pend,<- BO];simp
 have e1:(pendingOf st)[i+1]? = some (sa+na,nb,pb):=by rw[H.pend,<- BO];simp
 refine wpS_bind (wpS_get ?_)
 rw[e0,e1]
 dsimp only
 refine wpS_bind (wpS_modify (f:=fun _=>SortSt.mk' (kindOf st) (arrOf st) (((pendingOf st).setIfInBounds i (sa,na+nb,pa)).eraseIdxIfInBounds (i+1)) (gallopOf st) (failedOf st)) ?_)
 rw[dZ']
 refine wpS_bind (aN (xs:=arrOf st) (by lia) fun kb Yo=>wpS_bind (dX (arr:=arrOf st) C H.kind pV (pV.at Yo) (by lia) (by assumption) u1 fun k Ye B4 ED=>?_))
 have rkb:=nK (r:=r) Yo
 dsimp only
 by_cases z:na-k=0
 ·rw[if_pos (by simpa using z)]
  refine wpS_pure (h _ _ (new (arrOf st) (gallopOf st) (Array.Perm.refl _) (fun _ _=>rfl) ?_) len (by simp) fun _ _=>rfl)
  rw[show sa+(na+nb)=sa+na+nb by exact(DB ..).symm]
  refine u1.glue u2 fun i j h1 h2 h3 h4=>?_
  have:=Bq (B4 (i-sa) (by lia))
  rw[show sa+(i-sa)=i by exact Dp ‹_›] at this
  have:=u2 (sa+na) j (cq _) h3 h4
  lia
 ·rw[if_neg (by simpa using z)]
  refine wpS_bind (aN (xs:=arrOf st) (by lia) fun ka Yp=>wpS_bind (dX (arr:=arrOf st) C H.kind pV (pV.at Yp) (by lia) (by exact FC ‹_› Fu) u2 fun l GV x8 GW=>?_))
  have rka:=nK (r:=r) Yp
  rw[show sa+k+(na-k)-1=sa+na-1 by lia] at rka
  dsimp only
  by_cases z2:l=0
  ·rw[if_pos (by simpa using z2)]
   refine wpS_pure (h _ _ (new (arrOf st) (gallopOf st) (Array.Perm.refl _) (fun _ _=>rfl) ?_) len (by simp) fun _ _=>rfl)
   rw[show sa+(na+nb)=sa+na+nb by exact(DB ..).symm]
   refine u1.glue u2 fun i j h1 h2 h3 h4=>?_
   have:=wI (GW (j-(sa+na)) (by lia) (by lia))
   rw[show sa+na+(j-(sa+na))=j by exact Dp ‹_›] at this
   have:=u1 i (sa+na-1) h1 (by lia) (by lia)
   lia
  ·rw[if_neg (by simpa using z2)]
   have lo1:∀ i,i<k->R r (arrOf st) (sa+i)<=R r (arrOf st) (sa+na):=fun i hi=>by have:=Bq (B4 i hi);lia
   have EC:R r (arrOf st) (sa+na)<R r (arrOf st) (sa+k):=by have:=yl (ED k (cq _) (by lia));lia
   have qf:∀ i,i<l->R r (arrOf st) (sa+na+i)<R r (arrOf st) (sa+na-1):=fun i hi=>by have:=Fe (x8 i hi);lia
   have og:∀ i,l<=i->i<nb->R r (arrOf st) (sa+na-1)<=R r (arrOf st) (sa+na+i):=fun i h1 h2=>by have:=wI (GW i h1 h2);lia
   have sx:((arrOf st).extract (sa+k) (sa+na)).size=na-k:=by simp only[DE];lia
   have sy:((arrOf st).extract (sa+na) (sa+na+l)).size=l:=by simp only[DE];lia
   have ux:Up r ((arrOf st).extract (sa+k) (sa+na)) 0 ((arrOf st).extract (sa+k) (sa+na)).size:=Up.extract (fun i j h1 h2 h3=>u1 i j (by lia) h2 h3) (by lia) (by lia)
   have uy:Up r ((arrOf st).extract (sa+na) (sa+na+l)) 0 ((arrOf st).extract (sa+na) (sa+na+l)).size:=Up.extract (fun i j h1 h2 h3=>u2 i j h1 h2 (by walk_at "s4")) (by exact A8 _ _) (by lia)
   have Yq:R r ((arrOf st).extract (sa+na) (sa+na+l)) 0<=R r ((arrOf st).extract (sa+k) (sa+na)) 0:=by
    rw[fX (by lia) (by lia),fX (by lia) (by lia)]
    exact vF EC
   have Yr:∀ j,j<((arrOf st).extract (sa+na) (sa+na+l)).size->R r ((arrOf st).extract (sa+na) (sa+na+l)) j<=R r ((arrOf st).extract (sa+k) (sa+na)) (((arrOf st).extract (sa+k) (sa+na)).size-1):=fun j hj=>by
    rw[sx,fX (by lia) (by lia),fX (by lia) (by lia),show sa+k+(na-k-1)=sa+na-1 by lia]
    exact vF (qf j (by lia))
   have fin:∀ out ah,cQ r ((arrOf st).extract (sa+k) (sa+na)) ((arrOf st).extract (sa+na) (sa+na+l)) out->Mg (SortSt.mk' (kindOf st) (arrOf st) (pre++(sa,na+nb,pa) :: post).toArray (gallopOf st) (failedOf st)) ah ->
     Q true (SortSt.mk' (kindOf ah) (wr (sa+k) out.toList 0 (arrOf ah)) (pendingOf ah) (gallopOf ah) (failedOf ah)):=fun out ah hm hg=>by
    obtain⟨g,rfl⟩:=hg
    obtain⟨m1,m2,m3⟩:=zT (by lia) (by lia) GV u1 u2 lo1 EC qf og hm
    exact h _ _ (new _ g m2 m3 (by rw[show sa+(na+nb)=sa+na+nb by exact(DB ..).symm];exact m1)) len (by simp) fun k hk=>m3 k (.inr (by lia))
   have fin2:∀ out ah,cQ r ((arrOf st).extract (sa+k) (sa+na)) ((arrOf st).extract (sa+na) (sa+na+l)) out->Mg (SortSt.mk' (kindOf st) (arrOf st) (pre++(sa,na+nb,pa) :: post).toArray (gallopOf st) (failedOf st)) ah ->
     failedOf ah=none:=fun out ah _ hg=>by
    obtain⟨g,rfl⟩:=hg
    exact H.failed
   by_cases z3:na-k<=l
   ·rw[if_pos z3]
    refine wpS_bind (uz (a:=(arrOf st).extract (sa+k) (sa+na)) (b:=(arrOf st).extract (sa+na) (sa+na+l)) C H.kind (pV.extract _ _) (pV.extract _ _) ux uy (by lia) (by lia) Yq Yr fun out ah hm hg=>?_)
    refine wpS_bind (wpS_modify (wpS_bind (wpS_get ?_)))
    have f:=fin out ah hm hg
    have f2:=fin2 out ah hm hg
    refine wpS_pure ?_
    show Q (failedOf ah).isNone _
    rw[f2]
    exact f
   ·rw[if_neg z3]
    refine wpS_bind (uA (a:=(arrOf st).extract (sa+k) (sa+na)) (b:=(arrOf st).extract (sa+na) (sa+na+l)) C H.kind (pV.extract _ _) (pV.extract _ _) ux uy (by lia) (by lia) Yq Yr fun out ah hm hg=>?_)
    refine wpS_bind (wpS_modify (wpS_bind (wpS_get ?_)))
    have f:=fin out ah hm hg
    have f2:=fin2 out ah hm hg
    refine wpS_pure ?_
    show Q (failedOf ah).isNone _
    rw[f2]
    exact f
theorem Runs.modify(hf:∀ x,(f x).1=x.1/\(f x).2.1=x.2.1):∀ {ps:List (Nat × Nat × Nat)} {i a b:Nat},Runs r xs ps a b->Runs r xs (ps.modify i f) a b
 |[],_,_,_,h=>by simpa using h
 | (s,n,p) :: rest,0,a,b,h=>by
  obtain⟨h1,h2⟩:=hf (s,n,p)
  rw[List.modify_zero_cons]
  have e:f (s,n,p)=(s,n,(f (s,n,p)).2.2):=Prod.ext h1 (Prod.ext h2 rfl)
  rw[e]
  exact h
 | (s,n,p) :: rest,i+1,a,b,h=>by
  rw[List.modify_succ_cons]
  obtain⟨h1,h2,h3,h4⟩:=h
  exact⟨h1,h2,h3,Runs.modify hf h4⟩
theorem St.win{dS:Array Keyed}{st ah:SortSt}{ps:List (Nat × Nat × Nat)}{lo hi:Nat}(H:St r κ dS st ps lo)(hw:kH lo hi st ah):St r κ dS ah ps lo :=
 ⟨hw.kind.trans H.kind,hw.failed.trans H.failed,hw.perm.trans H.perm,hw.pend.trans H.pend,H.runs.congr fun k _ hk=>hw.out k (.inl hk)⟩
theorem wpS_sortRuns{st:SortSt}{Q:Unit->SortSt->Prop}(C:nv prog w A s κ r P)(hk:kindOf st=κ)(hP:AllP P (arrOf st))(hp:pendingOf st = #[])(hf:failedOf st=none)
  (h:∀ ah,(arrOf ah).Perm (arrOf st)->failedOf ah=none->Up r (arrOf ah) 0 (arrOf st).size->Q () ah):wpS (model prog w) A E s sortRuns' Q st:=by
 rw[sortRuns'_eq]
 refine wpS_bind (wpS_get ?_)
 dsimp only
 generalize ha:arrOf st=dS at *
 have H0:St r κ dS st [] 0:=⟨hk,hf,by rw[ha],by rw[hp],rfl⟩
 refine wpS_bind (wpS_mono (wpS_forRange (I:=fun x c ah=>∃ ps lo,c=(none,lo)/\St r κ dS ah ps lo/\lo<=dS.size/\x<=lo)
  (Q:=fun c ah=>∃ ps,c=(none,dS.size)/\St r κ dS ah ps dS.size) ?step ?fin ⟨[],0,rfl,H0,eu _,cq _⟩) ?post)
 case fin =>
  rintro c ah ⟨ps,lo,rfl,H,h1,h2⟩
  have:lo=dS.size:=by lia
  subst this
  exact⟨ps,rfl,H⟩
 case post =>
  rintro c ah ⟨ps,rfl,H⟩
  dsimp only
  have l0:=H.runs.le
  refine wpS_bind (wpS_mono (wpS_forRange (I:=fun y c ah=>c=(none,())/\∃ hJ,St r κ dS ah hJ dS.size/\hJ.length+y<=dS.size)
   (Q:=fun c ah=>c=(none,())/\∃ hJ,St r κ dS ah hJ dS.size/\hJ.length<=1) ?eb' ?Qr ⟨rfl,ps,H,by lia⟩) ?ec')
  case Qr =>
   rintro c ah ⟨rfl,hJ,H',hl⟩
   exact⟨rfl,hJ,H',by lia⟩
  case ec' =>
   rintro c ah ⟨rfl,hJ,H',hl⟩
   refine wpS_pure (h ah H'.perm H'.failed ?_)
   have q:=H'.runs
   match hJ,hl,q with
   |[],_,q =>
    have q:0=dS.size:=q
    intro i j _ _ hj
    lia
   |[(s',n',p')],_,q =>
    obtain⟨rfl,_,hu,e⟩:=q
    have e:0+n'=dS.size:=e
    rw[<- e]
    exact hu
  case eb' =>
   rintro y c AO _ hy ⟨rfl,hJ,H',hl⟩
   refine wpS_bind (wpS_get ?_)
   have ep:(pendingOf AO).size=hJ.length:=by rw[H'.pend];simp
   by_cases z:(pendingOf AO).size<=1
   ·rw[if_pos z]
    exact wpS_pure ⟨rfl,hJ,H',by lia⟩
   ·rw[if_neg z]
    refine wpS_bind (lY C hP H' (cq _) (by(repeat' split)<;>lia) fun ub ps2 H2 hlen _ _=>?_)
    rw[if_neg (by simp)]
    exact wpS_pure ⟨rfl,ps2,H2,by lia⟩
 case step =>
  rintro x c AO _ hx ⟨ps,lo,rfl,H,h1,h2⟩
  dsimp only
  by_cases z:lo >= dS.size
  ·rw[if_pos z]
   have:lo=dS.size:=by lia
   subst this
   exact wpS_pure ⟨ps,rfl,H⟩
  ·rw[if_neg z]
   have hz:=H.size
   refine wpS_bind (wpS_countRun C H.kind (hP.perm H.perm) (by lia) (by lia) fun m ub hw wt ny hu=>?_)
   have H2:=H.win hw
   dsimp only
   refine Ea (K:=?K) ?pk fun key=>?main
   case main =>
    by_cases z2:m<minRun' dS.size dS.size 0
    ·rw[if_pos z2]
     refine wpS_bind (wpS_lift (wpAny_rule ⟨rfl,?_⟩))
     refine wpS_bind (wpS_binarySort C H2.kind (hP.perm H2.perm) (by clear key;have:=H2.size;lia) (by clear key;lia) hu fun ui Ys Ts=>?_)
     have H3:=H2.win Ys
     rw[if_neg (by simp)]
     have b1:1<=min (dS.size-lo) (minRun' dS.size dS.size 0):=by clear key;lia
     have b2:lo+min (dS.size-lo) (minRun' dS.size dS.size 0)<=dS.size:=by clear key;lia
     clear Ys
     generalize min (dS.size-lo) (minRun' dS.size dS.size 0)=nn at *
     revert nn ui
     exact key
    ·rw[if_neg z2]
     exact key _ H2 _ hu wt (by lia)
   intro ui H3 nn Ts b1 b2
   refine wpS_bind (wpS_get ?_)
   have push:∀ (ah:SortSt) (hJ:List (Nat × Nat × Nat)),St r κ dS ah hJ lo->Up r (arrOf ah) lo (lo+nn)->∃ ps Ee,((none:Option Unit),lo+nn)=(none,Ee)/\St r κ dS (setPending ah ((pendingOf ah).push (lo,nn,0))) ps Ee/\Ee<=dS.size/\x+1<=Ee:=fun ah hJ G u =>
    ⟨hJ++[(lo,nn,0)],lo+nn,rfl,⟨G.kind,G.failed,G.perm,by show(pendingOf ah).push _=_;rw[G.pend];simp,Runs.append.mpr ⟨lo,G.runs,rfl,b1,u,rfl⟩⟩,b2,by lia⟩
   cases hb:(pendingOf ui).back? with
   |none =>
    dsimp only
    exact wpS_bind (wpS_modify (wpS_pure (push ui ps H3 Ts)))
   |some t =>
    obtain⟨s1,n1,p1⟩:=t
    dsimp only
    generalize power' dS.size (2*s1+n1) (2*s1+n1+n1+nn) dS.size=pw
    refine wpS_bind (wpS_mono (wpS_forRange (I:=fun y c ah=>c=(none,())/\∃ hJ,St r κ dS ah hJ lo/\Up r (arrOf ah) lo (lo+nn))
     (Q:=fun c ah=>c=(none,())/\∃ hJ,St r κ dS ah hJ lo/\Up r (arrOf ah) lo (lo+nn)) ?_ (fun _ _ q=>q) ⟨rfl,ps,H3,Ts⟩) ?_)
    ·rintro y c sT _ hy ⟨rfl,hJ,H4,MA⟩
     refine wpS_bind (wpS_get ?_)
     have ep:(pendingOf sT).size=hJ.length:=by rw[H4.pend];simp
     by_cases z3:(pendingOf sT).size>1
     ·rw[if_pos z3]
      have e4:(pendingOf sT)[(pendingOf sT).size-2]? = some ((pendingOf sT)[(pendingOf sT).size-2]'(by lia)):=getElem?_pos _ _ (by lia)
      rw[e4]
      generalize (pendingOf sT)[(pendingOf sT).size-2]'(by lia)=tt
      obtain⟨t1,t2,ed'⟩:=tt
      dsimp only
      by_cases z4:ed'<=pw
      ·rw[if_pos z4]
       exact wpS_pure ⟨rfl,hJ,H4,MA⟩
      ·rw[if_neg z4]
       refine wpS_bind (lY C hP H4 h1 (by lia) fun DU ps5 H5 hlen _ AQ=>?_)
       rw[if_neg (by simp)]
       exact wpS_pure ⟨rfl,ps5,H5,MA.congr fun k hk _=>AQ k hk⟩
     ·rw[if_neg z3]
      exact wpS_pure ⟨rfl,hJ,H4,MA⟩
    ·rintro c sT ⟨rfl,hJ,H4,MA⟩
     dsimp only
     refine wpS_bind (wpS_modify (wpS_bind (wpS_modify (wpS_pure ?_))))
     refine push _ (hJ.modify (hJ.length-1) fun x=>(x.1,x.2.1,pw)) ⟨H4.kind,H4.failed,H4.perm,?_,Runs.modify (f:=fun x=>(x.1,x.2.1,pw)) (fun _=>⟨rfl,rfl⟩) H4.runs⟩ MA
     show(pendingOf sT).modify ((pendingOf sT).size-1) (fun x=>(x.1,x.2.1,pw))=_
     rw[H4.pend]
     simp
def gq (h:Heap) (a:Addr) (vs:List Value):Heap:=((h.update a (Obj.mapSeq fun _=>#[])).push (seqObj "tuple" vs.toArray 0)).push (seqObj "list" #[] 0)
theorem uq(hb:b≠a)(fR:b<h.objs.size):(gq h a vs).get? b=h.get? b:=by
 unfold gq
 rw[Pp _ _ _ (by rw[size_push',Pq];exact gi (xv fR)),
  Pp _ _ _ (by rw[Pq];exact gi fR),Heap.get?_update_ne _ _ _ _ hb]
theorem uo(hp:xs.Perm (pairsOf vs))(hs:Up r xs 0 vs.length):(xs.map (·.2)).toList.Perm vs/\(xs.map (·.2)).toList.Pairwise fun x y=>r x<=r y:=by
 have hl:xs.toList.Perm (vs.zip vs):=by rw[<- pairsOf_toList];exact RP.mp hp
 have MB:∀ p,p∈xs.toList->p.1=p.2:=fun p fm=>(mem_zip_self (hl.mem_iff.mp fm)).1
 have e:(xs.map (·.2)).toList=xs.toList.map (·.1):=by
  rw[Array.toList_map];exact E7 fun p fm=>(MB p fm).symm
 have hsz:xs.size=vs.length:=by rw[hp.size_eq,pairsOf_size]
 rw[e]
 refine⟨?_,?_⟩
 ·have h1:=hl.map (·.1)
  rwa[List.map_fst_zip (cq _)] at h1
 ·rw[Rv]
  intro i j hi hj kB
  have kU:i<xs.size:=by simpa using hi
  have vj:j<xs.size:=by simpa using hj
  have h1:=hs i j (eu _) (kR kB) (by lia)
  rw[G6 kU,G6 vj] at h1
  simpa using h1
theorem q_ {F:PySem.Fin->Shared->Prop} (ho:s.heap.get? a=some (seqObj "list" vs.toArray n)) (hsz:vs.length<=sizeLine) (hP:∀ v∈vs,P v)
  (hk:2<=vs.length->∀ (Q:SortKind->Shared->Prop),Q κ { s with heap:=gq s.heap a vs }->wpAny (model prog w) A (keyKind' vs.toArray) Q E { s with heap:=gq s.heap a vs })
  (C:2<=vs.length->nv prog w A { s with heap:=gq s.heap a vs } κ r P)
  (h:∀ out:Array Value,out.toList.Perm vs->(out.toList.Pairwise fun x y=>r x<=r y)->F (.done (.ret .none)) { s with heap:=sortedHeap s.heap a vs out }) :
  wpAny (model prog w) A (Builtin.«list.sort» ⟨[.ref a],[]⟩) F E s:=by
 rw[list_sort_plain]
 have ha:a<s.heap.objs.size:=dP ho
 refine ax (listItems_at ho rfl ?_)
 refine ax (listUpdate_at ho rfl ?_ (by simpa using hsz) (eu _))
 obtain⟨e1,sq⟩:∃ e1,(s.heap.update a (Obj.mapSeq fun _=>#[])).get? a=some (seqObj "list" #[] e1):=⟨_,get?_update_seq ho (fun _=>#[])⟩
 refine ax (seqEpoch_at sq rfl ?_)
 refine ax (wpAny_newTuple ?_ (by simpa using hsz))
 refine ax (wpAny_newList ?_ (eu _))
 refine wpAny_holding ?_
 have Qs:(gq s.heap a vs).get? a=some (seqObj "list" #[] e1):=by
  unfold gq
  rw[Pp _ _ _ (by rw[size_push',Pq];exact gi (xv ha)),Pp _ _ _ (by rw[Pq];exact gi ha)]
  exact sq
 show wpAny (model prog w) A _ F E { s with heap:=gq s.heap a vs }
 dsimp only
 have hvz:vs.toArray.size=vs.length:=by simp
 have fin:∀ ah:SortSt,(arrOf ah).Perm (pairsOf vs)->Up r (arrOf ah) 0 vs.length->F (.done (.ret .none)) { s with heap:=sortedHeap s.heap a vs ((arrOf ah).map (·.2)) }:=by
  intro ah hp hs
  obtain⟨h1,h2⟩:=uo hp hs
  exact h _ h1 h2
 by_cases h2:vs.toArray.size<2
 ·rw[if_pos h2,if_pos h2]
  refine ax (aS ?_)
  rw[StateT.run_pure]
  refine ax (aS ?_)
  dsimp only
  refine ax (seqEpoch_at Qs rfl ?_)
  refine ax (listUpdate_at Qs rfl ?_ (eu _) (by rw[Array.size_map];show(pairsOf vs).size<=_;rw[pairsOf_size];lia))
  simp only[bne_self_eq_false,gy,if_false]
  refine aS (fin (SortSt.mk' general' (vs.toArray.zip vs.toArray) #[] 7 none) (Array.Perm.refl _) ?_)
  intro i j _ kB hj
  have:i=j:=by lia
  subst this;exact lP _
 ·rw[if_neg h2,if_neg h2]
  refine ax (hk (by lia) _ ?_)
  refine ax (pe (wpS_sortRuns (st:=SortSt.mk' κ (vs.toArray.zip vs.toArray) #[] 7 none)
   (Q:=fun _ ah=>(arrOf ah).Perm (pairsOf vs)/\failedOf ah=none/\Up r (arrOf ah) 0 vs.length)
   (C (by lia)) rfl (fun p hp=>?_) rfl rfl fun ah a1 a2 a3=>⟨a1,a2,?_⟩) ?_ fun _ _ e=>e)
  ·have fm:p∈(pairsOf vs).toList:=hp
   rw[pairsOf_toList] at fm
   exact hP _ (mem_zip_self fm).2
  ·have e:(arrOf (SortSt.mk' κ (vs.toArray.zip vs.toArray) #[] 7 none)).size=vs.length:=pairsOf_size vs
   rw[e] at a3
   exact a3
  ·rintro⟨⟨⟩,ah⟩ s' ⟨rfl,hp,hf,hs⟩
   dsimp only
   refine ax (seqEpoch_at Qs rfl ?_)
   refine ax (listUpdate_at Qs rfl ?_ (eu _) (by refine fS (Nat.le_of_eq ((Array.size_map ..).trans (hp.size_eq.trans (pairsOf_size _)))) ?_;lia))
   rw[hf]
   simp only[bne_self_eq_false,gy,if_false]
   exact aS (fin ah hp hs)
end
end yn
namespace L2
open PySem PySem.Spec PyProof.Rows
def oD:Key->Key->Bool
 |.inl i,.inl j=>decide (i<j)
 |.inr x,.inr y=>oB x y
 |_,_=>false
def fo:List Key->List Key->Bool
 |a :: as,b :: bs=>if a=b then fo as bs else oD a b
 |_,_=>false
def oi:Key->Bool
 |.inl _=>true
 |.inr _=>false
def gV(k:List Key):List Bool:=k.map oi
theorem DP(x:Str):oB x x=false:=by unfold oB;simp[List.lt_irrefl]
theorem Hk(h:oB x y=true)(g:oB y z=true):oB x z=true:=by
 unfold oB at *
 simp only[decide_eq_true_eq] at *
 exact List.lt_trans h g
theorem yo{x y:Str}(h:x.cps.toList=y.cps.toList):x=y:=by
 cases x;cases y
 simp only at h
 rw[Pw.mp h]
theorem Gf{x y:Str}(h:oB x y=false)(g:oB y x=false):x=y:=by
 unfold oB at *
 simp only[decide_eq_false_iff_not] at *
 apply yo
 exact List.le_antisymm (List.not_lt.mp g) (List.not_lt.mp h)
theorem yf(a:Key):oD a a=false:=by cases a with|inl i=>simp[oD]|inr x=>exact DP x
theorem Hi(h:oD a b=true)(g:oD b c=true):oD a c=true:=by
 cases a<;>cases b<;>cases c<;>simp only[oD,decide_eq_true_eq] at *<;>first|lia|contradiction|exact Hk h g
theorem Ff(e:oi a=oi b)(h:oD a b=false)(g:oD b a=false):a=b:=by
 cases a<;>cases b<;>simp only[oD,oi,decide_eq_false_iff_not] at *
 ·congr 1;lia
 ·cases e
 ·cases e
 ·congr 1;exact Gf h g
theorem yW:∀ a:List Key,fo a a=false
 |[]=>rfl
 |a :: as=>by unfold fo;rw[if_pos rfl];exact yW as
theorem xW:∀ {a b c:List Key},fo a b=true->fo b c=true->fo a c=true
 |[],_,_,h,_=>by simp[fo] at h
 |_ :: _,[],_,h,_=>by simp[fo] at h
 |_ :: _,_ :: _,[],_,g=>by simp[fo] at g
 |a :: as,b :: bs,c :: cs,h,g=>by
  unfold fo at h g ⊢
  by_cases e1:a=b
  ·subst e1
   rw[if_pos rfl] at h
   by_cases e2:a=c
   ·subst e2
    rw[if_pos rfl] at g ⊢
    exact xW h g
   ·rw[if_neg e2] at g ⊢
    exact g
  ·rw[if_neg e1] at h
   by_cases e2:b=c
   ·subst e2
    rw[if_neg e1]
    exact h
   ·rw[if_neg e2] at g
    have t:=Hi h g
    have ne:a≠c:=fun e=>by subst e;rw[yf] at t;cases t
    rw[if_neg ne]
    exact t
theorem uf:∀ {a b:List Key},gV a=gV b->fo a b=false->fo b a=false->a=b
 |[],[],_,_,_=>rfl
 |[],_ :: _,e,_,_=>by simp[gV] at e
 |_ :: _,[],e,_,_=>by simp[gV] at e
 |a :: as,b :: bs,e,h,g=>by
  simp only[gV,fP,List.cons.injEq] at e
  unfold fo at h g
  by_cases e1:a=b
  ·subst e1
   rw[if_pos rfl] at h g
   rw[uf (show gV as=gV bs from e.2) h g]
  ·rw[if_neg e1] at h
   rw[if_neg (Ne.symm e1)] at g
   exact absurd (Ff e.1 h g) e1
theorem count_le{α:Type}(p q:α->Bool):∀ (l:List α),(∀ x∈l,p x=true->q x=true)->l.countP p<=l.countP q
 |[],_=>cq _
 |x :: l,h=>by
  have ih:=count_le p q l fun y hy=>h y (dn _ hy)
  have h1:=h x dz
  rw[Pa,Pa]
  cases hp:p x<;>cases hq:q x<;>simp_all<;>exact RK ‹_›
theorem vg{α:Type}(p q:α->Bool)(a:α)(ha:p a=false)(hb:q a=true):∀ (l:List α),a∈l->(∀ x∈l,p x=true->q x=true)->l.countP p<l.countP q
 |[],m,_=>by cases m
 |x :: l,m,h=>by
  rw[Pa,Pa]
  rcases dv.mp m with rfl|m
  ·have:=count_le p q l fun y hy=>h y (dn _ hy)
   rw[ha,hb];simp;exact A9 ‹_›
  ·have ih:=vg p q a ha hb l m fun y hy=>h y (dn _ hy)
   have h1:=h x dz
   cases hp:p x<;>cases hq:q x<;>simp_all<;>exact xv ‹_›
def yy(L:List (List Key))(k:List Key):Int:=(L.countP fun j=>fo j k:Nat)
theorem qW(e:gV a=gV b)(ma:a∈L):decide (yy L a<yy L b)=fo a b:=by
 unfold yy
 cases h:fo a b with
 |true =>
  have:=vg (fun j=>fo j a) (fun j=>fo j b) a (yW a) h L ma fun x _ hx=>xW hx h
  exact decide_eq_true (by lia)
 |false =>
  apply decide_eq_false
  cases g:fo b a with
  |false=>rw[uf e h g];lia
  |true =>
   have:=count_le (fun j=>fo j b) (fun j=>fo j a) L fun x _ hx=>xW hx g
   lia
def Tt:V->Option Key
 |.int i=>some (.inl i)
 |.str x=>some (.inr x)
 |_=>none
theorem JG(k:Key):Tt (kV k)=some k:=by cases k<;>rfl
theorem Cq:∀ k:List Key,(k.map kV).filterMap Tt=k
 |[]=>rfl
 |a :: as=>by rw[fP,zt,JG,Cq as]
def oh(H:Hp):Value->List Key
 |.ref b=>match H b with
  |some (.tup xs)=>xs.filterMap Tt
  |_=>[]
 |_=>[]
theorem cO(h:H b=some (.tup (k.map kV))):oh H (.ref b)=k:=by
 simp only[oh,h];exact Cq k
section
variable {prog:Program}{w:World}{A:Around}{E:Value->Shared->Prop}{s:Shared}{Q:Bool->Shared->Prop}
theorem G_(ru:RelV (kV a) u)(rv:RelV (kV b) v)(e:oi a=oi b)(q:Q (oD a b) s):wpAny (model prog w) A (oneLt' false u v) Q E s:=by
 refine PySem.W.kat_one u v ?_
 cases a with
 |inl i =>
  cases b with
  |inr x=>cases e
  |inl j =>
   obtain⟨t,rfl⟩:=ru
   obtain⟨t',rfl⟩:=rv
   exact lt_int q
 |inr x =>
  cases b with
  |inl j=>cases e
  |inr y =>
   obtain⟨t,rfl⟩:=ru
   obtain⟨t',rfl⟩:=rv
   exact PySem.P.lt_str q
theorem GD(ru:RelV (kV a) u)(rv:RelV (kV b) v)(e:oi a=oi b)(q:Q (decide (a=b)) s):wpAny (model prog w) A (eqBool u v) Q E s:=by
 cases a with
 |inl i =>
  cases b with
  |inr x=>cases e
  |inl j =>
   obtain⟨t,rfl⟩:=ru
   obtain⟨t',rfl⟩:=rv
   refine wpAny_eqBool_int ?_
   rw[<- V8];exact q
 |inr x =>
  cases b with
  |inl j=>cases e
  |inr y =>
   obtain⟨t,rfl⟩:=ru
   obtain⟨t',rfl⟩:=rv
   refine wpAny_eqBool_str ?_
   rw[<- V9];exact q
theorem Ag(k m:List Key)(us vs:List Value)(i:Nat)(ha:Vals (k.map kV) us)(hb:Vals (m.map kV) vs)(e:gV k=gV m)(hf:fin=false)(q:Q (fo k m) s) :
  PySem.W.KatLex prog w A true fin Q (us.zip vs) i s:=by
 induction k generalizing m us vs i with
 |nil =>
  cases m with
  |cons b m=>simp[gV] at e
  |nil =>
   rw[Paired.n0 ha,Paired.n0 hb]
   subst hf
   exact PySem.W.kat_nil q
 |cons a k ih =>
  cases m with
  |nil=>simp[gV] at e
  |cons b m =>
   obtain⟨u,us,rfl,ra,rk⟩:=Paired.c ha
   obtain⟨v,vs,rfl,rb,rm⟩:=Paired.c hb
   simp only[gV,fP,List.cons.injEq] at e
   rw[E8]
   refine PySem.W.kat_cons (GD ra rb e.1 (PySem.W.kat_go (fun h=>PySem.W.kat_yes ?_) (fun h=>PySem.W.kat_no ?_)))
   ·have h:=of_decide_eq_true h
    subst h
    unfold fo at q
    rw[if_pos rfl] at q
    exact ih m _ _ (i+1) rk rm e.2 q
   ·have h:=of_decide_eq_false h
    unfold fo at q
    rw[if_neg h] at q
    by_cases h0:i=0
    ·subst h0
     cases a with
     |inr x =>
      cases b with
      |inl j=>cases e.1
      |inr y =>
       obtain⟨t,rfl⟩:=ra
       obtain⟨t',rfl⟩:=rb
       exact oneLt_str q
     |inl i =>
      cases b with
      |inr x=>cases e.1
      |inl j =>
       obtain⟨t,rfl⟩:=ra
       obtain⟨t',rfl⟩:=rb
       exact oneLt_int q
    ·rw[show(true && i == 0)=false by simp[h0]]
     exact G_ ra rb e.1 q
end
section
variable {X:Cx}{pins:List (Addr × Obj)}{σ:St}{H:Hp}{s:Shared}
theorem Inv.tup(I:Inv X pins σ H s)(h:H b=some (.tup xs)):∃ its:List Value,Vals xs its/\IsTup s.heap b its.toArray:=(I.bp b _ h).2
theorem vq(I:Inv X pins σ H s)(kp:∀ b o,s.heap.get? b=some o->s'.heap.get? b=some o) :
  yn.nv X.prog X.w A s' (tuples' true) (fun v=>yy L (oh H v)) (fun v=>∃ b k,v=.ref b/\H b=some (.tup (k.map kV))/\gV k=b0 :: sh/\k∈L):=by
 rintro x y ⟨b,k,rfl,hb,hk,mk⟩ ⟨c,m,rfl,hc,hm,mm⟩ Q E q
 obtain⟨us,ru,o,e1,c1,n1,d1⟩:=I.tup hb
 obtain⟨vs,rv,o',e2,c2,n2,d2⟩:=I.tup hc
 have Tv:gV k=gV m:=hk.trans hm.symm
 simp only[cO hb,cO hc] at q
 rw[qW Tv mk] at q
 refine PySem.W.kat_lt (kp _ _ e1) d1 (kp _ _ e2) d2 (Ag k m us vs 0 ru rv Tv ?_ q)
 ·have h1:=ru.length
  have h2:=rv.length
  have h3:k.length=m.length:=by
   have:=congrArg List.length Tv
   simpa[gV] using this
  simp only[bP] at h1 h2
  exact decide_eq_false (by simp only[iq];lia)
theorem kat_tups(I:Inv X pins σ H s){s':Shared}(kp:∀ b o,s.heap.get? b=some o->s'.heap.get? b=some o){b0:Bool}{sh:List Bool}{ys:List V}{ks:List (List Key)}{vs:List Value}(ht:dw H ys ks)(hv:Vals ys vs)(hs:∀ k∈ks,gV k=b0 :: sh) :
  ∃ fs:List Value,PySem.W.KatTups s'.heap vs fs/\fs.length=vs.length/\∀ f∈fs,(b0=true->∃ i t,f=Value.int i t)/\(b0=false->∃ x t,f=Value.str x t):=by
 induction ys generalizing ks vs with
 |nil =>
  rw[Paired.n0 hv]
  exact⟨[],.nil,rfl,by simp⟩
 |cons y ys ih =>
  obtain⟨k,ks,rfl,⟨b,rfl,hb⟩,t⟩:=Paired.c ht
  obtain⟨v,vs,rfl,rfl,rs⟩:=Paired.c hv
  obtain⟨fs,f1,f2,f3⟩:=ih t rs fun j hj=>hs j (dn _ hj)
  have hk:=hs k dz
  obtain⟨us,ru,o,e1,c1,n1,d1⟩:=I.tup hb
  cases k with
  |nil=>simp[gV] at hk
  |cons a k =>
   obtain⟨u,us,rfl,ra,rr⟩:=Paired.c ru
   simp only[gV,fP,List.cons.injEq] at hk
   refine⟨u :: fs,.cons (kp _ _ e1) c1 d1 rfl f1,by simp[f2],fun f hf=>?_⟩
   rcases dv.mp hf with rfl|hf
   ·cases a with
    |inr x =>
     obtain⟨tk,rfl⟩:=ra
     exact⟨(fun z=>by rw[<- hk.1] at z;cases z),fun _=>⟨_,_,rfl⟩⟩
    |inl i =>
     obtain⟨tk,rfl⟩:=ra
     exact⟨fun _=>⟨_,_,rfl⟩,fun z=>by rw[<- hk.1] at z;cases z⟩
   ·exact f3 f hf
end
theorem dw.of{H:Hp}{ks:List (List Key)}(vs:List Value)(h:∀ v∈vs,∃ b k,v=Value.ref b/\H b=some (.tup (k.map kV))/\k∈ks):∃ zs,dw H zs (vs.map (oh H))/\Vals zs vs:=by
 induction vs with
 |nil=>exact⟨[],.nil,.nil⟩
 |cons v vs ih =>
  obtain⟨zs,a,c⟩:=ih fun u hu=>h u (dn _ hu)
  obtain⟨b,k,rfl,e,_⟩:=h v dz
  exact⟨.ref b :: zs,.cons ⟨b,rfl,by rw[cO e];exact e⟩ a,.cons rfl c⟩
end L2
namespace yn
open PySem PyProof.Rows
end yn
namespace L2
open PySem PySem.Spec PyProof.Rows
def kY:Value->List Key
 |.int i _=>[.inl i]
 |.str x _=>[.inr x]
 |_=>[]
theorem nj(h:RelV (kV k) v):kY v=[k]:=by
 cases k with
 |inl i=>obtain⟨t,rfl⟩:=h;rfl
 |inr x=>obtain⟨t,rfl⟩:=h;rfl
theorem xO:fo [a] [b]=oD a b:=by
 unfold fo
 by_cases e:a=b
 ·subst e;rw[if_pos rfl,yf];rfl
 ·rw[if_neg e]
theorem Be{prog:Program}{w:World}{A:Around}{s:Shared}{b:Bool}{L:List Key} :
  yn.nv prog w A s oneType' (fun v=>yy (L.map fun k=>[k]) (kY v)) (fun v=>∃ k,RelV (kV k) v/\oi k=b/\k∈L):=by
 rintro x y ⟨k,rk,ik,mk⟩ ⟨m,rm,im,mm⟩ Q E q
 simp only[nj rk,nj rm] at q
 rw[qW (by simp[gV,ik,im]) (cf.mpr ⟨k,mk,rfl⟩),xO] at q
 rw[keyLt'_oneType]
 cases k with
 |inl i =>
  cases m with
  |inr y=>rw[<- im] at ik;cases ik
  |inl j =>
   obtain⟨t,rfl⟩:=rk
   obtain⟨u,rfl⟩:=rm
   exact oneLt_int q
 |inr x =>
  cases m with
  |inl y=>rw[<- im] at ik;cases ik
  |inr j =>
   obtain⟨t,rfl⟩:=rk
   obtain⟨u,rfl⟩:=rm
   exact oneLt_str q
theorem ints_of{ks:List Key}{vs:List Value}(r:Vals (ks.map kV) vs)(h:∀ k∈ks,oi k=true):∃ ns,IntsAre vs ns:=by
 induction ks generalizing vs with
 |nil=>rw[Paired.n0 r];exact⟨[],.nil⟩
 |cons k ks ih =>
  obtain⟨v,vs,rfl,r,rs⟩:=Paired.c r
  obtain⟨ns,q⟩:=ih rs fun j hj=>h j (dn _ hj)
  have:=h k dz
  cases k with
  |inr x=>cases this
  |inl i=>obtain⟨t,rfl⟩:=r;exact⟨_,.cons i t q⟩
theorem DK{ks:List Key}{vs:List Value}(r:Vals (ks.map kV) vs)(h:∀ k∈ks,oi k=false):∃ ns,StrsAre vs ns:=by
 induction ks generalizing vs with
 |nil=>rw[Paired.n0 r];exact⟨[],.nil⟩
 |cons k ks ih =>
  obtain⟨v,vs,rfl,r,rs⟩:=Paired.c r
  obtain⟨ns,q⟩:=ih rs fun j hj=>h j (dn _ hj)
  have:=h k dz
  cases k with
  |inl x=>cases this
  |inr i=>obtain⟨t,rfl⟩:=r;exact⟨_,.cons i t q⟩
theorem Aa{prog:Program}{w:World}{A:Around}{E:Value->Shared->Prop}{s:Shared}{b:Bool}{ks:List Key}{vs:List Value}(r:Vals (ks.map kV) vs)(h:∀ k∈ks,oi k=b)(h2:2<=vs.length){Q:SortKind->Shared->Prop}(q:Q oneType' s) :
  wpAny (model prog w) A (keyKind' vs.toArray) Q E s:=by
 match vs,h2 with
 |v1 :: v2 :: vs,_ =>
  cases b with
  |true=>obtain⟨ns,hI⟩:=ints_of r h;rw[keyKind_ints hI];exact aS q
  |false=>obtain⟨ns,hI⟩:=DK r h;rw[keyKind_strs hI];exact aS q
theorem keys_map{ks:List Key}{vs:List Value}(r:Vals (ks.map kV) vs):vs.map kY=ks.map fun k=>[k]:=by
 induction ks generalizing vs with
 |nil=>rw[Paired.n0 r];rfl
 |cons k ks ih =>
  obtain⟨u,vs,rfl,r,rs⟩:=Paired.c r
  rw[fP,fP,nj r,ih rs]
theorem tD{ks:List Key}(vs:List Value)(h:∀ v∈vs,∃ k,RelV (kV k) v/\k∈ks):∃ ms:List Key,Vals (ms.map kV) vs:=by
 induction vs with
 |nil=>exact⟨[],.nil⟩
 |cons v vs ih =>
  obtain⟨ms,r⟩:=ih fun u hu=>h u (dn _ hu)
  obtain⟨k,rk,_⟩:=h v dz
  exact⟨k :: ms,.cons rk r⟩
theorem yc:∀ {ms ks:List Key},(ms.map fun k=>[k]).Perm (ks.map fun k=>[k])->ms.Perm ks:=fun {ms ks} h=>by
 have:=h.map (fun l:List Key=>l.head?)
 simp only[eP] at this
 have e:∀ l:List Key,l.map ((fun l:List Key=>l.head?) ∘ fun k=>[k])=l.map some:=fun l=>E7 fun _ _=>rfl
 rw[e,e] at this
 have:=this.filterMap id
 simpa using this
end L2
namespace L2.Q
open PySem PySem.Spec PyProof.Rows
inductive D where
 |non|bl (b:Bool)|int (i:Int)|str (x:Str)
 |list (xs:List D)|tup (xs:List D)|dK (ae:List (Key × D))|dT (ae:List (List Key × D))
mutual
/-- nothing in it can be changed -/
def D.flat:D->Bool
 |.list _=>false
 |.dK _=>false
 |.dT _=>false
 |.tup xs=>de xs
 |_=>true
def de:List D->Bool
 |[]=>true
 |x :: xs=>x.flat && de xs
end
theorem sW:∀ {xs:List D},de xs=true↔∀ x∈xs,x.flat=true
 |[]=>by simp[de]
 |x :: xs=>by simp[de,sW (xs:=xs)]
theorem kJ:de (xs++ys)=(de xs && de ys):=by
 induction xs with
 |nil=>simp[de]
 |cons x xs ih=>simp[de,ih,Bool.and_assoc]
def wx:Key->Bool
 |.inl _=>true
 |.inr x=>decide (x.length<=sizeLine)
def Qt(ae:List (Key × D)):Prop:=ae.length<=sizeLine/\∀ p∈ae,wx p.1=true
def Qu(ae:List (List Key × D)):Prop:=ae.length<=sizeLine/\∀ p∈ae,p.1.length<=sizeLine/\∀ k∈p.1,wx k=true
mutual
inductive Rep(K:PySem.W.Frag)(H:Hp):D->V->Prop
 |non:Rep K H .non .non
 |bl (b:Bool):Rep K H (.bl b) (.bl b)
 |int (i:Int):Rep K H (.int i) (.int i)
 |str {x:Str}:x.length<=sizeLine->Rep K H (.str x) (.str x)
 |list {a:Addr} {vs:List V} {ds:List D}:vs.length<=sizeLine->eR K H a vs->aT K H ds vs->Rep K H (.list ds) (.ref a)
 |tup {a:Addr} {vs:List V} {ds:List D}:vs.length<=sizeLine->H a=some (.tup vs)->aT K H ds vs->Rep K H (.tup ds) (.ref a)
 |dK {a:Addr} {vs:List V} {ae:List (Key × D)}:Qt ae->Rd H a (.dK ((ae.map (·.1)).zip vs))->aT K H (ae.map (·.2)) vs->Rep K H (.dK ae) (.ref a)
 |dT {a:Addr} {vs:List V} {ae:List (List Key × D)}:Qu ae->Rd H a (.dT ((ae.map (·.1)).zip vs))->aT K H (ae.map (·.2)) vs->Rep K H (.dT ae) (.ref a)
inductive aT(K:PySem.W.Frag)(H:Hp):List D->List V->Prop
 |nil:aT K H [] []
 |cons {d:D} {v:V} {ds:List D} {vs:List V}:Rep K H d v->aT K H ds vs->aT K H (d :: ds) (v :: vs)
end
theorem Rep.ind{K:PySem.W.Frag}{H:Hp}{m1:D->V->Prop}{m2:List D->List V->Prop}(h0:m1 .non .non)(hb:∀ b,m1 (.bl b) (.bl b))(hi:∀ i,m1 (.int i) (.int i))(hs:∀ x,x.length<=sizeLine->m1 (.str x) (.str x))
  (hl:∀ a vs ds,vs.length<=sizeLine->eR K H a vs->aT K H ds vs->m2 ds vs->m1 (.list ds) (.ref a)) (ht:∀ a vs ds,vs.length<=sizeLine->H a=some (.tup vs)->aT K H ds vs->m2 ds vs->m1 (.tup ds) (.ref a))
  (hk:∀ a vs ae,Qt ae->Rd H a (.dK ((ae.map (·.1)).zip vs))->aT K H (ae.map (·.2)) vs->m2 (ae.map (·.2)) vs->m1 (.dK ae) (.ref a)) (hT:∀ a vs ae,Qu ae->Rd H a (.dT ((ae.map (·.1)).zip vs))->aT K H (ae.map (·.2)) vs->m2 (ae.map (·.2)) vs->m1 (.dT ae) (.ref a))
  (hn:m2 [] []) (hc:∀ d v ds vs,Rep K H d v->aT K H ds vs->m1 d v->m2 ds vs->m2 (d :: ds) (v :: vs)):(∀ {d v},Rep K H d v->m1 d v)/\∀ {ds vs},aT K H ds vs->m2 ds vs :=
 ⟨fun r=>Rep.rec (motive_1:=fun d v _=>m1 d v) (motive_2:=fun ds vs _=>m2 ds vs) h0 hb hi (fun h=>hs _ h) (fun z s r ih=>hl _ _ _ z s r ih) (fun z s r ih=>ht _ _ _ z s r ih) (fun z s r ih=>hk _ _ _ z s r ih) (fun z s r ih=>hT _ _ _ z s r ih) hn (fun r s a b=>hc _ _ _ _ r s a b) r,
  fun r=>aT.rec (motive_1:=fun d v _=>m1 d v) (motive_2:=fun ds vs _=>m2 ds vs) h0 hb hi (fun h=>hs _ h) (fun z s r ih=>hl _ _ _ z s r ih) (fun z s r ih=>ht _ _ _ z s r ih) (fun z s r ih=>hk _ _ _ z s r ih) (fun z s r ih=>hT _ _ _ z s r ih) hn (fun r s a b=>hc _ _ _ _ r s a b) r⟩
theorem kA.k'(e:Rd H a (.dK ae)):kA H a (kV k) (ky ae k):=.inl ⟨ae,k,e,rfl,rfl⟩
theorem kA.t'(e:Rd H a (.dT ae))(eb:H b=some (.tup (k.map kV))):kA H a (.ref b) (ky ae k):=.inr ⟨ae,k,b,e,rfl,eb,rfl⟩
theorem aI.rd(s:aI H H')(h:Rd H a u):Rd H' a u:=h.imp (s _ _) fun⟨o,e⟩=>⟨o,s _ _ e⟩
theorem Rep.HQ{K:PySem.W.Frag}(s:aI H H'):(∀ {d:D} {v:V},Rep K H d v->Rep K H' d v)/\∀ {ds:List D} {vs:List V},aT K H ds vs->aT K H' ds vs :=
 Rep.ind .non .bl .int (fun _ h=>.str h) (fun _ _ _ z h _ ih=>.list z (s.lst h) ih) (fun _ _ _ z h _ ih=>.tup z (s _ _ h) ih) (fun _ _ _ kk h _ ih=>.dK kk (aI.rd s h) ih) (fun _ _ _ kk h _ ih=>.dT kk (aI.rd s h) ih) .nil fun _ _ _ _ _ _ a b=>.cons a b
theorem Rep.same{K:PySem.W.Frag}(s:aI H H')(r:Rep K H d v):Rep K H' d v:=(Rep.HQ s).1 r
theorem aT.same{K:PySem.W.Frag}(s:aI H H')(r:aT K H ds vs):aT K H' ds vs:=(Rep.HQ s).2 r
theorem aT.ind{K:PySem.W.Frag}{H:Hp}{m:List D->List V->Prop}(hn:m [] [])(hc:∀ d v ds vs,Rep K H d v->aT K H ds vs->m ds vs->m (d :: ds) (v :: vs)):∀ {ds vs},aT K H ds vs->m ds vs :=
 fun r=>(Rep.ind (m1:=fun _ _=>True) (m2:=m) trivial (fun _=>trivial) (fun _=>trivial) (fun _ _=>trivial) (fun _ _ _ _ _ _ _=>trivial) (fun _ _ _ _ _ _ _=>trivial) (fun _ _ _ _ _ _ _=>trivial) (fun _ _ _ _ _ _ _=>trivial) hn fun d v ds vs r s _ b=>hc d v ds vs r s b).2 r
theorem aT.length{K:PySem.W.Frag}(r:aT K H ds vs):ds.length=vs.length :=
 aT.ind (m:=fun ds vs=>ds.length=vs.length) rfl (fun _ _ _ _ _ _ ih=>by rw[pj,pj,ih]) r
theorem aT.append{K:PySem.W.Frag}(r:aT K H ds vs)(t:aT K H es ws):aT K H (ds++es) (vs++ws) :=
 aT.ind (m:=fun ds vs=>aT K H (ds++es) (vs++ws)) t (fun _ _ _ _ h _ ih=>.cons h ih) r
theorem aT.get{K:PySem.W.Frag}{H:Hp}{ds:List D}{vs:List V}{i:Nat}{d:D}(r:aT K H ds vs)(e:ds[i]? = some d):∃ v,vs[i]? = some v/\Rep K H d v :=
 aT.ind (m:=fun ds vs=>∀ i d,ds[i]? = some d->∃ v,vs[i]? = some v/\Rep K H d v) (fun i d e=>by simp at e) (fun _ _ _ _ h _ ih i d e=>by
  cases i with
  |zero=>simp at e;subst e;exact⟨_,rfl,h⟩
  |succ i =>
   obtain⟨v,e1,r⟩:=ih i d (by simpa using e)
   exact⟨v,by simpa using e1,r⟩) r i d e
theorem aT.Yt{K:PySem.W.Frag}{H:Hp}{ds:List D}{vs:List V}{i:Nat}{v:V}(r:aT K H ds vs)(e:vs[i]? = some v):∃ d,ds[i]? = some d/\Rep K H d v :=
 aT.ind (m:=fun ds vs=>∀ i v,vs[i]? = some v->∃ d,ds[i]? = some d/\Rep K H d v) (fun i d e=>by simp at e) (fun _ _ _ _ h _ ih i d e=>by
  cases i with
  |zero=>simp at e;subst e;exact⟨_,rfl,h⟩
  |succ i =>
   obtain⟨v,e1,r⟩:=ih i d (by simpa using e)
   exact⟨v,by simpa using e1,r⟩) r i v e
theorem aT.drop{K:PySem.W.Frag}(n:Nat)(r:aT K H ds vs):aT K H (ds.drop n) (vs.drop n) :=
 aT.ind (m:=fun ds vs=>∀ n,aT K H (ds.drop n) (vs.drop n)) (fun n=>by rw[List.drop_nil,List.drop_nil];exact .nil) (fun _ _ _ _ h hs ih n=>by
  cases n with
  |zero=>exact .cons h hs
  |succ n=>exact ih n) r n
theorem aT.n0{K:PySem.W.Frag}(h:aT K H [] vs):vs=[]:=by cases h;rfl
theorem aT.c{K:PySem.W.Frag}(h:aT K H (d :: ds) vs):∃ u us,vs=u :: us/\Rep K H d u/\aT K H ds us:=by
 cases h with
 |cons r rs=>exact⟨_,_,rfl,r,rs⟩
theorem aT.take{K:PySem.W.Frag}(n:Nat)(r:aT K H ds vs):aT K H (ds.take n) (vs.take n) :=
 aT.ind (m:=fun ds vs=>∀ n,aT K H (ds.take n) (vs.take n)) (fun n=>by rw[List.take_nil,List.take_nil];exact .nil) (fun _ _ _ _ h hs ih n=>by
  cases n with
  |zero=>exact .nil
  |succ n=>exact .cons h (ih n)) r n
mutual
/-- what is owned: a tree whose lists and hX' stand at As,hY' hZ';its leaves shared (fl: and flat) -/
inductive bX(K:PySem.W.Frag)(Hs H:Hp)(fl:Bool):D->V->List Addr->Prop
 |sh {d:D} {v:V}:(fl=true->d.flat=true)->Rep K Hs d v->bX K Hs H fl d v []
 |list {a:Addr} {vs:List V} {ds:List D} {As:List Addr}:vs.length<=sizeLine->H a=some (.lst vs)->aD K Hs H fl ds vs As->bX K Hs H fl (.list ds) (.ref a) (a :: As)
 |tup {a:Addr} {vs:List V} {ds:List D} {As:List Addr}:vs.length<=sizeLine->Hs a=some (.tup vs)->de ds=false->aD K Hs H fl ds vs As->bX K Hs H fl (.tup ds) (.ref a) As
 |dK {a:Addr} {vs:List V} {ae:List (Key × D)} {As:List Addr}:Qt ae->H a=some (.dK ((ae.map (·.1)).zip vs))->aD K Hs H fl (ae.map (·.2)) vs As->bX K Hs H fl (.dK ae) (.ref a) (a :: As)
 |dT {a:Addr} {vs:List V} {ae:List (List Key × D)} {As:List Addr}:Qu ae->H a=some (.dT ((ae.map (·.1)).zip vs))->aD K Hs H fl (ae.map (·.2)) vs As->bX K Hs H fl (.dT ae) (.ref a) (a :: As)
inductive aD(K:PySem.W.Frag)(Hs H:Hp)(fl:Bool):List D->List V->List Addr->Prop
 |nil:aD K Hs H fl [] [] []
 |cons {d:D} {v:V} {ds:List D} {vs:List V} {As Bs:List Addr}:bX K Hs H fl d v As->aD K Hs H fl ds vs Bs->aD K Hs H fl (d :: ds) (v :: vs) (As++Bs)
end
def Own(H:Hp)(a:Addr):Prop:=(∃ vs,H a=some (.lst vs))\/(∃ ae,H a=some (.dK ae))\/∃ ae,H a=some (.dT ae)
section
variable {K:PySem.W.Frag}{Hs aw H H':Hp}{fl:Bool}
theorem Own.ne(h:Own H a):H a≠none:=by
 rcases h with⟨_,e⟩|⟨_,e⟩|⟨_,e⟩<;>rw[e]<;>exact fun z=>nomatch z
theorem Own.CT(h:Own H a):H a≠some (.tup vs):=by
 rcases h with⟨_,e⟩|⟨_,e⟩|⟨_,e⟩<;>rw[e]<;>exact fun z=>nomatch z
theorem bX.ind{m1:D->V->List Addr->Prop}{m2:List D->List V->List Addr->Prop}(hs:∀ d v,(fl=true->d.flat=true)->Rep K Hs d v->m1 d v [])
  (hl:∀ a vs ds As,vs.length<=sizeLine->H a=some (.lst vs)->aD K Hs H fl ds vs As->m2 ds vs As->m1 (.list ds) (.ref a) (a :: As)) (ht:∀ a vs ds As,vs.length<=sizeLine->Hs a=some (.tup vs)->de ds=false->aD K Hs H fl ds vs As->m2 ds vs As->m1 (.tup ds) (.ref a) As)
  (hk:∀ a vs ae As,Qt ae->H a=some (.dK ((ae.map (·.1)).zip vs))->aD K Hs H fl (ae.map (·.2)) vs As->m2 (ae.map (·.2)) vs As->m1 (.dK ae) (.ref a) (a :: As)) (hT:∀ a vs ae As,Qu ae->H a=some (.dT ((ae.map (·.1)).zip vs))->aD K Hs H fl (ae.map (·.2)) vs As->m2 (ae.map (·.2)) vs As->m1 (.dT ae) (.ref a) (a :: As))
  (hn:m2 [] [] []) (hc:∀ d v ds vs As Bs,bX K Hs H fl d v As->aD K Hs H fl ds vs Bs->m1 d v As->m2 ds vs Bs->m2 (d :: ds) (v :: vs) (As++Bs)):(∀ {d v As},bX K Hs H fl d v As->m1 d v As)/\∀ {ds vs As},aD K Hs H fl ds vs As->m2 ds vs As :=
 ⟨fun r=>bX.rec (motive_1:=fun d v As _=>m1 d v As) (motive_2:=fun ds vs As _=>m2 ds vs As) (fun f r=>hs _ _ f r) (fun z s r ih=>hl _ _ _ _ z s r ih) (fun z s n r ih=>ht _ _ _ _ z s n r ih) (fun z s r ih=>hk _ _ _ _ z s r ih) (fun z s r ih=>hT _ _ _ _ z s r ih) hn (fun r s a b=>hc _ _ _ _ _ _ r s a b) r,
  fun r=>aD.rec (motive_1:=fun d v As _=>m1 d v As) (motive_2:=fun ds vs As _=>m2 ds vs As) (fun f r=>hs _ _ f r) (fun z s r ih=>hl _ _ _ _ z s r ih) (fun z s n r ih=>ht _ _ _ _ z s n r ih) (fun z s r ih=>hk _ _ _ _ z s r ih) (fun z s r ih=>hT _ _ _ _ z s r ih) hn (fun r s a b=>hc _ _ _ _ _ _ r s a b) r⟩
theorem yA{a:Addr}{p:Prop}(h:a∈([]:List Addr)):p:=absurd h Fc
theorem bX.Yu:(∀ {d:D} {v:V} {As:List Addr},bX K Hs H fl d v As->∀ a∈As,Own H a)/\∀ {ds:List D} {vs:List V} {As:List Addr},aD K Hs H fl ds vs As->∀ a∈As,Own H a :=
 bX.ind (m1:=fun _ _ As=>∀ a∈As,Own H a) (m2:=fun _ _ As=>∀ a∈As,Own H a) (fun _ _ _ _ a h=>yA h) (fun _ _ _ _ _ e _ ih a h=>(dv.mp h).elim (fun z=>z ▸ .inl ⟨_,e⟩) (ih a)) (fun _ _ _ _ _ _ _ _ ih=>ih)
  (fun _ _ _ _ _ e _ ih a h=>(dv.mp h).elim (fun z=>z ▸ .inr (.inl ⟨_,e⟩)) (ih a)) (fun _ _ _ _ _ e _ ih a h=>(dv.mp h).elim (fun z=>z ▸ .inr (.inr ⟨_,e⟩)) (ih a)) (fun a h=>yA h) fun _ _ _ _ _ _ _ _ i1 i2 a h=>(dA.mp h).elim (i1 a) (i2 a)
theorem bX.own(r:bX K Hs H fl d v As):∀ a∈As,Own H a:=bX.Yu.1 r
theorem aD.own(r:aD K Hs H fl ds vs As):∀ a∈As,Own H a:=bX.Yu.2 r
theorem bX.Hq(s:aI Hs aw):(∀ {d:D} {v:V} {As:List Addr},bX K Hs H fl d v As->(∀ a∈As,H' a=H a)->bX K aw H' fl d v As)/\∀ {ds:List D} {vs:List V} {As:List Addr},aD K Hs H fl ds vs As->(∀ a∈As,H' a=H a)->aD K aw H' fl ds vs As :=
 bX.ind (m1:=fun d v As=>(∀ a∈As,H' a=H a)->bX K aw H' fl d v As) (m2:=fun ds vs As=>(∀ a∈As,H' a=H a)->aD K aw H' fl ds vs As) (fun _ _ f r _=>.sh f (r.same s))
  (fun _ _ _ _ z e _ ih k=>.list z ((k _ dz).trans e) (ih fun a h=>k a (dn _ h))) (fun _ _ _ _ z e n _ ih k=>.tup z (s _ _ e) n (ih k)) (fun _ _ _ _ z e _ ih k=>.dK z ((k _ dz).trans e) (ih fun a h=>k a (dn _ h)))
  (fun _ _ _ _ z e _ ih k=>.dT z ((k _ dz).trans e) (ih fun a h=>k a (dn _ h))) (fun _=>.nil) fun _ _ _ _ _ _ _ _ i1 i2 k=>.cons (i1 fun a h=>k a (ki _ h)) (i2 fun a h=>k a (fE _ h))
theorem bX.fi(s:aI Hs aw)(r:bX K Hs H fl d v As)(k:∀ a∈As,H' a=H a):bX K aw H' fl d v As:=(bX.Hq s).1 r k
theorem aD.fi(s:aI Hs aw)(r:aD K Hs H fl ds vs As)(k:∀ a∈As,H' a=H a):aD K aw H' fl ds vs As:=(bX.Hq s).2 r k
theorem bX.grow(s:aI Hs aw)(t:aI H H')(r:bX K Hs H fl d v As):bX K aw H' fl d v As :=
 r.fi s fun a h=>by
  cases e:H a with
  |none=>exact absurd e (r.own a h).ne
  |some o=>exact t a o e
theorem aD.grow(s:aI Hs aw)(t:aI H H')(r:aD K Hs H fl ds vs As):aD K aw H' fl ds vs As :=
 r.fi s fun a h=>by
  cases e:H a with
  |none=>exact absurd e (r.own a h).ne
  |some o=>exact t a o e
theorem bX.rep2{G:Hp}(s:aI Hs G):(∀ {d:D} {v:V} {As:List Addr},bX K Hs H fl d v As->(∀ a∈As,G a=H a)->Rep K G d v)/\∀ {ds:List D} {vs:List V} {As:List Addr},aD K Hs H fl ds vs As->(∀ a∈As,G a=H a)->aT K G ds vs :=
 bX.ind (m1:=fun d v As=>(∀ a∈As,G a=H a)->Rep K G d v) (m2:=fun ds vs As=>(∀ a∈As,G a=H a)->aT K G ds vs) (fun _ _ _ r _=>r.same s)
  (fun _ _ _ _ z e _ ih k=>.list z (.inl (.inl ((k _ dz).trans e))) (ih fun a h=>k a (dn _ h))) (fun _ _ _ _ z e n _ ih k=>.tup z (s _ _ e) (ih k)) (fun _ _ _ _ z e _ ih k=>.dK z (.inl ((k _ dz).trans e)) (ih fun a h=>k a (dn _ h)))
  (fun _ _ _ _ z e _ ih k=>.dT z (.inl ((k _ dz).trans e)) (ih fun a h=>k a (dn _ h))) (fun _=>.nil) fun _ _ _ _ _ _ _ _ i1 i2 k=>.cons (i1 fun a h=>k a (ki _ h)) (i2 fun a h=>k a (fE _ h))
theorem bX.rep(s:aI Hs G)(r:bX K Hs H fl d v As)(k:∀ a∈As,G a=H a):Rep K G d v:=(bX.rep2 s).1 r k
theorem aD.reps(s:aI Hs G)(r:aD K Hs H fl ds vs As)(k:∀ a∈As,G a=H a):aT K G ds vs:=(bX.rep2 s).2 r k
theorem Rep.yR(t:∀ a vs,H a=some (.tup vs)->G a=some (.tup vs)):(∀ {d:D} {v:V},Rep K H d v->d.flat=true->Rep K G d v)/\∀ {ds:List D} {vs:List V},aT K H ds vs->de ds=true->aT K G ds vs :=
 Rep.ind (m1:=fun d v=>d.flat=true->Rep K G d v) (m2:=fun ds vs=>de ds=true->aT K G ds vs) (fun _=>.non) (fun b _=>.bl b) (fun i _=>.int i) (fun _ h _=>.str h) (fun _ _ _ _ _ _ _ f=>by simp[D.flat] at f) (fun _ _ _ z e _ ih f=>.tup z (t _ _ e) (ih (by simpa[D.flat] using f)))
  (fun _ _ _ _ _ _ _ f=>by simp[D.flat] at f) (fun _ _ _ _ _ _ _ f=>by simp[D.flat] at f) (fun _=>.nil) fun _ _ _ _ _ _ i1 i2 f=>by
   simp only[de,kG] at f
   exact .cons (i1 f.1) (i2 f.2)
theorem Rep.lz(t:∀ a vs,H a=some (.tup vs)->G a=some (.tup vs))(r:Rep K H d v)(f:d.flat=true):Rep K G d v:=(Rep.yR t).1 r f
theorem aT.lz(t:∀ a vs,H a=some (.tup vs)->G a=some (.tup vs))(r:aT K H ds vs)(f:de ds=true):aT K G ds vs:=(Rep.yR t).2 r f
theorem aT.owned(r:aT K Hs ds vs)(f:de ds=true):aD K Hs H fl ds vs [] :=
 aT.ind (m:=fun ds vs=>de ds=true->aD K Hs H fl ds vs []) (fun _=>.nil) (fun _ _ _ _ h _ ih f=>by
  simp only[de,kG] at f
  exact .cons (As:=[]) (.sh (fun _=>f.1) h) (ih f.2)) r f
theorem aT.Hc(r:aT K Hs ds vs):aD K Hs H false ds vs [] :=
 aT.ind (m:=fun ds vs=>aD K Hs H false ds vs []) .nil (fun _ _ _ _ h _ ih=>.cons (As:=[]) (.sh (fun z=>Bool.noConfusion z) h) ih) r
theorem bX.Yv:(∀ {d:D} {v:V} {As:List Addr},bX K Hs H fl d v As->bX K Hs H false d v As)/\∀ {ds:List D} {vs:List V} {As:List Addr},aD K Hs H fl ds vs As->aD K Hs H false ds vs As :=
 bX.ind (fun _ _ _ r=>.sh (fun z=>Bool.noConfusion z) r) (fun _ _ _ _ z e _ ih=>.list z e ih) (fun _ _ _ _ z e n _ ih=>.tup z e n ih) (fun _ _ _ _ z e _ ih=>.dK z e ih) (fun _ _ _ _ z e _ ih=>.dT z e ih) .nil fun _ _ _ _ _ _ _ _ a b=>.cons a b
theorem bX.Qw(r:bX K Hs H fl d v As):bX K Hs H false d v As:=bX.Yv.1 r
theorem aD.Qw(r:aD K Hs H fl ds vs As):aD K Hs H false ds vs As:=bX.Yv.2 r
theorem bX.DG(t:∀ a vs,Hs a=some (.tup vs)->G a=some (.tup vs)):(∀ {d:D} {v:V} {As:List Addr},bX K Hs H true d v As->bX K G H true d v As)/\∀ {ds:List D} {vs:List V} {As:List Addr},aD K Hs H true ds vs As->aD K G H true ds vs As :=
 bX.ind (fun _ _ f r=>.sh f (r.lz t (f rfl))) (fun _ _ _ _ z e _ ih=>.list z e ih) (fun _ _ _ _ z e n _ ih=>.tup z (t _ _ e) n ih) (fun _ _ _ _ z e _ ih=>.dK z e ih) (fun _ _ _ _ z e _ ih=>.dT z e ih) .nil fun _ _ _ _ _ _ _ _ a b=>.cons a b
theorem bX.leaves(t:∀ a vs,Hs a=some (.tup vs)->G a=some (.tup vs))(r:bX K Hs H true d v As):bX K G H true d v As:=(bX.DG t).1 r
theorem aD.ind{m:List D->List V->List Addr->Prop}(hn:m [] [] [])(hc:∀ d v ds vs As Bs,bX K Hs H fl d v As->aD K Hs H fl ds vs Bs->m ds vs Bs->m (d :: ds) (v :: vs) (As++Bs)):∀ {ds vs As},aD K Hs H fl ds vs As->m ds vs As :=
 fun r=>(bX.ind (m1:=fun _ _ _=>True) (m2:=m) (fun _ _ _ _=>trivial) (fun _ _ _ _ _ _ _ _=>trivial) (fun _ _ _ _ _ _ _ _ _=>trivial) (fun _ _ _ _ _ _ _ _=>trivial) (fun _ _ _ _ _ _ _ _=>trivial) hn fun d v ds vs As Bs r s _ b=>hc d v ds vs As Bs r s b).2 r
theorem aD.append(r:aD K Hs H fl ds vs As)(t:aD K Hs H fl es ws Bs):aD K Hs H fl (ds++es) (vs++ws) (As++Bs) :=
 aD.ind (m:=fun ds vs As=>aD K Hs H fl (ds++es) (vs++ws) (As++Bs)) t (fun _ _ _ _ _ _ h _ ih=>by
  rw[tT]
  exact .cons h ih) r
theorem aD.c(h:aD K Hs H fl (d :: ds) vs As):∃ u us A B,vs=u :: us/\As=A++B/\bX K Hs H fl d u A/\aD K Hs H fl ds us B:=by
 cases h with
 |cons r rs=>exact⟨_,_,_,_,rfl,rfl,r,rs⟩
theorem aD.length(r:aD K Hs H fl ds vs As):ds.length=vs.length :=
 aD.ind (m:=fun ds vs _=>ds.length=vs.length) rfl (fun _ _ _ _ _ _ _ _ ih=>by rw[pj,pj,ih]) r
end
inductive Sl where
 /-- shared;owned;owned and walked by a loop just now (at a) -/
 |sh (d:D)|ow (fl:Bool) (d:D)|lk (a:Addr) (fl:Bool) (d:D)
 /-- an exception,at a -/
 |xc (a:Addr)
abbrev Env:=List (Option Sl)
inductive SR(K:PySem.W.Frag)(Hs H:Hp):Env->St->List Addr->Prop
 |nil:SR K Hs H [] [] []
 |non {ρ:Env} {σ:St} {ai:List Addr} {o:Option V}:SR K Hs H ρ σ ai->SR K Hs H (none :: ρ) (o :: σ) ai
 |sh {ρ:Env} {σ:St} {ai:List Addr} {d:D} {v:V}:Rep K Hs d v->SR K Hs H ρ σ ai->SR K Hs H (some (.sh d) :: ρ) (some v :: σ) ai
 |xc {ρ:Env} {σ:St} {ai:List Addr} {a:Addr}:SR K Hs H ρ σ ai->SR K Hs H (some (.xc a) :: ρ) (some (.ref a) :: σ) ai
 |ow {ρ:Env} {σ:St} {ai As:List Addr} {fl:Bool} {d:D} {v:V}:As≠[]->bX K Hs H fl d v As->SR K Hs H ρ σ ai->SR K Hs H (some (.ow fl d) :: ρ) (some v :: σ) (As++ai)
 |lk {ρ:Env} {σ:St} {ai As:List Addr} {a:Addr} {fl:Bool} {d:D}:As≠[]->bX K Hs H fl d (.ref a) As->SR K Hs H ρ σ ai->SR K Hs H (some (.lk a fl d) :: ρ) (some (.ref a) :: σ) (As++ai)
structure Wf(Hs H:Hp):Prop where
 sub:aI Hs H
 iP:∀ a vs,H a=some (.tup vs)->Hs a=some (.tup vs)
structure dE(K:PySem.W.Frag)(Hs:Hp)(ρ:Env)(σ:St)(H:Hp)(ai:List Addr):Prop where
 sr:SR K Hs H ρ σ ai
 wf:Wf Hs H
 vk:ai.Nodup
 own:∀ a∈ai,Hs a=none
structure eA(Hs H aw H':Hp):Prop where
 all:aI H H'
 sh:aI Hs aw
 wf:Wf aw H'
 new:∀ a,aw a≠none->Hs a≠none\/H a=none
section
variable {K:PySem.W.Frag}{Hs H aw H' Yw Yx:Hp}
theorem eA.refl(w:Wf Hs H):eA Hs H Hs H:=⟨aI.refl _,aI.refl _,w,fun _ h=>.inl h⟩
theorem eA.trans(a:eA Hs H aw H')(b:eA aw H' Yw Yx):eA Hs H Yw Yx :=
 ⟨a.all.trans b.all,a.sh.trans b.sh,b.wf,fun c h=>by
  rcases b.new c h with h|h
  ·exact a.new c h
  ·exact .inr (a.all.free h)⟩
theorem eA.nE(g:eA Hs H aw H')(h:Hs a=none)(h':H a≠none):aw a=none:=by
 cases e:aw a with
 |none=>rfl
 |some o =>
  rcases g.new a (by rw[e];exact fun z=>nomatch z) with z|z
  ·exact absurd h z
  ·exact absurd z h'
theorem SR.own{ρ:Env}{σ:St}{ai:List Addr}(s:SR K Hs H ρ σ ai):∀ a∈ai,Own H a:=by
 induction s with
 |nil=>exact fun a h=>yA h
 |non _ ih=>exact ih
 |sh _ _ ih=>exact ih
 |xc _ ih=>exact ih
 |ow _ r _ ih=>exact fun a h=>(dA.mp h).elim (r.own a) (ih a)
 |lk _ r _ ih=>exact fun a h=>(dA.mp h).elim (r.own a) (ih a)
theorem SR.fi(s:aI Hs aw)(r:SR K Hs H ρ σ ai):(∀ a∈ai,H' a=H a)->SR K aw H' ρ σ ai:=by
 induction r with
 |nil=>exact fun _=>.nil
 |non _ ih=>exact fun k=>.non (ih k)
 |sh h _ ih=>exact fun k=>.sh (h.same s) (ih k)
 |xc _ ih=>exact fun k=>.xc (ih k)
 |ow ne h _ ih=>exact fun k=>.ow ne (h.fi s fun a m=>k a (ki _ m)) (ih fun a m=>k a (fE _ m))
 |lk ne h _ ih=>exact fun k=>.lk ne (h.fi s fun a m=>k a (ki _ m)) (ih fun a m=>k a (fE _ m))
theorem dE.grow(r:dE K Hs ρ σ H ai)(g:eA Hs H aw H'):dE K aw ρ σ H' ai :=
 ⟨r.sr.fi g.sh fun a h=>by
  cases e:H a with
  |none=>exact absurd e (r.sr.own a h).ne
  |some o=>exact g.all a o e,g.wf,r.vk,fun a h=>g.nE (r.own a h) (r.sr.own a h).ne⟩
theorem SR.length(s:SR K Hs H ρ σ ai):ρ.length=σ.length:=by
 induction s with
 |nil=>rfl
 |non _ ih=>exact congrArg (· + 1) ih
 |sh _ _ ih=>exact congrArg (· + 1) ih
 |xc _ ih=>exact congrArg (· + 1) ih
 |ow _ _ _ ih=>exact congrArg (· + 1) ih
 |lk _ _ _ ih=>exact congrArg (· + 1) ih
def BK(K:PySem.W.Frag)(Hs H:Hp)(ai:List Addr)(sl:Sl)(v:V):Prop:=match sl with
 |.sh d=>Rep K Hs d v
 |.ow fl d=>∃ As,As≠[]/\bX K Hs H fl d v As/\∀ a∈As,a∈ai
 |.lk a fl d=>∃ As,As≠[]/\bX K Hs H fl d v As/\v=.ref a/\∀ a∈As,a∈ai
 |.xc a=>v=.ref a
theorem BK.mono(h:BK K Hs H ai sl v)(m:∀ a∈ai,a∈cv):BK K Hs H cv sl v:=by
 cases sl with
 |sh d=>exact h
 |xc a=>exact h
 |ow fl d =>
  obtain⟨As,ne,r,q⟩:=h
  exact⟨As,ne,r,fun a ha=>m a (q a ha)⟩
 |lk a fl d =>
  obtain⟨As,ne,r,e,q⟩:=h
  exact⟨As,ne,r,e,fun a ha=>m a (q a ha)⟩
theorem SR.get{ρ:Env}{σ:St}{ai:List Addr}{i:Nat}{sl:Sl}(s:SR K Hs H ρ σ ai)(e:ρ[i]? = some (some sl)):∃ v,σ[i]? = some (some v)/\BK K Hs H ai sl v:=by
 induction s generalizing i with
 |nil=>simp at e
 |non s ih =>
  cases i with
  |zero=>simp at e
  |succ i=>exact ih e
 |sh r s ih =>
  cases i with
  |zero=>simp at e;subst e;exact⟨_,rfl,r⟩
  |succ i=>exact ih e
 |xc s ih =>
  cases i with
  |zero=>simp at e;subst e;exact⟨_,rfl,rfl⟩
  |succ i=>exact ih e
 |ow ne r s ih =>
  cases i with
  |zero=>simp at e;subst e;exact⟨_,rfl,_,ne,r,fun a m=>ki _ m⟩
  |succ i =>
   obtain⟨v,e1,h⟩:=ih e
   exact⟨v,e1,h.mono fun a m=>fE _ m⟩
 |lk ne r s ih =>
  cases i with
  |zero=>simp at e;subst e;exact⟨_,rfl,_,ne,r,rfl,fun a m=>ki _ m⟩
  |succ i =>
   obtain⟨v,e1,h⟩:=ih e
   exact⟨v,e1,h.mono fun a m=>fE _ m⟩
end
inductive Md where
 |sh|ow (fl:Bool)|bo
def RM(K:PySem.W.Frag)(Hs H:Hp):Md->D->V->List Addr->Prop
 |.sh,d,v,As=>As=[]/\Rep K Hs d v
 |.ow fl,d,v,As=>bX K Hs H fl d v As/\As≠[]
 |.bo,d,v,As=>As=[]/\Rep K H d v
inductive w9(K:PySem.W.Frag)(Hs H:Hp):List (Md × D)->List V->List Addr->Prop
 |nil:w9 K Hs H [] [] []
 |cons {m:Md} {d:D} {v:V} {ps:List (Md × D)} {vs:List V} {As Bs:List Addr}:RM K Hs H m d v As->w9 K Hs H ps vs Bs->w9 K Hs H ((m,d) :: ps) (v :: vs) (As++Bs)
section
variable {K:PySem.W.Frag}{Hs H aw H':Hp}
theorem RM.own{m:Md}{d:D}{v:V}{As:List Addr}(r:RM K Hs H m d v As):∀ a∈As,Own H a:=by
 cases m with
 |sh=>obtain⟨rfl,_⟩:=r;exact fun a h=>yA h
 |ow fl=>exact bX.own r.1
 |bo=>obtain⟨rfl,_⟩:=r;exact fun a h=>yA h
theorem RM.grow(r:RM K Hs H m d v As)(g:eA Hs H aw H'):RM K aw H' m d v As:=by
 cases m with
 |sh=>exact⟨r.1,r.2.same g.sh⟩
 |ow fl=>exact⟨bX.grow g.sh g.all r.1,r.2⟩
 |bo=>exact⟨r.1,r.2.same g.all⟩
theorem RM.rep(w:Wf Hs H)(r:RM K Hs H m d v As):Rep K H d v:=by
 cases m with
 |sh=>exact r.2.same w.sub
 |ow fl=>exact bX.rep w.sub r.1 fun _ _=>rfl
 |bo=>exact r.2
theorem RM.flat(w:Wf Hs H)(r:RM K Hs H m d v As)(f:d.flat=true):Rep K Hs d v:=(r.rep w).lz w.iP f
theorem w9.reps(w:Wf Hs H){ps:List (Md × D)}(r:w9 K Hs H ps vs As):aT K H (ps.map (·.2)) vs:=by
 induction r with
 |nil=>exact .nil
 |cons r _ ih=>exact .cons (r.rep w) ih
end
abbrev WE:=Env->(Md->D->Prop)->Prop
abbrev WT:=Env->(Bool->Prop)->Prop
abbrev WA:=Env->(List (Md × D)->Prop)->Prop
structure nJ where
 nx:Env->Prop
 rt:Md->D->Prop
 bk:Env->Prop:=fun _=>False
 ct:Env->Prop:=fun _=>False
abbrev WS:=nJ->Env->Prop
def cT(aw H:Hp)(As:List Addr):Prop:=As.Nodup/\∀ a∈As,aw a=none/\H a=none
def mB(K:PySem.W.Frag)(t:WE):TE:=fun σ H Qv=>∃ Hs ρ ai Q,dE K Hs ρ σ H ai/\t ρ Q /\
 ∀ v H' aw m d As,eA Hs H aw H'->RM K aw H' m d v As->cT aw H As->Q m d->Qv v H'
def B6(K:PySem.W.Frag)(t:WT):TT:=fun σ H Qv=>∃ Hs ρ ai Q,dE K Hs ρ σ H ai/\t ρ Q/\∀ b H' aw,eA Hs H aw H'->Q b->Qv b H'
def Qx(K:PySem.W.Frag)(t:WA):TA:=fun σ H Qv=>∃ Hs ρ ai Q,dE K Hs ρ σ H ai/\t ρ Q /\
 ∀ vs H' aw ps As,eA Hs H aw H'->w9 K aw H' ps vs As->cT aw H As->Q ps->Qv vs H'
def w_(K:PySem.W.Frag)(L:Str->Hp->Prop)(t:WS):TS:=fun D σ H=>∃ Hs ρ ai E,dE K Hs ρ σ H ai/\t E ρ /\
 (∀ bE H' aw cw cv,aI Hs aw->dE K aw cw bE H' cv->E.nx cw->D.nx bE H') /\
 (∀ bE H' aw cw cv,aI Hs aw->dE K aw cw bE H' cv->E.bk cw->D.bk bE H') /\
 (∀ bE H' aw cw cv,aI Hs aw->dE K aw cw bE H' cv->E.ct cw->D.ct bE H') /\
 (∀ v H' aw m d As,aI Hs aw->Wf aw H'->RM K aw H' m d v As->As.Nodup->(∀ a∈As,aw a=none)->E.rt m d->D.rt v H') /\
 ∀ n H',aI Hs H'->E.rt (.ow false) (.str n)->L n H'
theorem iU{K:PySem.W.Frag}{L:Str->Hp->Prop}{t:WS}{D:Ends}{σ:St}{H:Hp}{G:Prop}(x:w_ K L t D σ H)(k:∀ Hs ρ ai E,dE K Hs ρ σ H ai->t E ρ ->
 (∀ bE H' aw cw cv,aI Hs aw->dE K aw cw bE H' cv->E.nx cw->D.nx bE H') ->
 (∀ bE H' aw cw cv,aI Hs aw->dE K aw cw bE H' cv->E.bk cw->D.bk bE H') ->
 (∀ bE H' aw cw cv,aI Hs aw->dE K aw cw bE H' cv->E.ct cw->D.ct bE H') ->
 (∀ v H' aw m d As,aI Hs aw->Wf aw H'->RM K aw H' m d v As->As.Nodup->(∀ a∈As,aw a=none)->E.rt m d->D.rt v H') ->
 (∀ n H',aI Hs H'->E.rt (.ow false) (.str n)->L n H')->G):G :=
 by
 obtain⟨Hs,ρ,ai,E,sr,h,k1,k2,k3,k4,kx⟩:=x
 exact k Hs ρ ai E sr h k1 k2 k3 k4 kx
theorem g8{K:PySem.W.Frag}{L:Str->Hp->Prop}{t:WS}{D:Ends}{σ:St}{H:Hp}{G:Prop}(x:w_ K L t D σ H)(k:∀ Hs ρ ai E,dE K Hs ρ σ H ai->t E ρ ->
 (∀ bE H' aw cw cv,aI Hs aw->dE K aw cw bE H' cv->E.nx cw->D.nx bE H') ->
 (∀ bE H' aw cw cv,aI Hs aw->dE K aw cw bE H' cv->E.bk cw->D.bk bE H') ->
 (∀ bE H' aw cw cv,aI Hs aw->dE K aw cw bE H' cv->E.ct cw->D.ct bE H') ->
 (∀ v H' aw m d As,aI Hs aw->Wf aw H'->RM K aw H' m d v As->As.Nodup->(∀ a∈As,aw a=none)->E.rt m d->D.rt v H')->G):G :=
 iU x fun Hs ρ ai E sr h k1 k2 k3 k4 _=>k Hs ρ ai E sr h k1 k2 k3 k4
theorem kC{α β γ δ:Type _}{A B C:α->β->γ->δ->Prop}{G:Prop}(x:∃ a b c d,A a b c d/\B a b c d/\C a b c d)(k:∀ a b c d,A a b c d->B a b c d->C a b c d->G):G :=
 by
 obtain⟨a,b,c,d,p,q,r⟩:=x
 exact k a b c d p q r
abbrev QE(X:Cx)(K:PySem.W.Frag)(e:Expr)(t:WE):Prop:=PE X e (mB K t)
abbrev QT(X:Cx)(K:PySem.W.Frag)(e:Expr)(t:WT):Prop:=PT X e (B6 K t)
abbrev QW(X:Cx)(K:PySem.W.Frag)(e:Expr)(t:WT):Prop:=PW X e (B6 K t)
abbrev QA(X:Cx)(K:PySem.W.Frag)(es:List Expr)(t:WA):Prop:=PA X es (Qx K t)
abbrev QS(X:Cx)(K:PySem.W.Frag)(L:Str->Hp->Prop)(st:Stmt)(t:WS):Prop:=PS X st (w_ K L t)
abbrev oj(X:Cx)(K:PySem.W.Frag)(L:Str->Hp->Prop)(st:List Stmt)(t:WS):Prop:=oa X st (w_ K L t)
abbrev L0:Str->Hp->Prop:=fun _ _=>True
end L2.Q
namespace L2.Q
open PySem PySem.Spec PyProof.Rows
structure Kt{α:Type}(f:α->Prop):Type where
def bT{α:Type}(a:α){f:α->Prop}(_:Kt f):Prop:=f a
mutual
def D.py:D->PyData
 |.non=>.none
 |.bl b=>.bool b
 |.int i=>.int i
 |.str x=>.str x
 |.list xs=>.list (sv xs)
 |.tup xs=>.tuple (sv xs)
 |.dK _=>.none
 |.dT _=>.none
def sv:List D->List PyData
 |[]=>[]
 |x :: xs=>x.py :: sv xs
end
def cE:Nat->D->Bool
 |_,.non=>true
 |_,.bl _=>true
 |_,.int _=>true
 |_,.str x=>PyData.strOk x
 |n+1,.list xs=>xs.all (cE n)
 |n+1,.tup xs=>xs.all (cE n)
 |_,_=>false
def kK(x y:D):Bool:=PyData.eqv x.py y.py
def D.ty:D->String
 |.non => "NoneType"
 |.bl _ => "bool"
 |.int _ => "int"
 |.str _ => "str"
 |.list _ => "list"
 |.tup _ => "tuple"
 |.dK _ => "dict"
 |.dT _ => "dict"
def D.key1:D->Option Key
 |.int i=>some (.inl i)
 |.str x=>some (.inr x)
 |_=>none
def gC:List D->Option (List Key)
 |[]=>some []
 |x :: xs=>match x.key1,gC xs with
  |some k,some ks=>some (k :: ks)
  |_,_=>none
section
variable {κ:Type}[DecidableEq κ]{β:Type}
def fq(ae:List (κ × β))(k:κ):Option β:=(ae.find? fun kv=>decide (kv.1=k)).map (·.2)
def mE(ae:List (κ × β))(k:κ)(v:β):List (κ × β) :=
 if (ae.any fun kv=>decide (kv.1=k))=true then ae.map (fun kv=>if kv.1=k then (kv.1,v) else kv) else ae++[(k,v)]
end
theorem Rep.MD{K:PySem.W.Frag}:(∀ {d:D} {v:V},Rep K H d v->∀ n,cE n d=true->L2.Rep K H d.py v)/\∀ {ds:List D} {vs:List V},aT K H ds vs->∀ n,(∀ d∈ds,cE n d=true)->L2.aT K H (sv ds) vs :=
 Rep.ind (m1:=fun d v=>∀ n,cE n d=true->L2.Rep K H d.py v) (m2:=fun ds vs=>∀ n,(∀ d∈ds,cE n d=true)->L2.aT K H (sv ds) vs) (fun _ _=>.none) (fun b _ _=>.bool b) (fun i _ _=>.int i) (fun _ _ _ _=>.str _)
  (fun _ _ _ _ h _ ih n o=>by
   cases n with
   |zero=>simp[cE] at o
   |succ n=>exact .list h (ih n (by simpa[cE] using o)))
  (fun _ _ _ _ h _ ih n o=>by
   cases n with
   |zero=>simp[cE] at o
   |succ n=>exact .tuple (.inl (.inl h)) (ih n (by simpa[cE] using o)))
  (fun _ _ _ _ _ _ _ n o=>by cases n<;>simp[cE] at o) (fun _ _ _ _ _ _ _ n o=>by cases n<;>simp[cE] at o) (fun _ _=>.nil)
  fun _ _ _ _ _ _ i1 i2 n o=>.cons (i1 n (o _ dz)) (i2 n fun d m=>o d (dn _ m))
theorem Rep.l2{K:PySem.W.Frag}(r:Rep K H d v)(o:cE n d=true):L2.Rep K H d.py v:=Rep.MD.1 r n o
theorem yX(ih:∀ d,cE n d=true->d.py.canLay0=true/\d.py.depth<=n)(xs:List D)(h:∀ x∈xs,cE n x=true):PyData.canLayAll0 (sv xs)=true/\PyData.depthAll (sv xs)<=n:=by
 induction xs with
 |nil=>exact⟨rfl,eu _⟩
 |cons x xs Tw =>
  have h1:=ih x (h x dz)
  have h2:=Tw fun y hy=>h y (dn _ hy)
  simp only[sv,PyData.canLayAll0,PyData.depthAll,h1.1,h2.1,Bool.and_self,true_and]
  lia
theorem vm(n:Nat):∀ (d:D),cE n d=true->d.py.canLay0=true/\d.py.depth<=n:=by
 have st:∀ (n:Nat) (x:Str),cE n (.str x)=true->(D.str x).py.canLay0=true/\(D.str x).py.depth<=n:=fun n x h=>by
  have h:PyData.strOk x=true:=by cases n<;>simpa[cE] using h
  exact⟨by simpa[D.py,PyData.canLay0] using h,eu _⟩
 induction n with
 |zero =>
  intro d h
  cases d with
  |str x=>exact st _ x h
  |non=>exact⟨rfl,eu _⟩
  |bl _=>exact⟨rfl,eu _⟩
  |int _=>exact⟨rfl,eu _⟩
  |_=>simp[cE] at h
 |succ n ih =>
  intro d h
  cases d with
  |str x=>exact st _ x h
  |non=>exact⟨rfl,eu _⟩
  |bl _=>exact⟨rfl,eu _⟩
  |int _=>exact⟨rfl,eu _⟩
  |list xs =>
   have h:∀ x∈xs,cE n x=true:=by simpa[cE] using h
   have:=yX ih xs h
   simp only[D.py,PyData.canLay0,PyData.depth]
   exact⟨this.1,by lia⟩
  |tup xs =>
   have h:∀ x∈xs,cE n x=true:=by simpa[cE] using h
   have:=yX ih xs h
   simp only[D.py,PyData.canLay0,PyData.depth]
   exact⟨this.1,by lia⟩
  |dK _=>simp[cE] at h
  |dT _=>simp[cE] at h
mutual
def D.nb:D->Bool
 |.bl _=>false
 |.list xs=>qh xs
 |.tup xs=>qh xs
 |.dK _=>false
 |.dT _=>false
 |_=>true
def qh:List D->Bool
 |[]=>true
 |x :: xs=>x.nb && qh xs
end
mutual
theorem lV:∀ (x y:D),x.nb=true->y.nb=true->(kK x y=true↔x=y)
 |.non,y,_,hy=>by cases y<;>simp_all [kK,D.py,PyData.eqv,D.nb]
 |.bl _,y,hx,_=>by simp[D.nb] at hx
 |.int i,y,_,hy=>by cases y<;>simp_all [kK,D.py,PyData.eqv,D.nb]
 |.str i,y,_,hy=>by cases y<;>simp_all [kK,D.py,PyData.eqv,D.nb]
 |.dK _,y,hx,_=>by simp[D.nb] at hx
 |.dT _,y,hx,_=>by simp[D.nb] at hx
 |.list xs,y,hx,hy=>by
  cases y with
  |list ys =>
   have:=qH xs ys (by simpa[D.nb] using hx) (by simpa[D.nb] using hy)
   simp only[kK,D.py,PyData.eqv,D.list.injEq]
   exact this
  |_=>simp_all [kK,D.py,PyData.eqv,D.nb]
 |.tup xs,y,hx,hy=>by
  cases y with
  |tup ys =>
   have:=qH xs ys (by simpa[D.nb] using hx) (by simpa[D.nb] using hy)
   simp only[kK,D.py,PyData.eqv,D.tup.injEq]
   exact this
  |_=>simp_all [kK,D.py,PyData.eqv,D.nb]
theorem qH:∀ (xs ys:List D),qh xs=true->qh ys=true->(PyData.eqvAll (sv xs) (sv ys)=true↔xs=ys)
 |[],[],_,_=>by simp[sv,PyData.eqvAll]
 |[],_ :: _,_,_=>by simp[sv,PyData.eqvAll]
 |_ :: _,[],_,_=>by simp[sv,PyData.eqvAll]
 |x :: xs,y :: ys,hx,hy=>by
  simp only[qh,kG] at hx hy
  have h1:=lV x y hx.1 hy.1
  have h2:=qH xs ys hx.2 hy.2
  simp only[sv,PyData.eqvAll,kG,List.cons.injEq]
  exact and_congr h1 h2
end
section
variable {K:PySem.W.Frag}{H:Hp}
theorem Rep.key(r:Rep K H d v)(h:d.key1=some k):v=kV k:=by
 cases r<;>simp[D.key1] at h<;>subst h<;>rfl
theorem aT.keys(r:aT K H ds vs)(h:gC ds=some ks):vs=ks.map kV:=by
 induction ds generalizing vs ks with
 |nil=>simp[gC] at h;subst h;exact r.n0
 |cons d ds ih =>
  obtain⟨u,us,rfl,r,rs⟩:=r.c
  unfold gC at h
  cases e1:d.key1 with
  |none=>rw[e1] at h;simp at h
  |some k =>
   cases e2:gC ds with
   |none=>rw[e1,e2] at h;simp at h
   |some da =>
    rw[e1,e2] at h
    simp at h
    subst h
    rw[fP,r.key e1,ih rs e2]
theorem Rep.i5(r:Rep K H (.tup ds) v)(h:gC ds=some ks):∃ b,v=.ref b/\H b=some (.tup (ks.map kV)):=by
 cases r with
 |tup _ e rs=>exact⟨_,rfl,by rw[e,rs.keys h]⟩
end
section
variable {κ:Type}[DecidableEq κ]{K:PySem.W.Frag}{H:Hp}
theorem zip_get{k:κ}{ae:List (κ × D)}{vs:List V}(h:aT K H (ae.map (·.2)) vs):match fq ae k with
  |some d=>∃ v,ky ((ae.map (·.1)).zip vs) k=some v/\Rep K H d v
  |none=>ky ((ae.map (·.1)).zip vs) k=none:=by
 induction ae generalizing vs with
 |nil=>rfl
 |cons p ae ih =>
  obtain⟨u,us,rfl,r,rs⟩:=aT.c (d:=p.2) h
  by_cases e:p.1=k
  ·have e1:fq (p :: ae) k=some p.2:=by simp[fq,e]
   rw[e1]
   exact⟨_,by simp only[fP,E8];exact P9 e,r⟩
  ·have e1:fq (p :: ae) k=fq ae k:=by simp[fq,e]
   rw[e1]
   have:=ih rs
   simp only[fP,E8,P_ (p:=(p.1,_)) e]
   exact this
theorem Eu{k:κ}{ae:List (κ × D)}{vs:List V}(h:ae.length=vs.length):((ae.map (·.1)).zip vs).any (fun kv=>decide (kv.1=k))=ae.any fun kv=>decide (kv.1=k):=by
 induction ae generalizing vs with
 |nil=>rfl
 |cons p ae ih =>
  cases vs with
  |nil=>simp at h
  |cons v vs =>
   simp only[fP,E8,zD]
   rw[ih (vs:=vs) (by simpa using h)]
end
section
variable {K:PySem.W.Frag}{Hs H:Hp}
theorem Qy(w:Wf Hs H)(hp:H p=none)(ho:∀ vs,o≠.tup vs):eA Hs H Hs (upd H p o) :=
 ⟨(aI.refl H).upd hp,aI.refl _,⟨w.sub.upd hp,fun a vs e=>by
  by_cases h:a=p
  ·subst h;rw[kf] at e;exact absurd (Option.some.inj e) (ho vs)
  ·rw[g7 h] at e;exact w.iP a vs e⟩,fun _ h=>.inl h⟩
theorem Tx(w:Wf Hs H)(hp:H p=none):eA Hs H (upd Hs p (.tup vs)) (upd H p (.tup vs)) :=
 ⟨(aI.refl H).upd hp,(aI.refl Hs).upd (w.sub.free hp),⟨fun a o e=>by
  by_cases h:a=p
  ·subst h;rw[kf] at e ⊢;exact e
  ·rw[g7 h] at e ⊢;exact w.sub a o e,fun a vs e=>by
  by_cases h:a=p
  ·subst h;rw[kf] at e ⊢;exact e
  ·rw[g7 h] at e ⊢;exact w.iP a vs e⟩,fun a h=>by
  by_cases e:a=p
  ·subst e;exact .inr hp
  ·rw[g7 e] at h;exact .inl h⟩
theorem cT.nil:cT Hs H []:=⟨mP,fun a h=>nomatch h⟩
theorem cT.of(s:aI H H')(f:cT Hs H' As):cT Hs H As:=⟨f.1,fun a h=>⟨(f.2 a h).1,s.free (f.2 a h).2⟩⟩
abbrev Fin(K:PySem.W.Frag)(Hs H:Hp)(Qd:Md->D->Prop)(Qv:VK):Prop:=∀ v H' aw m d As,eA Hs H aw H'->RM K aw H' m d v As->cT aw H As->Qd m d->Qv v H'
theorem Fin.after(f:Fin K Hs H Qd Qv)(g:eA Hs H aw H'):Fin K aw H' Qd Qv:=fun v H2 aE m d As g2 r fr q=>f v H2 aE m d As (g.trans g2) r (fr.of g.all) q
theorem Fin.sh(f:Fin K Hs H Qd Qv)(w:Wf Hs H)(r:Rep K Hs d v)(q:Qd .sh d):Qv v H:=f v H Hs .sh d [] (eA.refl w) ⟨rfl,r⟩ cT.nil q
theorem Fin.flat(f:Fin K Hs H Qd Qv)(w:Wf Hs H)(r:Rep K H d v)(hf:d.flat=true)(q:Qd .sh d):Qv v H:=f.sh w (r.lz w.iP hf) q
theorem Fin.bo(f:Fin K Hs H Qd Qv)(w:Wf Hs H)(r:Rep K H d v)(q:Qd .bo d):Qv v H:=f v H Hs .bo d [] (eA.refl w) ⟨rfl,r⟩ cT.nil q
def kL(m:Md)(d:D):Md:=match m with
 |.sh=>.sh
 |_=>bif d.flat then .sh else .bo
theorem Fin.kL(f:Fin K Hs H Qd Qv)(w:Wf Hs H)(r:Rep K H d v)(rs:m=.sh->Rep K Hs d v)(q:Qd (kL m d) d):Qv v H:=by
 cases m with
 |sh=>exact f.sh w (rs rfl) q
 |ow fl =>
  cases hf:d.flat with
  |true=>exact f.flat w r hf (by simpa[Q.kL,hf] using q)
  |false=>exact f.bo w r (by simpa[Q.kL,hf] using q)
 |bo =>
  cases hf:d.flat with
  |true=>exact f.flat w r hf (by simpa[Q.kL,hf] using q)
  |false=>exact f.bo w r (by simpa[Q.kL,hf] using q)
theorem Fin.lst(f:Fin K Hs H Qd Qv)(w:Wf Hs H)(hz:ds.length<=sizeLine)(r:aT K H ds vs)(hf:de ds=true)(q:Qd (.ow true) (.list ds)):∀ p,H p=none->Qv (.ref p) (upd H p (.lst vs)):=fun p hp =>
 f _ _ Hs (.ow true) (.list ds) [p] (Qy w hp fun _ z=>nomatch z) ⟨.list (by rw[<- r.length];exact hz) kf ((r.lz w.iP hf).owned hf),by simp⟩ ⟨by simp,fun a h=>by
  obtain rfl:a=p:=by simpa using h
  exact⟨w.sub.free hp,hp⟩⟩ q
theorem Fin.Qz(f:Fin K Hs H Qd Qv)(w:Wf Hs H)(hz:ds.length<=sizeLine)(r:aT K Hs ds vs)(q:Qd (.ow false) (.list ds)):∀ p,H p=none->Qv (.ref p) (upd H p (.lst vs)):=fun p hp =>
 f _ _ Hs (.ow false) (.list ds) [p] (Qy w hp fun _ z=>nomatch z) ⟨.list (by rw[<- r.length];exact hz) kf r.Hc,by simp⟩ ⟨by simp,fun a h=>by
  obtain rfl:a=p:=by simpa using h
  exact⟨w.sub.free hp,hp⟩⟩ q
theorem Fin.tup(f:Fin K Hs H Qd Qv)(w:Wf Hs H)(hz:ds.length<=sizeLine)(r:aT K H ds vs)(hf:de ds=true)(q:Qd .sh (.tup ds)):∀ p,H p=none->Qv (.ref p) (upd H p (.tup vs)):=fun p hp =>
 f _ _ (upd Hs p (.tup vs)) .sh (.tup ds) [] (Tx w hp) ⟨rfl,.tup (by rw[<- r.length];exact hz) kf ((r.lz w.iP hf).same ((aI.refl Hs).upd (w.sub.free hp)))⟩ cT.nil q
end
section
variable {X:Cx}{K:PySem.W.Frag}
theorem PE.imp(h:PE X e te)(i:∀ σ H Q,ti σ H Q->te σ H Q):PE X e ti:=fun pins s σ H Q I q=>h pins s σ H Q I (i σ H Q q)
theorem PT.imp(h:PT X e te)(i:∀ σ H Q,ti σ H Q->te σ H Q):PT X e ti:=fun pins s σ H Q I q=>h pins s σ H Q I (i σ H Q q)
theorem PW.imp(h:PW X e te)(i:∀ σ H Q,ti σ H Q->te σ H Q):PW X e ti:=fun wh pins s σ H Q I q=>h wh pins s σ H Q I (i σ H Q q)
theorem PA.imp(h:PA X e te)(i:∀ σ H Q,ti σ H Q->te σ H Q):PA X e ti:=fun p pins s σ H Q I q=>h p pins s σ H Q I (i σ H Q q)
def MG:Option (Option Sl)->(Md->D->Prop)->Prop
 |some (some (.sh d)),Q=>Q .sh d
 |some (some (.ow _ d)),Q=>Q .bo d
 |some (some (.lk _ _ d)),Q=>Q .bo d
 |_,_=>False
def ag(i:Nat):WE:=fun ρ Q=>MG ρ[i]? Q
theorem Jw(h:PE X e (FP i)):QE X K e (ag i):=by
 refine PE.imp h fun σ H Qv hx=>kC hx fun Hs ρ ai Q sr h f=>?_
 unfold ag at h
 cases e:ρ[i]? with
 |none=>rw[e] at h;exact h.elim
 |some o =>
  cases o with
  |none=>rw[e] at h;exact h.elim
  |some sl =>
   obtain⟨v,e1,r⟩:=sr.sr.get e
   rw[e] at h
   cases sl with
   |sh d=>exact⟨v,e1,Fin.sh f sr.wf r h⟩
   |xc a=>exact h.elim
   |ow fl d =>
    obtain⟨As,_,r,_⟩:=r
    exact⟨v,e1,Fin.bo f sr.wf (r.rep sr.wf.sub fun _ _=>rfl) h⟩
   |lk a fl d =>
    obtain⟨As,_,r,_⟩:=r
    exact⟨v,e1,Fin.bo f sr.wf (r.rep sr.wf.sub fun _ _=>rfl) h⟩
theorem qv (i:Nat) (hN:X.N[i]? = some x:=by rfl) (hv:Pz X.env.scope x:=by first|exact Or.inl rfl|exact Or.inr (Or.inl rfl)|exact Or.inr (Or.inr rfl)) (hd:(x == ("__debug__" : Str))=false:=by decide)
  (oy:(x == ("__classdict__" : Str))=false:=by decide):QE X K (.Name x pos) (ag i):=Jw (Wl hN hv hd oy)
def wC(d:D):WE:=fun _ Q=>Q .sh d
theorem xH(h:PE X e (tC v))(r:∀ H,Rep K H d v):QE X K e (wC d) :=
 PE.imp h fun σ H Qv hx=>kC hx fun Hs ρ ai Q sr h f=>Fin.sh f sr.wf (r _) h
theorem aq{i j pos}:QE X K (.Constant (.int i) j pos) (wC (.int i)):=xH ai' fun _=>.int i
theorem dq{i j pos}(h:i.length<=sizeLine:=by decide):QE X K (.Constant (.str i) j pos) (wC (.str i)):=xH al' fun _=>.str h
theorem EE{i j pos}:QE X K (.Constant (.bool i) j pos) (wC (.bl i)):=xH aj' fun _=>.bl i
theorem Kl{j pos}:QE X K (.Constant .none j pos) (wC .non):=xH ak' fun _=>.non
theorem Yy (h:Qm X.mg x z) (hg:Gl X x:=by rfl) (hd:(x == ("__debug__" : Str))=false:=by decide) (hz:z.length<=sizeLine:=by decide):QE X K (.Name x pos) (wC (.str z)):=xH (Jq h hg hd) fun _=>.str hz
theorem QB (h:GN X.mg x i) (hg:Gl X x:=by rfl) (hd:(x == ("__debug__" : Str))=false:=by decide):QE X K (.Name x pos) (wC (.int i)):=xH (JD h hg hd) fun _=>.int i
abbrev W2:=Md->D->Md->D->(Md->D->Prop)->Prop
abbrev W1:=Md->D->(Md->D->Prop)->Prop
def kM(K:PySem.W.Frag)(r:R2)(f:W2):Prop:=∀ Hs H m x v As n y u Bs Qd Qv,Wf Hs H->RM K Hs H m x v As->RM K Hs H n y u Bs->f m x n y Qd->Fin K Hs H Qd Qv->r v u H Qv
def ML(K:PySem.W.Frag)(r:V->Hp->VK->Prop)(f:W1):Prop:=∀ Hs H m x v As Qd Qv,Wf Hs H->RM K Hs H m x v As->f m x Qd->Fin K Hs H Qd Qv->r v H Qv
def av(f:W2)(ta tb:WE):WE:=fun ρ Q=>ta ρ fun m x=>tb ρ fun n y=>f m x n y Q
def eW(f:W1)(ta:WE):WE:=fun ρ Q=>ta ρ fun m x=>f m x Q
variable {a b:Expr}{ta tb tc:WE}{pos:Pos}
theorem nq(br:kM K r f)(σ:St)(H:Hp)(Qv:VK)(h:mB K (av f ta tb) σ H Qv):Lv r (mB K ta) (mB K tb) σ H Qv:=by
 obtain⟨Hs,ρ,ai,Q,sr,h,fin⟩:=h
 refine⟨Hs,ρ,ai,_,sr,h,fun v H1 ay m x As g1 r1 f1 q1=>⟨ay,ρ,ai,_,sr.grow g1,q1,fun u H2 aE n y Bs g2 r2 f2 q2=>?_⟩⟩
 exact br aE H2 m x v As n y u Bs Q Qv g2.wf (r1.grow g2) r2 q2 (Fin.after fin (g1.trans g2))
theorem MQ(ho:dr X (binaryOp op) r)(br:kM K r f)(ha:QE X K a ta)(hb:QE X K b tb):QE X K (.BinOp a op b pos) (av f ta tb):=PE.imp (aY' ho ha hb) (nq br)
theorem ef'(ho:PR X (unaryOp op) r)(br:ML K r f)(ha:QE X K a ta):QE X K (.UnaryOp op a pos) (eW f ta):=by
 refine PE.imp (aZ' ho ha) fun σ H Qv hx=>kC hx fun Hs ρ ai Q sr h fin=>?_
 exact⟨Hs,ρ,ai,_,sr,h,fun v H1 ay m x As g1 r1 f1 q1=>br ay H1 m x v As Q Qv g1.wf r1 q1 (Fin.after fin g1)⟩
theorem Bl(ho:dr X (compareOp op) r)(br:kM K r f)(ha:QE X K a ta)(hb:QE X K b tb)(hm:behindInMarks op b=false):QE X K (.Compare a [op] [b] pos) (av f ta tb):=PE.imp (bt' ho ha hb hm) (nq br)
def wB(t:WE):WT:=fun ρ Q=>t ρ fun _ x=>match x with
 |.bl b=>Q b
 |_=>False
theorem Bg(σ:St)(H:Hp)(Qv:Bool->Hp->Prop)(h:B6 K (wB t) σ H Qv):Sh (mB K t) σ H Qv:=by
 obtain⟨Hs,ρ,ai,Q,sr,h,fin⟩:=h
 refine⟨Hs,ρ,ai,_,sr,h,fun v H1 ay m x As g1 r1 f1 q1=>?_⟩
 have r:=r1.rep g1.wf
 cases r with
 |bl b=>exact⟨b,rfl,fin b H1 ay g1 q1⟩
 |_=>exact q1.elim
theorem aZ(ho:dr X (compareOp op) r)(br:kM K r f)(ha:QE X K a ta)(hb:QE X K b tb)(hm:behindInMarks op b=false):QT X K (.Compare a [op] [b] pos) (wB (av f ta tb)):=by
 refine PT.imp (bu' ho ha hb hm) fun σ H Qv h=>?_
 obtain⟨Hs,ρ,ai,Q,sr,h,fin⟩:=h
 refine nq br σ H _ ⟨Hs,ρ,ai,_,sr,h,fun v H1 ay m x As g1 r1 f1 q1=>?_⟩
 have r:=r1.rep g1.wf
 cases r with
 |bl b=>exact⟨b,rfl,fin b H1 ay g1 q1⟩
 |_=>exact q1.elim
theorem il(h:QE X K a t)(he:∀ whole,isTrue a X.env whole=(do let v <- whole;standAt a.pos;holding [v] (truthy v)):=by intro _;rfl):QT X K a (wB t):=PT.imp (an' h he) Bg
def rZ(f g:W2)(ta tb tc:WE):WE:=fun ρ Q=>ta ρ fun m x=>tb ρ fun n y=>f m x n y fun _ z=>match z with
 |.bl k=>if k=true then tc ρ fun l w=>g n y l w Q else Q .sh (.bl false)
 |_=>False
end
end L2.Q
namespace L2.Q
open PySem PySem.Spec PyProof.Rows
section
variable {X:Cx}{K:PySem.W.Frag}{a b c:Expr}{ta tb tc:WE}{pos:Pos}
theorem xg(br:kM K r f)(Tz:kM K r' g)(σ:St)(H:Hp)(Qv:VK)(h:mB K (rZ f g ta tb tc) σ H Qv):WL r r' (mB K ta) (mB K tb) (mB K tc) σ H Qv:=by
 obtain⟨Hs,ρ,ai,Q,sr,h,fin⟩:=h
 refine⟨Hs,ρ,ai,_,sr,h,fun v H1 ay m x As g1 r1 f1 q1=>⟨ay,ρ,ai,_,sr.grow g1,q1,fun u H2 aE n y Bs g2 r2 f2 q2=>?_⟩⟩
 refine br aE H2 m x v As n y u Bs _ _ g2.wf (r1.grow g2) r2 q2 fun z H3 fh m3 d3 Yz g3 r3 f3 q3=>?_
 have rr:=r3.rep g3.wf
 cases rr with
 |bl k =>
  refine⟨k,rfl,?_⟩
  have Qr:Fin K fh H3 Q Qv:=Fin.after fin ((g1.trans g2).trans g3)
  cases k with
  |false=>exact Qr.sh g3.wf (.bl false) q3
  |true =>
   refine⟨fh,ρ,ai,_,((sr.grow g1).grow g2).grow g3,q3,fun w H4 G0 l z As4 g4 r4 f4 q4=>?_⟩
   exact Tz G0 H4 n y u Bs l z w As4 Q Qv g4.wf ((r2.grow g3).grow g4) r4 q4 (Fin.after Qr g4)
 |_=>exact q3.elim
theorem Ay(ho:dr X (compareOp op) r)(lT:dr X (compareOp op') r')(br:kM K r f)(Tz:kM K r' g)(ha:QE X K a ta)(hb:QE X K b tb)(hc:QE X K c tc)
  (hm:lastMarks [op,op'] [b,c]=false:=by with_unfolding_all rfl):QT X K (.Compare a [op,op'] [b,c] pos) (wB (rZ f g ta tb tc)):=by
 refine PT.imp (bv' ho lT ha hb hc hm) fun σ H Qv h=>?_
 obtain⟨Hs,ρ,ai,Q,sr,h,fin⟩:=h
 refine xg br Tz σ H _ ⟨Hs,ρ,ai,_,sr,h,fun v H1 ay m x As g1 r1 f1 q1=>?_⟩
 have r:=r1.rep g1.wf
 cases r with
 |bl b=>exact⟨b,rfl,fin b H1 ay g1 q1⟩
 |_=>exact q1.elim
def AR(t u:WT):WT:=fun ρ Q=>t ρ fun c=>if c=true then Q true else u ρ Q
def tj(t:WT):WT:=fun ρ Q=>t ρ fun c=>Q (!c)
variable {tA tB:WT}{rest:List Expr}
theorem wy{t u:WT}{f:Bool->TT}{σ:St}{H:Hp}{Qv:Bool->Hp->Prop}{G:Bool->(Bool->Prop)->Env->Prop}
  (h:B6 K (fun ρ Q=>t ρ fun c=>G c Q ρ) σ H Qv)
  (i:∀ c H1 ay ρ ai Q,dE K ay ρ σ H1 ai->G c Q ρ->(∀ b H' aw,eA ay H1 aw H'->Q b->Qv b H')->f c σ H1 Qv):B6 K t σ H fun c H1=>f c σ H1 Qv:=by
 obtain⟨Hs,ρ,ai,Q,sr,h,fin⟩:=h
 exact⟨Hs,ρ,ai,_,sr,h,fun c H1 ay g1 q1=>i c H1 ay ρ ai Q (sr.grow g1) q1 fun b H' aw g2=>fin b H' aw (g1.trans g2)⟩
theorem rP(ha:QT X K a tA):QW X K (.BoolOp .Or [a] pos) tA:=pw_or1 ha
theorem tX(ha:QT X K a tA)(hb:QW X K (.BoolOp .Or (b :: rest) pos) tB):QW X K (.BoolOp .Or (a :: b :: rest) pos) (AR tA tB):=by
 refine PW.imp (pw_or ha hb) fun σ H Qv h=>?_
 refine wy (u:=tB) (f:=fun c σ H1 Q=>if c=true then Q true H1 else B6 K tB σ H1 Q) h fun c H1 ay ρ ai Q sr q fin=>?_
 cases c with
 |true=>exact fin true H1 ay (eA.refl sr.wf) q
 |false=>exact⟨ay,ρ,ai,Q,sr,q,fin⟩
theorem MR(h:QW X K a tA):QT X K a tA:=h _
theorem gH(ha:QT X K a tA):QT X K (.UnaryOp .Not a pos) (tj tA):=by
 refine PT.imp (aq' ha) fun σ H Qv h=>?_
 exact wy (u:=tA) (f:=fun c σ H1 Q=>Q (!c) H1) h fun c H1 ay ρ ai Q sr q fin=>fin _ H1 ay (eA.refl sr.wf) q
def BW(ta tb:WE):WE:=fun ρ Q=>ta ρ fun _ x=>match x with
 |.bl c=>if c=true then tb ρ Q else Q .sh (.bl false)
 |_=>False
def QC(ta tb:WE):WE:=fun ρ Q=>ta ρ fun _ x=>match x with
 |.bl c=>if c=true then Q .sh (.bl true) else tb ρ Q
 |_=>False
def Aq(ta:WE):WE:=fun ρ Q=>ta ρ fun _ x=>match x with
 |.bl c=>Q .sh (.bl (!c))
 |_=>False
theorem Ik{op}(h:QE X K a ta):QE X K (.BoolOp op [a] pos) ta:=aw' h
theorem J9(ha:QE X K a ta)(hb:QE X K (.BoolOp .And (b :: rest) pos) tb):QE X K (.BoolOp .And (a :: b :: rest) pos) (BW ta tb):=by
 refine PE.imp (ax' ha hb) fun σ H Qv hx=>kC hx fun Hs ρ ai Q sr h fin=>?_
 refine⟨Hs,ρ,ai,_,sr,h,fun v H1 ay m x As g1 r1 f1 q1=>?_⟩
 have r:=r1.rep g1.wf
 cases r with
 |bl c =>
  refine⟨c,rfl,?_⟩
  cases c with
  |true=>exact⟨ay,ρ,ai,Q,sr.grow g1,q1,Fin.after fin g1⟩
  |false=>exact Fin.sh (Fin.after fin g1) g1.wf (.bl false) q1
 |_=>exact q1.elim
theorem eh'(ha:QE X K a ta)(hb:QE X K (.BoolOp .Or (b :: rest) pos) tb):QE X K (.BoolOp .Or (a :: b :: rest) pos) (QC ta tb):=by
 refine PE.imp (ay' ha hb) fun σ H Qv hx=>kC hx fun Hs ρ ai Q sr h fin=>?_
 refine⟨Hs,ρ,ai,_,sr,h,fun v H1 ay m x As g1 r1 f1 q1=>?_⟩
 have r:=r1.rep g1.wf
 cases r with
 |bl c =>
  refine⟨c,rfl,?_⟩
  cases c with
  |true=>exact Fin.sh (Fin.after fin g1) g1.wf (.bl true) q1
  |false=>exact⟨ay,ρ,ai,Q,sr.grow g1,q1,Fin.after fin g1⟩
 |_=>exact q1.elim
theorem Jv(ha:QE X K a ta):QE X K (.UnaryOp .Not a pos) (Aq ta):=by
 refine PE.imp (az' ha) fun σ H Qv hx=>kC hx fun Hs ρ ai Q sr h fin=>?_
 refine⟨Hs,ρ,ai,_,sr,h,fun v H1 ay m x As g1 r1 f1 q1=>?_⟩
 have r:=r1.rep g1.wf
 cases r with
 |bl c=>exact⟨c,rfl,Fin.sh (Fin.after fin g1) g1.wf (.bl _) q1⟩
 |_=>exact q1.elim
def ei':D->Option Bool
 |.non=>some false
 |.bl b=>some b
 |.int i=>some (i != 0)
 |.str x=>some ((x.length:Int) != 0)
 |.list xs=>some !xs.isEmpty
 |.tup xs=>some !xs.isEmpty
 |.dK ae=>none
 |.dT ae=>none
end
def fN:W2:=fun m x n y Q=>match x,y with
 |.int i,.int j=>Q .sh (.int (i+j))
 |.str i,.str j=>i.length+j.length<=sizeLine/\Q .sh (.str (i++j))
 |.list xs,.list ys=>xs.length+ys.length<=sizeLine/\((de xs=true/\de ys=true/\Q (.ow true) (.list (xs++ys)))\/(m=.sh/\n=.sh/\Q (.ow false) (.list (xs++ys))))
 |.tup xs,.tup ys=>xs≠[]/\xs.length+ys.length<=sizeLine/\de xs=true/\de ys=true/\Q .sh (.tup (xs++ys))
 |_,_=>False
def MS(P:Int->Int->(Md->D->Prop)->Prop):W2:=fun _ x _ y Q=>match x,y with
 |.int i,.int j=>P i j Q
 |_,_=>False
def TB(P:Int->Int->(Md->D->Prop)->Prop)(S:Str->Str->(Md->D->Prop)->Prop):W2:=fun _ x _ y Q=>match x,y with
 |.int i,.int j=>P i j Q
 |.str i,.str j=>S i j Q
 |_,_=>False
def kD:W2:=MS fun i j Q=>FV i j/\Q .sh (.int (i*j))
def oI:W2:=MS fun i j Q=>(0<j/\j<1073741824)/\Q .sh (.int (i / j))
def kg:W2:=MS fun i j Q=>0<j/\Q .sh (.int (i % j))
def EF:W2:=TB (fun i j Q=>Q .sh (.bl (decide (i<j)))) fun i j Q=>Q .sh (.bl (oB i j))
def MV:W2:=TB (fun i j Q=>Q .sh (.bl (decide (i<=j)))) fun i j Q=>Q .sh (.bl (!oB j i))
def EG:W2:=MS fun i j Q=>Q .sh (.bl (decide (j<i)))
def kN:W2:=fun _ x _ y Q=>match x,y with
 |.int i,.int j=>Q .sh (.bl (decide (i=j)))
 |.str i,.str j=>Q .sh (.bl (decide (i=j)))
 |.bl i,.bl j=>Q .sh (.bl (decide (i=j)))
 |_,_=>cE 12 x=true/\cE 12 y=true/\Q .sh (.bl (kK x y))
def yB:W2:=fun _ x _ y Q=>match x,y with
 |.int i,.int j=>Q .sh (.bl (!decide (i=j)))
 |.str i,.str j=>Q .sh (.bl (!decide (i=j)))
 |.bl i,.bl j=>Q .sh (.bl (!decide (i=j)))
 |_,_=>cE 12 x=true/\cE 12 y=true/\Q .sh (.bl (!kK x y))
def gB:D->Bool
 |.non=>true
 |.bl _=>true
 |.int _=>true
 |.str _=>true
 |_=>false
def inD(x:D)(ys:List D):Bool:=ys.any fun y=>kK y x
def qk(neg:Bool):W2:=fun _ x _ y Q=>match y with
 |.str j=>match x with
  |.str i=>Q .sh (.bl (if neg then !yk i j else yk i j))
  |_=>False
 |.list ys=>gB x=true/\ys.all gB=true/\Q .sh (.bl (if neg then !inD x ys else inD x ys))
 |.tup ys=>gB x=true/\ys.all gB=true/\Q .sh (.bl (if neg then !inD x ys else inD x ys))
 |.dK ae=>∃ k,x.key1=some k/\Q .sh (.bl (if neg then !(fq ae k).isSome else (fq ae k).isSome))
 |.dT ae=>match x with
  |.tup xs=>∃ ks,gC xs=some ks/\Q .sh (.bl (if neg then !(fq ae ks).isSome else (fq ae ks).isSome))
  |_=>False
 |_=>False
section
variable {K:PySem.W.Frag}
theorem xP(f:Fin K Hs H Qd Qv)(w:Wf Hs H)(h:x.length<=sizeLine)(q:Qd .sh (.str x)):Qv (.str x) H:=f.sh w (.str h) q
theorem cG(i j:Str):(i++j).length=i.length+j.length:=by
 show((i++j).cps.size)=_
 show(i.cps++j.cps).size=_
 simp[Str.length]
theorem Io:kM K (fun x y H Q=>BR K x y H Q\/Sv K x y H Q) fN:=by
 intro Hs H m x v As n y u Bs Qd Qv w rx ry h f
 have r1:=rx.rep w
 have r2:=ry.rep w
 unfold fN at h
 cases r1 with
 |int i=>cases r2 with
  |int j=>exact .inl (f.sh w (.int _) h)
  |_=>exact h.elim
 |str hi=>cases r2 with
  |str hj=>exact .inl ⟨h.1,xP f w (by rw[cG];exact h.1) h.2⟩
  |_=>exact h.elim
 |list z1 s1 q1=>cases r2 with
  |list z2 s2 q2 =>
   have l1:=q1.length
   have l2:=q2.length
   have hz:=h.1
   rcases h.2 with⟨f1,f2,q⟩|⟨rfl,rfl,q⟩
   ·refine .inl ⟨_,_,s1,s2,by lia,?_⟩
    exact f.lst w (by rw[js];exact hz) (q1.append q2) (by rw[kJ,f1,f2];rfl) q
   ·obtain⟨_,rx⟩:=rx
    obtain⟨_,ry⟩:=ry
    cases rx with
    |list z1' s1' He=>cases ry with
     |list z2' s2' YB =>
      have l1:=He.length
      have l2:=YB.length
      refine .inl ⟨_,_,aI.seq w.sub s1',aI.seq w.sub s2',by lia,?_⟩
      exact f.Qz w (by rw[js];exact hz) (He.append YB) q
  |_=>exact h.elim
 |tup t1 s1 q1=>cases r2 with
  |tup t2 s2 q2 =>
   have l1:=q1.length
   have l2:=q2.length
   obtain⟨kc,hz,f1,f2,q⟩:=h
   refine .inr ⟨_,_,_,_,rfl,rfl,.inl (.inl s1),.inl (.inl s2),?_,by lia,?_⟩
   ·intro e
    subst e
    exact kc (O4.mp l1)
   ·refine⟨fun e=>?_,fun _=>f.tup w (by rw[js];exact hz) (q1.append q2) (by rw[kJ,f1,f2];rfl) q⟩
    subst e
    cases q2
    rw[kF] at q
    exact f.flat w (.tup t1 s1 q1) (by simpa[D.flat] using f1) q
  |_=>exact h.elim
 |_=>exact h.elim
theorem CZ{H:Hp}{x y:D}{v u:V}{m n:Md}{P:Int->Int->(Md->D->Prop)->Prop}{S:Str->Str->(Md->D->Prop)->Prop}{Q:Md->D->Prop}{G:Prop}(r1:Rep K H x v)(r2:Rep K H y u)(h:TB P S m x n y Q)(k:∀ i j,v=.int i->u=.int j->P i j Q->G)(ks:∀ i j,v=.str i->u=.str j->S i j Q->G):G:=by
 cases r1 with
 |int i=>cases r2 with
  |int j=>exact k i j rfl rfl h
  |_=>exact h.elim
 |str hi=>cases r2 with
  |str hj=>exact ks _ _ rfl rfl h
  |_=>exact h.elim
 |_=>exact h.elim
theorem qg{H:Hp}{x y:D}{v u:V}{m n:Md}{P:Int->Int->(Md->D->Prop)->Prop}{Q:Md->D->Prop}{G:Prop}(r1:Rep K H x v)(r2:Rep K H y u)(h:MS P m x n y Q)(k:∀ i j,v=.int i->u=.int j->P i j Q->G):G:=by
 cases r1 with
 |int i=>cases r2 with
  |int j=>exact k i j rfl rfl h
  |_=>exact h.elim
 |_=>exact h.elim
theorem Hx:kM K DW kD:=by
 intro Hs H m x v As n y u Bs Qd Qv w rx ry h f
 exact qg (rx.rep w) (ry.rep w) h fun i j e1 e2 q=>by
  subst e1 e2
  exact⟨q.1,f.sh w (.int _) q.2⟩
theorem Hv:kM K Dt oI:=by
 intro Hs H m x v As n y u Bs Qd Qv w rx ry h f
 exact qg (rx.rep w) (ry.rep w) h fun i j e1 e2 q=>by
  subst e1 e2
  exact⟨q.1,f.sh w (.int _) q.2⟩
theorem GC:kM K DY kg:=by
 intro Hs H m x v As n y u Bs Qd Qv w rx ry h f
 exact qg (rx.rep w) (ry.rep w) h fun i j e1 e2 q=>by
  subst e1 e2
  exact⟨q.1,f.sh w (.int _) q.2⟩
theorem zx:kM K S7 EG:=by
 intro Hs H m x v As n y u Bs Qd Qv w rx ry h f
 exact qg (rx.rep w) (ry.rep w) h fun i j e1 e2 q=>by
  subst e1 e2
  exact f.sh w (.bl _) q
theorem Bp:kM K S5 EF:=by
 intro Hs H m x v As n y u Bs Qd Qv w rx ry h f
 exact CZ (rx.rep w) (ry.rep w) h (fun i j e1 e2 q=>by
  subst e1 e2
  exact f.sh w (.bl _) q) fun i j e1 e2 q=>by
  subst e1 e2
  exact f.sh w (.bl _) q
theorem Ie:kM K S6 MV:=by
 intro Hs H m x v As n y u Bs Qd Qv w rx ry h f
 exact CZ (rx.rep w) (ry.rep w) h (fun i j e1 e2 q=>by
  subst e1 e2
  exact f.sh w (.bl _) q) fun i j e1 e2 q=>by
  subst e1 e2
  exact f.sh w (.bl _) q
theorem eq_data(w:Wf Hs H)(rx:Rep K H x v)(ry:Rep K H y u)(f:Fin K Hs H Qd Qv)(h:cE 12 x=true/\cE 12 y=true/\Qd .sh (.bl (kK x y))):S_ K v u H Qv:=by
 obtain⟨h1,h2,q⟩:=h
 have l1:=vm 12 x h1
 have l2:=vm 12 y h2
 exact⟨x.py,y.py,rx.l2 h1,ry.l2 h2,l1.1,l2.1,by lia,f.sh w (.bl _) q⟩
theorem ne_data(w:Wf Hs H)(rx:Rep K H x v)(ry:Rep K H y u)(f:Fin K Hs H Qd Qv)(h:cE 12 x=true/\cE 12 y=true/\Qd .sh (.bl (!kK x y))):Ta K v u H Qv:=by
 obtain⟨h1,h2,q⟩:=h
 have l1:=vm 12 x h1
 have l2:=vm 12 y h2
 exact⟨x.py,y.py,rx.l2 h1,ry.l2 h2,l1.1,l2.1,by lia,f.sh w (.bl _) q⟩
theorem iR:kM K (Qj K) kN:=by
 intro Hs H m x v As n y u Bs Qd Qv w rx ry h f
 have r1:=rx.rep w
 have r2:=ry.rep w
 have d:=fun h=>eq_data (Qd:=Qd) (Qv:=Qv) w r1 r2 f h
 cases r1 with
 |int i=>cases r2 with
  |int j=>exact f.sh w (.bl _) h
  |_=>exact d h
 |str i=>cases r2 with
  |str j=>exact f.sh w (.bl _) h
  |_=>exact d h
 |bl i=>cases r2 with
  |bl j=>exact f.sh w (.bl _) h
  |_=>exact d h
 |_=>exact d h
theorem Fl:kM K (Qk K) yB:=by
 intro Hs H m x v As n y u Bs Qd Qv w rx ry h f
 have r1:=rx.rep w
 have r2:=ry.rep w
 have d:=fun h=>ne_data (Qd:=Qd) (Qv:=Qv) w r1 r2 f h
 cases r1 with
 |int i=>cases r2 with
  |int j=>exact f.sh w (.bl _) h
  |_=>exact d h
 |str i=>cases r2 with
  |str j=>exact f.sh w (.bl _) h
  |_=>exact d h
 |bl i=>cases r2 with
  |bl j=>exact f.sh w (.bl _) h
  |_=>exact d h
 |_=>exact d h
theorem m8(r:Rep K H x v)(h:gB x=true):x6 v=true:=by
 cases r<;>first|rfl|(simp[gB] at h)
theorem Eh(r:Rep K H x v)(s:Rep K H y u)(h:gB x=true)(g:gB y=true):AG v u=kK x y:=by
 cases r<;>simp[gB] at h<;>cases s<;>simp[gB] at g<;>rfl
theorem Gz(r:Rep K H x v)(h:gB x=true)(rs:aT K H ys us)(g:ys.all gB=true):us.all x6=true/\P8 v us=inD x ys:=by
 induction ys generalizing us with
 |nil=>rw[rs.n0];exact⟨rfl,rfl⟩
 |cons y ys ih =>
  obtain⟨u,us,rfl,s,ss⟩:=rs.c
  simp only[A7,kG] at g
  obtain⟨e1,e2⟩:=ih ss g.2
  refine⟨by simp only[A7,m8 s g.1,e1,Bool.and_self],?_⟩
  unfold P8 inD at *
  rw[zD,zD,e2,Eh s r g.1 h]
theorem sH{κ:Type}[DecidableEq κ]{H:Hp}{k:κ}{ae:List (κ × D)}{vs:List V}(r:aT K H (ae.map (·.2)) vs):(ky ((ae.map (·.1)).zip vs) k).isSome=(fq ae k).isSome:=by
 have:=zip_get (k:=k) r
 split at this
 ·rename_i e
  obtain⟨v,e1,_⟩:=this
  rw[e1,e];rfl
 ·rename_i e
  rw[this,e];rfl
theorem nP:kM K (D9 K neg) (qk neg):=by
 intro Hs H m x v As n y u Bs Qd Qv w rx ry h f
 have r1:=rx.rep w
 have r2:=ry.rep w
 cases r2 with
 |str j=>cases r1 with
  |str i=>exact f.sh w (.bl _) h
  |_=>exact h.elim
 |list z s q =>
  obtain⟨h1,h2,h3⟩:=h
  obtain⟨e1,e2⟩:=Gz r1 h1 q h2
  have h4:=m8 r1 h1
  have g:LN K neg v (.ref _) H Qv:=⟨_,_,rfl,.inl s,h4,e1,by rw[e2];exact f.sh w (.bl _) h3⟩
  cases r1<;>exact .inr g
 |tup _ s q =>
  obtain⟨h1,h2,h3⟩:=h
  obtain⟨e1,e2⟩:=Gz r1 h1 q h2
  have h4:=m8 r1 h1
  have g:LN K neg v (.ref _) H Qv:=⟨_,_,rfl,.inr (.inl (.inl s)),h4,e1,by rw[e2];exact f.sh w (.bl _) h3⟩
  cases r1<;>exact .inr g
 |dK kk e q =>
  obtain⟨k,hk,h3⟩:=h
  have ev:=r1.key hk
  subst ev
  have eg:=sH (k:=k) q
  cases k<;>exact .inl ⟨_,kA.k' e,by rw[eg];exact f.sh w (.bl _) h3⟩
 |dT kk e q =>
  cases r1 with
  |tup t1 e1 q1 =>
   obtain⟨ks,hk,h3⟩:=h
   obtain⟨b,eb,e2⟩:=Rep.i5 (.tup t1 e1 q1) hk
   cases eb
   have eg:=sH (k:=ks) q
   exact .inl ⟨_,kA.t' e e2,by rw[eg];exact f.sh w (.bl _) h3⟩
  |_=>exact h.elim
 |_=>exact h.elim
end
section
variable {X:Cx}{K:PySem.W.Frag}{a b:Expr}{ta tb:WE}{pos:Pos}
theorem Jm(hK:X.K=K:=by rfl):dr X (binaryOp .Add) (fun x y H Q=>BR K x y H Q\/Sv K x y H Q):=by subst hK;exact Ds.or bZ'
theorem cP(ha:QE X K a ta)(hb:QE X K b tb)(hK:X.K=K:=by rfl):QE X K (.BinOp a .Add b pos) (av fN ta tb):=MQ (Jm hK) Io ha hb
theorem gj(ha:QE X K a ta)(hb:QE X K b tb):QE X K (.BinOp a .Mult b pos) (av kD ta tb):=MQ Fq Hx ha hb
theorem jr(ha:QE X K a ta)(hb:QE X K b tb):QE X K (.BinOp a .FloorDiv b pos) (av oI ta tb):=MQ Fb Hv ha hb
theorem eV(ha:QE X K a ta)(hb:QE X K b tb):QE X K (.BinOp a .Mod b pos) (av kg ta tb):=MQ Dw GC ha hb
def B7:W1:=fun _ x Q=>match x with
 |.int i=>Q .sh (.int (-i))
 |_=>False
theorem Gw:ML K (rU fun i=>.int (-i)) B7:=by
 intro Hs H m x v As Qd Qv w rx h f
 have r1:=rx.rep w
 cases r1 with
 |int i=>exact⟨i,rfl,f.sh w (.int _) h⟩
 |_=>exact h.elim
theorem zX(ha:QE X K a ta):QE X K (.UnaryOp .USub a pos) (eW B7 ta):=ef' bh' Gw ha
end
def b9:WA:=fun _ Q=>Q []
def ak(te:WE)(t:WA):WA:=fun ρ Q=>te ρ fun m x=>t ρ fun ps=>Q ((m,x) :: ps)
def xa:Md × D->Bool
 | (.sh,_)=>true
 | (_,d)=>d.flat
def EH:Md × D->Bool
 | (.bo,d)=>d.flat
 |_=>true
def B8:Md × D->Bool
 | (.ow true,_)=>true
 | (_,d)=>d.flat
def xj(ps:List (Md × D)):Md:=bif ps.all xa then .sh else bif ps.all EH then .ow (ps.all B8) else .bo
def Gh(ps:List (Md × D)):Md:=bif ps.all EH then .ow (ps.all B8) else .bo
def i6(t:WA):WE:=fun ρ Q=>t ρ fun ps=>ps.length<=sizeLine/\Q (xj ps) (.tup (ps.map (·.2)))
def nS(t:WA):WE:=fun ρ Q=>t ρ fun ps=>ps.length<=sizeLine/\Q (Gh ps) (.list (ps.map (·.2)))
section
variable {X:Cx}{K:PySem.W.Frag}{e:Expr}{es:List Expr}{te:WE}{t:WA}{pos:Pos}{Hs H:Hp}
theorem au:QA X K [] b9:=PA.imp uk fun σ H Qv hx=>kC hx fun Hs ρ ai Q sr h f=>f [] H Hs [] [] (eA.refl sr.wf) .nil cT.nil h
theorem cT.app(f1:cT ay H As)(o:∀ a∈As,H1 a≠none)(f2:cT aE H1 Bs)(s:aI H H1)(k:∀ a,ay a=none->H1 a≠none->aE a=none):cT aE H (As++Bs) :=
 ⟨iO.mpr ⟨f1.1,f2.1,fun a ha b hb e=>by subst e;exact o a ha (f2.2 a hb).2⟩,fun a h=>by
  rcases dA.mp h with h|h
  ·exact⟨k a (f1.2 a h).1 (o a h),(f1.2 a h).2⟩
  ·exact⟨(f2.2 a h).1,s.free (f2.2 a h).2⟩⟩
theorem aa(ha:QE X K e te)(hr:QA X K es t)(hs:starEach (e :: es) X.env=(false,eval e X.env) :: starEach es X.env:=by rfl):QA X K (e :: es) (ak te t):=by
 refine PA.imp (pT ha hr hs) fun σ H Qv hx=>kC hx fun Hs ρ ai Q sr h f=>?_
 refine⟨Hs,ρ,ai,_,sr,h,fun v H1 ay m x As g1 r1 f1 q1=>⟨ay,ρ,ai,_,sr.grow g1,q1,fun vs H2 aE ps Bs g2 r2 f2 q2=>?_⟩⟩
 exact f (v :: vs) H2 aE _ _ (g1.trans g2) (.cons (r1.grow g2) r2) (f1.app (fun a h=>(r1.own a h).ne) f2 g1.all fun a h1 h2=>g2.nE h1 h2) q2
theorem w9.sh(w:Wf Hs H){ps:List (Md × D)}(r:w9 K Hs H ps vs As):ps.all xa=true->aT K Hs (ps.map (·.2)) vs:=by
 induction r with
 |nil=>exact fun _=>.nil
 |@cons m d v ps vs As Bs r rs ih =>
  intro h
  simp only[A7,kG] at h
  refine .cons ?_ (ih h.2)
  cases m with
  |sh=>exact r.2
  |ow fl=>exact r.flat w h.1
  |bo=>exact r.flat w h.1
theorem w9.ow(w:Wf Hs H){ps:List (Md × D)}(r:w9 K Hs H ps vs As):ps.all EH=true->(fl=true->ps.all B8=true)->∃ Bs,Bs.Sublist As/\(ps.all xa=false->Bs≠[])/\aD K Hs H fl (ps.map (·.2)) vs Bs:=by
 induction r with
 |nil=>exact fun _ _=>⟨[],A6 _,(fun z=>Bool.noConfusion z),.nil⟩
 |@cons m d v ps vs A1 Cs r rs ih =>
  intro h hf
  simp only[A7,kG] at h hf
  obtain⟨Bs,sb,ne,q⟩:=ih h.2 fun z=>(hf z).2
  have sk:([]++Bs).Sublist (A1++Cs):=by simpa using sb.trans (pf _ _)
  have zS:d.flat=true->xa (m,d)=true->∃ Bs,Bs.Sublist (A1++Cs)/\(((m,d) :: ps).all xa=false->Bs≠[])/\aD K Hs H fl (((m,d) :: ps).map (·.2)) (v :: vs) Bs:=fun hd ho =>
   ⟨[]++Bs,sk,fun z=>ne (by rw[A7,ho] at z;simpa using z),.cons (.sh (fun _=>hd) (r.flat w hd)) q⟩
  cases m with
  |sh=>exact⟨[]++Bs,sk,fun z=>ne (by simpa[xa] using z),.cons (.sh (fun z=>(hf z).1) r.2) q⟩
  |bo=>exact zS h.1 h.1
  |ow b =>
   cases hd:d.flat with
   |true=>exact zS hd hd
   |false =>
    refine⟨A1++Bs,sb.append_left _,fun _ z=>r.2 (IH.mp z).1,.cons ?_ q⟩
    cases fl with
    |false=>exact bX.Qw r.1
    |true =>
     have:=(hf rfl).1
     cases b with
     |true=>exact r.1
     |false=>simp[B8,hd] at this
theorem pU:∀ {ps:List (Md × D)},de (ps.map (·.2))=true->ps.all xa=true
 |[],_=>rfl
 | (m,d) :: ps,h=>by
  simp only[fP,de,kG] at h
  simp only[A7,kG]
  exact⟨by cases m<;>simp[xa,h.1],pU h.2⟩
theorem dM{x1}(h:QA X K es t):QE X K (.Tuple es x1 pos) (i6 t):=by
 refine PE.imp (WR h) fun σ H Qv hx=>kC hx fun Hs ρ ai Q sr h f=>?_
 refine⟨Hs,ρ,ai,_,sr,h,fun vs H1 ay ps As g1 r1 f1 q1=>?_⟩
 obtain⟨hz,q⟩:=q1
 have rl:=(r1.reps g1.wf)
 have hl:=rl.length
 rw[bP] at hl
 refine⟨by lia,fun p hp=>?_⟩
 have g2:=Tx (vs:=vs) g1.wf hp
 have fin:=Fin.after f g1
 unfold xj at q
 cases h1:ps.all xa with
 |true =>
  rw[h1] at q
  exact fin _ _ _ .sh _ [] g2 ⟨rfl,.tup (by lia) kf ((r1.sh g1.wf h1).same g2.sh)⟩ cT.nil q
 |false =>
  rw[h1] at q
  cases h2:ps.all EH with
  |false =>
   rw[h2] at q
   exact fin _ _ _ .bo _ [] g2 ⟨rfl,.tup (by lia) kf (rl.same g2.all)⟩ cT.nil q
  |true =>
   rw[h2] at q
   obtain⟨Bs,sb,nz,ro⟩:=r1.ow (fl:=ps.all B8) g1.wf h2 fun z=>z
   have kc:de (ps.map (·.2))=false:=by
    cases hf:de (ps.map (·.2)) with
    |false=>rfl
    |true=>rw[pU hf] at h1;cases h1
   have own:=ro.own
   refine f _ _ _ (.ow _) _ Bs (g1.trans g2) ⟨.tup (by lia) kf kc (ro.grow g2.sh g2.all),nz h1⟩ ⟨sb.nodup f1.1,fun a ha=>⟨?_,(f1.2 a (sb.subset ha)).2⟩⟩ q
   exact g2.nE (f1.2 a (sb.subset ha)).1 (own a ha).ne
theorem gJ(h:QA X K es t):QE X K (.List es pos) (nS t):=by
 refine PE.imp (bC' h) fun σ H Qv hx=>kC hx fun Hs ρ ai Q sr h f=>?_
 refine⟨Hs,ρ,ai,_,sr,h,fun vs H1 ay ps As g1 r1 f1 q1=>?_⟩
 obtain⟨hz,q⟩:=q1
 have rl:=(r1.reps g1.wf)
 have hl:=rl.length
 rw[bP] at hl
 refine⟨by lia,fun p hp=>?_⟩
 have g2:=Qy (o:=.lst vs) g1.wf hp fun _ z=>nomatch z
 have fin:=Fin.after f g1
 unfold Gh at q
 cases h2:ps.all EH with
 |false =>
  rw[h2] at q
  exact fin _ _ _ .bo _ [] g2 ⟨rfl,.list (by lia) (.inl (.inl kf)) (rl.same g2.all)⟩ cT.nil q
 |true =>
  rw[h2] at q
  obtain⟨Bs,sb,nz,ro⟩:=r1.ow (fl:=ps.all B8) g1.wf h2 fun z=>z
  have own:=ro.own
  refine f _ _ _ (.ow _) _ (p :: Bs) (g1.trans g2) ⟨.list (by lia) kf (ro.grow g2.sh g2.all),by simp⟩ ⟨ox.mpr ⟨fun m=>(own p m).ne hp,sb.nodup f1.1⟩,fun a ha=>?_⟩ q
  rcases dv.mp ha with rfl|ha
  ·exact⟨g1.wf.sub.free hp,g1.all.free hp⟩
  ·exact⟨g2.nE (f1.2 a (sb.subset ha)).1 (own a ha).ne,(f1.2 a (sb.subset ha)).2⟩
end
theorem aT.fI{K:PySem.W.Frag}(r:aT K H ds vs)(h:fI ds i=some d):∃ v,L2.fI vs i=some v/\Rep K H d v:=by
 unfold L2.fI at *
 rw[<- r.length]
 cases e:ve ds.length i with
 |none=>rw[e] at h;cases h
 |some j =>
  rw[e] at h
  exact r.get h
def ck:W2:=fun m x _ y Q=>match x with
 |.list xs=>match y with
  |.int i=>∃ d,fI xs i=some d/\bT d (f:=fun d=>Q (kL m d) d) ⟨⟩
  |_=>False
 |.tup xs=>match y with
  |.int i=>∃ d,fI xs i=some d/\bT d (f:=fun d=>Q (kL m d) d) ⟨⟩
  |_=>False
 |.str z=>match y with
  |.int i=>∃ c,fI z.cps.toList i=some c/\Q .sh (.str ⟨#[c]⟩)
  |_=>False
 |.dK ae=>∃ k d,y.key1=some k/\fq ae k=some d/\bT d (f:=fun d=>Q (kL m d) d) ⟨⟩
 |.dT ae=>match y with
  |.tup ys=>∃ ks d,gC ys=some ks/\fq ae ks=some d/\bT d (f:=fun d=>Q (kL m d) d) ⟨⟩
  |_=>False
 |_=>False
def TC(K:PySem.W.Frag):R2:=fun x y H Q=>S8 K x y H Q\/∃ a v,x=.ref a/\kA H a y (some v)/\Q v H
theorem yM(c:Nat):(⟨#[c]⟩:Str).length<=sizeLine:=by show 1<=sizeLine;decide
theorem RM.here{K:PySem.W.Frag}(w:Wf Hs H)(r:RM K Hs H m d v As):(m=.sh/\Rep K Hs d v)\/(m≠.sh/\Rep K H d v):=by
 cases m with
 |sh=>exact .inl ⟨rfl,r.2⟩
 |ow fl=>exact .inr ⟨(fun z=>nomatch z),r.rep w⟩
 |bo=>exact .inr ⟨(fun z=>nomatch z),r.2⟩
section
variable {X:Cx}{K:PySem.W.Frag}
theorem Kc:kM K (TC K) ck:=by
 intro Hs H m x v As n y u Bs Qd Qv w rx ry h f
 have r2:=ry.rep w
 have core:∀ G:Hp,aI G H->(∀ d v,Rep K G d v->Rep K H d v/\(m=.sh->Rep K Hs d v))->Rep K G x v->TC K v u H Qv:=by
  intro G sg up r1
  cases r1 with
  |list z s q =>
   cases r2 with
   |int i =>
    obtain⟨d,e,h⟩:=h
    obtain⟨v',e',r'⟩:=q.fI e
    obtain⟨u1,u2⟩:=up _ _ r'
    exact .inl (.inl ⟨_,v',aI.seq sg s,e',f.kL w u1 u2 h⟩)
   |_=>exact h.elim
  |tup _ s q =>
   cases r2 with
   |int i =>
    obtain⟨d,e,h⟩:=h
    obtain⟨v',e',r'⟩:=q.fI e
    obtain⟨u1,u2⟩:=up _ _ r'
    exact .inl (.inr ⟨_,v',.inl (.inl (sg _ _ s)),e',f.kL w u1 u2 h⟩)
   |_=>exact h.elim
  |str hz =>
   cases r2 with
   |int i =>
    obtain⟨c,e,h⟩:=h
    exact .inl ⟨hz,c,e,f.sh w (.str (yM c)) h⟩
   |_=>exact h.elim
  |dK kk s q =>
   obtain⟨k,d,hk,hg,h⟩:=h
   have ev:=r2.key hk
   subst ev
   have z:=zip_get (k:=k) q
   rw[hg] at z
   obtain⟨v',e',r'⟩:=z
   obtain⟨u1,u2⟩:=up _ _ r'
   exact .inr ⟨_,v',rfl,by rw[<- e'];exact kA.k' (aI.rd sg s),f.kL w u1 u2 h⟩
  |dT kk s q =>
   cases r2 with
   |tup t2 e2 q2 =>
    obtain⟨ks,d,hk,hg,h⟩:=h
    obtain⟨b,eb,e3⟩:=Rep.i5 (.tup t2 e2 q2) hk
    cases eb
    have z:=zip_get (k:=ks) q
    rw[hg] at z
    obtain⟨v',e',r'⟩:=z
    obtain⟨u1,u2⟩:=up _ _ r'
    exact .inr ⟨_,v',rfl,by rw[<- e'];exact kA.t' (aI.rd sg s) e3,f.kL w u1 u2 h⟩
   |_=>exact h.elim
  |_=>exact h.elim
 rcases rx.here w with⟨hm,r⟩|⟨hm,r⟩
 ·exact core Hs w.sub (fun d v q=>And.intro (q.same w.sub) fun _=>q) r
 ·exact core H (aI.refl H) (fun d v q=>And.intro q fun z=>absurd z hm) r
theorem el'(hu:X.A.units+64<cLine)(hK:X.K=K:=by rfl):vi X (TC K):=by
 subst hK
 refine vi.or Ih ?_
 intro value slice pins s σ H x y v u Q I rx ry h hs
 obtain⟨a,w,rfl,g,q⟩:=h
 cases rx
 exact tail_any (cD' I g) F.slot_dict_getitem.lookup (cx' (by lia) I g ry fun w' s3 I3 nh=>⟨w,H,I3,nh,q⟩) hs
variable {a b:Expr}{ta tb:WE}{pos:Pos}
theorem cx(hu:X.A.units+64<cLine)(ha:QE X K a ta)(hb:QE X K b tb)(hs:Xa b:=by exact fun _ _=>rfl)(hK:X.K=K:=by rfl):QE X K (.Subscript a b pos) (av ck ta tb):=PE.imp (cb' (el' hu hK) ha hb hs) (nq Kc)
end
def hV{α:Type}(xs:List α)(lo hi:Option Int):List α:=(xs.drop (HT.bS xs.length 0 lo)).take (HT.bS xs.length xs.length hi-HT.bS xs.length 0 lo)
abbrev WO:=Env->(Option Int->Prop)->Prop
def d_:WO:=fun _ Q=>Q none
def gD(t:WE):WO:=fun ρ Q=>t ρ fun _ x=>match x with
 |.int i=>Q (some i)
 |_=>False
def MX(m:Md)(x:D)(lo hi:Option Int)(Q:Md->D->Prop):Prop:=match x with
 |.str z=>Q .sh (.str (jS z lo hi))
 |.list xs=>(de xs=true/\Q (.ow true) (.list (hV xs lo hi)))\/(m=.sh/\Q (.ow false) (.list (hV xs lo hi)))
 |.tup xs=>de xs=true/\¬ (HT.bS xs.length 0 lo=0/\HT.bS xs.length xs.length hi=xs.length)/\Q .sh (.tup (hV xs lo hi))
 |_=>False
def sA(te:WE)(tl th:WO):WE:=fun ρ Q=>te ρ fun m x=>tl ρ fun lo=>th ρ fun hi=>MX m x lo hi Q
def tpO(K:PySem.W.Frag)(t:WO):TO:=fun σ H Qv=>∃ Hs ρ ai Q,dE K Hs ρ σ H ai/\t ρ Q/\∀ o H' aw,eA Hs H aw H'->Q o->Qv o H'
abbrev QO(X:Cx)(K:PySem.W.Frag)(e:Option Expr)(t:WO):Prop:=PO X e (tpO K t)
theorem Ai(z:Str)(lo hi:Option Int):(jS z lo hi).length<=z.length:=by
 unfold jS Str.length
 simp only[iq,kz,zv,ua]
 lia
theorem jz{α:Type}(xs:List α)(lo hi:Option Int):(hV xs lo hi).length<=xs.length:=by
 unfold hV
 rw[kz,zv]
 lia
theorem sE{lo hi:Option Int}(h:de xs=true):de (hV xs lo hi)=true:=by
 rw[sW] at *
 intro x hx
 exact h x (O6 (O7 hx))
section
variable {X:Cx}{K:PySem.W.Frag}{e:Expr}{lo hi:Option Expr}{te:WE}{tl th:WO}{pos p2:Pos}
theorem gf:QO X K none d_:=fun pins s σ H Q I h=>bU' pins s σ H Q I (by
 obtain⟨Hs,ρ,ai,Qd,sr,h,f⟩:=h
 exact f none H Hs (eA.refl sr.wf) h)
theorem cD(h:QE X K e te):QO X K (some e) (gD te):=fun pins s σ H Q I hh=>bV' h pins s σ H Q I (by
 obtain⟨Hs,ρ,ai,Qd,sr,h,f⟩:=hh
 refine⟨Hs,ρ,ai,_,sr,h,fun v H1 ay m x As g1 r1 f1 q1=>?_⟩
 have r:=r1.rep g1.wf
 cases r with
 |int i=>exact⟨i,rfl,f _ H1 ay g1 q1⟩
 |_=>exact q1.elim)
theorem mX{lo hi:Option Int}(r:aT K H ds vs):aT K H (hV ds lo hi) (AB vs lo hi):=by
 unfold hV AB
 rw[r.length]
 exact(r.drop _).take _
theorem en'(hK:X.K=K:=by rfl):FX X (fun x lo hi H Q=>S9 K x lo hi H Q\/W9 K x lo hi H Q):=by
 subst hK
 intro pins s σ H x v vl vu lo hi sl Q I rx hs pl pu h
 rcases h with h|h
 ·exact I_ pins s σ H x v vl vu lo hi sl Q I rx hs pl pu h
 ·exact bY' pins s σ H x v vl vu lo hi sl Q I rx hs pl pu h
theorem dC(he:QE X K e te)(hl:QO X K lo tl)(hh:QO X K hi th)(hK:X.K=K:=by rfl):QE X K (.Subscript e (.Slice lo hi none p2) pos) (sA te tl th):=by
 refine PE.imp (bX' (en' hK) he hl hh) fun σ H Qv hx=>kC hx fun Hs ρ ai Q sr h f=>?_
 refine⟨Hs,ρ,ai,_,sr,h,fun v H1 ay m x As g1 r1 f1 q1=>⟨ay,ρ,ai,_,sr.grow g1,q1,fun l H2 aE g2 q2=>⟨aE,ρ,ai,_,(sr.grow g1).grow g2,q2,fun u H3 fh g3 q3=>?_⟩⟩⟩
 have r3:=(r1.grow g2).grow g3
 have fin:Fin K fh H3 Q Qv:=Fin.after f ((g1.trans g2).trans g3)
 have rr:=r3.rep g3.wf
 cases rr with
 |str hz=>exact .inl ⟨hz,fin.sh g3.wf (.str (fS (Ai _ _ _) hz)) q3⟩
 |list z s q =>
  have hz:=q.length
  rcases q3 with⟨hf,q3⟩|⟨rfl,q3⟩
  ·exact .inl ⟨_,s,fin.lst g3.wf (fS (jz _ _ _) (by lia)) (mX q) (sE hf) q3⟩
  ·obtain⟨_,r3⟩:=r3
   cases r3 with
   |list z' s' q' =>
    have hz:=q'.length
    exact .inl ⟨_,aI.seq g3.wf.sub s',fin.Qz g3.wf (fS (jz _ _ _) (by lia)) (mX q') q3⟩
 |tup z s q =>
  have hz:=q.length
  obtain⟨hf,hn,q3⟩:=q3
  exact .inr ⟨_,_,rfl,.inl (.inl s),by rw[<- hz];exact hn,fin.tup g3.wf (fS (jz _ _ _) (by lia)) (mX q) (sE hf) q3⟩
 |_=>exact q3.elim
end
def oP:W1:=fun _ x Q=>match x with
 |.str z=>Q .sh (.int z.length)
 |.list xs=>Q .sh (.int xs.length)
 |.tup xs=>Q .sh (.int xs.length)
 |.dK ae=>Q .sh (.int ae.length)
 |.dT ae=>Q .sh (.int ae.length)
 |_=>False
def AU(T:String):W1:=fun _ x Q=>Q .sh (.bl (GL x.ty T))
def HC(K:PySem.W.Frag)(r:List V->Hp->VK->Prop)(f:W1):Prop:=∀ Hs H m x v As Qd Qv,Wf Hs H->RM K Hs H m x v As->f m x Qd->Fin K Hs H Qd Qv->r [v] H Qv
section
variable {X:Cx}{K:PySem.W.Frag}{e:Expr}{te:WE}{pos p:Pos}{x:Str}{id T:String}
theorem oX(br:HC K r f)(σ:St)(H:Hp)(Qv:VK)(h:mB K (eW f te) σ H Qv):Sr r (WQ (mB K te) WN) σ H Qv:=by
 obtain⟨Hs,ρ,ai,Q,sr,h,fin⟩:=h
 exact⟨Hs,ρ,ai,_,sr,h,fun v H1 ay m x As g1 r1 f1 q1=>br ay H1 m x v As Q Qv g1.wf r1 q1 (Fin.after fin g1)⟩
theorem dI(hc:mh X (.builtin id) r)(br:HC K r f)(hg:Gl X x)(hm:X.mg x=none)(hv:bootBuiltins x=some (.builtin id))(he:QE X K e te)
  (hs:starEach [e] X.env=(false,eval e X.env) :: starEach [] X.env:=by rfl) (hn:x ≠ "__name__" := by decide) (gL:(x == ("__debug__" : Str))=false:=by decide):QE X K (.Call (.Name x p) [e] [] pos) (eW f te) :=
 PE.imp (Ss hc hg hm hv (pT he uk hs) hn gL hs) (oX br)
theorem pN(hc:mh X (.type T) r)(br:HC K r f)(hg:Gl X x)(hm:X.mg x=none)(hv:bootBuiltins x=some (.type T))(he:QE X K e te)
  (hs:starEach [e] X.env=(false,eval e X.env) :: starEach [] X.env:=by rfl) (hn:x ≠ "__name__" := by decide) (gL:(x == ("__debug__" : Str))=false:=by decide):QE X K (.Call (.Name x p) [e] [] pos) (eW f te) :=
 PE.imp (bI' hc hg hm hv (pT he uk hs) hn gL hs) (oX br)
theorem Ej(hd:(d == sysModules)=false)(x:sj s.heap d es ep)(QD:(es.size:Int)<2 ^ 63)
  (h:∀ t t',Q (.int es.size t) { s with toks:=t' }):wpAny (model prog w) A (call (.builtin "len") [.ref d]) Q E s:=by
 refine Calls.call_function_entry kind_len plain_len entry_len (args_len1 _) ?_
 have mt:MeetsIn prog w (Builtin.«dict.__len__» ⟨[.ref d],[]⟩) (fun _ R s=>sj s.heap d es ep/\R (.ok (.ret (.int es.size s.toks))) { s with toks:=s.toks+1 }):=.of_wp fun A R s df=>by
  obtain⟨hm,h⟩:=df
  obtain⟨o,ho,hc,Qn⟩:=hm
  show wpAny _ _ (dictSize d >>= _) _ _ s
  unfold dictSize
  refine ax (ax (wpAny_dictEntries ho Qn (aS ?_)))
  show wpAny _ _ (Builtin.Dict.pendingCount d >>= _) _ _ s
  refine ax (wpAny_pendingCount_other hd ?_)
  refine wpAny_ret_mkInt ?_
  rw[Fn];exact h
 unfold Builtin.«len»
 refine ax (m:=oneArg "len" _) (aS ?_)
 refine ax (m:=callSpecial? (.ref d) (Str.ofString "__len__")) (wpAny_callSpecial?_slot (name:=Str.ofString "__len__") x.typ F.slot_dict_len
  (call_meetsIn F.slot_dict_len x.typ F.entry_dict_len (F.args_dict_len_1 _) mt ⟨x,?_⟩))
 show wpAny _ _ _ _ _ { s with toks:=s.toks+1 }
 refine ax (wpAny_holding (aS ?_))
 refine ax (wpAny_letGo ?_)
 show wpAny _ _ (if ((es.size:Nat):Int)<0 then _ else _) _ _ _
 rw[if_neg (by lia)]
 show wpAny _ _ (if ((es.size:Nat):Int) >= 2 ^ 63 then _ else _) _ _ _
 rw[if_neg (by lia)]
 exact ax (wpAny_mkInt (aS ⟨_,rfl,h _ _⟩))
theorem bF (hK:X.K=K:=by rfl):mh X (.builtin "len") (fun xs H Q=>Qh K xs H Q\/∃ a ae,xs=[.ref a]/\Rd H a (.dT ae)/\Q (.int ae.length) H):=by
 subst hK
 intro pins s σ H xs us Q I r h
 rcases h with h|⟨a,ae,rfl,ha,q⟩
 ·exact xV pins s σ H xs us Q I r h
 ·obtain⟨u,rfl,ru⟩:=Vals.one r
  cases ru
  obtain⟨z,hd,ys,rel,o,es,ep,h1,h2,h3,h4,h5⟩:=(show fA X.prog X.w H s.heap a (.dT ae) from I.rd ha)
  have hl:es.size=ae.length:=by
   have:=congrArg List.length h4
   rw[ua,bP] at this
   rw[this];exact rel.length.symm
  exact Ej hd ⟨o,h1,h2,h3⟩ (by rw[sizeLine_eq] at z;lia) fun t t'=>⟨.int ae.length,H,I.tok _,⟨t,by rw[hl]⟩,q⟩
theorem gR:HC K (fun xs H Q=>Qh K xs H Q\/∃ a ae,xs=[.ref a]/\Rd H a (.dT ae)/\Q (.int ae.length) H) oP:=by
 intro Hs H m x v As Qd Qv w rx h f
 have r1:=rx.rep w
 cases r1 with
 |str hz=>exact .inl ⟨hz,f.sh w (.int _) h⟩
 |list z s q=>exact .inl (.inl ⟨_,s,by rw[<- q.length];exact f.sh w (.int _) h⟩)
 |tup _ s q=>exact .inl (.inr (.inl ⟨_,.inl (.inl s),by rw[<- q.length];exact f.sh w (.int _) h⟩))
 |dK kk s q=>exact .inl (.inr (.inr ⟨_,s,by
   have:=q.length
   rw[bP] at this
   rw[IX,bP,<- this,JY]
   exact f.sh w (.int _) h⟩))
 |dT kk s q=>exact .inr ⟨_,_,rfl,s,by
   have:=q.length
   rw[bP] at this
   rw[IX,bP,<- this,JY]
   exact f.sh w (.int _) h⟩
 |_=>exact h.elim
end
section
variable {X:Cx}{K:PySem.W.Frag}{e e2:Expr}{te:WE}{pos p:Pos}{T:String}
theorem zQ (hK:X.K=K:=by rfl):mh X (.builtin "isinstance") (fun xs H Q=>∃ x d T,xs=[x,.ty T]/\Rep K H d x/\S4 T=true/\Q (.bl (GL d.ty T)) H):=by
 subst hK
 intro pins s σ H xs us Q I r h
 obtain⟨x,d,T,rfl,rd,hT,q⟩:=h
 obtain⟨u,v,rfl,ru,rv⟩:=Vals.two r
 obtain rfl:v=Value.type T:=rv
 have hb:T∈["str", "int", "bool", "list", "tuple", "dict"]:=by simpa[S4] using hT
 have fin:∀ tk,EP X pins σ Q (.bool (GL d.ty T)) { s with toks:=tk }:=fun tk=>⟨.bl (GL d.ty T),H,I.tok tk,rfl,q⟩
 cases rd with
 |non=>exact LB I ru .non (lr X.K _ T (by simp) hb) fin
 |bl b=>exact LB I ru (.bl b) (lr X.K _ T (by simp) hb) fin
 |int i=>exact LB I ru (.int i) (lr X.K _ T (by simp) hb) fin
 |str y=>exact LB I ru (.str _) (lr X.K _ T (by simp) hb) fin
 |list z s' q' =>
  cases ru
  obtain⟨its,_,pl,_⟩:=I.list s'
  obtain⟨o,h1,h2,_⟩:=pl.isList
  exact PySem.W.kia_one PySem.W.kitx_list I.h9 ⟨o,h1,h2⟩ (lr X.K "list" T (by simp) hb) (fun z=>nomatch z) fin
 |tup _ s' q'=>exact LB I ru (.tup s') (lr X.K _ T (by simp) hb) fin
 |dK _ s' q' =>
  cases ru
  obtain⟨_,_,vs,_,p⟩:=I.rd s'
  obtain⟨o,es,ep,h1,h2,_⟩:=p
  exact PySem.W.kia_one PySem.W.kitx_dict I.h9 ⟨o,h1,h2.1⟩ (lr X.K "dict" T (by simp) hb) (fun z=>nomatch z) fin
 |dT _ s' q' =>
  cases ru
  obtain⟨_,_,xs,_,o,es,ep,h1,h2,_⟩:=I.rd s'
  exact PySem.W.kia_one PySem.W.kitx_dict I.h9 ⟨o,h1,h2.1⟩ (lr X.K "dict" T (by simp) hb) (fun z=>nomatch z) fin
theorem uD (hm:X.mg "isinstance" = none) (he:QE X K e te) (ht:PE X e2 (tC (.ty T))) (hT:S4 T=true:=by rfl) (hg:Gl X "isinstance" := by rfl) (hK:X.K=K:=by rfl)
  (hs:starEach (e :: [e2]) X.env=(false,eval e X.env) :: starEach [e2] X.env:=by rfl) (iX:starEach (e2 :: []) X.env=(false,eval e2 X.env) :: starEach [] X.env:=by rfl) (ic:(backTo pos (starEach [e2] X.env)).any (·.1)=false:=by rfl) :
  QE X K (.Call (.Name "isinstance" p) [e,e2] [] pos) (eW (AU T) te):=by
 refine PE.imp (Ss (zQ hK) hg hm ql (pT he (pT ht uk iX) hs) (by decide) (by decide) hs ic) fun σ H Qv hx=>kC hx fun Hs ρ ai Q sr h f=>?_
 refine⟨Hs,ρ,ai,_,sr,h,fun v H1 ay m x As g1 r1 f1 q1=>⟨v,x,T,rfl,r1.rep g1.wf,hT,Fin.sh (Fin.after f g1) g1.wf (.bl _) q1⟩⟩
end
def oQ:Key->D
 |.inl i=>.int i
 |.inr x=>.str x
def uR:W1:=fun m x Q=>match x with
 |.list xs=>(de xs=true/\Q (.ow true) (.list xs))\/(m=.sh/\Q (.ow false) (.list xs))
 |.tup xs=>(de xs=true/\Q (.ow true) (.list xs))\/(m=.sh/\Q (.ow false) (.list xs))
 |.dT ae=>Q (.ow true) (.list (ae.map fun kv=>.tup (kv.1.map oQ)))
 |_=>False
section
variable {X:Cx}{K:PySem.W.Frag}
theorem qy:∀ {ks:List Key},(∀ k∈ks,wx k=true)->aT K H (ks.map oQ) (ks.map kV)
 |[],_=>.nil
 |k :: ks,h=>by
  refine .cons ?_ (qy fun j m=>h j (dn _ m))
  have:=h k dz
  cases k with
  |inl i=>exact .int i
  |inr x=>exact .str (by simpa[wx] using this)
theorem lQ:∀ (ks:List Key),de (ks.map oQ)=true
 |[]=>rfl
 |k :: ks=>by simp only[fP,de,lQ ks,Bool.and_true];cases k<;>rfl
theorem qJ(t:dw H ys ks)(h:∀ l∈ks,l.length<=sizeLine/\∀ k∈l,wx k=true):aT K H (ks.map fun l=>.tup (l.map oQ)) ys:=by
 induction ys generalizing ks with
 |nil=>rw[show ks=[] from Paired.n0 t];exact .nil
 |cons y ys ih =>
  obtain⟨k,ks,rfl,⟨b,rfl,e⟩,t2⟩:=Paired.c t
  exact .cons (.tup (by rw[bP];exact(h _ dz).1) e (qy (h _ dz).2)) (ih t2 fun l m=>h l (dn _ m))
theorem jh:∀ (ks:List (List Key)),de (ks.map fun l=>.tup (l.map oQ))=true
 |[]=>rfl
 |l :: ks=>by simp only[fP,de,jh ks,Bool.and_true,D.flat,lQ]
theorem j_ (hc:X.calm=true:=by rfl) (hK:X.K=K:=by rfl):mh X (.type "list") (fun xs H Q=>(∃ p ys,xs=[.ref p]/\(eR K H p ys\/oz K H p ys)/\∀ l,H l=none->Q (.ref l) (upd H l (.lst ys)))\/wH xs H Q):=by
 subst hK;exact co'.or (xn hc)
theorem t_:HC K (fun xs H Q=>(∃ p ys,xs=[.ref p]/\(eR K H p ys\/oz K H p ys)/\∀ l,H l=none->Q (.ref l) (upd H l (.lst ys)))\/wH xs H Q) uR:=by
 intro Hs H m x v As Qd Qv w rx h f
 have r1:=rx.rep w
 cases r1 with
 |list z s q =>
  have hl:=q.length
  rcases h with⟨hf,h⟩|⟨rfl,h⟩
  ·exact .inl ⟨_,_,rfl,.inl s,f.lst w (by lia) q hf h⟩
  ·obtain⟨_,rx⟩:=rx
   cases rx with
   |list z' s' q' =>
    have hl:=q'.length
    exact .inl ⟨_,_,rfl,.inl (aI.seq w.sub s'),f.Qz w (by lia) q' h⟩
 |tup z s q =>
  have hl:=q.length
  rcases h with⟨hf,h⟩|⟨rfl,h⟩
  ·exact .inl ⟨_,_,rfl,.inr (.inl (.inl s)),f.lst w (by lia) q hf h⟩
  ·obtain⟨_,rx⟩:=rx
   cases rx with
   |tup z' s' q' =>
    have hl:=q'.length
    exact .inl ⟨_,_,rfl,.inr (.inl (.inl (w.sub _ _ s'))),f.Qz w (by lia) q' h⟩
 |@dT _ vs ae kk s q =>
  refine .inr ⟨_,s,fun ys l ht hl=>?_⟩
  have hlen:=q.length
  rw[bP] at hlen
  have e:((ae.map (·.1)).zip vs).map (·.1)=ae.map (·.1):=List.map_fst_zip (by rw[bP];exact Nat.le_of_eq hlen)
  rw[e] at ht
  have rr:=qJ (K:=K) ht (fun l m=>by
   obtain⟨p,hp,rfl⟩:=cf.mp m
   exact kk.2 p hp)
  have ff:=jh (ae.map (·.1))
  rw[eP] at rr ff
  exact f.lst w (by rw[bP];exact kk.1) rr ff h l hl
 |_=>exact h.elim
end
section
variable {K:PySem.W.Frag}{Hs H:Hp}
theorem SR.CP(r:Rep K Hs d v)(i:Nat)(s:SR K Hs H ρ σ ai):∃ cv,cv.Sublist ai/\SR K Hs H (ρ.set i (some (.sh d))) (σ.set i (some v)) cv:=by
 induction s generalizing i with
 |nil=>exact⟨[],A6 _,.nil⟩
 |non s ih =>
  cases i with
  |zero=>exact⟨_,List.Sublist.refl _,.sh r s⟩
  |succ i=>obtain⟨t,a,b⟩:=ih i;exact⟨t,a,.non b⟩
 |sh q s ih =>
  cases i with
  |zero=>exact⟨_,List.Sublist.refl _,.sh r s⟩
  |succ i=>obtain⟨t,a,b⟩:=ih i;exact⟨t,a,.sh q b⟩
 |xc s ih =>
  cases i with
  |zero=>exact⟨_,List.Sublist.refl _,.sh r s⟩
  |succ i=>obtain⟨t,a,b⟩:=ih i;exact⟨t,a,.xc b⟩
 |ow ne q s ih =>
  cases i with
  |zero=>exact⟨_,pf _ _,.sh r s⟩
  |succ i=>obtain⟨t,a,b⟩:=ih i;exact⟨_,a.append_left _,.ow ne q b⟩
 |lk ne q s ih =>
  cases i with
  |zero=>exact⟨_,pf _ _,.sh r s⟩
  |succ i=>obtain⟨t,a,b⟩:=ih i;exact⟨_,a.append_left _,.lk ne q b⟩
theorem sG{As ai:List Addr}(nd:As.Nodup)(n:ai.Nodup)(dj:∀ a∈As,a∉ai):(As++ai).Nodup:=iO.mpr ⟨nd,n,fun a ha b hb e=>dj a ha (e ▸ hb)⟩
theorem iz{As ai B t:List Addr}(n:(B++ai).Nodup)(dj:∀ a∈As,a∉B++ai)(a:t.Nodup)(b:∀ x∈t,x∈ai\/x∈As):(B++t).Nodup/\∀ x∈B++t,x∈B++ai\/x∈As:=by
 obtain⟨n1,n2,n3⟩:=iO.mp n
 refine⟨iO.mpr ⟨n1,a,fun x hx y hy e=>?_⟩,fun x hx=>?_⟩
 ·subst e
  rcases b x hy with z|z
  ·exact n3 x hx x z rfl
  ·exact dj x z (ki _ hx)
 ·rcases dA.mp hx with z|z
  ·exact .inl (ki _ z)
  ·exact(b x z).imp (fun z=>fE _ z) fun z=>z
theorem SR.zA{d:D}{v:V}{fl:Bool}{As:List Addr}(ne:As≠[])(r:bX K Hs H fl d v As)(nd:As.Nodup){ρ:Env}{σ:St}{ai:List Addr}(i:Nat)(s:SR K Hs H ρ σ ai):ai.Nodup->(∀ a∈As,a∉ai) ->
  ∃ cv,cv.Nodup/\(∀ a∈cv,a∈ai\/a∈As)/\SR K Hs H (ρ.set i (some (.ow fl d))) (σ.set i (some v)) cv:=by
 induction s generalizing i with
 |nil=>exact fun n _=>⟨[],mP,(fun a h=>yA h),.nil⟩
 |non s ih =>
  intro n dj
  cases i with
  |zero=>exact⟨_,sG nd n dj,fun a h=>(dA.mp h).symm,.ow ne r s⟩
  |succ i=>obtain⟨t,a,b,c⟩:=ih i n dj;exact⟨t,a,b,.non c⟩
 |sh q s ih =>
  intro n dj
  cases i with
  |zero=>exact⟨_,sG nd n dj,fun a h=>(dA.mp h).symm,.ow ne r s⟩
  |succ i=>obtain⟨t,a,b,c⟩:=ih i n dj;exact⟨t,a,b,.sh q c⟩
 |xc s ih =>
  intro n dj
  cases i with
  |zero=>exact⟨_,sG nd n dj,fun a h=>(dA.mp h).symm,.ow ne r s⟩
  |succ i=>obtain⟨t,a,b,c⟩:=ih i n dj;exact⟨t,a,b,.xc c⟩
 |ow ne' q s ih =>
  intro n dj
  obtain⟨n1,n2,n3⟩:=iO.mp n
  have MY:=fun a ha m=>dj a ha (fE _ m)
  cases i with
  |zero=>exact⟨_,sG nd n2 MY,fun a h=>(dA.mp h).symm.imp (fun z=>fE _ z) fun z=>z,.ow ne r s⟩
  |succ i=>obtain⟨t,a,b,c⟩:=ih i n2 MY;exact⟨_,(iz n dj a b).1,(iz n dj a b).2,.ow ne' q c⟩
 |lk ne' q s ih =>
  intro n dj
  obtain⟨n1,n2,n3⟩:=iO.mp n
  have MY:=fun a ha m=>dj a ha (fE _ m)
  cases i with
  |zero=>exact⟨_,sG nd n2 MY,fun a h=>(dA.mp h).symm.imp (fun z=>fE _ z) fun z=>z,.ow ne r s⟩
  |succ i=>obtain⟨t,a,b,c⟩:=ih i n2 MY;exact⟨_,(iz n dj a b).1,(iz n dj a b).2,.lk ne' q c⟩
def asg:Md->D->Option Sl
 |.sh,d=>some (.sh d)
 |.ow fl,d=>some (.ow fl d)
 |.bo,d=>bif d.flat then some (.sh d) else none
theorem dE.set(i:Nat)(s:dE K Hs ρ σ H ai)(r:RM K Hs H m d v As)(nd:As.Nodup)(dj:∀ a∈As,Hs a=none/\a∉ai)(e:asg m d=some sl) :
  ∃ cv,dE K Hs (ρ.set i (some sl)) (σ.set i (some v)) H cv:=by
 have YC:Rep K Hs d v->∃ cv,dE K Hs (ρ.set i (some (.sh d))) (σ.set i (some v)) H cv:=fun r=>by
  obtain⟨t,a,b⟩:=s.sr.CP r i
  exact⟨t,b,s.wf,a.nodup s.vk,fun x hx=>s.own x (a.subset hx)⟩
 cases m with
 |sh=>cases e;exact YC r.2
 |ow fl =>
  cases e
  obtain⟨t,a,b,c⟩:=SR.zA r.2 r.1 nd i s.sr s.vk fun a ha=>(dj a ha).2
  exact⟨t,c,s.wf,a,fun x hx=>(b x hx).elim (s.own x) fun z=>(dj x z).1⟩
 |bo =>
  cases hf:d.flat with
  |true =>
   simp only[asg,hf,cond_true,Option.some.injEq] at e
   subst e
   exact YC (r.flat s.wf hf)
  |false=>simp[asg,hf] at e
end
section
variable {X:Cx}{K:PySem.W.Frag}{e c:Expr}{te:WE}{tc:WT}{pos:Pos}{st:Stmt}{a b rest:List Stmt}{t u:WS}
theorem PS.imp{te ti:TS}(h:PS X st te)(i:∀ D σ H,ti D σ H->te D σ H):PS X st ti:=fun pins s σ H D I q=>h pins s σ H D I (i D σ H q)
theorem oa.imp{te ti:TS}(h:oa X a te)(i:∀ D σ H,ti D σ H->te D σ H):oa X a ti:=fun pins s σ H D I q=>h pins s σ H D I (i D σ H q)
def cz:WS:=fun E ρ=>E.nx ρ
def bq(t u:WS):WS:=fun E ρ=>t { E with nx:=u E } ρ
def i7(te:WE):WS:=fun E ρ=>te ρ E.rt
def dc(i:Nat)(te:WE):WS:=fun E ρ=>te ρ fun m d=>match asg m d with
 |some sl=>E.nx (ρ.set i (some sl))
 |none=>False
def gu(c:WT)(t u:WS):WS:=fun E ρ=>c ρ fun b=>if b=true then t E ρ else u E ρ
theorem aM:oj X K L [] cz:=oa.imp Wr fun D σ H hx=>g8 hx fun Hs ρ ai E sr h k1 _ _ _=>k1 σ H Hs ρ ai (aI.refl _) sr h
theorem Ao{D:Ends}(h:w_ K L (bq t u) D σ H):Wq (w_ K L t) (w_ K L u) D σ H:=by
 obtain⟨Hs,ρ,ai,E,sr,h,k1,k2,k3,k4,kx⟩:=h
 refine⟨Hs,ρ,ai,{ E with nx:=u E },sr,h,fun bE H' aw cw cv s TF q=>?_,k2,k3,k4,kx⟩
 exact⟨aw,cw,cv,E,TF,q,fun ku H2 aE hX eB s2=>k1 ku H2 aE hX eB (s.trans s2),fun ku H2 aE hX eB s2=>k2 ku H2 aE hX eB (s.trans s2),fun ku H2 aE hX eB s2=>k3 ku H2 aE hX eB (s.trans s2),
  fun v H2 aE m d As s2=>k4 v H2 aE m d As (s.trans s2),fun n H2 s2=>kx n H2 (s.trans s2)⟩
theorem aj(h1:QS X K L st t)(h2:oj X K L rest u):oj X K L (st :: rest) (bq t u):=oa.imp (aD' h1 h2) fun D σ H h=>Ao h
theorem ao(h1:QS X K L st t):oj X K L [st] t:=Ws h1
theorem bO(he:QE X K e te):QS X K L (.Return (some e) pos) (i7 te):=PS.imp (PH he) fun D σ H hx=>g8 hx fun Hs ρ ai E sr h k1 k2 k3 k4 =>
 ⟨Hs,ρ,ai,_,sr,h,fun v H1 ay m d As g1 r1 f1 q1=>k4 v H1 ay m d As g1.sh g1.wf r1 f1.1 (fun a ha=>(f1.2 a ha).1) q1⟩
def iI(i:Nat):WS:=fun E ρ=>match ρ[i]? with
 |some (some (.sh d))=>E.rt .sh d
 |some (some (.ow fl d))=>E.rt (.ow fl) d
 |_=>False
theorem SR.at{ρ:Env}{σ:St}{ai:List Addr}{i:Nat}{fl:Bool}{d:D}{Hs H:Hp}(s:SR K Hs H ρ σ ai)(e:ρ[i]? = some (some (.ow fl d))):∃ v As,σ[i]? = some (some v)/\As≠[]/\bX K Hs H fl d v As/\As.Sublist ai:=by
 induction s generalizing i with
 |nil=>simp at e
 |non s ih =>
  cases i with
  |zero=>simp at e
  |succ i=>exact ih e
 |sh r s ih =>
  cases i with
  |zero=>simp at e
  |succ i=>exact ih e
 |xc s ih =>
  cases i with
  |zero=>simp at e
  |succ i=>exact ih e
 |ow ne r s ih =>
  cases i with
  |zero=>simp at e;obtain⟨rfl,rfl⟩:=e;exact⟨_,_,rfl,ne,r,E6 _ _⟩
  |succ i =>
   obtain⟨v,As,a,b,c,d⟩:=ih e
   exact⟨v,As,a,b,c,d.trans (pf _ _)⟩
 |lk ne r s ih =>
  cases i with
  |zero=>simp at e
  |succ i =>
   obtain⟨v,As,a,b,c,d⟩:=ih e
   exact⟨v,As,a,b,c,d.trans (pf _ _)⟩
theorem cY{i:Nat}(he:PE X e (FP i)):QS X K L (.Return (some e) pos) (iI i):=PS.imp (PH he) fun D σ H hx=>g8 hx fun Hs ρ ai E sr h k1 k2 k3 k4=>by
 unfold iI at h
 split at h
 ·rename_i d e1
  obtain⟨v,e2,r⟩:=sr.sr.get e1
  exact⟨v,e2,k4 v H Hs .sh d [] (aI.refl _) sr.wf ⟨rfl,r⟩ mP (fun a ha=>nomatch ha) h⟩
 ·rename_i fl d e1
  obtain⟨v,As,e2,ne,r,sb⟩:=sr.sr.at e1
  exact⟨v,e2,k4 v H Hs (.ow fl) d As (aI.refl _) sr.wf ⟨r,ne⟩ (sb.nodup sr.vk) (fun a ha=>sr.own a (sb.subset ha)) h⟩
 ·exact h.elim
theorem aB{i:Nat}{x:Str}{pos':Pos}(hN:X.N.Nodup)(hi:X.N[i]? = some x)(hx:Loc X.env.scope x)(he:QE X K e te)(hs:swapsWith e (some (.Name x pos')) pos.line X.env=pure false:=by rfl)
  (hf:X.fn x=true\/X.env.scope.names.lookup x=some .local:=by first|exact .inl rfl|exact .inr rfl|assumption):QS X K L (.Assign [.Name x pos'] e pos) (dc i te):=PS.imp (R_ hN hi hx he hs hf) fun D σ H hx=>g8 hx fun Hs ρ ai E sr h k1 k2 k3 k4=>by
 refine⟨Hs,ρ,ai,_,sr,h,fun v H1 ay m d As g1 r1 f1 q1=>?_⟩
 have q1:match asg m d with
  |some sl=>E.nx (ρ.set i (some sl))
  |none=>False:=q1
 cases e:asg m d with
 |none=>rw[e] at q1;exact q1.elim
 |some sl =>
  rw[e] at q1
  obtain⟨cv,s'⟩:=(sr.grow g1).set i r1 f1.1 (fun a ha=>⟨(f1.2 a ha).1,fun m=>(sr.sr.own a m).ne (f1.2 a ha).2⟩) e
  exact k1 _ H1 ay _ cv g1.sh s' q1
theorem cB(hc:QT X K c tc)(ha:oj X K L a t)(hb:oj X K L b u):QS X K L (.If c a b pos) (gu tc t u):=PS.imp (aH' hc ha hb) fun D σ H hx=>iU hx fun Hs ρ ai E sr h k1 k2 k3 k4 kx=>by
 refine⟨Hs,ρ,ai,_,sr,h,fun k H1 ay g1 q1=>?_⟩
 have YD:∀ bE H' aw cw cv,aI ay aw->dE K aw cw bE H' cv->E.nx cw->D.nx bE H':=fun ku H2 aE hX eB s2=>k1 ku H2 aE hX eB (g1.sh.trans s2)
 have YF:∀ bE H' aw cw cv,aI ay aw->dE K aw cw bE H' cv->E.bk cw->D.bk bE H':=fun ku H2 aE hX eB s2=>k2 ku H2 aE hX eB (g1.sh.trans s2)
 have YG:∀ bE H' aw cw cv,aI ay aw->dE K aw cw bE H' cv->E.ct cw->D.ct bE H':=fun ku H2 aE hX eB s2=>k3 ku H2 aE hX eB (g1.sh.trans s2)
 cases k with
 |true=>exact⟨ay,ρ,ai,E,sr.grow g1,q1,YD,YF,YG,(fun v H2 aE m d As s2=>k4 v H2 aE m d As (g1.sh.trans s2)),fun n H2 s2=>kx n H2 (g1.sh.trans s2)⟩
 |false=>exact⟨ay,ρ,ai,E,sr.grow g1,q1,YD,YF,YG,(fun v H2 aE m d As s2=>k4 v H2 aE m d As (g1.sh.trans s2)),fun n H2 s2=>kx n H2 (g1.sh.trans s2)⟩
def xh(Hs H:Hp)(As:List Addr):Hp:=fun a=>if a∈As then H a else Hs a
theorem lK(n:∀ a∈As,Hs a=none):aI Hs (xh Hs H As):=fun a o e=>by
 unfold xh
 rw[if_neg fun m=>by rw[n a m] at e;cases e]
 exact e
theorem Dc(w:Wf Hs H)(o:∀ a∈As,Own H a):Wf (xh Hs H As) H:=⟨fun a u e=>by
  unfold xh at e
  by_cases m:a∈As
  ·rw[if_pos m] at e;exact e
  ·rw[if_neg m] at e;exact w.sub a u e,fun a vs e=>by
  unfold xh
  rw[if_neg fun m=>(o a m).CT e]
  exact w.iP a vs e⟩
def MZ:Sl->Sl
 |.sh d=>.sh d
 |.ow _ d=>.sh d
 |.lk a fl d=>.lk a fl d
 |.xc a=>.xc a
def TH:Sl->Sl
 |.sh d=>.sh d
 |.ow _ d=>.sh d
 |.lk _ _ d=>.sh d
 |.xc a=>.xc a
def M0(i:Nat)(ρ:Env):Env:=match ρ[i]? with
 |some (some sl)=>ρ.set i (some (MZ sl))
 |_=>ρ
theorem pY{As ai B t:List Addr}(n:(B++ai).Nodup)(a:As.Sublist ai)(c:∀ x∈As,x∉t):∀ x∈As,x∉B++t:=fun x hx m=>by
 obtain⟨n1,n2,n3⟩:=iO.mp n
 rcases dA.mp m with z|z
 ·exact n3 x z x (a.subset hx) rfl
 ·exact c x hx z
theorem SR.lS(i:Nat)(s:SR K Hs H ρ σ ai):ρ[i]? = some (some (.ow fl d))->ai.Nodup ->
  ∃ (As cv:List Addr),As.Sublist ai/\cv.Sublist ai/\(∀ a∈As,a∉cv)/\∀ aw,aI Hs aw->(∀ a∈As,aw a=H a)->SR K aw H (ρ.set i (some (.sh d))) σ cv:=by
 induction s generalizing i with
 |nil=>intro e;simp at e
 |non q ih =>
  intro e n
  cases i with
  |zero=>simp at e
  |succ i =>
   obtain⟨As,t,a,b,c,d⟩:=ih i e n
   exact⟨As,t,a,b,c,fun aw s k=>.non (d aw s k)⟩
 |sh r q ih =>
  intro e n
  cases i with
  |zero=>simp at e
  |succ i =>
   obtain⟨As,t,a,b,c,d⟩:=ih i e n
   exact⟨As,t,a,b,c,fun aw s k=>.sh (r.same s) (d aw s k)⟩
 |xc q ih =>
  intro e n
  cases i with
  |zero=>simp at e
  |succ i =>
   obtain⟨As,t,a,b,c,d⟩:=ih i e n
   exact⟨As,t,a,b,c,fun aw s k=>.xc (d aw s k)⟩
 |ow ne r q ih =>
  intro e n
  obtain⟨n1,n2,n3⟩:=iO.mp n
  cases i with
  |zero =>
   simp at e
   obtain⟨rfl,rfl⟩:=e
   exact⟨_,_,E6 _ _,pf _ _,fun a h m=>n3 a h a m rfl,fun aw s k=>.sh (r.rep s k) (q.fi s fun _ _=>rfl)⟩
  |succ i =>
   obtain⟨As,t,a,b,c,d⟩:=ih i e n2
   exact⟨As,_,a.trans (pf _ _),b.append_left _,pY n a c,fun aw s k=>.ow ne (r.fi s fun _ _=>rfl) (d aw s k)⟩
 |lk ne r q ih =>
  intro e n
  obtain⟨n1,n2,n3⟩:=iO.mp n
  cases i with
  |zero=>simp at e
  |succ i =>
   obtain⟨As,t,a,b,c,d⟩:=ih i e n2
   exact⟨As,_,a.trans (pf _ _),b.append_left _,pY n a c,fun aw s k=>.lk ne (r.fi s fun _ _=>rfl) (d aw s k)⟩
theorem dE.lS(i:Nat)(s:dE K Hs ρ σ H ai):∃ aw cv,aI Hs aw/\dE K aw (M0 i ρ) σ H cv:=by
 unfold M0
 split
 ·rename_i sl e
  have keep:MZ sl=sl->∃ aw cv,aI Hs aw/\dE K aw (ρ.set i (some (MZ sl))) σ H cv:=fun hs=>by
   have e2:ρ.set i (some (MZ sl))=ρ:=by
    apply IL
    intro j
    rw[List.getElem?_set]
    by_cases h:i=j
    ·subst h
     rw[if_pos rfl,e]
     have:i<ρ.length:=(mI.mp e).1
     simp[this,hs]
    ·rw[if_neg h]
   rw[e2]
   exact⟨Hs,ai,aI.refl _,s⟩
  cases sl with
  |sh d=>exact keep rfl
  |xc a=>exact keep rfl
  |lk a fl d=>exact keep rfl
  |ow fl d =>
   obtain⟨As,t,a,b,c,g⟩:=SR.lS i s.sr e s.vk
   have hn:∀ a∈As,Hs a=none:=fun x hx=>s.own x (a.subset hx)
   have ho:∀ a∈As,Own H a:=fun x hx=>s.sr.own x (a.subset hx)
   refine⟨xh Hs H As,t,lK hn,g _ (lK hn) fun x hx=>by unfold xh;rw[if_pos hx],Dc s.wf ho,b.nodup s.vk,fun x hx=>?_⟩
   unfold xh
   rw[if_neg fun m=>c x m hx]
   exact s.own x (b.subset hx)
 ·exact⟨Hs,ai,aI.refl _,s⟩
def gd(i:Nat)(t:WS):WS:=fun E ρ=>t E (M0 i ρ)
theorem BJ{D:Ends}(h:w_ K L (gd i t) D σ H):w_ K L t D σ H:=by
 obtain⟨Hs,ρ,ai,E,sr,h,k1,k2,k3,k4,kx⟩:=h
 obtain⟨aw,cv,s,TF⟩:=sr.lS i
 exact⟨aw,_,cv,E,TF,h,fun ku H2 aE hX eB s2=>k1 ku H2 aE hX eB (s.trans s2),fun ku H2 aE hX eB s2=>k2 ku H2 aE hX eB (s.trans s2),fun ku H2 aE hX eB s2=>k3 ku H2 aE hX eB (s.trans s2),
  fun v H2 aE m d As s2=>k4 v H2 aE m d As (s.trans s2),fun n H2 s2=>kx n H2 (s.trans s2)⟩
theorem aY(i:Nat)(h:QS X K L st t):QS X K L st (gd i t):=PS.imp h fun D σ H h=>BJ h
def mU(ay H1 aw H':Hp):Hp:=fun a=>match H' a with
 |some (.tup vs)=>some (.tup vs)
 |_=>match H1 a with
  |none=>aw a
  |some _=>ay a
theorem fY(w:Wf ay H1)(s:aI H1 aw)(w':Wf aw H'):eA ay H1 (mU ay H1 aw H') H':=by
 have sa:aI H1 H':=s.trans w'.sub
 have tp:∀ a vs,H' a=some (.tup vs)->mU ay H1 aw H' a=some (.tup vs):=fun a vs e=>by unfold mU;rw[e]
 have nt:∀ a,(∀ vs,H' a≠some (.tup vs))->mU ay H1 aw H' a=match H1 a with
  |none=>aw a
  |some _=>ay a:=fun a h=>by
  unfold mU
  split
  ·rename_i vs e;exact absurd e (h vs)
  ·rfl
 refine⟨sa,fun a o e=>?_,⟨fun a o e=>?_,tp⟩,fun a h=>?_⟩
 ·have e1:=w.sub a o e
  have e2:=sa a o e1
  by_cases ht:∃ vs,o=.tup vs
  ·obtain⟨vs,rfl⟩:=ht
   exact tp a vs e2
  ·rw[nt a fun vs z=>ht ⟨vs,by rw[e2] at z;exact Option.some.inj z⟩,e1]
   exact e
 ·by_cases ht:∃ vs,H' a=some (.tup vs)
  ·obtain⟨vs,z⟩:=ht
   rw[tp a vs z] at e
   rw[z];exact e
  ·rw[nt a fun vs z=>ht ⟨vs,z⟩] at e
   cases q:H1 a with
   |none=>rw[q] at e;exact w'.sub a o e
   |some u =>
    rw[q] at e
    have:=w.sub a o e
    exact sa a o this
 ·cases q:H1 a with
  |none=>exact .inr rfl
  |some u =>
   refine .inl ?_
   by_cases ht:∃ vs,H' a=some (.tup vs)
   ·obtain⟨vs,z⟩:=ht
    have:=sa a u q
    rw[z] at this
    cases this
    rw[w.iP a vs q]
    exact fun z=>nomatch z
   ·rw[nt a fun vs z=>ht ⟨vs,z⟩,q] at h
    exact h
theorem yK{ay H1 aw H':Hp}{a:Addr}(s:aI H1 aw)(h:aw a=none)(o:Own H' a):mU ay H1 aw H' a=none/\H1 a=none:=by
 have h1:=s.free h
 refine⟨?_,h1⟩
 unfold mU
 split
 ·rename_i vs e;exact absurd e o.CT
 ·rw[h1];exact h
def qo:Md->D->Md
 |.ow true,_=>.ow true
 |_,d=>bif d.flat then .sh else .bo
theorem pF(w:Wf ay H1)(s:aI H1 aw)(w':Wf aw H')(r:RM K aw H' m d v As)(nd:As.Nodup)(own:∀ a∈As,aw a=none) :
  ∃ gv,RM K (mU ay H1 aw H') H' (qo m d) d v gv/\cT (mU ay H1 aw H') H1 gv:=by
 have g:=fY w s w'
 have other:∃ gv,RM K (mU ay H1 aw H') H' (bif d.flat then .sh else .bo) d v gv/\cT (mU ay H1 aw H') H1 gv:=by
  cases hf:d.flat with
  |true=>exact⟨[],⟨rfl,(r.rep w').lz g.wf.iP hf⟩,cT.nil⟩
  |false=>exact⟨[],⟨rfl,r.rep w'⟩,cT.nil⟩
 cases m with
 |sh=>exact other
 |bo=>exact other
 |ow fl =>
  cases fl with
  |false=>exact other
  |true=>exact⟨As,⟨bX.leaves (fun a vs e=>g.wf.iP a vs (w'.sub _ _ e)) r.1,r.2⟩,nd,fun a h=>yK s (own a h) (r.own a h)⟩
abbrev dQ:=List D->(Md->D->Prop)->Prop
def az(K:PySem.W.Frag)(sp:dQ):Sp:=fun vs H Qv _=>∃ ds Qd,aT K H ds vs/\sp ds Qd /\
 ∀ v H' aw m d As,aI H aw->Wf aw H'->RM K aw H' m d v As->As.Nodup->(∀ a∈As,aw a=none)->Qd m d->Qv v H'
def aW(n:Nat)(ds:List D):Env:=ds.map (fun d=>some (.sh d))++List.replicate (n-ds.length) none
theorem SR.start(r:aT K H ds vs):SR K H H (ds.map (fun d=>some (.sh d))++List.replicate n none) (vs.map some++List.replicate n none) []:=by
 induction ds generalizing vs with
 |nil =>
  rw[r.n0]
  induction n with
  |zero=>exact .nil
  |succ n ih=>exact .non ih
 |cons d ds ih =>
  obtain⟨u,us,rfl,r,rs⟩:=r.c
  exact .sh r (ih rs)
theorem xZ(h:az K sp vs H Qv E)(hp:∀ ds Q,sp ds Q->t { nx:=fun _=>Q .sh .non,rt:=Q } (aW N.length ds)) :
  w_ K L0 t { nx:=fun _ H'=>Qv .non H',rt:=Qv } (start N vs) H:=by
 obtain⟨ds,Qd,rs,hs,fin⟩:=h
 have hl:=rs.length
 refine⟨H,aW N.length ds,[],{ nx:=fun _=>Qd .sh .non,rt:=Qd },⟨?_,⟨aI.refl _,fun _ _ e=>e⟩,mP,fun a h=>nomatch h⟩,hp ds Qd hs,?_,?_,?_,?_,fun _ _ _ _=>trivial⟩
 ·unfold aW start
  rw[hl]
  exact SR.start rs
 ·exact fun bE H' aw cw cv s sr q=>fin .non H' aw .sh .non [] s sr.wf ⟨rfl,.non⟩ mP (fun a h=>nomatch h) q
 ·exact fun bE H' aw cw cv s sr q=>q.elim
 ·exact fun bE H' aw cw cv s sr q=>q.elim
 ·exact fun v H' aw m d As s w r nd own q=>fin v H' aw m d As s w r nd own q
theorem nV.ok{P:Program}{st:Stmt}{N ps:List Str}(F:eJ K x qual st f fd)(S:g9 N ps (bI st))(len:∀ ds Q,sp ds Q->ds.length=ps.length)
  (AA:∀ (cp:Value) (A:Around) (outer:List PySem.Env) (s:Shared) (H:Hp) (E:XK),gI k (A.deeper (envOfC qual (bI st) s.heap.objs.size f cp))->oj (mr iA P w K mg base N qual (bI st) f cp A outer s H E).FR K L0 (eI st) t)
  (hp:∀ ds Q,sp ds Q->t { nx:=fun _=>Q .sh .non,rt:=Q } (aW N.length ds)):eS P w K mg base iA (k+1) f fd ps (az K sp) :=
 F.ok S (fun vs H Q E ⟨ds,Qd,rs,hs,_⟩=>by rw[<- rs.length];exact len ds Qd hs) fun cp A outer s H vs Q E hr hs=>⟨_,AA cp A outer s H E hr,xZ hs hp⟩
def bH(sp:dQ)(t:WA):WE:=fun ρ Q=>t ρ fun ps=>sp (ps.map (·.2)) fun m d=>bT (m,d) (f:=fun p=>Q (qo p.1 p.2) p.2) ⟨⟩
theorem zH{sp:dQ}{t:WA}{σ:St}{H:Hp}{Qv:VK}{E:XK}(h:mB K (bH sp t) σ H Qv):DZ (az K sp) [] E (Qx K t) σ H Qv:=by
 obtain⟨Hs,ρ,ai,Q,sr,h,f⟩:=h
 refine⟨Hs,ρ,ai,_,sr,h,fun vs H1 ay ps As g1 r1 f1 q1=>?_⟩
 refine⟨_,_,by rw[kF];exact r1.reps g1.wf,q1,fun v H' aw m d As s w r nd own q=>?_⟩
 obtain⟨gv,r',fr⟩:=pF g1.wf s w r nd own
 exact Fin.after f g1 v H' _ (qo m d) d gv (fY g1.wf s w) r' fr q
theorem bV {k:Nat} {x:Str} {ps:List Str} {sp:dQ} {p:Pos} {es:List Expr} {t:WA} (C:dy X.prog X.w X.K X.mg X.base k x ps (az K sp)) (hr:gI k X.A) (ha:QA X K (e :: es) t) (hg:Gl X x:=by rfl) (gL:(x == ("__debug__" : Str))=false:=by decide) (he:starEach (e :: es) X.env=(false,eval e X.env) :: starEach es X.env:=by rfl)
  (ic:(backTo pos (starEach es X.env)).any (·.1)=false:=by rfl):QE X K (.Call (.Name x p) (e :: es) [] pos) (bH sp t):=PE.imp (GZ C hr ha hg gL he ic) fun σ H Qv h=>zH h
end
abbrev WG:=D->Env->(Env->Prop)->Prop
def YH(K:PySem.W.Frag)(g:WG):TG:=fun v σ H Qv=>∃ Hs ρ ai d Q,dE K Hs ρ σ H ai/\Rep K Hs d v/\g d ρ Q/\∀ bE cw cv,dE K Hs cw bE H cv->(∀ a∈cv,a∈ai)->Q cw->Qv bE H
abbrev QG(X:Cx)(K:PySem.W.Frag)(e:Expr)(g:WG):Prop:=PG X e (YH K g)
def gN(i:Nat):WG:=fun d ρ Q=>Q (ρ.set i (some (.sh d)))
abbrev EI:=List D->Env->(Env->Prop)->Prop
def eo'(K:PySem.W.Frag)(g:EI):FT:=fun vs σ H Qv=>∃ Hs ρ ai ds Q,dE K Hs ρ σ H ai/\aT K Hs ds vs/\g ds ρ Q/\∀ bE cw cv,dE K Hs cw bE H cv->(∀ a∈cv,a∈ai)->Q cw->Qv bE H
abbrev QF(X:Cx)(K:PySem.W.Frag)(es:List Expr)(g:EI):Prop:=x3 X es (eo' K g)
def iH:EI:=fun ds ρ Q=>ds=[]/\Q ρ
def a_(g:WG)(gs:EI):EI:=fun ds ρ Q=>match ds with
 |d :: ds=>g d ρ fun cw=>gs ds cw Q
 |[]=>False
def gT(n:Nat)(gs:EI):WG:=fun d ρ Q=>match d with
 |.tup ds=>ds.length=n/\gs ds ρ Q
 |_=>False
section
variable {X:Cx}{K:PySem.W.Frag}{e:Expr}{es:List Expr}{g:WG}{gs:EI}{pos:Pos}
theorem PG.imp(h:PG X e t)(i:∀ v σ H Q,t' v σ H Q->t v σ H Q):PG X e t':=fun pins s σ H v u Q I r q=>h pins s σ H v u Q I r (i v σ H Q q)
theorem x3.imp(h:x3 X es t)(i:∀ v σ H Q,t' v σ H Q->t v σ H Q):x3 X es t':=fun pins s σ H v u Q I r q=>h pins s σ H v u Q I r (i v σ H Q q)
theorem dE.Fo(i:Nat)(s:dE K Hs ρ σ H ai)(r:Rep K Hs d v):∃ cv,(∀ a∈cv,a∈ai)/\dE K Hs (ρ.set i (some (.sh d))) (σ.set i (some v)) H cv:=by
 obtain⟨t,a,b⟩:=s.sr.CP r i
 exact⟨t,fun x hx=>a.subset hx,b,s.wf,a.nodup s.vk,fun x hx=>s.own x (a.subset hx)⟩
theorem aA(hN:X.N.Nodup)(hi:X.N[i]? = some x)(hx:Loc X.env.scope x)(hf:X.fn x=true\/X.env.scope.names.lookup x=some .local:=by first|exact .inl rfl|exact .inr rfl|assumption):QG X K (.Name x pos) (gN i) :=
 PG.imp (R7 hN hi hx hf) fun v σ H Qv df=>by
  obtain⟨Hs,ρ,ai,d,Q,sr,r,h,k⟩:=df
  obtain⟨t,m,s⟩:=sr.Fo i r
  exact k _ _ t s m h
theorem dG:QF X K [] iH:=x3.imp Wt fun v σ H Qv df=>by
 obtain⟨Hs,ρ,ai,ds,Q,sr,r,h,k⟩:=df
 obtain⟨rfl,h⟩:=h
 cases r
 exact⟨rfl,k σ ρ ai sr (fun _ z=>z) h⟩
theorem aF(h1:QG X K e g)(h2:QF X K es gs)(hs:(assignEach (e :: es) X.env).map (·.2)=assign e X.env :: (assignEach es X.env).map (·.2):=by rfl):QF X K (e :: es) (a_ g gs) :=
 x3.imp (R8 h1 h2 hs) fun v σ H Qv df=>by
  obtain⟨Hs,ρ,ai,ds,Q,sr,r,h,k⟩:=df
  cases r with
  |nil=>exact h.elim
  |cons r rs=>exact⟨_,_,rfl,Hs,ρ,ai,_,_,sr,r,h,fun ku hX eB kX m2 q2=>⟨Hs,hX,eB,_,Q,kX,rs,q2,fun x4 HG eq' sr3 m3=>k x4 HG eq' sr3 fun a h=>m2 a (m3 a h)⟩⟩
theorem gA(hc:X.calm=true)(h:QF X K es gs)(hn:(assignEach es X.env).length=n:=by rfl)(md:(assignEach es X.env).findIdx? (·.1)=none:=by rfl):QG X K (.Tuple es k pos) (gT n gs) :=
 PG.imp (Wu hc h hn md) fun v σ H Qv df=>by
  obtain⟨Hs,ρ,ai,d,Q,sr,r,h,k⟩:=df
  cases r with
  |tup z e rs=>exact⟨_,_,rfl,.inl (.inl (sr.wf.sub _ _ e)),by rw[<- rs.length];exact h.1,Hs,ρ,ai,_,Q,sr,rs,h.2,k⟩
  |_=>exact h.elim
end
abbrev WI:=Env->(List D->Prop)->Prop
structure um(K:PySem.W.Frag)(J:It)(ds:List D)(C:Hp->Hp->Prop):Prop where
 go:∀ i Hs H,C Hs H->Wf Hs H->i<ds.length->J.go i H
 ng:∀ i Hs H x H' d,C Hs H->Wf Hs H->ds[i]? = some d->J.ng i H x H'->∃ aw,eA Hs H aw H'/\Rep K aw d x
 stop:∀ Hs H,C Hs H->Wf Hs H->J.stop ds.length H
abbrev zO(K:PySem.W.Frag)(Hs:Hp)(J:It)(ds:List D):Prop:=um K J ds fun G _=>aI Hs G
section
variable {K:PySem.W.Frag}{Hs:Hp}{J:It}{ds:List D}{C C':Hp->Hp->Prop}{a:Addr}
theorem um.imp(S:um K J ds C)(h:∀ Hs H,C' Hs H->C Hs H):um K J ds C':=⟨fun i Hs H c=>S.go i Hs H (h _ _ c),fun i Hs H x H' d c=>S.ng i Hs H x H' d (h _ _ c),fun Hs H c=>S.stop Hs H (h _ _ c)⟩
theorem um.seq(rs:aT K Hs ds vs)(S:mq J vs fun H=>aI Hs H):zO K Hs J ds where
 go:=fun i G H s w h=>S.go i H (s.trans w.sub) (by rw[<- rs.length];exact h)
 ng:=fun i G H x H' d s w h y=>by
  have hi:i<ds.length:=by
   rcases Nat.lt_or_ge i ds.length with q|q
   ·exact q
   ·rw[A5 q] at h;cases h
  obtain⟨e,z⟩:=S.ng i H x H' (s.trans w.sub) (by rw[<- rs.length];exact hi) y
  subst e
  obtain⟨d',ed,rd⟩:=rs.Yt z
  rw[h] at ed;cases ed
  exact⟨G,eA.refl w,rd.same s⟩
 stop:=fun G H s w=>by rw[rs.length];exact S.stop H (s.trans w.sub)
abbrev Dg(K:PySem.W.Frag)(a:Addr)(ds:List D)(C:Hp->Hp->Prop):Prop:=∀ Hs H,C Hs H->Wf Hs H->∃ vs,eR K H a vs/\aT K Hs ds vs
theorem um.list(h:Dg K a ds C):um K (PK K a) ds C where
 go:=fun i G H c w hi=>by
  obtain⟨vs,q,rs⟩:=h G H c w
  exact⟨vs,vs[i]'(by rw[<- rs.length];exact hi),q,by simp⟩
 ng:=fun i G H x H' d c w hd y=>by
  obtain⟨vs,q,rs⟩:=h G H c w
  obtain⟨rfl,y⟩:=y
  obtain⟨d',ed,rd⟩:=rs.Yt (y vs q)
  rw[hd] at ed;cases ed
  exact⟨G,eA.refl w,rd⟩
 stop:=fun G H c w=>by
  obtain⟨vs,q,rs⟩:=h G H c w
  exact⟨vs,q,by rw[rs.length];exact cq _⟩
theorem ye(s:eR K Hs a vs)(rs:aT K Hs ds vs):Dg K a ds fun G _=>aI Hs G:=fun G H c w=>⟨vs,aI.seq (c.trans w.sub) s,rs.same c⟩
end
def tpI(K:PySem.W.Frag)(wi:WI):TI:=fun σ H R=>∃ Hs ρ ai Q,dE K Hs ρ σ H ai/\wi ρ Q/\∀ J H' aw ds,eA Hs H aw H'->zO K aw J ds->ds.length<=sizeLine->Q ds->R J H'
abbrev QI(X:Cx)(K:PySem.W.Frag)(tg iter:Expr)(wi:WI):Prop:=PI X tg iter (tpI K wi)
def wL:Md->Prop
 |.bo=>False
 |_=>True
def eN(te:WE):WI:=fun ρ Q=>te ρ fun m d=>wL m/\match d with
 |.list xs=>Q xs
 |_=>False
def TJ(z:Str):List D:=z.cps.toList.map fun c=>.str ⟨#[c]⟩
def Bj(te:WE):WI:=fun ρ Q=>te ρ fun _ d=>match d with
 |.str z=>Q (TJ z)
 |_=>False
def iJ(lo:Int)(n:Nat):List D:=(List.range n).map fun i=>.int (lo+(i:Nat))
def fM(te:WE):WI:=fun ρ Q=>te ρ fun _ d=>match d with
 |.int j=>j<=16777216/\-(2 ^ 62)<=j/\Q (iJ 0 j.toNat)
 |_=>False
def vI(ta tb:WE):WI:=fun ρ Q=>ta ρ fun _ x=>tb ρ fun _ y=>match x,y with
 |.int i,.int j=>j-i<=16777216/\(-(2 ^ 62)<=i/\i<2 ^ 62/\-(2 ^ 62)<=j/\j<2 ^ 62)/\Q (iJ i (j-i).toNat)
 |_,_=>False
section
variable {X:Cx}{K:PySem.W.Frag}{e e2 tg:Expr}{te YJ:WE}{pos p:Pos}
theorem PI.imp(h:PI X tg iter t)(i:∀ σ H R,t' σ H R->t σ H R):PI X tg iter t':=fun pins s σ H R I q=>h pins s σ H R I (i σ H R q)
theorem mq.imp{J:It}(s:mq J vs c)(h:∀ H,c' H->c H):mq J vs c':=⟨fun i H q=>s.go i H (h H q),fun i H x H' q=>s.ng i H x H' (h H q),fun H q=>s.stop H (h H q)⟩
theorem RM.Ei(g:eA Hs H ay H1)(r:RM K ay H1 m d v As)(f:cT ay H As)(h:wL m):∃ aE,eA Hs H aE H1/\Rep K aE d v:=by
 cases m with
 |sh=>exact⟨ay,g,r.2⟩
 |bo=>exact h.elim
 |ow fl =>
  have n:∀ a∈As,ay a=none:=fun a ha=>(f.2 a ha).1
  have o:=r.own
  refine⟨xh ay H1 As,⟨g.all,g.sh.trans (lK n),Dc g.wf o,fun a h=>?_⟩,bX.rep (lK n) r.1 fun a ha=>by unfold xh;rw[if_pos ha]⟩
  unfold xh at h
  by_cases m:a∈As
  ·exact .inr (f.2 a m).2
  ·rw[if_neg m] at h;exact g.new a h
theorem dB(he:QE X K e te)(hK:X.K=K:=by rfl):QI X K tg e (eN te):=by
 subst hK
 refine PI.imp (Ww he) fun σ H R hx=>kC hx fun Hs ρ ai Q sr h k=>⟨Hs,ρ,ai,_,sr,h,fun v H1 ay m d As g1 r1 f1 q1=>?_⟩
 obtain⟨nb,q1⟩:=q1
 obtain⟨aE,g2,r2⟩:=r1.Ei g1 f1 nb
 cases r2 with
 |list z s rs=>exact⟨_,rfl,⟨_,aI.seq g2.wf.sub s⟩,k _ H1 aE _ g2 (.seq rs (mq.imp (By X.K _ _) fun H' s'=>aI.seq s' s)) (by rw[rs.length];exact z) q1⟩
 |_=>exact q1.elim
theorem vh:∀ (l:List Nat),aT K H (l.map fun c=>.str ⟨#[c]⟩) (l.map fun c=>V.str ⟨#[c]⟩)
 |[]=>.nil
 |c :: l=>.cons (.str (yM c)) (vh l)
theorem Iw(he:QE X K e te):QI X K tg e (Bj te):=by
 refine PI.imp (Jd he) fun σ H R hx=>kC hx fun Hs ρ ai Q sr h k=>⟨Hs,ρ,ai,_,sr,h,fun v H1 ay m d As g1 r1 f1 q1=>?_⟩
 have r:=r1.rep g1.wf
 cases r with
 |str hz=>exact⟨_,rfl,k _ H1 ay _ g1 (.seq (vh _) (mq.imp (DQ _) fun _ _=>trivial)) (by rw[bP,ua];exact hz) q1⟩
 |_=>exact q1.elim
theorem mO(lo:Int):∀ (l:List Nat),aT K H (l.map fun i=>.int (lo+(i:Nat))) (l.map fun i=>V.int (lo+(i:Nat)))
 |[]=>.nil
 |c :: l=>.cons (.int _) (mO lo l)
theorem fu (hm:X.mg "range" = none) (he:QE X K e te) (hg:Gl X "range" := by rfl) (hs:starEach [e] X.env=(false,eval e X.env) :: starEach [] X.env:=by rfl) (fe:starEach [e] X.env=[(false,eval e X.env)]:=by rfl):QI X K tg (.Call (.Name "range" p) [e] [] pos) (fM te):=by
 refine PI.imp (aS' hg hm (pT he uk hs) fe) fun σ H R hx=>kC hx fun Hs ρ ai Q sr h k=>⟨Hs,ρ,ai,_,sr,h,fun v H1 ay m d As g1 r1 f1 q1=>?_⟩
 have r:=r1.rep g1.wf
 cases r with
 |int j =>
  obtain⟨h1,h2,q1⟩:=q1
  exact⟨j,rfl,h2,by lia,k _ H1 ay _ g1 (.seq (mO 0 _) (mq.imp (zV _ _) fun _ _=>trivial)) (by rw[bP,E9,sizeLine_eq];lia) q1⟩
 |_=>exact q1.elim
theorem Eg (hm:X.mg "range" = none) (he:QE X K e te) (he2:QE X K e2 YJ) (hg:Gl X "range" := by rfl) (hs:starEach (e :: [e2]) X.env=(false,eval e X.env) :: starEach [e2] X.env:=by rfl) (iX:starEach (e2 :: []) X.env=(false,eval e2 X.env) :: starEach [] X.env:=by rfl)
  (fe:starEach [e,e2] X.env=[(false,eval e X.env),(false,eval e2 X.env)]:=by rfl) (ev':starEach [e2] X.env=[(false,eval e2 X.env)]:=by rfl):QI X K tg (.Call (.Name "range" p) [e,e2] [] pos) (vI te YJ):=by
 refine PI.imp (aT' hg hm (pT he (pT he2 uk iX) hs) fe ev') fun σ H R hx=>kC hx fun Hs ρ ai Q sr h k=>⟨Hs,ρ,ai,_,sr,h,fun v H1 ay m d As g1 r1 f1 q1=>⟨ay,ρ,ai,_,sr.grow g1,q1,fun u H2 aE n y Bs g2 r2 f2 q2=>?_⟩⟩
 have r:=(r1.grow g2).rep g2.wf
 have r':=r2.rep g2.wf
 cases r with
 |int i=>cases r' with
  |int j =>
   obtain⟨h1,h2,q2⟩:=q2
   exact⟨i,j,rfl,h2,k _ H2 aE _ (g1.trans g2) (.seq (mO i _) (mq.imp (zV _ _) fun _ _=>trivial)) (by rw[bP,E9,sizeLine_eq];lia) q2⟩
  |_=>exact q2.elim
 |_=>cases r'<;>exact q2.elim
section
variable {X:Cx}{K:PySem.W.Frag}{e tg:Expr}{te:WE}
def YK(K:PySem.W.Frag)(wi:WI):TI:=fun σ H R=>∃ Hs ρ ai Q,dE K Hs ρ σ H ai/\wi ρ Q/\∀ J H' aw ds,eA Hs H aw H'->zO K H' J ds->ds.length<=sizeLine->Q ds->R J H'
abbrev QH(X:Cx)(K:PySem.W.Frag)(tg iter:Expr)(wi:WI):Prop:=PI X tg iter (YK K wi)
theorem qY(h:QI X K tg iter wi):QH X K tg iter wi:=PI.imp h fun σ H R hx=>kC hx fun Hs ρ ai Q sr h k=>⟨Hs,ρ,ai,Q,sr,h,fun J H' aw ds g w z q=>k J H' aw ds g (w.imp fun G H s=>g.wf.sub.trans s) z q⟩
def eZ(te:WE):WI:=fun ρ Q=>te ρ fun _ d=>match d with
 |.list xs=>Q xs
 |_=>False
theorem eE(he:QE X K e te)(hK:X.K=K:=by rfl):QH X K tg e (eZ te):=by
 subst hK
 refine PI.imp (Ww he) fun σ H R hx=>kC hx fun Hs ρ ai Q sr h k=>⟨Hs,ρ,ai,_,sr,h,fun v H1 ay m d As g1 r1 f1 q1=>?_⟩
 have r:=r1.rep g1.wf
 cases r with
 |list z s rs=>exact⟨_,rfl,⟨_,s⟩,k _ H1 ay _ g1 (.list (ye s rs)) (by rw[rs.length];exact z) q1⟩
 |_=>exact q1.elim
end
def su(g:WG)(b:WS)(E:nJ):List D->Env->Prop
 |[],ρ=>E.nx ρ
 |x :: xs,ρ=>g x ρ fun om=>b { E with nx:=su g b E xs,ct:=su g b E xs,bk:=E.nx } om
def lh(wi:WI)(g:WG)(b:WS):WS:=fun E ρ=>wi ρ fun ds=>su g b E ds ρ
variable {wi:WI}{g:WG}{b:WS}{body:List Stmt}
theorem cN(hp:PassesOwn (model X.prog X.w) X.A X.env X.xe)(hc:X.calm=true)(hi:QI X K tg iter wi)(hg:QG X K tg g)(hb:oj X K L body b)(hs:∀ x,foldedSetIterable iter X.env x=pure x:=by intro _;rfl) :
  QS X K L (.For tg iter body [] pos) (lh wi g b):=by
 refine PS.imp (aV' hp hc hi hg hb hs) fun D σ H hx=>iU hx fun Hs ρ ai E sr h k1 k2 k3 k4 kx=>?_
 rw[Em]
 refine⟨Hs,ρ,ai,_,sr,h,fun J H1 ay ds g1 S hz q1=>?_⟩
 refine⟨fun i m σ H=>m=ds.length-i/\i<=ds.length/\∃ aw cw cv,aI ay aw/\dE K aw cw σ H cv/\su g b E (ds.drop i) cw,⟨ds.length,by simp,eu _,ay,ρ,ai,aI.refl _,sr.grow g1,by simpa using q1⟩,?_⟩
 rintro i m ku H2 ⟨rfl,hi,aE,hX,eB,s2,kX,q2⟩
 by_cases fR:i<ds.length
 ·refine .inr ⟨S.go i aE H2 s2 kX.wf fR,fun x4 H3=>∃ aw cw cv,aI ay aw/\dE K aw cw x4 H3 cv/\su g b E (ds.drop (i+1)) cw,fun x4 H3 h3=>⟨ds.length-(i+1),by lia,rfl,fR,h3⟩,fun x H3 y=>?_⟩
  obtain⟨fh,g3,rd⟩:=S.ng i aE H2 x H3 ds[i] s2 kX.wf (by simp[fR]) y
  rw[E5 fR] at q2
  have s3:=s2.trans g3.sh
  refine⟨fh,hX,eB,ds[i],_,kX.grow g3,rd,q2,fun σ4 tq TK QJ _ q4=>?_⟩
  refine⟨fh,tq,TK,_,QJ,q4,?_,?_,?_,?_,fun n H5 s5=>kx n H5 ((g1.sh.trans s3).trans s5)⟩
  ·exact fun TL H5 yT Nc Nn s5 Nw q5=>⟨yT,Nc,Nn,s3.trans s5,Nw,q5⟩
  ·exact fun TL H5 yT Nc Nn s5 Nw q5=>k1 TL H5 yT Nc Nn ((g1.sh.trans s3).trans s5) Nw q5
  ·exact fun TL H5 yT Nc Nn s5 Nw q5=>⟨yT,Nc,Nn,s3.trans s5,Nw,q5⟩
  ·exact fun v H5 yT m d As s5=>k4 v H5 yT m d As ((g1.sh.trans s3).trans s5)
 ·have e:i=ds.length:=by lia
  subst e
  refine .inl ⟨S.stop aE H2 s2 kX.wf,?_⟩
  rw[RD] at q2
  exact k1 ku H2 aE hX eB (g1.sh.trans s2) kX q2
theorem bM(xs:List D)(Pv:Nat->Env->Prop)(h0:Pv 0 ρ)
  (hs:∀ i x ρ,xs[i]? = some x->Pv i ρ->∀ N:Env->Prop,(∀ cw,Pv (i+1) cw->N cw)->g x ρ fun om=>b { E with nx:=N,ct:=N,bk:=E.nx } om)
  (hd:∀ ρ,Pv xs.length ρ->E.nx ρ):su g b E xs ρ:=by
 have go:∀ (k i:Nat) (ρ:Env),i+k=xs.length->Pv i ρ->su g b E (xs.drop i) ρ:=by
  intro k
  induction k with
  |zero =>
   intro i ρ e p
   have:i=xs.length:=by lia
   subst this
   rw[RD]
   exact hd ρ p
  |succ k ih =>
   intro i ρ e p
   have hi:i<xs.length:=by lia
   rw[E5 hi]
   exact hs i xs[i] ρ (by simp[hi]) p _ fun hX h2=>ih (i+1) hX (by lia) h2
 have:=go xs.length 0 ρ (by lia) h0
 simpa using this
end
def sC:WT:=fun _ Q=>Q true
def QK(m:Md)(d:D):Prop:=d.flat=true\/m=.ow true
def gZ(g:WG)(tc:WT)(te:WE):List D->Env->(List D->Prop)->Prop
 |[],_,k=>k []
 |x :: xs,ρ,k=>g x ρ fun om=>tc om fun b=>if b=true then te om fun m d=>QK m d/\gZ g tc te xs om (fun out=>k (d :: out)) else gZ g tc te xs om k
def Fw(tn:Nat)(ix:List Nat)(ρ:Env):Env:=List.replicate tn none++ix.map fun j=>(ρ[j]?).join.map TH
def fZ(wi:WI)(g:WG)(tc:WT)(te:WE)(tn:Nat)(ix:List Nat):WE:=fun ρ Q=>wi ρ fun ds=>gZ g tc te ds (Fw tn ix ρ) fun out=>Q (.ow true) (.list out)
section
variable {X:Cx}{K:PySem.W.Frag}
theorem oF{Hs H G:Hp}(sr:dE K Hs ρ σ H ai)(G':Hp):∀ (ix:List Nat),SR K H G' (ix.map fun j=>(ρ[j]?).join.map TH) (ix.map fun j=>(σ[j]?).join) []
 |[]=>.nil
 |j :: ix=>by
  have ih:=oF sr G' ix (G:=G)
  simp only[fP]
  cases e:ρ[j]? with
  |none=>exact .non ih
  |some o =>
   cases o with
   |none=>exact .non ih
   |some sl =>
    obtain⟨v,e1,r⟩:=sr.sr.get e
    rw[e1]
    cases sl with
    |sh d=>exact .sh (Rep.same sr.wf.sub r) ih
    |xc a=>subst r;exact .xc ih
    |ow fl d =>
     obtain⟨As,_,r,_⟩:=r
     exact .sh (r.rep sr.wf.sub fun _ _=>rfl) ih
    |lk a fl d =>
     obtain⟨As,_,r,_⟩:=r
     exact .sh (r.rep sr.wf.sub fun _ _=>rfl) ih
theorem tG(s:SR K H G ρ σ []):∀ (n:Nat),SR K H G (List.replicate n none++ρ) (List.replicate n none++σ) []
 |0=>s
 |n+1=>.non (tG s n)
theorem SR.heap(s:SR K Hs H ρ σ []):SR K Hs H' ρ σ []:=s.fi (aI.refl _) fun a h=>nomatch h
theorem Cv(w:Wf Hs H)(n:Hs p=none)(ho:∀ vs,o≠.tup vs):Wf Hs (upd H p o):=⟨fun b u q=>by
  rw[g7 (fun z=>by subst z;rw[n] at q;cases q)];exact w.sub b u q,fun b us q=>by
  by_cases hb:b=p
  ·subst hb;rw[kf] at q;exact absurd (Option.some.inj q) (ho us)
  ·rw[g7 hb] at q;exact w.iP b us q⟩
structure CompI(K:PySem.W.Frag)(H1:Hp)(b:Addr)(acc:List D)(ys:List V)(As:List Addr)(Hs:Hp)(ρ:Env)(τ:St)(H:Hp):Prop where
 sm:aI H1 Hs
 sr:dE K Hs ρ τ H []
 eD:H b=some (.lst ys)
 nD:Hs b=none
 ra:aD K Hs H true acc ys As
 nd:(b :: As).Nodup
 own:∀ a∈As,Hs a=none
theorem CompI.grow(c:CompI K H1 b acc ys As Hs ρ τ H)(g:eA Hs H aw H'):CompI K H1 b acc ys As aw ρ τ H' :=
 ⟨c.sm.trans g.sh,c.sr.grow g,g.all _ _ c.eD,g.nE c.nD (by rw[c.eD];exact fun z=>nomatch z),c.ra.grow g.sh g.all,c.nd,fun a ha=>g.nE (c.own a ha) (c.ra.own a ha).ne⟩
theorem CompI.push(c:CompI K H1 b acc ys As Hs ρ τ H)(r:RM K Hs H m d v Bs)(ok:QK m d)(nb:Bs.Nodup)(fb:∀ a∈Bs,Hs a=none/\a∉b :: As):∃ gv,CompI K H1 b (acc++[d]) (ys++[v]) gv Hs ρ τ (upd H b (.lst (ys++[v]))):=by
 obtain⟨B,sb,rb⟩:∃ B,B.Sublist Bs/\bX K Hs H true d v B:=by
  rcases ok with hf|rfl
  ·exact⟨[],A6 _,.sh (fun _=>hf) (r.flat c.sr.wf hf)⟩
  ·exact⟨Bs,List.Sublist.refl _,r.1⟩
 obtain⟨na,nA⟩:=ox.mp c.nd
 have QL:=fun a ha=>fb a (sb.subset ha)
 refine⟨As++(B++[]),c.sm,⟨c.sr.sr.heap,Cv c.sr.wf c.nD (fun _ z=>nomatch z),mP,fun a h=>nomatch h⟩,kf,c.nD,(c.ra.fi (H':=upd H b (.lst (ys++[v]))) (aI.refl _) fun a ha=>g7 fun z=>na (by subst z;exact ha)).append (.cons (rb.fi (aI.refl _) fun a ha=>g7 fun z=>(QL a ha).2 (by subst z;exact dz)) .nil),?_,?_⟩
 ·rw[kF]
  refine ox.mpr ⟨fun m=>(dA.mp m).elim na fun m=>(QL b m).2 dz,iO.mpr ⟨nA,sb.nodup nb,fun x hx y hy e=>(QL y hy).2 (e ▸ dn _ hx)⟩⟩
 ·rw[kF]
  exact fun a ha=>(dA.mp ha).elim (c.own a) fun m=>(QL a m).1
theorem tQ(h:mB K (fZ wi g tc te tn ix) σ H Qv):yQ (YK K wi) (YH K g) (B6 K tc) (mB K te) tn ix σ H Qv:=by
 obtain⟨Hs,ρ,ai,Q,sr,h,f⟩:=h
 rw[Av]
 refine⟨Hs,ρ,ai,_,sr,h,fun J H1 ay ds g1 S hz q1 b hb=>?_⟩
 have st:CompI K H1 b [] [] [] H1 (Fw tn ix ρ) (qC tn ix σ) (upd H1 b (.lst [])):=by
  refine⟨aI.refl _,⟨tG (oF (G:=H1) (sr.grow g1) _ ix) tn,⟨(aI.refl H1).upd hb,fun a xs e=>?_⟩,mP,fun a h=>nomatch h⟩,kf,hb,.nil,by simp,fun a h=>nomatch h⟩
  by_cases ha:a=b
  ·subst ha;rw[kf] at e;cases e
  ·rw[g7 ha] at e;exact e
 refine⟨fun i m τ H2=>m=ds.length-i/\i<=ds.length/\∃ aE hX acc ys As,CompI K H1 b acc ys As aE hX τ H2/\acc.length<=i/\gZ g tc te (ds.drop i) hX (fun out=>Q (.ow true) (.list (acc++out))),
  ⟨ds.length,by simp,eu _,H1,_,[],[],[],st,cq _,by simpa using q1⟩,?_⟩
 rintro i m τ H2 ⟨rfl,hi,aE,hX,acc,ys,As,c,la,q2⟩
 by_cases fR:i<ds.length
 ·refine .inr ⟨S.go i aE H2 c.sm c.sr.wf fR,
   fun HK v H4=>∃ G0 tq d,CompI K H1 b acc ys As G0 tq HK H4/\(∃ gv,CompI K H1 b (acc++[d]) (ys++[v]) gv G0 tq HK (upd H4 b (.lst (ys++[v]))))/\gZ g tc te (ds.drop (i+1)) tq (fun out=>Q (.ow true) (.list (acc++d :: out))),
   fun HK H3=>∃ fh HG,CompI K H1 b acc ys As fh HG HK H3/\gZ g tc te (ds.drop (i+1)) HG (fun out=>Q (.ow true) (.list (acc++out))),?_,?_,?_⟩
  ·rintro HK v H4 ⟨G0,tq,d,c4,⟨gv,c5⟩,q4⟩
   have lya:=c4.ra.length
   exact⟨ys,ds.length-(i+1),c4.eD,by lia,by lia,rfl,fR,G0,tq,acc++[d],ys++[v],gv,c5,by rw[js];simpa using la,by simpa using q4⟩
  ·rintro HK H3 ⟨fh,HG,c3,q3⟩
   exact⟨ds.length-(i+1),by lia,rfl,fR,fh,HG,acc,ys,As,c3,by lia,q3⟩
  ·intro x H3 y
   obtain⟨fh,g3,rd⟩:=S.ng i aE H2 x H3 ds[i] c.sm c.sr.wf (by simp[fR]) y
   rw[E5 fR] at q2
   have c3:=c.grow g3
   refine⟨fh,hX,[],ds[i],_,c3.sr,rd,q2,fun τ4 tq TK QJ m4 q4=>?_⟩
   have t4:TK=[]:=List.eq_nil_iff_forall_not_mem.mpr fun a ha=>nomatch m4 a ha
   subst t4
   have c4:CompI K H1 b acc ys As fh tq τ4 H3:=⟨c3.sm,QJ,c3.eD,c3.nD,c3.ra,c3.nd,c3.own⟩
   refine⟨fh,tq,[],_,QJ,q4,fun k H5 yT g5 q5=>?_⟩
   have c5:=c4.grow g5
   cases k with
   |false=>exact⟨yT,tq,c5,q5⟩
   |true =>
    refine⟨yT,tq,[],_,c5.sr,q5,fun v H6 Hs6 m6 d6 As6 g6 r6 f6 q6=>?_⟩
    have c6:=c5.grow g6
    refine⟨Hs6,tq,d6,c6,c6.push r6 q6.1 f6.1 fun a ha=>⟨(f6.2 a ha).1,fun m=>?_⟩,q6.2⟩
    rcases dv.mp m with rfl|m
    ·have:=(f6.2 _ ha).2
     rw[c5.eD] at this;cases this
    ·exact(c5.ra.own a m).ne (f6.2 a ha).2
 ·have e:i=ds.length:=by lia
  subst e
  refine .inl ⟨S.stop aE H2 c.sm c.sr.wf,?_⟩
  rw[RD] at q2
  have q2:Q (.ow true) (.list (acc++[])):=q2
  rw[kF] at q2
  have lya:=c.ra.length
  have rm:RM K aE H2 (.ow true) (.list acc) (.ref b) (b :: As):=⟨.list (by lia) c.eD c.ra,by simp⟩
  obtain⟨gv,r',fr⟩:=pF g1.wf c.sm c.sr.wf rm c.nd fun a ha=>(dv.mp ha).elim (fun z=>z ▸ c.nD) (c.own a)
  exact Fin.after f g1 (.ref b) H2 _ (.ow true) (.list acc) gv (fY g1.wf c.sm c.sr.wf) r' fr q2
theorem ya.imp(h:ya X ifs t)(i:∀ σ H Q,t' σ H Q->t σ H Q):ya X ifs t':=fun pins s σ H Q I q=>h pins s σ H Q I (i σ H Q q)
abbrev QN(X:Cx)(K:PySem.W.Frag)(ifs:List Expr)(t:WT):Prop:=ya X ifs (B6 K t)
theorem fD:QN X K [] sC:=ya.imp Dv fun σ H Qv hx=>kC hx fun Hs ρ ai Q sr h k=>k true H Hs (eA.refl sr.wf) h
theorem jU(h:QT X K c t):QN X K [c] t:=F_ h
theorem fO(hc:X.calm=true)(hi:QH X K tg iter wi)(O:bU X scope tn cn ix)
  (hg:∀ C fp gp hG,QG (bJ X scope C (tn++cn) fp gp hG) K tg g) (uS:∀ C fp gp hG,QN (bJ X scope C (tn++cn) fp gp hG) K ifs tc) (he:∀ C fp gp hG,QE (bJ X scope C (tn++cn) fp gp hG) K elt te)
  (hs:∀ x,foldedSetIterable iter X.env x=pure x:=by intro _;rfl):QE X K (.ListComp elt [⟨tg,iter,ifs,0⟩] scope pos) (fZ wi g tc te tn.length ix) :=
 PE.imp (Dy hc hi O hg uS he hs) fun σ H Qv h=>tQ h
end
theorem bz(p:D->Bool)(f:D->D)(Iv:Env->Prop):∀ (xs:List D) (ρ:Env) (k:List D->Prop),Iv ρ ->
  (∀ x∈xs,∀ ρ,Iv ρ->∀ N1:Env->Prop,∀ N2:Env->D->Prop,(∀ cw,Iv cw->p x=false->N1 cw)->(∀ cw,Iv cw->p x=true->N2 cw (f x))->g x ρ fun om=>tc om fun b=>if b=true then te om fun m d=>QK m d/\N2 om d else N1 om) ->
  k ((xs.filter p).map f)->gZ g tc te xs ρ k
 |[],_,k,_,_,h=>h
 |x :: xs,ρ,k,iv,hs,h=>by
  refine hs x dz ρ iv _ _ (fun cw NC hp=>?_) (fun cw NC hp=>?_)
  ·exact bz p f Iv xs cw k NC (fun y hy=>hs y (dn _ hy)) (by simpa[hp] using h)
  ·exact bz p f Iv xs cw _ NC (fun y hy=>hs y (dn _ hy)) (by simpa[hp] using h)
def Upd(K:PySem.W.Frag)(Hs H:Hp)(σ:St)(fl:Bool)(v:V)(up:Bool->D->Env)(gv:List Addr):Prop:=∀ aE H2 fl2 d2 gX,aI Hs aE->Wf aE H2->(∀ a,Hs a=none->H a≠none->aE a=none)->(fl2=true->fl=true) ->
  bX K aE H2 fl2 d2 v gX->gX≠[]->gX.Nodup->(∀ a∈gX,aE a=none/\(a∈gv\/H a=none))->(∀ a,H a≠none->a∉gv->H2 a=H a)->∃ eB,dE K aE (up fl2 d2) σ H2 eB
structure Place(K:PySem.W.Frag)(Hs H:Hp)(σ:St)(fl:Bool)(d:D)(v:V)(up:Bool->D->Env):Prop where
 ex:∃ gv,bX K Hs H fl d v gv/\gv≠[]/\gv.Nodup/\(∀ a∈gv,Hs a=none)/\Upd K Hs H σ fl v up gv
theorem Upd.node{K:PySem.W.Frag}(k:Upd K Hs H σ fl (.ref a) up (a :: A))(g:eA Hs H aE H2)(own:∀ x∈a :: A,Hs x=none/\H x≠none)(ho:∀ vs,o≠.tup vs)(hf:fl2=true->fl=true)
  (r:bX K aE (upd H2 a o) fl2 d2 (.ref a) (a :: C)) (nC:C.Nodup) (QQ:a∉C) (hC:∀ x∈C,x∈A\/(aE x=none/\H x=none)):∃ eB,dE K aE (up fl2 d2) σ (upd H2 a o) eB:=by
 have hn:∀ x∈a :: A,aE x=none:=fun x hx=>g.nE (own x hx).1 (own x hx).2
 refine k aE _ fl2 d2 (a :: C) g.sh (Cv g.wf (hn a dz) ho) (fun b h1 h2=>g.nE h1 h2) hf r (Pb _ _) (ox.mpr ⟨QQ,nC⟩) (fun b hb=>?_) fun b h1 h2=>?_
 ·rcases dv.mp hb with rfl|hb
  ·exact⟨hn _ dz,.inl dz⟩
  ·exact(hC b hb).elim (fun q=>⟨hn b (dn _ q),.inl (dn _ q)⟩) fun q=>⟨q.1,.inr q.2⟩
 ·rw[g7 fun z=>h2 (by subst z;exact dz)]
  cases q:H b with
  |none=>exact absurd q h1
  |some o=>exact g.all b o q
abbrev WP:=Env->(Bool->D->(Bool->D->Env)->Prop)->Prop
def tpP(K:PySem.W.Frag)(t:WP):TE:=fun σ H Qv=>∃ Hs ρ ai Q,dE K Hs ρ σ H ai/\t ρ Q/\∀ v H' aw fl d up,eA Hs H aw H'->Place K aw H' σ fl d v up->Q fl d up->Qv v H'
abbrev QP(X:Cx)(K:PySem.W.Frag)(e:Expr)(t:WP):Prop:=PE X e (tpP K t)
section
variable {K:PySem.W.Frag}{Hs H:Hp}{σ:St}{fl:Bool}{d:D}{v:V}
theorem bX.ne2:(∀ {d:D} {v:V} {As:List Addr},bX K Hs H true d v As->d.flat=false->As≠[])/\∀ {ds:List D} {vs:List V} {As:List Addr},aD K Hs H true ds vs As->de ds=false->As≠[] :=
 bX.ind (m1:=fun d _ As=>d.flat=false->As≠[]) (m2:=fun ds _ As=>de ds=false->As≠[]) (fun _ _ f _ h=>by rw[f rfl] at h;cases h) (fun _ _ _ _ _ _ _ _ _=>Pb _ _) (fun _ _ _ _ _ _ n _ ih _=>ih n) (fun _ _ _ _ _ _ _ _ _=>Pb _ _) (fun _ _ _ _ _ _ _ _ _=>Pb _ _)
  (fun h=>by simp[de] at h) fun d _ _ _ _ _ _ _ i1 i2 h=>by
   cases e:d.flat with
   |false=>exact fun z=>i1 e (IH.mp z).1
   |true =>
    simp only[de,e,Bool.true_and] at h
    exact fun z=>i2 h (IH.mp z).2
theorem bX.ne(r:bX K Hs H true d v As)(h:d.flat=false):As≠[]:=bX.ne2.1 r h
theorem aD.ne(r:aD K Hs H true ds vs As)(h:de ds=false):As≠[]:=bX.ne2.2 r h
def rj(i:Nat):WP:=fun ρ Q=>match ρ[i]? with
 |some (some (.ow fl d))=>Q fl d fun fl2 d2=>ρ.set i (some (.ow fl2 d2))
 |_=>False
theorem SR.put(i:Nat)(s:SR K Hs H ρ σ ai):ρ[i]? = some (some (.ow fl d))->ai.Nodup ->
  ∃ (v:V) (As cv:List Addr),σ[i]? = some (some v)/\As≠[]/\bX K Hs H fl d v As/\As.Sublist ai/\∀ aE H2 fl2 d2 gX,aI Hs aE->bX K aE H2 fl2 d2 v gX->gX≠[]->gX.Nodup->(∀ a∈gX,a∈ai->a∈As)->(∀ a∈ai,a∉As->H2 a=H a) ->
   ∃ eB,eB.Nodup/\(∀ a∈eB,a∈ai\/a∈gX)/\SR K aE H2 (ρ.set i (some (.ow fl2 d2))) σ eB:=by
 induction s generalizing i with
 |nil=>intro e;simp at e
 |@non ρ σ ai o q ih =>
  intro e n
  cases i with
  |zero=>simp at e
  |succ i =>
   obtain⟨v,As,t,a,b,c,d,g⟩:=ih i (by simpa using e) n
   refine⟨v,As,t,by simpa using a,b,c,d,fun aE H2 fl2 d2 gX s2 r2 ne2 ly dj st=>?_⟩
   obtain⟨t2,x,y,z⟩:=g aE H2 fl2 d2 gX s2 r2 ne2 ly dj st
   exact⟨t2,x,y,.non z⟩
 |sh r q ih =>
  intro e n
  cases i with
  |zero=>simp at e
  |succ i =>
   obtain⟨v,As,t,a,b,c,d,g⟩:=ih i (by simpa using e) n
   refine⟨v,As,t,by simpa using a,b,c,d,fun aE H2 fl2 d2 gX s2 r2 ne2 ly dj st=>?_⟩
   obtain⟨t2,x,y,z⟩:=g aE H2 fl2 d2 gX s2 r2 ne2 ly dj st
   exact⟨t2,x,y,.sh (r.same s2) z⟩
 |xc q ih =>
  intro e n
  cases i with
  |zero=>simp at e
  |succ i =>
   obtain⟨v,As,t,a,b,c,d,g⟩:=ih i (by simpa using e) n
   refine⟨v,As,t,by simpa using a,b,c,d,fun aE H2 fl2 d2 gX s2 r2 ne2 ly dj st=>?_⟩
   obtain⟨t2,x,y,z⟩:=g aE H2 fl2 d2 gX s2 r2 ne2 ly dj st
   exact⟨t2,x,y,.xc z⟩
 |@ow ρ σ t2 B fl0 d0 v ne r q ih =>
  intro e n
  obtain⟨n1,n2,n3⟩:=iO.mp n
  cases i with
  |zero =>
   simp at e
   obtain⟨rfl,rfl⟩:=e
   refine⟨v,B,t2,rfl,ne,r,E6 _ _,fun aE H2 fl2 d2 gX s2 r2 ne2 ly dj st=>⟨gX++t2,iO.mpr ⟨ly,n2,fun a ha b hb e=>?_⟩,fun a h=>?_,.ow ne2 r2 (q.fi s2 fun a h=>st a (fE _ h) fun z=>n3 a z a h rfl)⟩⟩
   ·subst e
    exact n3 a (dj a ha (fE _ hb)) a hb rfl
   ·exact(dA.mp h).symm.imp (fun z=>fE _ z) id
  |succ i =>
   obtain⟨v,As,t,a,b,c,d,g⟩:=ih i (by simpa using e) n2
   have hB:∀ x∈B,x∉As:=fun x hx m=>n3 x hx x (d.subset m) rfl
   refine⟨v,As,B++t,by simpa using a,b,c,d.trans (pf _ _),fun aE H2 fl2 d2 gX s2 r2 ne2 ly dj st=>?_⟩
   obtain⟨t2,x,y,z⟩:=g aE H2 fl2 d2 gX s2 r2 ne2 ly (fun a ha m=>dj a ha (fE _ m)) fun a ha m=>st a (fE _ ha) m
   refine⟨B++t2,iO.mpr ⟨n1,x,fun a ha b hb e=>?_⟩,fun a h=>?_,.ow ne (r.fi s2 fun a h=>st a (ki _ h) (hB a h)) z⟩
   ·subst e
    rcases y a hb with w|w
    ·exact n3 a ha a w rfl
    ·exact hB a ha (dj a w (ki _ ha))
   ·rcases dA.mp h with w|w
    ·exact .inl (ki _ w)
    ·exact(y a w).imp (fun w=>fE _ w) id
 |@lk ρ σ t2 B a0 fl0 d0 ne r q ih =>
  intro e n
  obtain⟨n1,n2,n3⟩:=iO.mp n
  cases i with
  |zero=>simp at e
  |succ i =>
   obtain⟨v,As,t,a,b,c,d,g⟩:=ih i (by simpa using e) n2
   have hB:∀ x∈B,x∉As:=fun x hx m=>n3 x hx x (d.subset m) rfl
   refine⟨v,As,B++t,by simpa using a,b,c,d.trans (pf _ _),fun aE H2 fl2 d2 gX s2 r2 ne2 ly dj st=>?_⟩
   obtain⟨t2,x,y,z⟩:=g aE H2 fl2 d2 gX s2 r2 ne2 ly (fun a ha m=>dj a ha (fE _ m)) fun a ha m=>st a (fE _ ha) m
   refine⟨B++t2,iO.mpr ⟨n1,x,fun a ha b hb e=>?_⟩,fun a h=>?_,.lk ne (r.fi s2 fun a h=>st a (ki _ h) (hB a h)) z⟩
   ·subst e
    rcases y a hb with w|w
    ·exact n3 a ha a w rfl
    ·exact hB a ha (dj a w (ki _ ha))
   ·rcases dA.mp h with w|w
    ·exact .inl (ki _ w)
    ·exact(y a w).imp (fun w=>fE _ w) id
theorem dD{X:Cx}(h:PE X e (FP i)):QP X K e (rj i):=PE.imp h fun σ H Qv hx=>kC hx fun Hs ρ ai Q sr h f=>by
 unfold rj at h
 split at h
 ·rename_i fl d e1
  obtain⟨v,As,t,e2,ne,r,sb,g⟩:=SR.put i sr.sr e1 sr.vk
  refine⟨v,e2,f v H Hs fl d _ (eA.refl sr.wf) ⟨As,r,ne,sb.nodup sr.vk,fun a h=>sr.own a (sb.subset h),fun aE H2 fl2 d2 gX s2 w2 n2 _ r2 ne2 ly o2 st=>?_⟩ h⟩
  obtain⟨t2,x,y,z⟩:=g aE H2 fl2 d2 gX s2 r2 ne2 ly (fun a ha m=>(o2 a ha).2.elim id fun q=>absurd q (sr.sr.own a m).ne) fun a ha m=>st a (sr.sr.own a ha).ne m
  exact⟨t2,z,w2,x,fun a h=>(y a h).elim (fun q=>n2 a (sr.own a q) (sr.sr.own a q).ne) fun q=>(o2 a q).1⟩
 ·exact h.elim
theorem bX.wk(h:fl2=true->fl=true)(r:bX K Hs H fl d v As):bX K Hs H fl2 d v As:=by
 cases fl2 with
 |false=>exact r.Qw
 |true=>rw[h rfl] at r;exact r
theorem aD.wk{fl fl2:Bool}{d:List D}{v:List V}{As:List Addr}(h:fl2=true->fl=true)(r:aD K Hs H fl d v As):aD K Hs H fl2 d v As:=by
 cases fl2 with
 |false=>exact r.Qw
 |true=>rw[h rfl] at r;exact r
theorem aD.at(r:aD K Hs H fl ds vs As)(e:ds[j]? = some d)(n:As.Nodup) :
  ∃ (v:V) (B:List Addr),vs[j]? = some v/\bX K Hs H fl d v B/\B.Sublist As/\∀ aE H2 fl2 d2 B2,aI Hs aE->(fl2=true->fl=true)->bX K aE H2 fl2 d2 v B2->B2.Nodup->(∀ a∈B2,a∈As->a∈B)->(∀ a∈As,a∉B->H2 a=H a) ->
   ∃ gX,gX.Nodup/\(∀ a∈gX,(a∈As/\a∉B)\/a∈B2)/\(B2≠[]->gX≠[])/\aD K aE H2 fl2 (ds.set j d2) vs gX:=by
 induction ds generalizing vs As j with
 |nil=>simp at e
 |cons x ds ih =>
  obtain⟨v,us,A,B,rfl,rfl,r,rs⟩:=r.c
  obtain⟨n1,n2,n3⟩:=iO.mp n
  cases j with
  |zero =>
   simp at e
   subst e
   refine⟨v,A,rfl,r,E6 _ _,fun aE H2 fl2 d2 B2 s2 hf r2 ly dj st=>⟨B2++B,iO.mpr ⟨ly,n2,fun a ha b hb e=>?_⟩,fun a h=>?_,fun ne z=>ne (IH.mp z).1,.cons r2 ((rs.wk hf).fi s2 fun a h=>st a (fE _ h) fun z=>n3 a z a h rfl)⟩⟩
   ·subst e
    exact n3 a (dj a ha (fE _ hb)) a hb rfl
   ·rcases dA.mp h with w|w
    ·exact .inr w
    ·exact .inl ⟨fE _ w,fun z=>n3 a z a w rfl⟩
  |succ j =>
   obtain⟨v,C,a,b,c,g⟩:=ih (j:=j) rs (by simpa using e) n2
   have hA:∀ x∈A,x∉C:=fun x hx m=>n3 x hx x (c.subset m) rfl
   refine⟨v,C,by simpa using a,b,c.trans (pf _ _),fun aE H2 fl2 d2 B2 s2 hf r2 ly dj st=>?_⟩
   obtain⟨gX,x,y,w,z⟩:=g aE H2 fl2 d2 B2 s2 hf r2 ly (fun a ha m=>dj a ha (fE _ m)) fun a ha m=>st a (fE _ ha) m
   refine⟨A++gX,iO.mpr ⟨n1,x,fun a ha b hb e=>?_⟩,fun a h=>?_,fun ne q=>w ne (IH.mp q).2,.cons ((r.wk hf).fi s2 fun a h=>st a (ki _ h) (hA a h)) z⟩
   ·subst e
    rcases y a hb with q|q
    ·exact n3 a ha a q.1 rfl
    ·exact hA a ha (dj a q (ki _ ha))
   ·rcases dA.mp h with q|q
    ·exact .inl ⟨ki _ q,hA a q⟩
    ·exact(y a q).imp (fun q=>⟨fE _ q.1,q.2⟩) id
end
section
variable {X:Cx}{K:PySem.W.Frag}{e:Expr}{p:WP}{te:WE}{apos dk pos:Pos}
def oU(fl:Bool)(m:Md)(d:D):Option Bool:=match m with
 |.sh=>some (fl && d.flat)
 |.ow b=>some (fl && b)
 |.bo=>bif d.flat then some fl else none
def y1(p:WP)(te:WE):WS:=fun E ρ=>p ρ fun fl d up=>match d with
 |.list xs=>te ρ fun m x=>xs.length<sizeLine/\match oU fl m x with
  |some fl2=>E.nx (up fl2 (.list (xs++[x])))
  |none=>False
 |_=>False
theorem Ac(w:Wf Hs H)(r:RM K Hs H m d v As)(h:oU fl m d=some fl2):(fl2=true->fl=true)/\∃ B,B.Sublist As/\bX K Hs H fl2 d v B:=by
 cases m with
 |sh =>
  cases h
  exact⟨fun z=>by cases fl<;>simp_all,[],A6 _,.sh (fun z=>by cases fl<;>simp_all) r.2⟩
 |ow b =>
  cases h
  refine⟨fun z=>by cases fl<;>simp_all,As,List.Sublist.refl _,r.1.wk fun z=>by cases fl<;>simp_all⟩
 |bo =>
  cases hf:d.flat with
  |true =>
   simp only[oU,hf,cond_true,Option.some.injEq] at h
   subst h
   exact⟨id,[],A6 _,.sh (fun _=>hf) (r.flat w hf)⟩
  |false=>simp[oU,hf] at h
theorem Place.put(pl:Place K ay H1 σ fl (.list xs) v up)(g:eA ay H1 aE H2) :
  ∃ a vs A,v=.ref a/\H2 a=some (.lst vs)/\H1 a=some (.lst vs)/\aD K aE H2 fl xs vs A/\(a :: A).Nodup/\(∀ x∈a :: A,aE x=none/\H1 x≠none) /\
   ∀ fl2 ys ws C,(fl2=true->fl=true)->aD K aE H2 fl2 ys ws C->ws.length<=sizeLine->C.Nodup->a∉C->(∀ x∈C,x∈A\/(aE x=none/\H1 x=none))->∃ eB,dE K aE (up fl2 (.list ys)) σ (upd H2 a (.lst ws)) eB:=by
 obtain⟨gv,r,ne,nd,own,k⟩:=pl.ex
 cases r with
 |sh hf _=>exact absurd rfl ne
 |@list a vs _ A hz e rs =>
  have e2:=g.all _ _ e
  have QR:=rs.grow g.sh g.all
  have hw:∀ x∈a :: A,ay x=none/\H1 x≠none:=fun x hx=>⟨own x hx,by
   rcases dv.mp hx with rfl|hx
   ·rw[e];exact fun z=>nomatch z
   ·exact(rs.own x hx).ne⟩
  exact⟨a,vs,A,rfl,e2,e,QR,nd,fun x hx=>⟨g.nE (hw x hx).1 (hw x hx).2,(hw x hx).2⟩,fun fl2 ys ws C hf nh hz ndC QQ hC=>k.node g hw (fun _ z=>by cases z) hf (.list hz kf (nh.fi (aI.refl _) fun b hb=>g7 fun z=>QQ (by subst z;exact hb))) ndC QQ hC⟩
theorem Place.YL(w:Wf ay H1)(pl:Place K ay H1 σ fl (.list xs) v up):∃ a vs,v=.ref a/\eR K H1 a vs:=by
 obtain⟨gv,r,ne,nd,own,k⟩:=pl.ex
 cases r with
 |sh hf _=>exact absurd rfl ne
 |list hz e rs=>exact⟨_,_,rfl,.inl (.inl e)⟩
theorem mZ (ho:QP X K e p) (he:QE X K e2 te) (hK:X.K=K:=by rfl) (hs:swapsWith (.Call (.Attribute e "append" apos) [e2] [] dk) none pos.line X.env=pure false:=by rfl)
  (D2:attributeBase e "append" X.env (eval e X.env)=eval e X.env:=by rfl)
  (wm:((backTo dk (starEach [e2] X.env)).all (fun x=>!x.1) && (backToKw dk (keywordEach [] X.env)).all (fun x=>x.1.isSome)
   && decide ([e2].length+([]:List Keyword).length+(if ([]:List Keyword).isEmpty then 0 else 1)<30))=true:=by rfl)
  (hline:(apos.endLine == dk.line)=true:=by rfl) (B9:starEach (e2 :: []) X.env=(false,eval e2 X.env) :: starEach [] X.env:=by rfl) (D3:(backTo dk (starEach [] X.env)).any (·.1)=false:=by rfl) :
  QS X K L (.Expr (.Call (.Attribute e "append" apos) [e2] [] dk) pos) (y1 p te):=by
 subst hK
 refine PS.imp (PF (Sy PySem.F.plainAttrs_list PySem.F.slot_list_append PySem.F.type_list_append Xk ho (pT he uk B9) D2 wm hline B9 D3) hs) fun D σ H hx=>g8 hx fun Hs ρ ai E sr h k1 k2 k3 k4=>?_
 refine⟨Hs,ρ,ai,_,sr,h,fun v H1 ay fl d up g1 p1 q1=>?_⟩
 cases d with
 |list xs =>
  obtain⟨a1,vs1,e1,s1⟩:=p1.YL g1.wf
  subst e1
  refine⟨.inl ⟨rfl,_,s1⟩,ay,ρ,ai,_,sr.grow g1,q1,fun y H2 aE m x As g2 r2 f2 q2=>?_⟩
  obtain⟨hz,q2⟩:=q2
  obtain⟨a,vs,A,ea,e2,_,rs,nd,hn,k⟩:=p1.put g2
  cases ea
  have hl:=rs.length
  refine⟨a1,vs,y,rfl,rfl,e2,by lia,?_⟩
  cases hp:oU fl m x with
  |none=>rw[hp] at q2;exact q2.elim
  |some fl2 =>
   rw[hp] at q2
   obtain⟨hf,B,sb,rb⟩:=Ac g2.wf r2 hp
   obtain⟨na,nA⟩:=ox.mp nd
   have fB:∀ x∈B,aE x=none/\H1 x=none:=fun x hx=>f2.2 x (sb.subset hx)
   have c1:(A++(B++[])).Nodup:=by
    rw[kF]
    exact iO.mpr ⟨nA,sb.nodup f2.1,fun x hx z hz e=>by subst e;exact(hn x (dn _ hx)).2 (fB x hz).2⟩
   have c2:a1∉A++(B++[]):=by
    rw[kF]
    intro m
    rcases dA.mp m with m|m
    ·exact na m
    ·exact(hn _ dz).2 (fB _ m).2
   have c3:∀ x∈A++(B++[]),x∈A\/(aE x=none/\H1 x=none):=by
    rw[kF]
    intro x hx
    exact(dA.mp hx).imp id fun z=>fB x z
   obtain⟨eB,kX⟩:=k fl2 (xs++[x]) (vs++[y]) (A++(B++[])) hf ((rs.wk hf).append (.cons rb .nil)) (by rw[js];simp;lia) c1 c2 c3
   exact k1 σ _ aE _ eB (g1.sh.trans g2.sh) kX q2
 |_=>exact q1.elim
def vM:WE:=fun _ Q=>Q (.ow true) (.dK [])
theorem zR:QE X K (.Dict [] [] pos) vM:=PE.imp cI' fun σ H Qv hx=>kC hx fun Hs ρ ai Q sr h f=>fun a ha =>
 f _ _ Hs (.ow true) (.dK []) [a] (Qy sr.wf ha fun _ z=>nomatch z) ⟨.dK (vs:=[]) ⟨eu _,fun p hp=>nomatch hp⟩ kf .nil,by simp⟩ ⟨by simp,fun b hb=>by
  obtain rfl:b=a:=by simpa using hb
  exact⟨sr.wf.sub.free ha,ha⟩⟩ h
section
variable {κ:Type}[DecidableEq κ]
theorem xT{Hs H:Hp}{fl:Bool}{k:κ}{d:D}{v:V}(r:bX K Hs H fl d v []){ae:List (κ × D)}{vs:List V}{As:List Addr}(qs:aD K Hs H fl (ae.map (·.2)) vs As):∃ ws Bs,Bs.Sublist As /\
  aD K Hs H fl ((ae.map fun kv=>if kv.1=k then (kv.1,d) else kv).map (·.2)) ws Bs/\((ae.map (·.1)).zip vs).map (fun kv=>if kv.1=k then (kv.1,v) else kv)=(((ae.map fun kv=>if kv.1=k then (kv.1,d) else kv)).map (·.1)).zip ws:=by
 induction ae generalizing vs As with
 |nil=>exact⟨[],[],A6 _,.nil,rfl⟩
 |cons p ae ih =>
  obtain⟨u,vs,A,B,rfl,rfl,q,qs⟩:=aD.c (d:=p.2) qs
  obtain⟨ws,Bs,sb,rs,e⟩:=ih qs
  by_cases h:p.1=k
  ·refine⟨v :: ws,[]++Bs,by simpa using sb.trans (pf _ _),?_,?_⟩
   ·simp only[fP,h,if_true]
    exact .cons r rs
   ·simp only[fP,E8,h,if_true,e]
  ·refine⟨u :: ws,A++Bs,sb.append_left _,?_,?_⟩
   ·simp only[fP,h,if_false]
    exact .cons q rs
   ·simp only[fP,E8,h,if_false,e]
theorem Ba{Hs H:Hp}{fl:Bool}{k:κ}{d:D}{v:V}(r:bX K Hs H fl d v []){ae:List (κ × D)}{vs:List V}{As:List Addr}(q:aD K Hs H fl (ae.map (·.2)) vs As) :
  ∃ ws Bs,Bs.Sublist As/\aD K Hs H fl ((mE ae k d).map (·.2)) ws Bs/\putK ((ae.map (·.1)).zip vs) k v=((mE ae k d).map (·.1)).zip ws:=by
 have hl:=q.length
 rw[bP] at hl
 unfold putK mE
 rw[Eu hl]
 cases h:ae.any fun kv=>decide (kv.1=k) with
 |true =>
  simp only[if_true]
  exact xT r q
 |false =>
  simp only[gy,if_false]
  refine⟨vs++[v],As++([]++[]),by simp,?_,?_⟩
  ·rw[mM]
   exact q.append (.cons r .nil)
  ·rw[mM,List.zip_append (by rw[bP];exact hl)]
   rfl
theorem ug{Hs H:Hp}{fl:Bool}{k:κ}{d:D}{v:V}(r:Rep K Hs d v)(hd:d.flat=true){ae:List (κ × D)}{vs:List V}{As:List Addr}(q:aD K Hs H fl (ae.map (·.2)) vs As) :
  ∃ ws Bs,Bs.Sublist As/\aD K Hs H fl ((mE ae k d).map (·.2)) ws Bs/\putK ((ae.map (·.1)).zip vs) k v=((mE ae k d).map (·.1)).zip ws:=Ba (.sh (fun _=>hd) r) q
theorem jf{β:Type}(ae:List (κ × β))(k:κ)(v:β):(mE ae k v).length<=ae.length+1:=by
 unfold mE
 split
 ·rw[bP];exact A8 _ _
 ·simp
theorem pq{β:Type}{ae:List (κ × β)}{k:κ}{v:β}{p:κ × β}(h:p∈mE ae k v):p.1=k\/p.1∈ae.map (·.1):=by
 unfold mE at h
 split at h
 ·obtain⟨q,hq,e⟩:=cf.mp h
  by_cases hk:q.1=k
  ·rw[if_pos hk] at e;subst e;exact .inl hk
  ·rw[if_neg hk] at e;subst e;exact .inr (cf.mpr ⟨q,hq,rfl⟩)
 ·rcases dA.mp h with h|h
  ·exact .inr (cf.mpr ⟨p,h,rfl⟩)
  ·have:p=(k,v):=by simpa using h
   subst this;exact .inl rfl
end
def A_(p:WP)(tk tv:WE):WS:=fun E ρ=>tv ρ fun _ x=>p ρ fun fl d up=>tk ρ fun _ y=>x.flat=true/\match d with
 |.dK ae=>∃ k,y.key1=some k/\ae.length<sizeLine/\E.nx (up fl (.dK (mE ae k x)))
 |.dT ae=>match y with
  |.tup ys=>∃ ks,gC ys=some ks/\ae.length<sizeLine/\E.nx (up fl (.dT (mE ae ks x)))
  |_=>False
 |_=>False
theorem uL(r:Rep K H d v)(h:d.key1=some k):wx k=true:=by
 cases r<;>simp[D.key1] at h<;>subst h
 ·rfl
 ·rename_i hz;simp[wx,hz]
theorem BP(r:aT K H ds vs)(h:gC ds=some ks):ks.length=ds.length/\∀ k∈ks,wx k=true:=by
 induction ds generalizing vs ks with
 |nil=>simp[gC] at h;subst h;exact⟨rfl,fun k hk=>nomatch hk⟩
 |cons d ds ih =>
  obtain⟨u,us,rfl,r,rs⟩:=r.c
  unfold gC at h
  cases e1:d.key1 with
  |none=>rw[e1] at h;simp at h
  |some k =>
   cases e2:gC ds with
   |none=>rw[e1,e2] at h;simp at h
   |some da =>
    rw[e1,e2] at h
    simp at h
    subst h
    obtain⟨a,b⟩:=ih rs e2
    refine⟨by simp[a],fun j hj=>?_⟩
    rcases dv.mp hj with rfl|hj
    ·exact uL r e1
    ·exact b j hj
theorem Gm{a b c:Expr}{tk tv:WE}{pos':Pos}(hu:X.A.units+64<cLine)(ho:QP X K a p)(hi:QE X K b tk)(hv:QE X K c tv)(hs:swapsWith c (some (.Subscript a b pos')) pos.line X.env=pure false:=by rfl) :
  QS X K L (.Assign [.Subscript a b pos'] c pos) (A_ p tk tv):=by
 refine PS.imp (cF' (by lia) ho hi hv hs) fun D σ H hx=>g8 hx fun Hs ρ ai E sr h k1 k2 k3 k4=>?_
 refine⟨Hs,ρ,ai,_,sr,h,fun v H1 ay m1 x As1 g1 r1 f1 q1=>⟨ay,ρ,ai,_,sr.grow g1,q1,fun u H2 aE fl d up g2 p2 q2=>⟨aE,ρ,ai,_,(sr.grow g1).grow g2,q2,fun y H3 fh m3 yd Yz g3 r3 f3 q3=>?_⟩⟩⟩
 obtain⟨hx,q3⟩:=q3
 have rx:Rep K fh x v:=((r1.grow g2).grow g3).flat g3.wf hx
 have ry:=r3.rep g3.wf
 obtain⟨gv,r,ne,nd,own,k⟩:=p2.ex
 have sm:aI Hs fh:=(g1.sh.trans g2.sh).trans g3.sh
 have lv:∀ x∈gv,aE x=none/\H2 x≠none:=fun x hx=>⟨own x hx,(r.own x hx).ne⟩
 cases r with
 |sh hf _=>exact absurd rfl ne
 |@dK a0 vs ae A kk e rs =>
  obtain⟨key,hk,hz,q⟩:=q3
  have ey:=ry.key hk
  subst ey
  obtain⟨na,nA⟩:=ox.mp nd
  obtain⟨ws,Bs,sb,nh,ew⟩:=ug (k:=key) rx hx (rs.grow g3.sh g3.all)
  have hl:ae.length=vs.length:=by have:=rs.length;rwa[bP] at this
  refine⟨a0,_,rfl,BM.k (g3.all _ _ e) (by rw[IX,bP,<- hl,JY];exact hz),?_⟩
  rw[ew]
  have nB:a0∉Bs:=fun z=>na (sb.subset z)
  obtain⟨eB,kX⟩:=k.node (fl2:=fl) (d2:=.dK (mE ae key x)) g3 lv (fun _ z=>by cases z) id (.dK ⟨fS (jf _ _ _) hz,fun p hp=>(pq hp).elim (fun z=>by rw[z];exact uL ry hk) fun z=>by obtain⟨p',fm,e'⟩:=cf.mp z;rw[<- e'];exact kk.2 p' fm⟩ kf (nh.fi (aI.refl _) fun b hb=>g7 fun z=>nB (by subst z;exact hb)))
   (sb.nodup nA) nB fun b hb=>.inl (sb.subset hb)
  exact k1 σ _ fh _ eB sm kX q
 |@dT a0 vs ae A kk e rs =>
  cases ry with
  |tup t1 e1 He =>
   obtain⟨key,hk,hz,q⟩:=q3
   obtain⟨b,eb,e5⟩:=Rep.i5 (.tup t1 e1 He) hk
   cases eb
   obtain⟨kl,ko⟩:=BP He hk
   obtain⟨na,nA⟩:=ox.mp nd
   obtain⟨ws,Bs,sb,nh,ew⟩:=ug (k:=key) rx hx (rs.grow g3.sh g3.all)
   have hl:ae.length=vs.length:=by have:=rs.length;rwa[bP] at this
   refine⟨a0,_,rfl,BM.t (g3.all _ _ e) e5 (by rw[IX,bP,<- hl,JY];exact hz),?_⟩
   rw[ew]
   have nB:a0∉Bs:=fun z=>na (sb.subset z)
   have l1:=He.length
   obtain⟨eB,kX⟩:=k.node (fl2:=fl) (d2:=.dT (mE ae key x)) g3 lv (fun _ z=>by cases z) id (.dT ⟨fS (jf _ _ _) hz,fun p hp=>(pq hp).elim (fun z=>by rw[z];exact⟨by lia,ko⟩) fun z=>by obtain⟨p',fm,e'⟩:=cf.mp z;rw[<- e'];exact kk.2 p' fm⟩ kf (nh.fi (aI.refl _) fun b hb=>g7 fun z=>nB (by subst z;exact hb)))
    (sb.nodup nA) nB fun b hb=>.inl (sb.subset hb)
   exact k1 σ _ fh _ eB sm kX q
  |_=>exact q3.elim
 |_=>exact q3.elim
end
abbrev WJ:=Env->Str->(Str->Prop)->Prop
section
variable {X:Cx}{K:PySem.W.Frag}{e:Expr}{te:WE}{j:WJ}
def mY:List D->Option (List Str)
 |[]=>some []
 |.str x :: xs=>(mY xs).map (x :: ·)
 |_ :: _=>none
def wF(to te:WE):WE:=fun ρ Q=>to ρ fun _ x=>match x with
 |.str z=>te ρ fun _ y=>match y with
  |.list ys=>∃ zs,mY ys=some zs/\(zs.map (·.length)).sum+zs.length*z.length<=16777216/\Q .sh (.str (Str.join z zs))
  |_=>False
 |_=>False
theorem Bo(r:aT K H ds vs)(q:Vals vs us)(h:mY ds=some zs):StrsAre us zs:=by
 induction ds generalizing vs us zs with
 |nil =>
  simp[mY] at h
  subst h
  have:=r.n0
  subst this
  rw[Paired.n0 q];exact .nil
 |cons d ds ih =>
  obtain⟨v,vs,rfl,r1,rs⟩:=r.c
  obtain⟨u,us,rfl,q1,qs⟩:=Paired.c q
  cases r1 with
  |str hz =>
   simp only[mY] at h
   cases e:mY ds with
   |none=>rw[e] at h;cases h
   |some ys =>
    rw[e] at h
    cases h
    obtain⟨t,rfl⟩:=q1
    exact .cons _ t (ih rs qs e)
  |_=>simp[mY] at h
theorem Er (hK:X.K=K:=by rfl):Xb X "str.join" (fun x xs H Q=>∃ z a ds vs zs,x=.str z/\xs=[.ref a]/\eR K H a vs/\aT K H ds vs/\mY ds=some zs/\(zs.map (·.length)).sum+zs.length*z.length<=16777216/\Q (.str (Str.join z zs)) H):=by
 subst hK
 intro pins s σ H x xs v us Q I rx rs h
 obtain⟨z,a,ds,vs,zs,rfl,rfl,hs,rr,e,hz,q⟩:=h
 obtain⟨t,rfl⟩:=rx
 obtain⟨u,rfl,ru⟩:=Vals.one rs
 cases ru
 obtain⟨its,rv,pl,_⟩:=I.list hs
 exact join_list pl.isList (by simpa using Bo rr rv e) hz fun t' k=>⟨.str _,H,I.tok _,⟨t',rfl⟩,by rw[show Txt.join z zs=Str.join z zs from StrLaws.glued_eq_join z zs];exact q⟩
theorem vN:∀ {zs:List Str},(Str.join z zs).length<=(zs.map (·.length)).sum+zs.length*z.length
 |[]=>by show Str.empty.length<=_;exact fS (show Str.empty.length<=0 by decide) (eu _)
 |[x]=>by simp[Str.join]
 |x :: y :: r=>by
  have ih:=vN (z:=z) (zs:=y :: r)
  show(x++z++Str.join z (y :: r)).length<=_
  rw[cG,cG]
  simp only[fP,List.sum_cons,pj,Nat.add_mul,Nat.one_mul] at ih ⊢
  lia
theorem Hu(ho:QE X K o to)(he:QE X K e te)(hK:X.K=K:=by rfl)
  (D2:attributeBase o "join" X.env (eval o X.env)=eval o X.env:=by rfl)
  (wm:((backTo dk (starEach [e] X.env)).all (fun x=>!x.1) && (backToKw dk (keywordEach [] X.env)).all (fun x=>x.1.isSome)
   && decide ([e].length+([]:List Keyword).length+(if ([]:List Keyword).isEmpty then 0 else 1)<30))=true:=by rfl)
  (hline:(apos.endLine == dk.line)=true:=by rfl) (B9:starEach (e :: []) X.env=(false,eval e X.env) :: starEach [] X.env:=by rfl) (D3:(backTo dk (starEach [] X.env)).any (·.1)=false:=by rfl) :
  QE X K (.Call (.Attribute o "join" apos) [e] [] dk) (wF to te):=by
 subst hK
 refine PE.imp (Sy PySem.F.plainAttrs_str PySem.F.slot_str_join PySem.F.type_str_join Er ho (pT he uk B9) D2 wm hline B9 D3) fun σ H Qv hx=>kC hx fun Hs ρ ai Q sr h f=>?_
 refine⟨Hs,ρ,ai,_,sr,h,fun v H1 ay m x As g1 r1 f1 q1=>?_⟩
 have r:=r1.rep g1.wf
 cases r with
 |str hz =>
  refine⟨rfl,ay,ρ,ai,_,sr.grow g1,q1,fun y H2 aE m2 x2 gX g2 r2 f2 q2=>?_⟩
  have rr:=r2.rep g2.wf
  cases rr with
  |list z s rs =>
   obtain⟨zs,e,hz,q⟩:=q2
   exact⟨_,_,_,_,zs,rfl,rfl,s,rs,e,hz,Fin.sh (Fin.after f (g1.trans g2)) g2.wf (.str (fS vN (by rw[sizeLine_eq];exact hz))) q⟩
  |_=>exact q2.elim
 |_=>exact q1.elim
def i5(k:List Key):D:=.tup (k.map oQ)
def Ms:W1:=fun _ x Q=>match x with
 |.list xs=>∃ ks sh,xs=ks.map i5/\(∀ k∈ks,gV k=true :: sh)/\∀ ms:List (List Key),ms.Perm ks->(ms.Pairwise fun a b=>fo b a=false)->Q (.ow true) (.list (ms.map i5))
 |_=>False
theorem zK{H:Hp}{ks:List Key}{vs:List V}(r:aT K H (ks.map oQ) vs):vs=ks.map kV/\∀ k∈ks,wx k=true:=by
 induction ks generalizing vs with
 |nil=>exact⟨r.n0,fun k h=>nomatch h⟩
 |cons k ks ih =>
  obtain⟨u,us,rfl,r1,rs⟩:=aT.c (d:=oQ k) r
  obtain⟨e,o⟩:=ih rs
  subst e
  cases k with
  |inl i=>cases r1;exact⟨rfl,fun j hj=>by rcases dv.mp hj with rfl|hj;rfl;exact o j hj⟩
  |inr x =>
   cases r1 with
   |str hz=>exact⟨rfl,fun j hj=>by rcases dv.mp hj with rfl|hj;simp[wx,hz];exact o j hj⟩
theorem zc{H:Hp}{ks:List (List Key)}{vs:List V}(r:aT K H (ks.map i5) vs):dw H vs ks/\∀ k∈ks,k.length<=sizeLine/\∀ j∈k,wx j=true:=by
 induction ks generalizing vs with
 |nil=>rw[r.n0];exact⟨.nil,fun k h=>nomatch h⟩
 |cons k ks ih =>
  obtain⟨u,us,rfl,r1,rs⟩:=aT.c (d:=i5 k) r
  obtain⟨t,o⟩:=ih rs
  cases r1 with
  |tup hz e q =>
   obtain⟨e2,o2⟩:=zK q
   subst e2
   exact⟨.cons ⟨_,rfl,e⟩ t,fun j hj=>by
    rcases dv.mp hj with rfl|hj
    ·exact⟨by simpa using hz,o2⟩
    ·exact o j hj⟩
theorem mR:bootBuiltins "sorted" = some (.builtin "sorted"):=by decide +kernel
end
def YM(A:List Addr)(F:Nat->List Addr):Nat->List Addr
 |0=>A
 |i+1=>F i
def EJ(K:PySem.W.Frag)(Hs H:Hp)(ρ:Env)(σ:St)(ai:List Addr)(F:Nat->List Addr):Prop:=(∀ i fl d,ρ[i]? = some (some (.ow fl d))->∃ v,σ[i]? = some (some v)/\F i≠[]/\bX K Hs H fl d v (F i)) /\
  (∀ i,(F i).Sublist ai)/\∀ i j,i≠j->∀ a∈F i,a∉F j
theorem EJ.skip{K:PySem.W.Frag}{F:Nat->List Addr}(h:EJ K Hs H ρ σ ai F)(no:∀ fl d,o≠some (.ow fl d)):EJ K Hs H (o :: ρ) (u :: σ) ai (YM [] F):=by
 obtain⟨a,b,c⟩:=h
 refine⟨fun i fl d e=>?_,fun i=>?_,fun i j ne x hx=>?_⟩
 ·cases i with
  |zero=>simp at e;exact absurd e (no fl d)
  |succ i=>exact a i fl d (by simpa using e)
 ·cases i with
  |zero=>exact A6 _
  |succ i=>exact b i
 ·cases i with
  |zero=>exact yA hx
  |succ i =>
   cases j with
   |zero=>exact fun z=>yA z
   |succ j=>exact c i j (fun z=>ne (by rw[z])) x hx
theorem EJ.own{K:PySem.W.Frag}{ai B:List Addr}{F:Nat->List Addr}(h:EJ K Hs H ρ σ ai F)(n:(B++ai).Nodup)(hs:∀ fl d,sl=.ow fl d->B≠[]/\bX K Hs H fl d v B):EJ K Hs H (some sl :: ρ) (some v :: σ) (B++ai) (YM B F):=by
 obtain⟨a,b,c⟩:=h
 obtain⟨n1,n2,n3⟩:=iO.mp n
 refine⟨fun i fl d e=>?_,fun i=>?_,fun i j ne x hx=>?_⟩
 ·cases i with
  |zero=>simp at e;exact⟨v,rfl,hs fl d e⟩
  |succ i=>exact a i fl d (by simpa using e)
 ·cases i with
  |zero=>exact E6 _ _
  |succ i=>exact(b i).trans (pf _ _)
 ·cases i with
  |zero =>
   cases j with
   |zero=>exact absurd rfl ne
   |succ j=>exact fun z=>n3 x hx x ((b j).subset z) rfl
  |succ i =>
   cases j with
   |zero=>exact fun z=>n3 x z x ((b i).subset hx) rfl
   |succ j=>exact c i j (fun z=>ne (by rw[z])) x hx
theorem SR.addrs{K:PySem.W.Frag}(s:SR K Hs H ρ σ ai):ai.Nodup->∃ F:Nat->List Addr,EJ K Hs H ρ σ ai F:=by
 induction s with
 |nil=>exact fun _=>⟨fun _=>[],fun i fl d e=>by simp at e,fun i=>A6 _,fun i j _ a h=>yA h⟩
 |non s ih =>
  intro n
  obtain⟨F,h⟩:=ih n
  exact⟨_,h.skip fun fl d z=>by cases z⟩
 |sh r s ih =>
  intro n
  obtain⟨F,h⟩:=ih n
  exact⟨_,h.skip fun fl d z=>by cases z⟩
 |xc s ih =>
  intro n
  obtain⟨F,h⟩:=ih n
  exact⟨_,h.skip fun fl d z=>by cases z⟩
 |ow ne r s ih =>
  intro n
  obtain⟨F,h⟩:=ih (iO.mp n).2.1
  exact⟨_,h.own n fun fl d e=>by cases e;exact⟨ne,r⟩⟩
 |lk ne r s ih =>
  intro n
  obtain⟨F,h⟩:=ih (iO.mp n).2.1
  exact⟨_,h.own n fun fl d e=>by cases e⟩
abbrev Plan:=List (WE ⊕ Nat)
def QV:Plan->List Nat
 |[]=>[]
 |.inl _ :: r=>QV r
 |.inr i :: r=>i :: QV r
def QX:Option (Option Sl)->Option (Md × D)
 |some (some (.sh d))=>some (.sh,d)
 |some (some (.ow fl d))=>some (.ow fl,d)
 |_=>none
def mF:Plan->Env->(List (Md × D)->Prop)->Prop
 |[],_,Q=>Q []
 |.inl t :: r,ρ,Q=>t ρ fun m x=>mF r ρ fun ps=>Q ((m,x) :: ps)
 |.inr i :: r,ρ,Q=>match QX ρ[i]? with
  |some p=>mF r ρ fun ps=>Q (p :: ps)
  |none=>False
def tpM(K:PySem.W.Frag)(pl:Plan):TA:=fun σ H Qv=>∃ (Hs:Hp) (ρ:Env) (ai:List Addr) (F:Nat->List Addr) (Q:List (Md × D)->Prop),dE K Hs ρ σ H ai/\(∀ i fl d,ρ[i]? = some (some (.ow fl d))->∃ v,σ[i]? = some (some v)/\F i≠[]/\bX K Hs H fl d v (F i))/\(∀ i,(F i).Sublist ai)/\(∀ i j,i≠j->∀ a∈F i,a∉F j) /\
 mF pl ρ Q/\∀ vs H' aw ps As,eA Hs H aw H'->w9 K aw H' ps vs As->As.Nodup->(∀ a∈As,aw a=none/\(H a=none\/∃ i∈QV pl,a∈F i))->Q ps->Qv vs H'
abbrev QM(X:Cx)(K:PySem.W.Frag)(es:List Expr)(pl:Plan):Prop:=PA X es (tpM K pl)
section
variable {X:Cx}{K:PySem.W.Frag}{e:Expr}{es:List Expr}{te:WE}{pl:Plan}{pos:Pos}
theorem CN:QM X K [] []:=PA.imp uk fun σ H Qv hx=>by
 obtain⟨Hs,ρ,ai,F,Q,sr,h1,h2,h3,h,f⟩:=hx
 exact f [] H Hs [] [] (eA.refl sr.wf) .nil mP (fun a h=>yA h) h
theorem eE'(ha:QE X K e te)(hr:QM X K es pl)(hs:starEach (e :: es) X.env=(false,eval e X.env) :: starEach es X.env:=by rfl):QM X K (e :: es) (.inl te :: pl):=by
 refine PA.imp (pT ha hr hs) fun σ H Qv df=>?_
 obtain⟨Hs,ρ,ai,F,Q,sr,h1,h2,h3,h,f⟩:=df
 refine⟨Hs,ρ,ai,_,sr,h,fun v H1 ay m x As g1 r1 f1 q1=>⟨ay,ρ,ai,F,_,sr.grow g1,(fun i fl d e=>?_),h2,h3,q1,fun vs H2 aE ps Bs g2 r2 ly o2 q2=>?_⟩⟩
 ·obtain⟨v,a,b,c⟩:=h1 i fl d e
  exact⟨v,a,b,c.grow g1.sh g1.all⟩
 ·refine f (v :: vs) H2 aE _ _ (g1.trans g2) (.cons (r1.grow g2) r2) (iO.mpr ⟨f1.1,ly,fun a ha b hb e=>?_⟩) (fun a ha=>?_) q2
  ·subst e
   rcases (o2 a hb).2 with z|⟨i,_,z⟩
   ·exact(r1.own a ha).ne z
   ·exact(sr.sr.own a ((h2 i).subset z)).ne (f1.2 a ha).2
  ·rcases dA.mp ha with z|z
   ·exact⟨g2.nE (f1.2 a z).1 (r1.own a z).ne,.inl (f1.2 a z).2⟩
   ·exact⟨(o2 a z).1,(o2 a z).2.imp g1.all.free id⟩
theorem TN(ha:PE X e (FP i))(hr:QM X K es pl)(hi:i∉QV pl:=by decide)(hs:starEach (e :: es) X.env=(false,eval e X.env) :: starEach es X.env:=by rfl):QM X K (e :: es) (.inr i :: pl):=by
 refine PA.imp (pT ha hr hs) fun σ H Qv df=>?_
 obtain⟨Hs,ρ,ai,F,Q,sr,h1,h2,h3,h,f⟩:=df
 unfold mF at h
 cases hm:QX ρ[i]? with
 |none=>rw[hm] at h;exact h.elim
 |some p =>
  rw[hm] at h
  have key:∃ v A,σ[i]? = some (some v)/\RM K Hs H p.1 p.2 v A/\A.Nodup/\∀ a∈A,a∈F i:=by
   cases e1:ρ[i]? with
   |none=>rw[e1] at hm;cases hm
   |some o =>
    cases o with
    |none=>rw[e1] at hm;cases hm
    |some sl =>
     cases sl with
     |sh d =>
      rw[e1] at hm;cases hm
      obtain⟨v,a,b⟩:=sr.sr.get e1
      exact⟨v,[],a,⟨rfl,b⟩,mP,fun a h=>nomatch h⟩
     |lk a fl d=>rw[e1] at hm;cases hm
     |xc a=>rw[e1] at hm;cases hm
     |ow fl d =>
      rw[e1] at hm;cases hm
      obtain⟨v,a,b,c⟩:=h1 i fl d e1
      exact⟨v,F i,a,⟨c,b⟩,(h2 i).nodup sr.vk,fun a h=>h⟩
  obtain⟨v,A,ev,rm,TQ,hA⟩:=key
  refine⟨v,ev,Hs,ρ,ai,F,_,sr,h1,h2,h3,h,fun vs H2 aE ps Bs g2 r2 ly o2 q2=>?_⟩
  refine f (v :: vs) H2 aE _ _ g2 (.cons (rm.grow g2) r2) (iO.mpr ⟨TQ,ly,fun a ha b hb e=>?_⟩) (fun a ha=>?_) q2
  ·subst e
   rcases (o2 a hb).2 with z|⟨j,hj,z⟩
   ·exact(rm.own a ha).ne z
   ·exact h3 i j (fun z=>hi (by rw[z];exact hj)) a (hA a ha) z
  ·rcases dA.mp ha with z|z
   ·have:a∈ai:=(h2 i).subset (hA a z)
    exact⟨g2.nE (sr.own a this) (sr.sr.own a this).ne,.inr ⟨i,dz,hA a z⟩⟩
   ·exact⟨(o2 a z).1,(o2 a z).2.imp id fun⟨j,hj,q⟩=>⟨j,dn _ hj,q⟩⟩
def Bc(pl:Plan):WS:=fun E ρ=>mF pl ρ fun ps=>ps.length<=sizeLine/\E.rt (xj ps) (.tup (ps.map (·.2)))
theorem zp{x1}(h:QM X K es pl):QS X K L (.Return (some (.Tuple es x1 ij')) pos) (Bc pl):=by
 refine PS.imp (PH (WR h)) fun D σ H hx=>g8 hx fun Hs ρ ai E sr h k1 k2 k3 k4=>?_
 obtain⟨F,h1,h2,h3⟩:=sr.sr.addrs sr.vk
 refine⟨Hs,ρ,ai,F,_,sr,h1,h2,h3,h,fun vs H1 ay ps As g1 r1 nd1 o1 q1=>?_⟩
 obtain⟨hz,q⟩:=q1
 have rl:=r1.reps g1.wf
 have hl:=rl.length
 rw[bP] at hl
 refine⟨by lia,fun p hp=>?_⟩
 have g2:=Tx (vs:=vs) g1.wf hp
 have sm:aI Hs (upd ay p (.tup vs)):=g1.sh.trans g2.sh
 unfold xj at q
 cases e1:ps.all xa with
 |true =>
  rw[e1] at q
  exact k4 _ _ _ .sh _ [] sm g2.wf ⟨rfl,.tup (by lia) kf ((r1.sh g1.wf e1).same g2.sh)⟩ mP (fun a h=>nomatch h) q
 |false =>
  rw[e1] at q
  cases e2:ps.all EH with
  |false =>
   rw[e2] at q
   exact k4 _ _ _ .bo _ [] sm g2.wf ⟨rfl,.tup (by lia) kf (rl.same g2.all)⟩ mP (fun a h=>nomatch h) q
  |true =>
   rw[e2] at q
   obtain⟨Bs,sb,nz,ro⟩:=r1.ow (fl:=ps.all B8) g1.wf e2 fun z=>z
   have kc:de (ps.map (·.2))=false:=by
    cases hf:de (ps.map (·.2)) with
    |false=>rfl
    |true=>rw[pU hf] at e1;cases e1
   exact k4 _ _ _ (.ow _) _ Bs sm g2.wf ⟨.tup (by lia) kf kc (ro.grow g2.sh g2.all),nz e1⟩ (sb.nodup nd1) (fun a ha=>g2.nE (o1 a (sb.subset ha)).1 (ro.own a ha).ne) q
end
def YN:dQ:=fun ds Q=>∃ ns:List Int,ds=[.list (ns.map .int)]/\ns.length<=63/\∀ m,Q m (.bl true)
theorem ints_rep{K:PySem.W.Frag}:∀ (ns:List Int),aT K H (ns.map .int) (ns.map V.int)
 |[]=>.nil
 |n :: ns=>.cons (.int n) (ints_rep ns)
theorem Aj{K:PySem.W.Frag}{H:Hp}{a:Addr}{ns:List Int}{E:XK}(hl:ns.length<=63)(hS:eR K H a (ns.map V.int)):az K YN [.ref a] H (fun v _=>v=.bl true) E:=by
 refine⟨[.list (ns.map .int)],fun _ d=>d=.bl true,.cons (.list (by rw[bP];exact fS hl (by decide)) hS (ints_rep ns)) .nil,⟨ns,rfl,hl,fun _=>rfl⟩,?_⟩
 intro v H' aw m d As s w r nd own q
 subst q
 have:=r.rep w
 cases this
 rfl
abbrev sg(x:Str):List Nat:=x.cps.toList
theorem kO(x y:Str):sg (x++y)=sg x++sg y:=by
 show(x.cps++y.cps).toList=_
 simp[sg]
theorem empty_app(x:Str):Str.empty++x=x:=yo (by rw[<- sg,kO];rfl)
def YQ(x:Str):Prop:=∀ c∈sg x,c<0x110000
theorem Ec(x:Str):PyData.strOk x=true↔YQ x:=by
 unfold PyData.strOk YQ sg
 rw[Array.all_eq_true']
 simp
theorem eG'{α:Type}(x:α)(l:List α):fI (x :: l) 0=some x:=by simp[L2.fI,ve]
theorem eH'{α:Type}(x y:α)(l:List α):fI (x :: y :: l) 1=some y:=by
 have:=BH (xs:=x :: y :: l) (j:=1) (v:=y) rfl
 exact this
theorem eI'{α:Type}(x y z:α)(l:List α):fI (x :: y :: z :: l) 2=some z:=by
 have:=BH (xs:=x :: y :: z :: l) (j:=2) (v:=z) rfl
 exact this
theorem Gx:Str.empty.length=0:=by decide
end L2.Q
namespace L2.Q.R
open PySem PySem.Spec PyProof.Rows L2.Q
section
variable {f:D->Prop}{k:Kt f}
theorem Mr:bT .non k=f .non:=rfl
theorem N8:bT (.bl b) k=f (.bl b):=rfl
theorem K_:bT (.int i) k=f (.int i):=rfl
theorem K6:bT (.str x) k=f (.str x):=rfl
theorem J1:bT (.list xs) k=f (.list xs):=rfl
theorem Mj:bT (.tup xs) k=f (.tup xs):=rfl
theorem Ou:bT (.dK xs) k=f (.dK xs):=rfl
theorem Og:bT (.dT xs) k=f (.dT xs):=rfl
end
theorem Jy{f:Bool->Prop}{k:Kt f}:bT true k=f true:=rfl
theorem Jf{f:Bool->Prop}{k:Kt f}:bT false k=f false:=rfl
theorem K8{d:D}{f:Md × D->Prop}{k:Kt f}:bT (Md.sh,d) k=f (.sh,d):=rfl
theorem Kp{b:Bool}{d:D}{f:Md × D->Prop}{k:Kt f}:bT (Md.ow b,d) k=f (.ow b,d):=rfl
theorem K1{d:D}{f:Md × D->Prop}{k:Kt f}:bT (Md.bo,d) k=f (.bo,d):=rfl
theorem Mi{d:D}{f:Option Sl->Prop}{k:Kt f}:bT (some (.sh d)) k=f (some (.sh d)):=rfl
theorem Ln{b:Bool}{d:D}{f:Option Sl->Prop}{k:Kt f}:bT (some (.ow b d)) k=f (some (.ow b d)):=rfl
theorem Lh{p:Md × D}{f:Option (Md × D)->Prop}{k:Kt f}:bT (some p) k=f (some p):=rfl
theorem M9{p:Bool}{f:Option Bool->Prop}{k:Kt f}:bT (some p) k=f (some p):=rfl
theorem Lq{d:D}{f:Option (Option Sl)->Prop}{k:Kt f}:bT (some (some (.sh d))) k=f (some (some (.sh d))):=rfl
theorem K4{b:Bool}{d:D}{f:Option (Option Sl)->Prop}{k:Kt f}:bT (some (some (.ow b d))) k=f (some (some (.ow b d))):=rfl
section
variable {E:nJ}{ρ:Env}{Q:Md->D->Prop}{B:Bool->Prop}{t u:WS}{te ta tb tc YR:WE}{tt tu:WT}{tar:WA}{i j n:Nat}{m m':Md}{d d':D}{sp:dQ}{p:WP}{R:List (Md × D)->Prop}
theorem Mh:cz E ρ=E.nx ρ:=rfl
theorem Nh:bq t u E ρ=t { E with nx:=u E } ρ:=rfl
theorem Om:i7 te E ρ=te ρ E.rt:=rfl
def put(sl:Option Sl)(k:Sl->Prop):Prop:=match sl with
 |some s=>k s
 |none=>False
theorem Mv:put (some (.sh d)) k=k (.sh d):=rfl
theorem KH:put (some (.ow b d)) k=k (.ow b d):=rfl
theorem Nm:dc i te E ρ=te ρ fun m d=>bT (asg m d) (f:=fun o=>put o fun sl=>E.nx (ρ.set i (some sl))) ⟨⟩:=rfl
theorem N7:gu tt t u E ρ=tt ρ fun b=>bT b (f:=fun b=>if b=true then t E ρ else u E ρ) ⟨⟩:=rfl
theorem KZ:iI i E ρ=bT ρ[i]? (f:=fun o=>match o with
 |some (some (.sh d))=>E.rt .sh d
 |some (some (.ow fl d))=>E.rt (.ow fl) d
 |_=>False) ⟨⟩:=rfl
theorem K3:Bc pl E ρ=mF pl ρ fun ps=>ps.length<=sizeLine/\E.rt (xj ps) (.tup (ps.map (·.2))):=rfl
theorem GF:mF [] ρ R=R []:=rfl
theorem Kg:mF (.inl te :: r) ρ R=te ρ fun m x=>mF r ρ fun ps=>R ((m,x) :: ps):=rfl
def YS(o:Option (Md × D))(k:Md × D->Prop):Prop:=match o with
 |some p=>k p
 |none=>False
theorem Ji{p:Md × D}{k:Md × D->Prop}:YS (some p) k=k p:=rfl
theorem Jx:mF (.inr i :: r) ρ R=bT (QX ρ[i]?) (f:=fun o=>YS o fun p=>mF r ρ fun ps=>R (p :: ps)) ⟨⟩:=rfl
theorem NZ:gd i t E ρ=t E (M0 i ρ):=rfl
-- tests
def bol(d:D)(B:Bool->Prop):Prop:=match d with
 |.bl b=>B b
 |_=>False
theorem KC:bol (.bl b) B=B b:=rfl
theorem wB_:wB te ρ B=te ρ fun _ x=>bT x (f:=fun x=>bol x B) ⟨⟩:=rfl
theorem NB:tj tt ρ B=tt ρ fun c=>B (!c):=rfl
theorem eK':AR tt tu ρ B=tt ρ fun c=>bT c (f:=fun c=>if c=true then B true else tu ρ B) ⟨⟩:=rfl
theorem Oi:sC ρ B=B true:=rfl
-- expressions
theorem Np:ag i ρ Q=bT ρ[i]? (f:=fun o=>MG o Q) ⟨⟩:=rfl
theorem Kf:MG (some (some (.sh d))) Q=Q .sh d:=rfl
theorem JL:MG (some (some (.ow b d))) Q=Q .bo d:=rfl
theorem wC_:wC d ρ Q=Q .sh d:=rfl
theorem eM':av f ta tb ρ Q=ta ρ fun m x=>tb ρ fun n y=>f m x n y Q:=rfl
theorem eN':eW f ta ρ Q=ta ρ fun m x=>f m x Q:=rfl
theorem J7:rZ f g ta tb tc ρ Q=ta ρ fun m x=>tb ρ fun n y=>f m x n y fun _ z=>bT z (f:=fun z=>bol z fun k=>bT k (f:=fun k=>if k=true then tc ρ fun l w=>g n y l w Q else Q .sh (.bl false)) ⟨⟩) ⟨⟩:=by
 unfold rZ bT bol
 rfl
theorem Mq:BW ta tb ρ Q=ta ρ fun _ x=>bT x (f:=fun x=>bol x fun c=>bT c (f:=fun c=>if c=true then tb ρ Q else Q .sh (.bl false)) ⟨⟩) ⟨⟩:=by unfold BW bT bol;rfl
theorem M8:QC ta tb ρ Q=ta ρ fun _ x=>bT x (f:=fun x=>bol x fun c=>bT c (f:=fun c=>if c=true then Q .sh (.bl true) else tb ρ Q) ⟨⟩) ⟨⟩:=by unfold QC bT bol;rfl
theorem Kz:Aq ta ρ Q=ta ρ fun _ x=>bT x (f:=fun x=>bol x fun c=>Q .sh (.bl (!c))) ⟨⟩:=by unfold Aq bT bol;rfl
theorem Kr:ak te tar ρ R=te ρ fun m x=>tar ρ fun ps=>R ((m,x) :: ps):=rfl
theorem Ov:b9 ρ R=R []:=rfl
theorem Oa:i6 tar ρ Q=tar ρ fun ps=>ps.length<=sizeLine/\Q (xj ps) (.tup (ps.map (·.2))):=rfl
theorem Nv:nS tar ρ Q=tar ρ fun ps=>ps.length<=sizeLine/\Q (Gh ps) (.list (ps.map (·.2))):=rfl
theorem Lx:bH sp tar ρ Q=tar ρ fun ps=>sp (ps.map (·.2)) fun m d=>bT (m,d) (f:=fun p=>Q (qo p.1 p.2) p.2) ⟨⟩:=rfl
-- operators
section
variable {x y:Str}{a b:Int}{xs ys:List D}{ae:List (Key × D)}{AV:List (List Key × D)}
theorem Jz:fN m (.int a) m' (.int b) Q=Q .sh (.int (a+b)):=rfl
theorem J4:fN m (.str x) m' (.str y) Q=(x.length+y.length<=sizeLine/\Q .sh (.str (x++y))):=rfl
theorem JP:fN m (.list xs) m' (.list ys) Q=(xs.length+ys.length<=sizeLine/\((de xs=true/\de ys=true/\Q (.ow true) (.list (xs++ys)))\/(m=.sh/\m'=.sh/\Q (.ow false) (.list (xs++ys))))):=rfl
theorem JT:fN m (.tup xs) m' (.tup ys) Q=(xs≠[]/\xs.length+ys.length<=sizeLine/\de xs=true/\de ys=true/\Q .sh (.tup (xs++ys))):=rfl
theorem JS:kD m (.int a) m' (.int b) Q=(FV a b/\Q .sh (.int (a*b))):=rfl
theorem JZ:oI m (.int a) m' (.int b) Q=((0<b/\b<1073741824)/\Q .sh (.int (a / b))):=rfl
theorem J5:kg m (.int a) m' (.int b) Q=(0<b/\Q .sh (.int (a % b))):=rfl
theorem Kw:EF m (.int a) m' (.int b) Q=Q .sh (.bl (decide (a<b))):=rfl
theorem KY:EF m (.str x) m' (.str y) Q=Q .sh (.bl (oB x y)):=rfl
theorem LK:MV m (.int a) m' (.int b) Q=Q .sh (.bl (decide (a<=b))):=rfl
theorem LR:MV m (.str x) m' (.str y) Q=Q .sh (.bl (!oB y x)):=rfl
theorem Mt:EG m (.int a) m' (.int b) Q=Q .sh (.bl (decide (b<a))):=rfl
theorem Lp:kN m (.int a) m' (.int b) Q=Q .sh (.bl (decide (a=b))):=rfl
theorem Ks:kN m (.str x) m' (.str y) Q=Q .sh (.bl (decide (x=y))):=rfl
theorem Li:kN m (.bl k) m' (.bl l) Q=Q .sh (.bl (decide (k=l))):=rfl
theorem M6:kN m (.list xs) m' d Q=(cE 12 (.list xs)=true/\cE 12 d=true/\Q .sh (.bl (kK (.list xs) d))):=by cases d<;>rfl
theorem MP:kN m (.tup xs) m' d Q=(cE 12 (.tup xs)=true/\cE 12 d=true/\Q .sh (.bl (kK (.tup xs) d))):=by cases d<;>rfl
theorem N6:kN m .non m' d Q=(cE 12 .non=true/\cE 12 d=true/\Q .sh (.bl (kK .non d))):=by cases d<;>rfl
theorem Ku:yB m (.int a) m' (.int b) Q=Q .sh (.bl (!decide (a=b))):=rfl
theorem KN:yB m (.str x) m' (.str y) Q=Q .sh (.bl (!decide (x=y))):=rfl
theorem Nf:yB m (.list xs) m' d Q=(cE 12 (.list xs)=true/\cE 12 d=true/\Q .sh (.bl (!kK (.list xs) d))):=by cases d<;>rfl
theorem Oj:yB m (.tup xs) m' d Q=(cE 12 (.tup xs)=true/\cE 12 d=true/\Q .sh (.bl (!kK (.tup xs) d))):=by cases d<;>rfl
theorem NP:yB m .non m' d Q=(cE 12 .non=true/\cE 12 d=true/\Q .sh (.bl (!kK .non d))):=by cases d<;>rfl
theorem MK:qk neg m (.str x) m' (.str y) Q=Q .sh (.bl (if neg then !yk x y else yk x y)):=rfl
theorem M_:qk neg m d m' (.list ys) Q=(gB d=true/\ys.all gB=true/\Q .sh (.bl (if neg then !inD d ys else inD d ys))):=rfl
theorem Ob:qk neg m d m' (.tup ys) Q=(gB d=true/\ys.all gB=true/\Q .sh (.bl (if neg then !inD d ys else inD d ys))):=rfl
theorem Nk:qk neg m d m' (.dK ae) Q = ∃ k,d.key1=some k/\Q .sh (.bl (if neg then !(fq ae k).isSome else (fq ae k).isSome)):=rfl
theorem NK:qk neg m (.tup xs) m' (.dT AV) Q = ∃ ks,gC xs=some ks/\Q .sh (.bl (if neg then !(fq AV ks).isSome else (fq AV ks).isSome)):=rfl
theorem Nt:B7 m (.int a) Q=Q .sh (.int (-a)):=rfl
theorem NT:ck m (.list xs) m' (.int a) Q = ∃ d,fI xs a=some d/\bT d (f:=fun d=>Q (kL m d) d) ⟨⟩:=rfl
theorem Mz:ck m (.tup xs) m' (.int a) Q = ∃ d,fI xs a=some d/\bT d (f:=fun d=>Q (kL m d) d) ⟨⟩:=rfl
theorem N_:ck m (.str x) m' (.int a) Q = ∃ c,fI x.cps.toList a=some c/\Q .sh (.str ⟨#[c]⟩):=rfl
theorem Ot:ck m (.dK ae) m' d Q = ∃ k d',d.key1=some k/\fq ae k=some d'/\bT d' (f:=fun d'=>Q (kL m d') d') ⟨⟩:=rfl
theorem M7:ck m (.dT AV) m' (.tup ys) Q = ∃ ks d',gC ys=some ks/\fq AV ks=some d'/\bT d' (f:=fun d'=>Q (kL m d') d') ⟨⟩:=rfl
theorem Ma:oP m (.str x) Q=Q .sh (.int x.length):=rfl
theorem Lj:oP m (.list xs) Q=Q .sh (.int xs.length):=rfl
theorem KQ:oP m (.tup xs) Q=Q .sh (.int xs.length):=rfl
theorem Lg:oP m (.dK ae) Q=Q .sh (.int ae.length):=rfl
theorem Mp:oP m (.dT AV) Q=Q .sh (.int AV.length):=rfl
theorem Nz{T:String}:AU T m d Q=Q .sh (.bl (GL d.ty T)):=rfl
theorem J2:uR m (.list xs) Q=((de xs=true/\Q (.ow true) (.list xs))\/(m=.sh/\Q (.ow false) (.list xs))):=rfl
theorem Js:uR m (.tup xs) Q=((de xs=true/\Q (.ow true) (.list xs))\/(m=.sh/\Q (.ow false) (.list xs))):=rfl
theorem J_:uR m (.dT AV) Q=Q (.ow true) (.list (AV.map fun kv=>.tup (kv.1.map oQ))):=rfl
theorem eO':sA te tl th ρ Q=te ρ fun m x=>tl ρ fun lo=>th ρ fun hi=>MX m x lo hi Q:=rfl
theorem Jh:d_ ρ O=O none:=rfl
def int'(d:D)(k:Int->Prop):Prop:=match d with
 |.int i=>k i
 |_=>False
theorem Lr:int' (.int a) k=k a:=rfl
theorem Mm:gD te ρ O=te ρ fun _ x=>bT x (f:=fun x=>int' x fun i=>O (some i)) ⟨⟩:=by unfold gD bT int';rfl
theorem Oc{lo hi:Option Int}:MX m (.str x) lo hi Q=Q .sh (.str (jS x lo hi)):=rfl
theorem Nu{lo hi:Option Int}:MX m (.list xs) lo hi Q=((de xs=true/\Q (.ow true) (.list (hV xs lo hi)))\/(m=.sh/\Q (.ow false) (.list (hV xs lo hi)))):=rfl
theorem Nj{lo hi:Option Int}:MX m (.tup xs) lo hi Q=(de xs=true/\¬ (HT.bS xs.length 0 lo=0/\HT.bS xs.length xs.length hi=xs.length)/\Q .sh (.tup (hV xs lo hi))):=rfl
end
-- texts
def ND(d:D)(k:Str->Prop):Prop:=match d with
 |.str x=>k x
 |_=>False
theorem K5:ND (.str x) k=k x:=rfl
def AW(d:D)(k:List D->Prop):Prop:=match d with
 |.list x=>k x
 |_=>False
theorem Jl:AW (.list x) k=k x:=rfl
theorem JW:wF YR te ρ Q=YR ρ fun _ x=>bT x (f:=fun x=>ND x fun z=>te ρ fun _ y=>bT y (f:=fun y=>AW y fun ys=>∃ zs,mY ys=some zs/\(zs.map (·.length)).sum+zs.length*z.length<=16777216/\Q .sh (.str (Str.join z zs))) ⟨⟩) ⟨⟩:=by unfold wF bT ND AW;rfl
-- places
theorem eP'{P:Bool->D->(Bool->D->Env)->Prop}:rj i ρ P=bT ρ[i]? (f:=fun o=>match o with
 |some (some (.ow fl d))=>P fl d fun fl2 d2=>ρ.set i (some (.ow fl2 d2))
 |_=>False) ⟨⟩:=rfl
def TR(o:Option Bool)(k:Bool->Prop):Prop:=match o with
 |some b=>k b
 |none=>False
theorem Jk:TR (some b) k=k b:=rfl
theorem Nb:y1 p te E ρ=p ρ fun fl d up=>bT d (f:=fun d=>AW d fun xs=>te ρ fun m x=>xs.length<sizeLine/\bT (oU fl m x) (f:=fun o=>TR o fun fl2=>E.nx (up fl2 (.list (xs++[x])))) ⟨⟩) ⟨⟩:=by unfold y1 bT AW TR;rfl
theorem Jr:vM ρ Q=Q (.ow true) (.dK []):=rfl
def dct(d y:D)(k1:List (Key × D)->Prop)(k2:List (List Key × D)->List D->Prop):Prop:=match d with
 |.dK ae=>k1 ae
 |.dT ae=>match y with
  |.tup ys=>k2 ae ys
  |_=>False
 |_=>False
theorem N5:dct (.dK ae) y k1 k2=k1 ae:=rfl
theorem MN:dct (.dT ae) (.tup ys) k1 k2=k2 ae ys:=rfl
theorem K7:A_ p tk tv E ρ=tv ρ fun _ x=>p ρ fun fl d up=>tk ρ fun _ y=>x.flat=true/\bT d (f:=fun d=>dct d y (fun ae=>∃ k,y.key1=some k/\ae.length<sizeLine/\E.nx (up fl (.dK (mE ae k x)))) (fun ae ys=>∃ ks,gC ys=some ks/\ae.length<sizeLine/\E.nx (up fl (.dT (mE ae ks x))))) ⟨⟩:=by
 unfold A_ bT dct
 rfl
-- loops
variable {LQ:List D->Prop}
theorem Ni:lh wi g b E ρ=wi ρ fun ds=>su g b E ds ρ:=rfl
theorem Ko:eN te ρ LQ=te ρ fun m d=>wL m/\bT d (f:=fun d=>AW d LQ) ⟨⟩:=by unfold eN bT AW;rfl
def TV(d:D)(k:List D->Prop):Prop:=match d with
 |.tup x=>k x
 |_=>False
theorem KJ:TV (.tup x) k=k x:=rfl
theorem La:Bj te ρ LQ=te ρ fun _ d=>bT d (f:=fun d=>ND d fun z=>LQ (TJ z)) ⟨⟩:=by unfold Bj bT ND;rfl
theorem JX:fM te ρ LQ=te ρ fun _ d=>bT d (f:=fun d=>int' d fun j=>j<=16777216/\-(2 ^ 62)<=j/\LQ (iJ 0 j.toNat)) ⟨⟩:=by unfold fM bT int';rfl
theorem JV:vI ta tb ρ LQ=ta ρ fun _ x=>tb ρ fun _ y=>bT x (f:=fun x=>int' x fun i=>bT y (f:=fun y=>int' y fun j=>j-i<=16777216/\(-(2 ^ 62)<=i/\i<2 ^ 62/\-(2 ^ 62)<=j/\j<2 ^ 62)/\LQ (iJ i (j-i).toNat)) ⟨⟩) ⟨⟩:=by
 unfold vI bT int'
 congr 1
 funext _ x
 congr 1
 funext _ y
 cases x<;>cases y<;>rfl
theorem Jj:wL .sh=True:=rfl
theorem Jg:wL (.ow b)=True:=rfl
theorem Je:wL .bo=False:=rfl
theorem gN_:gN i d ρ N=N (ρ.set i (some (.sh d))):=rfl
theorem gT_:gT n gs d ρ N=bT d (f:=fun d=>TV d fun ds=>ds.length=n/\gs ds ρ N) ⟨⟩:=by unfold gT bT TV;rfl
theorem KD:a_ g gs (d :: ds) ρ N=g d ρ fun cw=>gs ds cw N:=rfl
theorem Nx:iH [] ρ N=N ρ:=by simp[iH]
theorem Mu:fZ wi g tt te tn ix ρ Q=wi ρ fun ds=>gZ g tt te ds (Fw tn ix ρ) fun out=>Q (.ow true) (.list out):=rfl
end
theorem B{c:Bool}{f:Bool->Prop}{k:Kt f}(h1:c=true->f true)(h2:c=false->f false):bT c k:=by
 cases c with
 |true=>exact h1 rfl
 |false=>exact h2 rfl
theorem D{p:Prop}[Decidable p]{f:Bool->Prop}{k:Kt f}(h1:p->f true)(h2:¬ p->f false):bT (decide p) k :=
 B (fun h=>h1 (of_decide_eq_true h)) fun h=>h2 (of_decide_eq_false h)
theorem T{c:Bool}{f:Bool->Prop}{k:Kt f}(h:c=true)(h1:f true):bT c k:=by subst h;exact h1
theorem F{c:Bool}{f:Bool->Prop}{k:Kt f}(h:c=false)(h1:f false):bT c k:=by subst h;exact h1
end L2.Q.R
namespace L2
open PySem PySem.Spec PyProof.Rows
end L2
namespace L2.Q
open PySem PySem.Spec PyProof.Rows
section
variable {p:Pos}
def Kv:W1:=fun _ x Q=>match x with
 |.list xs=>∃ ks b,xs=ks.map oQ/\(∀ k∈ks,oi k=b)/\∀ ms:List Key,ms.Perm ks->(ms.Pairwise fun a b=>oD b a=false)->Q (.ow true) (.list (ms.map oQ))
 |.dK ae=>∃ b,(∀ p∈ae,oi p.1=b)/\∀ ms:List Key,ms.Perm (ae.map (·.1))->(ms.Pairwise fun a b=>oD b a=false)->Q (.ow true) (.list (ms.map oQ))
 |_=>False
end
abbrev WIL:=Env->(List D->Prop)->Prop
section
variable {X:Cx}{K:PySem.W.Frag}
theorem jY(hN:X.N.Nodup)(AH:X.N[i]? = some x)(hx:Loc X.env.scope x)(hc:X.calm=true)
  (hi:QH X K tg iter wi) (O:bU X scope tn cn ix)
  (hg:∀ C fp gp hG,QG (bJ X scope C (tn++cn) fp gp hG) K tg g) (uS:∀ C fp gp hG,QN (bJ X scope C (tn++cn) fp gp hG) K ifs tc) (he:∀ C fp gp hG,QE (bJ X scope C (tn++cn) fp gp hG) K elt te)
  (SY:swapsWith (.ListComp elt [⟨tg,iter,ifs,0⟩] scope pos) (some (.Name x pos')) S0.line X.env=pure true:=by rfl)
  (hs:∀ x,foldedSetIterable iter X.env x=pure x:=by intro _;rfl) (hf:X.fn x=true\/X.env.scope.names.lookup x=some .local:=by first|exact .inl rfl|exact .inr rfl|assumption) :
  QS X K L (.Assign [.Name x pos'] (.ListComp elt [⟨tg,iter,ifs,0⟩] scope pos) S0) (dc i (fZ wi g tc te tn.length ix)) :=
 PS.imp (wW hN AH hx hc hi O hg uS he SY hs hf) fun D σ H hx=>g8 hx fun Hs ρ ai E sr h k1 k2 k3 k4=>by
  refine tQ ⟨Hs,ρ,ai,_,sr,h,fun v H1 ay m d As g1 r1 f1 q1=>?_⟩
  have q1:match asg m d with
   |some sl=>E.nx (ρ.set i (some sl))
   |none=>False:=q1
  cases e:asg m d with
  |none=>rw[e] at q1;exact q1.elim
  |some sl =>
   rw[e] at q1
   obtain⟨cv,s'⟩:=(sr.grow g1).set i r1 f1.1 (fun a ha=>⟨(f1.2 a ha).1,fun m=>(sr.sr.own a m).ne (f1.2 a ha).2⟩) e
   exact k1 _ H1 ay _ cv g1.sh s' q1
end
end L2.Q
namespace L2.Q.R
open PySem PySem.Spec PyProof.Rows L2.Q
section
variable {ρ:Env}{Q:Md->L2.Q.D->Prop}{te:WE}{d:L2.Q.D}{a:Addr}{b:Bool}{LQ:List L2.Q.D->Prop}
theorem Mf{f:Option Sl->Prop}{k:Kt f}:bT (some (.lk a b d)) k=f (some (.lk a b d)):=rfl
theorem Kq{f:Option (Option Sl)->Prop}{k:Kt f}:bT (some (some (.lk a b d))) k=f (some (some (.lk a b d))):=rfl
theorem Jo:MG (some (some (.lk a b d))) Q=Q .bo d:=rfl
def eS'(o:Option (Option Sl))(k:Bool->L2.Q.D->Prop):Prop:=match o with
 |some (some (.ow fl d))=>k fl d
 |_=>False
theorem Km:eS' (some (some (.ow b d))) k=k b d:=rfl
theorem JC:eZ te ρ LQ=te ρ fun _ d=>bT d (f:=fun d=>AW d LQ) ⟨⟩:=by unfold eZ bT AW;rfl
end
end L2.Q.R
namespace L2
open PySem PySem.Spec PyProof.Rows Builtin Builtin.Str Builtin.Int
section
variable {prog:Program}{w:World}{A:Around}{E:Value->Shared->Prop}{s:Shared}{x:Str}{n:Int}{t u:Tok}
theorem uK(bp:MulOk x n)(h:∀ t' k,Q (.str (Txt.mul x n) t') { s with toks:=k }):wpAny (model prog w) A (binaryOp .Mult (.int n u) (.str x t)) Q E s:=by
 refine lm_binaryOp_repeat_right (T := "str") (U := "int") (by decide) (fun s'=>typeIs_int s' n u) (typeIs_str s x t) F.fills_int_mul noFill_str_mul F.slot_int_mul lm_noRepeat_int repeat_str F.slot_int_index.lookup
  (call_gives F.slot_int_mul (typeIs_int s n u) F.entry_int_mul (F.args_int_mul_2 _ _) (AutoIntG3.int___mul___int_str_0 n u x t)
   ⟨rfl,typeIs_str _ x t,call_gives F.slot_str_mul (typeIs_str _ x t) F.entry_str_mul (F.args_str_mul_2 _ _) (gives_str_mul x n t u bp.1 bp.2.1 bp.2.2) ?_⟩)
 unfold Txt.mul at h
 by_cases h1:n<1
 ·rw[if_pos h1];have h':=h s.toks (s.toks+1);rw[if_pos h1] at h';exact⟨by decide,h'⟩
 ·rw[if_neg h1];refine post_val_or_made (fun hc=>fits_reps (bp.2.2 h1 (by simpa using hc))) fun t' k=>?_
  have h':=h t' k;rw[if_neg h1] at h';exact h'
end
def rp(n:Int)(z:Str):Str:=⟨(List.replicate n.toNat z.cps.toList).flatten.toArray⟩
theorem oN(xs:Array Nat):∀ (k:Nat) (acc:Array Nat),(List.replicate k xs).foldl (· ++ ·) acc=acc++(List.replicate k xs.toList).flatten.toArray
 |0,acc=>by simp
 |k+1,acc=>by
  rw[IJ,IU,oN xs k,IJ,O9]
  apply Array.ext'
  simp
theorem Du(h:1<=n):Txt.mul z n=rp n z:=by
 unfold Txt.mul rp
 rw[if_neg (by lia)]
 by_cases h1:n=1
 ·subst h1
  simp
 ·by_cases h0:z.length=0
  ·have hz:z.cps = #[]:=Ki h0
   rw[if_pos (by simp[h0])]
   obtain⟨c⟩:=z
   cases hz
   simp
  ·rw[if_neg (by simp[h1,h0]),oN]
   simp
def Fv:R2:=fun x y H Q=>match x,y with
 |.int n,.str z=>(1<=n/\n<=100/\z.length<=100)/\Q (.str (rp n z)) H
 |_,_=>False
section
variable {X:Cx}
theorem Ep:dr X (binaryOp .Mult) Fv:=by
 intro pins s σ H x y v u Q I rx ry h
 unfold Fv at h
 split at h
 ·rename_i n z
  obtain⟨⟨h1,h2,h3⟩,q⟩:=h
  obtain⟨t,rfl⟩:=rx
  obtain⟨t',rfl⟩:=ry
  refine uK ⟨?_,fun _ _=>?_,fun _ _=>?_⟩ fun t' k=>⟨.str (rp n z),H,I.tok _,⟨_,by rw[Du h1]⟩,q⟩
  ·have a1:¬ n < -(2 ^ 63:Int):=by lia
   have a2:¬ n >= 2 ^ 63:=by lia
   rw[decide_eq_false a1,decide_eq_false a2];rfl
  ·have:(2 ^ 63-1:Int) / 100<=(2 ^ 63-1) / n:=by
    apply Int.le_ediv_of_mul_le (by lia)
    have:(2 ^ 63-1:Int) / 100*n<=(2 ^ 63-1:Int) / 100*100:=FI h2 (by decide)
    lia
   have e:(2 ^ 63-1:Int) / 100=92233720368547758:=by decide
   lia
  ·have:z.length*n.toNat<=100*100:=zI h3 (by lia)
   have hs:=sizeLine_eq
   simp only[tooLong,decide_eq_false_iff_not]
   generalize z.length*n.toNat=m at this ⊢
   lia
 ·exact h.elim
end
end L2
namespace L2
open PySem PySem.Spec PyProof.Rows
end L2
namespace L2.Q
open PySem PySem.Spec PyProof.Rows
section
variable {X:Cx}{K:PySem.W.Frag}{e a b:Expr}{ta tb:WE}{p pos:Pos}{x:Str}{id:String}
def TX:W1:=fun _ x Q=>match x with
 |.list xs=>∃ bs:List Bool,xs=bs.map D.bl/\Q .sh (.bl (bs.all (fun b=>b)))
 |_=>False
theorem Ig{H:Hp}{bs:List Bool}{vs:List V}(r:aT K H (bs.map D.bl) vs):vs=bs.map V.bl:=by
 induction bs generalizing vs with
 |nil=>exact r.n0
 |cons b bs ih =>
  obtain⟨u,us,rfl,r1,rs⟩:=aT.c (d:=D.bl b) r
  cases r1
  rw[ih rs];rfl
theorem Hn:HC K (Ql K) TX:=by
 intro Hs H m x v As Qd Qv w rx h f
 have r1:=rx.rep w
 cases r1 with
 |list z s q =>
  obtain⟨bs,rfl,h⟩:=h
  cases Ig q
  exact⟨bs,s,f.sh w (.bl _) h⟩
 |_=>exact h.elim
theorem qp(n:Int)(z:Str):(rp n z).length=n.toNat*z.length:=by
 unfold rp Str.length
 rw[iq,len_rep,ua]
def Ad:W2:=fun _ x _ y Q=>match x,y with
 |.int n,.str z=>(1<=n/\n<=100/\z.length<=100)/\Q .sh (.str (rp n z))
 |_,_=>False
theorem Ga:kM K Fv Ad:=by
 intro Hs H m x v As n y u Bs Qd Qv w rx ry h f
 have r1:=rx.rep w
 have r2:=ry.rep w
 cases r1 with
 |int i=>cases r2 with
  |str hz =>
   refine⟨h.1,xP f w ?_ h.2⟩
   obtain⟨⟨h1,h2,h3⟩,_⟩:=h
   rw[qp,sizeLine_eq]
   have:=zI (show i.toNat<=100 by lia) h3
   lia
  |_=>exact h.elim
 |_=>cases r2<;>exact h.elim
theorem G8(ha:QE X K a ta)(hb:QE X K b tb):QE X K (.BinOp a .Mult b pos) (av Ad ta tb):=MQ Ep Ga ha hb
theorem IW:bootBuiltins "max" = some (.builtin "max"):=by decide +kernel
def Eo:R2:=fun x y H Q=>match x,y with
 |.int i,.int j=>Q (.int (if j>i then j else i)) H
 |_,_=>False
def FW:W2:=fun _ x _ y Q=>match x,y with
 |.int i,.int j=>Q .sh (.int (if j>i then j else i))
 |_,_=>False
theorem Ez:kM K Eo FW:=by
 intro Hs H m x v As n y u Bs Qd Qv w rx ry h f
 have r1:=rx.rep w
 have r2:=ry.rep w
 cases r1 with
 |int i=>cases r2 with
  |int j=>exact f.sh w (.int _) h
  |_=>exact h.elim
 |_=>cases r2<;>exact h.elim
theorem Ft(hc:mh X (.builtin id) fun xs H Q=>∃ x y,xs=[x,y]/\r x y H Q)(br:kM K r f)(hg:Gl X x)(hm:X.mg x=none)(hv:bootBuiltins x=some (.builtin id))(ha:QE X K a ta)(hb:QE X K b tb)
  (hs:starEach [a,b] X.env=(false,eval a X.env) :: starEach [b] X.env:=by rfl) (iX:starEach [b] X.env=(false,eval b X.env) :: starEach [] X.env:=by rfl) (hn:x ≠ "__name__" := by decide) (gL:(x == ("__debug__" : Str))=false:=by decide)
  (ic:(backTo pos (starEach [b] X.env)).any (·.1)=false:=by rfl):QE X K (.Call (.Name x p) [a,b] [] pos) (av f ta tb):=by
 refine PE.imp (Ss hc hg hm hv (pT ha (pT hb uk iX) hs) hn gL hs ic) fun σ H Qv h=>?_
 obtain⟨Hs,ρ,ai,Q,sr,h,fin⟩:=nq br σ H Qv h
 exact⟨Hs,ρ,ai,Q,sr,h,fun v H1 ay m x As g1 r1 f1 q1=>by
  obtain⟨aE,hX,eB,Q2,kX,h2,fin2⟩:=fin v H1 ay m x As g1 r1 f1 q1
  exact⟨aE,hX,eB,Q2,kX,h2,fun u H2 fh n y Bs g2 r2 f2 q2=>⟨v,u,rfl,fin2 u H2 fh n y Bs g2 r2 f2 q2⟩⟩⟩
theorem Ja (hc:X.calm=true:=by rfl):mh X (.builtin "max") fun xs H Q=>∃ x y,xs=[x,y]/\Eo x y H Q:=fun pins s σ H xs us Q I r df=>by
 obtain⟨x,y,e,q⟩:=df
 subst e
 unfold Eo at q
 split at q
 ·exact bx' hc pins s σ H _ us Q I r ⟨_,_,rfl,q⟩
 ·exact q.elim
end
end L2.Q
namespace L2.Q.R
open PySem PySem.Spec PyProof.Rows L2.Q
section
variable {Q:Md->L2.Q.D->Prop}{m m':Md}{xs:List L2.Q.D}{a b:Int}{x:Str}
theorem Mx:TX m (.list xs) Q = ∃ bs:List Bool,xs=bs.map L2.Q.D.bl/\Q .sh (.bl (bs.all (fun b=>b))):=rfl
theorem KR:Ad m (.int a) m' (.str x) Q=((1<=a/\a<=100/\x.length<=100)/\Q .sh (.str (rp a x))):=rfl
theorem Lf:FW m (.int a) m' (.int b) Q=Q .sh (.int (if b>a then b else a)):=rfl
end
end L2.Q.R
namespace L2.Q
open PySem PySem.Spec PyProof.Rows
theorem sU(O:Nat->List D->Prop)(Iv:Env->Prop):∀ (xs:List D) (i:Nat) (pre:List D) (ρ:Env) (k:List D->Prop),Iv ρ->O i pre ->
  (∀ j x,xs[j]? = some x->∀ ρ,Iv ρ->∀ out,O (i+j) out->∀ N1:Env->Prop,∀ N2:Env->D->Prop,(∀ cw d,Iv cw->O (i+j+1) (out++[d])->N2 cw d)->g x ρ fun om=>tc om fun b=>if b=true then te om fun m d=>QK m d/\N2 om d else N1 om) ->
  (∀ out,O (i+xs.length) (pre++out)->k out)->gZ g tc te xs ρ k
 |[],i,pre,_,k,_,h0,_,h=>h [] (by simpa using h0)
 |x :: xs,i,pre,ρ,k,iv,h0,hs,h=>by
  refine hs 0 x rfl ρ iv pre h0 _ _ (fun cw d NC o'=>?_)
  refine sU O Iv xs (i+1) (pre++[d]) cw _ NC o' (fun j y hy ρ iv out ho=>?_) fun out ho=>?_
  ·have:=hs (j+1) y (by simpa using hy) ρ iv out (by rwa[show i+(j+1)=i+1+j by lia])
   rwa[show i+(j+1)+1=i+1+j+1 by lia] at this
  ·refine h (d :: out) ?_
   rw[tT] at ho
   rwa[pj,show i+(xs.length+1)=i+1+xs.length by lia]
end L2.Q
namespace TS
open PySem PySem.SetTable
def fk:Nat->Nat->Nat
 |0,s=>s
 |k+1,s=>5*fk k s+1
theorem G3(a b s:Nat):fk (a+b) s=fk b (fk a s):=by
 induction b with
 |zero=>rfl
 |succ b ih=>show 5*fk (a+b) s+1=5*fk b (fk a s)+1;rw[ih]
theorem xY(n s:Nat):4*fk n s+1=5 ^ n*(4*s+1):=by
 induction n with
 |zero=>simp[fk]
 |succ n ih =>
  show 4*(5*fk n s+1)+1=5 ^ (n+1)*(4*s+1)
  rw[se,Fs (5 ^ n) 5,Fm,<- ih];lia
theorem Bt(m:Nat):∃ q,5 ^ 2 ^ m=1+2 ^ (m+2)*q/\q % 2=1:=by
 induction m with
 |zero=>exact⟨1,by decide,by decide⟩
 |succ m ih =>
  obtain⟨q,e,o⟩:=ih
  refine⟨q+2 ^ (m+1)*(q*q),?_,?_⟩
  ·have hp:5 ^ 2 ^ (m+1)=(5 ^ 2 ^ m) ^ 2:=by rw[se 2 m,Nat.pow_mul]
   rw[hp,e]
   clear e hp
   have e1:2 ^ (m+1+2)=2*2 ^ (m+2):=by rw[show m+1+2=(m+2)+1 by exact DB ..,se];lia
   have e2:2 ^ (m+2)=2*2 ^ (m+1):=by rw[show m+2=(m+1)+1 by rfl,se];lia
   rw[e1,e2]
   generalize 2 ^ (m+1)=y
   rw[Nat.pow_two]
   simp only[Nat.mul_add,Nat.add_mul,Nat.one_mul,Nat.mul_one]
   have a1:2*y*q*(2*y*q)=2*(2*y)*(y*(q*q)):=by
    simp only[Fm,Nat.mul_left_comm,Fs]
   have a2:2*(2*y)*q=2*y*q+2*y*q:=by
    rw[Fm 2 (2*y) q];lia
   rw[a1,a2];lia
  ·have:2 ^ (m+1)*(q*q) % 2=0:=by
    rw[se,Fs (2 ^ m) 2,Fm,Nat.mul_mod_right]
   lia
theorem Gb(m x:Nat):∃ r,fk (2 ^ m) x=x+2 ^ m*r/\r % 2=1:=by
 obtain⟨q,e,o⟩:=Bt m
 have c:=xY (2 ^ m) x
 rw[e] at c
 refine⟨q*(4*x+1),?_,?_⟩
 ·have e2:2 ^ (m+2)=4*2 ^ m:=by rw[Nat.pow_add];lia
  rw[e2,Nat.add_mul,Nat.one_mul,Fm,Fm] at c
  lia
 ·rw[Nat.mul_mod,o,Nat.one_mul];lia
theorem GR(m s e:Nat):∃ k,k+1<=2 ^ m/\fk k s % 2 ^ m=e % 2 ^ m:=by
 induction m with
 |zero=>exact⟨0,by decide,by simp[Nat.mod_one]⟩
 |succ m ih =>
  obtain⟨k,hk,h⟩:=ih
  have hp:2 ^ (m+1)=2 ^ m*2:=se ..
  have TY:0<2 ^ m:=Nat.pow_pos (by decide)
  have key:∀ a:Nat,a % (2 ^ m*2)=a % 2 ^ m+2 ^ m*(a / 2 ^ m % 2):=fun a=>Nat.mod_mul
  by_cases c:fk k s / 2 ^ m % 2=e / 2 ^ m % 2
  ·exact⟨k,by walk_at "s4",by rw[hp,key,key,h,c]⟩
  ·refine⟨k+2 ^ m,by lia,?_⟩
   obtain⟨r,er,ro⟩:=Gb m (fk k s)
   rw[G3,er,hp,key,key,Nat.add_mul_mod_self_left,h,Nat.add_mul_div_left _ _ TY]
   have:(fk k s / 2 ^ m+r) % 2=e / 2 ^ m % 2:=by lia
   rw[this]
def qq(M:Nat)(p:Probe):Probe :=
 if p.more>0 then { p with j:=p.j+1,more:=p.more-1 } else
 { p with j:=(leap M p.i p.perturb).1,more:=runEnd M (leap M p.i p.perturb).1-(leap M p.i p.perturb).1,i:=(leap M p.i p.perturb).1,perturb:=(leap M p.i p.perturb).2 }
def ps(M:Nat)(h:Int):Nat->Probe
 |0=>{ j:=bits h % (M+1),more:=runEnd M (bits h % (M+1))-bits h % (M+1),i:=bits h % (M+1),perturb:=bits h,dummy:=none }
 |n+1=>qq M (ps M h n)
def J(M:Nat)(h:Int)(n:Nat):Nat:=(ps M h n).j
theorem vJ(h:i<=M):i<=runEnd M i/\runEnd M i<=M/\runEnd M i<=i+9:=by
 unfold runEnd;split<;>lia
theorem Fp(M:Nat)(h:Int):∀ n,(ps M h n).i<=M/\(ps M h n).j+(ps M h n).more<=M/\(ps M h n).dummy=none/\(ps M h n).more<=9
 |0=>by
  have h0:bits h % (M+1)<=M:=Pm (FD _ (sM _))
  have:=vJ h0
  exact⟨h0,by show bits h % (M+1)+(runEnd M (bits h % (M+1))-bits h % (M+1))<=M;lia,rfl,by show runEnd M (bits h % (M+1))-bits h % (M+1)<=9;lia⟩
 |n+1=>by
  obtain⟨a,b,c,d⟩:=Fp M h n
  show(qq M (ps M h n)).i<=M/\_/\(qq M (ps M h n)).dummy=none/\_
  unfold qq
  by_cases hm:(ps M h n).more>0
  ·simp only[hm,if_true]
   show _/\(qq M (ps M h n)).j+(qq M (ps M h n)).more<=M/\_/\(qq M (ps M h n)).more<=9
   simp only[qq,hm,if_true]
   exact⟨a,by lia,c,by walk_at "s4"⟩
  ·simp only[hm,if_false]
   show _/\(qq M (ps M h n)).j+(qq M (ps M h n)).more<=M/\_/\(qq M (ps M h n)).more<=9
   simp only[qq,hm,if_false]
   have h0:(leap M (ps M h n).i (ps M h n).perturb).1<=M:=Pm (FD _ (sM _))
   have:=vJ h0
   exact⟨h0,by lia,c,by lia⟩
theorem QY(M:Nat)(h:Int)(n:Nat):J M h n<=M:=by
 have:=Fp M h n
 unfold J;lia
theorem xQ(M:Nat)(h:Int)(n:Nat):∀ r,r<=(ps M h n).more->ps M h (n+r)={ ps M h n with j:=(ps M h n).j+r,more:=(ps M h n).more-r }
 |0,_=>rfl
 |r+1,hr=>by
  show qq M (ps M h (n+r))=_
  rw[xQ M h n r (by exact kR ‹_›)]
  unfold qq
  rw[if_pos (show(ps M h n).more-r>0 by lia)]
  simp only[Probe.mk.injEq,true_and,and_true]
  walk_at "s1"
def lp(M:Nat)(h:Int):Nat->Nat × Nat
 |0=>(bits h % (M+1),bits h)
 |k+1=>leap M (lp M h k).1 (lp M h k).2
def i9(M:Nat)(h:Int):Nat->Nat
 |0=>0
 |k+1=>i9 M h k+(runEnd M (lp M h k).1-(lp M h k).1)+1
theorem D_(M:Nat)(h:Int):∀ k,(lp M h k).1<=M
 |0=>Pm (FD _ (sM _))
 |k+1=>Pm (FD _ (sM _))
theorem zr(M:Nat)(h:Int):∀ k,i9 M h k<=10*k
 |0=>cq _
 |k+1=>by
  have:=zr M h k
  have:=vJ (D_ M h k)
  show i9 M h k+_+1<=_;lia
theorem vW(M:Nat)(h:Int):∀ k,ps M h (i9 M h k)={ j:=(lp M h k).1,more:=runEnd M (lp M h k).1-(lp M h k).1,i:=(lp M h k).1,perturb:=(lp M h k).2,dummy:=none }
 |0=>rfl
 |k+1=>by
  have ih:=vW M h k
  have e:=xQ M h (i9 M h k) (runEnd M (lp M h k).1-(lp M h k).1) (by rw[ih];exact cq _)
  show qq M (ps M h (i9 M h k+(runEnd M (lp M h k).1-(lp M h k).1)))=_
  rw[e,ih]
  unfold qq
  rw[if_neg (by simp)]
  rfl
theorem CG(M:Nat)(h:Int):∀ k,(lp M h k).2=bits h / 32 ^ k
 |0=>by simp[lp]
 |k+1=>by
  show(lp M h k).2 / 32=_
  rw[CG M h k,Nat.div_div_eq_div_mul,se]
theorem FZ(h:Int):bits h<2 ^ 64:=by
 unfold bits
 have h1:=si h (show(2 ^ 64:Int)≠0 by decide)
 have h2:=sf h (show(0:Int)<2 ^ 64 by decide)
 lia
theorem zb(M:Nat)(h:Int):∀ k,(lp M h (13+k)).1 % (M+1)=fk k (lp M h 13).1 % (M+1)
 |0=>rfl
 |k+1=>by
  have e:(lp M h (13+k)).2=0:=by
   rw[CG]
   refine Nat.div_eq_of_lt (n5 (FZ h) ?_)
   exact fS (by decide:2 ^ 64<=32 ^ 13) (Pk (by decide) (by exact A8 _ _))
  show(leap M (lp M h (13+k)).1 (lp M h (13+k)).2).1 % (M+1)=_
  unfold leap
  rw[e]
  show((lp M h (13+k)).1*5+1+0 / 32) % (M+1) % (M+1)=(5*fk k (lp M h 13).1+1) % (M+1)
  rw[Nat.mod_mod,Nat.zero_div,Fn,Nat.add_mod,Nat.mul_mod,zb M h k,<- Nat.mul_mod,<- Nat.add_mod,Fs]
theorem cover(hM:M+1=2 ^ m)(h:Int)(he:e<=M):∃ k,k<=M+13/\(lp M h k).1=e:=by
 obtain⟨k,hk,q⟩:=GR m (lp M h 13).1 e
 rw[<- hM] at hk q
 refine⟨13+k,by lia,?_⟩
 have:=zb M h k
 rw[q] at this
 rwa[Nat.mod_eq_of_lt (A9 (D_ M h _)),Nat.mod_eq_of_lt (A9 he)] at this
theorem H_(M:Nat)(h:Int)(k:Nat):J M h (i9 M h k)=(lp M h k).1:=by unfold J;rw[vW]
theorem oG(hM:M+1=2 ^ m)(h:Int)(iF:Nat->Bool)(he:e<=M)(hf:iF e=false):∃ n,n<=10*(M+13)/\iF (J M h n)=false/\∀ k<n,iF (J M h k)=true:=by
 obtain⟨k,hk,q⟩:=cover hM h he
 have hb:=zr M h k
 have hB:iF (J M h (i9 M h k))=false:=by rw[H_,q];exact hf
 generalize i9 M h k=b at hb hB
 have go:∀ b,iF (J M h b)=false->∃ n,n<=b/\iF (J M h n)=false/\∀ k<n,iF (J M h k)=true:=by
  intro b
  induction b using Nat.strongRecOn with
  |ind b ih =>
   intro hB
   by_cases c:∃ k,k<b/\iF (J M h k)=false
   ·obtain⟨k,h1,h2⟩:=c
    obtain⟨n,a1,a2,a3⟩:=ih k h1 h2
    exact⟨n,by lia,a2,a3⟩
   ·refine⟨b,cq _,hB,fun k hk=>?_⟩
    cases z:iF (J M h k) with
    |true=>rfl
    |false=>exact absurd ⟨k,hk,z⟩ c
 obtain⟨n,a1,a2,a3⟩:=go b hB
 exact⟨n,by lia,a2,a3⟩
def Up(xs:Array Nat):Prop:=∀ i j:Nat,i<j->j<xs.size->xs.getD i 0<xs.getD j 0
theorem wG{xs:Array Nat}{i d d':Nat}(h:i<xs.size):xs.getD i d=xs.getD i d':=by simp[Array.getD,h]
theorem qG{xs:Array Nat}(U:Up xs)(j:Nat):∀ (fuel lo hi:Nat),hi-lo<=fuel->lo<=hi->hi<=xs.size->(∀ i<lo,xs.getD i 0<j)->(∀ i,hi<=i->i<xs.size->j<=xs.getD i 0) ->
  below.go xs j fuel lo hi<=xs.size/\(∀ i<below.go xs j fuel lo hi,xs.getD i 0<j)/\(∀ i,below.go xs j fuel lo hi<=i->i<xs.size->j<=xs.getD i 0)
 |0,lo,hi,hf,h1,h2,h3,h4=>by
  obtain rfl:lo=hi:=by lia
  exact⟨h2,h3,h4⟩
 |fuel+1,lo,hi,hf,h1,h2,h3,h4=>by
  unfold below.go
  by_cases c:lo<hi
  ·rw[if_pos c]
   dsimp only
   have hm:(lo+hi) / 2<xs.size:=by lia
   by_cases d:xs.getD ((lo+hi) / 2) j<j
   ·rw[if_pos d]
    rw[wG (d':=0) hm] at d
    refine qG U j fuel _ _ (by lia) (by lia) h2 (fun i kU=>?_) h4
    by_cases e:i=(lo+hi) / 2
    ·rw[e];exact d
    ·exact RL (U i _ (by lia) hm) d
   ·rw[if_neg d]
    rw[wG (d':=0) hm] at d
    refine qG U j fuel _ _ (by lia) (by lia) (by exact kR ‹_›) h3 fun i kU hs=>?_
    by_cases e:i=(lo+hi) / 2
    ·rw[e];exact Jn ‹_›
    ·have:=U ((lo+hi) / 2) i (by lia) hs;lia
  ·rw[if_neg c]
   obtain rfl:lo=hi:=by lia
   exact⟨h2,h3,h4⟩
theorem bj(U:Up xs)(j:Nat):below xs j<=xs.size/\(∀ i<below xs j,xs.getD i 0<j)/\(∀ i,below xs j<=i->i<xs.size->j<=xs.getD i 0) :=
 qG U j xs.size 0 xs.size (by lia) (by lia) (cq _) (fun i h=>absurd h (Dx i)) fun i h1 h2=>by lia
theorem below_at(U:Up xs)(h:i<xs.size):below xs (xs.getD i 0)=i:=by
 obtain⟨a,b,c⟩:=bj U (xs.getD i 0)
 by_cases h1:below xs (xs.getD i 0)<i
 ·have:=c _ (cq _) (by lia)
  have:=U _ i h1 h
  lia
 ·by_cases h2:i<below xs (xs.getD i 0)
  ·have:=b i h2;lia
  ·lia
theorem wZ(U:Up xs)(h:i<xs.size):below xs (xs.getD i 0+1)=i+1:=by
 obtain⟨a,b,c⟩:=bj U (xs.getD i 0+1)
 by_cases h1:below xs (xs.getD i 0+1)<i+1
 ·have:=c i (by lia) h;lia
 ·by_cases h2:i+1<below xs (xs.getD i 0+1)
  ·have:=b (i+1) h2
   have:=U i (i+1) (by lia) (by lia);lia
  ·lia
def taken(xs:Array Nat)(j:Nat):Bool:=xs[below xs j]? == some j
theorem zU{xs:Array Nat}{i j:Nat}(h:xs[i]? = some j):i<xs.size/\xs.getD i 0=j:=by
 obtain⟨h1,h2⟩:=FE.mp h
 exact⟨h1,by simp[Array.getD,h1,h2]⟩
theorem zm{xs:Array Nat}{i:Nat}(h:i<xs.size):xs[i]? = some (xs.getD i 0):=by simp[Array.getD,h]
theorem ie{xs:Array Nat}(U:Up xs){j:Nat}:taken xs j=true↔∃ i,i<xs.size/\xs.getD i 0=j:=by
 unfold taken
 rw[beq_iff_eq]
 constructor
 ·intro h;exact⟨_,zU h⟩
 ·rintro⟨i,h,rfl⟩
  rw[below_at U h]
  exact zm h
theorem lH{xs:Array Nat}(U:Up xs){j:Nat}(h:taken xs j=true):below xs j<xs.size/\xs.getD (below xs j) 0=j:=by
 unfold taken at h
 rw[beq_iff_eq] at h
 exact zU h
theorem cu{α:Type}(xs:Array α){p:Nat}(x:α)(h:p<=xs.size):(insertAt xs p x).size=xs.size+1:=by
 unfold insertAt
 simp
 lia
theorem PZ{α:Type}(xs:Array α){p:Nat}(x:α)(h:p<=xs.size)(i:Nat):(insertAt xs p x)[i]? = if i<p then xs[i]? else if i=p then some x else xs[i-1]? := by
 unfold insertAt
 have hs:((xs.extract 0 p).push x).size=p+1:=by simp;exact Nat.min_eq_left ‹_›
 by_cases h1:i<p
 ·rw[if_pos h1,Array.getElem?_append_left (by lia),Array.getElem?_push,if_neg (by simp;lia),Pu]
  rw[if_pos (by lia)];simp
 ·rw[if_neg h1]
  by_cases h2:i=p
  ·rw[if_pos h2,Array.getElem?_append_left (by lia),Array.getElem?_push,if_pos (by simp;lia)]
  ·rw[if_neg h2,Array.getElem?_append_right (by lia),hs,Pu]
   by_cases h3:i-(p+1)<min xs.size xs.size-p
   ·rw[if_pos h3]
    congr 1;lia
   ·rw[if_neg h3,FG (by lia)]
theorem fc(h:p<=xs.size)(i:Nat):(insertAt xs p x).getD i 0=if i<p then xs.getD i 0 else if i=p then x else xs.getD (i-1) 0:=by
 have e:∀ (ys:Array Nat) (k:Nat),ys.getD k 0=ys[k]?.getD 0:=fun ys k=>by
  simp[Bn]
 rw[e,PZ xs x h]
 split
 ·rw[e]
 ·split
  ·rfl
  ·rw[e]
theorem CQ(U:Up xs)(hj:taken xs j=false):Up (insertAt xs (below xs j) j):=by
 obtain⟨a,b,c⟩:=bj U j
 have ne:∀ i,i<xs.size->xs.getD i 0≠j:=fun i hi e=>by
  have:=(ie U (j:=j)).mpr ⟨i,hi,e⟩
  rw[hj] at this;cases this
 intro i k hik hk
 rw[cu xs j a] at hk
 rw[fc a,fc a]
 by_cases h1:k<below xs j
 ·rw[if_pos (by lia),if_pos h1];exact U i k hik (by lia)
 ·rw[if_neg h1]
  by_cases h2:k=below xs j
  ·rw[if_pos h2,if_pos (by lia)];exact b i (by lia)
  ·rw[if_neg h2]
   by_cases h3:i<below xs j
   ·rw[if_pos h3];exact U i (k-1) (by lia) (by lia)
   ·rw[if_neg h3]
    by_cases h4:i=below xs j
    ·rw[if_pos h4]
     have:=c (k-1) (by lia) (by lia)
     have:=ne (k-1) (by lia)
     lia
    ·rw[if_neg h4];exact U (i-1) (k-1) (by lia) (by lia)
theorem zJ(U:Up xs)(hj:taken xs j=false):taken (insertAt xs (below xs j) j) k=(decide (k=j) || taken xs k):=by
 have a:=(bj U j).1
 have U':=CQ U hj
 apply Bi.mpr
 rw[ie U',Bool.or_eq_true,decide_eq_true_eq,ie U]
 rw[cu xs j a]
 constructor
 ·rintro⟨i,hi,e⟩
  rw[fc a] at e
  by_cases h1:i<below xs j
  ·rw[if_pos h1] at e;exact .inr ⟨i,by lia,e⟩
  ·rw[if_neg h1] at e
   by_cases h2:i=below xs j
   ·rw[if_pos h2] at e;exact .inl e.symm
   ·rw[if_neg h2] at e;exact .inr ⟨i-1,by lia,e⟩
 ·rintro(rfl|⟨i,hi,e⟩)
  ·exact⟨below xs k,by lia,by rw[fc a,if_neg (by lia),if_pos rfl]⟩
  ·by_cases h1:i<below xs j
   ·exact⟨i,by lia,by rw[fc a,if_pos h1];exact e⟩
   ·exact⟨i+1,by lia,by rw[fc a,if_neg (by lia),if_neg (by lia)];exact e⟩
def Reach(M:Nat)(place:Array Nat)(h:Int)(j:Nat):Prop:=∃ n,n<=10*(M+13)/\J M h n=j/\∀ k<n,taken place (J M h k)=true
structure TI{α:Type}(t:SetTable)(es:Array (Int × α)):Prop where
 pw:∃ m,t.mask+1=2 ^ m/\3<=m
 sz:t.place.size=es.size
 up:Up t.place
 le:∀ i,i<t.place.size->t.place.getD i 0<=t.mask
 dm:t.dummies = #[]
 few:es.size*5<t.mask*3
 path:∀ i h x,es[i]? = some (h,x)->Reach t.mask t.place h (t.place.getD i 0)
section
variable {α:Type}{t:SetTable}{es:Array (Int × α)}
theorem TI.slot(T:TI t es)(j:Nat):t.slot j=if taken t.place j then .live (below t.place j) else .empty:=by
 unfold SetTable.slot taken
 dsimp only
 split
 ·rfl
 ·have:has t.dummies j=false:=by rw[T.dm];rfl
  rw[this];rfl
theorem TI.fits(T:TI t es):t.fits es.size=true:=by
 have:=T.few
 simp only[SetTable.fits,fill,T.dm,T.sz,kG,beq_iff_eq,decide_eq_true_eq,true_and]
 simp;lia
theorem TI.odd(T:TI t es):t.gaveWay=false:=by
 obtain⟨m,h,h3⟩:=T.pw
 unfold SetTable.gaveWay
 rw[beq_eq_false_iff_ne]
 have:2 ^ m=2*2 ^ (m-1):=by
  rw[show m=(m-1)+1 by lia,se];simp;lia
 lia
theorem TI.free(T:TI t es):∃ e,e<=t.mask/\taken t.place e=false:=by
 have hf:=T.few
 have hs:=T.sz
 by_cases c:∃ e,e<=t.mask/\taken t.place e=false
 ·exact c
 ·exfalso
  have all:∀ e,e<=t.mask->taken t.place e=true:=fun e he=>by
   cases z:taken t.place e with
   |true=>rfl
   |false=>exact absurd ⟨e,he,z⟩ c
  -- slot e stands at place at most e
  have go:∀ e,e<=t.mask->e<=below t.place e:=by
   intro e
   induction e with
   |zero=>intro _;exact eu _
   |succ e ih =>
    intro he
    have h1:=lH T.up (all e (by exact kR ‹_›))
    have h2:=lH T.up (all (e+1) he)
    have:=ih (by exact kR ‹_›)
    obtain⟨_,b,c⟩:=bj T.up (e+1)
    by_cases z:below t.place e<below t.place (e+1)
    ·walk_at "s1"
    ·have:=c (below t.place e) (by exact Jn ‹_›) h1.1
     lia
  have:=go t.mask (cq _)
  have:=(lH T.up (all t.mask (cq _))).1
  lia
theorem TI.put(T:TI t es)(hj:j<=t.mask)(hn:taken t.place j=false)(hr:Reach t.mask t.place h j)(ht:t'.mask=t.mask)(hp:t'.place=insertAt t.place (below t.place j) j)(hd:t'.dummies = #[])
  (hf:(es.size+1)*5<t.mask*3):TI t' (insertAt es (below t.place j) (h,x)):=by
 have a:=(bj T.up j).1
 have a':below t.place j<=es.size:=by rw[<- T.sz];exact a
 refine⟨by rw[ht];exact T.pw,by rw[hp,cu _ _ a,cu _ _ a',T.sz],by rw[hp];exact CQ T.up hn,fun i hi=>?_,hd,by rw[cu _ _ a',ht];exact hf,fun i g y e=>?_⟩
 ·rw[hp,cu _ _ a] at hi
  rw[hp,fc a,ht]
  split
  ·exact T.le i (by lia)
  ·split
   ·exact hj
   ·exact T.le (i-1) (by lia)
 ·have mono:∀ {g:Int} {k:Nat},Reach t.mask t.place g k->Reach t'.mask t'.place g k:=fun {g k} ⟨n,h1,h2,h3⟩=>⟨n,by rw[ht];exact h1,by rw[ht];exact h2,fun q hq=>by
   rw[hp,ht,zJ T.up hn,h3 q hq,Bool.or_true]⟩
  rw[PZ es _ a'] at e
  rw[hp,fc a,<- hp]
  by_cases h1:i<below t.place j
  ·rw[if_pos h1] at e ⊢
   exact mono (T.path i g y e)
  ·rw[if_neg h1] at e ⊢
   by_cases h2:i=below t.place j
   ·rw[if_pos h2] at e ⊢
    cases e
    exact mono hr
   ·rw[if_neg h2] at e ⊢
    exact mono (T.path (i-1) g y e)
end
theorem bD{α:Type}[DecidableEq α]:∀ {l m:List α},l.Nodup->(∀ x∈l,x∈m)->l.length<=m.length
 |[],_,_,_=>eu _
 |x :: l,m,nd,h=>by
  rw[ox] at nd
  have hx:=h x dz
  have:=bD (l:=l) (m:=m.erase x) nd.2 fun y hy=>(List.mem_erase_of_ne (fun e=>nd.1 (by rw[<- e];exact hy))).mpr (h y (dn _ hy))
  rw[List.length_erase_of_mem hx] at this
  have:0<m.length:=List.length_pos_of_mem hx
  simp only[pj];lia
def iF(owner:Array (Option Nat))(j:Nat):Bool:=(owner.getD j (some 0)).isSome
theorem tH(h:Int)(owner:Array (Option Nat)):∀ (fuel k:Nat),(∀ q<i9 M h k,iF owner (J M h q)=true)->(∃ K,k<=K/\K<k+fuel/\K<=M+13/\iF owner (lp M h K).1=false) ->
  ∃ j n,layClean.free M owner fuel (lp M h k).1 (lp M h k).2=some j/\J M h n=j/\n<=10*(M+13)/\iF owner j=false/\∀ q<n,iF owner (J M h q)=true
 |0,k,_,⟨K,h1,h2,_⟩=>by lia
 |fuel+1,k,hq,⟨K,h1,h2,h3,h4⟩=>by
  have T1:∀ r,r<=runEnd M (lp M h k).1-(lp M h k).1->J M h (i9 M h k+r)=(lp M h k).1+r:=fun r hr=>by
   unfold J
   rw[xQ M h (i9 M h k) r (by rw[vW];exact hr),vW]
  have hle:=vJ (D_ M h k)
  have e:∀ r,(owner.getD ((lp M h k).1+r) (some 0)).isNone = !iF owner ((lp M h k).1+r):=fun r=>by
   unfold iF;cases owner.getD ((lp M h k).1+r) (some 0)<;>rfl
  unfold layClean.free
  cases hf:(List.range (runEnd M (lp M h k).1+1-(lp M h k).1)).find? fun r=>(owner.getD ((lp M h k).1+r) (some 0)).isNone with
  |some r =>
   obtain⟨a1,a2,a3⟩:=List.find?_range_eq_some.mp hf
   have a2:r<runEnd M (lp M h k).1+1-(lp M h k).1:=by simpa using a2
   rw[e] at a1
   have a1:iF owner ((lp M h k).1+r)=false:=by simpa using a1
   have occs:∀ q<i9 M h k+r,iF owner (J M h q)=true:=fun q QZ=>by
    by_cases z:q<i9 M h k
    ·exact hq q z
    ·have:=a3 (q-i9 M h k) (by lia)
     rw[e] at this
     have hj:=T1 (q-i9 M h k) (by lia)
     rw[show i9 M h k+(q-i9 M h k)=q by lia] at hj
     rw[hj]
     simpa using this
   refine⟨_,i9 M h k+r,rfl,T1 r (by lia),?_,a1,occs⟩
   have hb:=zr M h K
   by_cases z:i9 M h k+r<=i9 M h K
   ·lia
   ·have:=occs (i9 M h K) (by lia)
    rw[H_,h4] at this;cases this
  |none =>
   have hn:=List.find?_eq_none.mp hf
   have YT:∀ r,r<=runEnd M (lp M h k).1-(lp M h k).1->iF owner ((lp M h k).1+r)=true:=fun r hr=>by
    have:=hn r (by simp;lia)
    rw[e] at this
    simpa using this
   dsimp only
   have hK:K≠k:=fun z=>by
    subst z
    have:=YT 0 (eu _)
    rw[Fn,h4] at this;cases this
   refine tH h owner fuel (k+1) (fun q QZ=>?_) ⟨K,by lia,by lia,h3,h4⟩
   by_cases z:q<i9 M h k
   ·exact hq q z
   ·have QZ:q<i9 M h k+(runEnd M (lp M h k).1-(lp M h k).1)+1:=QZ
    have hj:=T1 (q-i9 M h k) (by lia)
    rw[show i9 M h k+(q-i9 M h k)=q by lia] at hj
    rw[hj]
    exact YT _ (by lia)
structure OI(M:Nat)(hs:List Int)(owner:Array (Option Nat)):Prop where
 sz:owner.size=M+1
 lt:∀ j v:Nat,owner[j]? = some (some v)->v<hs.length
 inj:∀ j j' v:Nat,owner[j]? = some (some v)->owner[j']? = some (some v)->j=j'
 all:∀ v:Nat,v<hs.length->∃ j:Nat,owner[j]? = some (some v)
 path:∀ j v:Nat,owner[j]? = some (some v)->∃ n,n<=10*(M+13)/\J M (hs.getD v 0) n=j/\∀ q<n,iF owner (J M (hs.getD v 0) q)=true
theorem uO(h:j<owner.size):iF owner j=true↔∃ v,owner[j]? = some (some v):=by
 unfold iF
 rw[xA h]
 simp only[Array.getD,h,dite_true,Option.some.injEq]
 cases hh:owner[j] with
 |none =>
  have:owner.getInternal j h=none:=hh
  rw[this];simp
 |some v =>
  have:owner.getInternal j h=some v:=hh
  rw[this];simp
theorem OI.free(O:OI M hs owner)(hl:hs.length<=M):∃ e,e<=M/\iF owner e=false:=by
 by_cases c:∃ e,e<=M/\iF owner e=false
 ·exact c
 ·exfalso
  have all:∀ e,e<=M->∃ v,owner[e]? = some (some v):=fun e he=>by
   refine(uO (by rw[O.sz];lia)).mp ?_
   cases z:iF owner e with
   |true=>rfl
   |false=>exact absurd ⟨e,he,z⟩ c
  have nd:((List.range (M+1)).map fun j=>(owner.getD j none).getD 0).Nodup:=by
   rw[Rt,qE]
   refine List.Pairwise.imp_of_mem ?_ (Rt.mp Pg)
   intro a b ha hb kc z
   obtain⟨va,ea⟩:=all a (by have:=px.mp ha;lia)
   obtain⟨vb,eb⟩:=all b (by have:=px.mp hb;lia)
   rw[Bn,Bn,ea,eb] at z
   have z:va=vb:=z
   subst z
   exact kc (O.inj _ _ _ ea eb)
  have:=bD (m:=List.range hs.length) nd fun x hx=>by
   obtain⟨j,hj,rfl⟩:=cf.mp hx
   obtain⟨v,e⟩:=all j (by have:=px.mp hj;lia)
   rw[Bn,e]
   exact px.mpr (O.lt _ _ e)
  simp at this
  lia
theorem OI.lay(hM:M+1=2 ^ m)(O:OI M hs owner)(hl:hs.length<=M)(h:Int) :
  ∃ j,layClean.free M owner (turns M) (bits h % (M+1)) (bits h)=some j/\OI M (hs++[h]) (owner.setIfInBounds j (some hs.length)):=by
 obtain⟨e,he,hf⟩:=O.free hl
 obtain⟨K,hK,hKe⟩:=cover hM h he
 obtain⟨j,n,e1,e2,e3,e4,e5⟩:=tH h owner (turns M) 0 (fun q hq=>absurd hq (Dx q)) ⟨K,eu _,by unfold turns;lia,hK,by rw[hKe];exact hf⟩
 refine⟨j,e1,?_⟩
 have hj:j<owner.size:=by rw[O.sz,<- e2];exact A9 (QY M h n)
 have get:∀ i,(owner.setIfInBounds j (some hs.length))[i]? = if j=i then some (some hs.length) else owner[i]? := fun i=>by
  rw[Array.getElem?_setIfInBounds]
  by_cases z:j=i
  ·subst z;simp[hj]
  ·simp[z]
 have oc:∀ i,iF owner i=true->iF (owner.setIfInBounds j (some hs.length)) i=true:=fun i hi=>by
  unfold iF at hi ⊢
  rw[Bn] at hi ⊢
  rw[get]
  split
  ·rfl
  ·exact hi
 have kc:∀ v,owner[j]?≠some (some v):=fun v z=>by
  have:=(uO hj).mpr ⟨v,z⟩
  rw[e4] at this;cases this
 refine⟨by rw[Array.size_setIfInBounds];exact O.sz,fun i v z=>?_,fun i i' v z z'=>?_,fun v hv=>?_,fun i v z=>?_⟩
 ·rw[get] at z
  split at z
  ·cases z;simp
  ·have:=O.lt i v z;simp;lia
 ·rw[get] at z z'
  split at z
  ·cases z
   split at z'
   ·lia
   ·exact absurd (O.lt _ _ z') (sd _)
  ·split at z'
   ·cases z'
    exact absurd (O.lt _ _ z) (sd _)
   ·exact O.inj i i' v z z'
 ·simp at hv
  by_cases c:v=hs.length
  ·exact⟨j,by rw[get,if_pos rfl,c]⟩
  ·obtain⟨i,hi⟩:=O.all v (by lia)
   refine⟨i,?_⟩
   rw[get,if_neg (fun z=>kc v (by rw[z];exact hi))]
   exact hi
 ·rw[get] at z
  split at z
  ·rename_i hji
   cases z
   refine⟨n,e3,?_,fun q hq=>oc _ ?_⟩
   ·rw[IE,A4 (cq _)]
    simp[e2,hji]
   ·have:=e5 q hq
    rw[IE,A4 (cq _)]
    simpa using this
  ·have hv:=O.lt i v z
   obtain⟨n',a1,a2,a3⟩:=O.path i v z
   have eg:(hs++[h]).getD v 0=hs.getD v 0:=by
    rw[IE,IE,IG hv]
   rw[eg]
   exact⟨n',a1,a2,fun q hq=>oc _ (a3 q hq)⟩
theorem OI.nil(M:Nat):OI M [] (Array.replicate (M+1) none):=by
 have no:∀ (j v:Nat),¬ (Array.replicate (M+1) (none:Option Nat))[j]? = some (some v):=fun j v z=>by
  rw[Array.getElem?_replicate] at z
  split at z<;>cases z
 exact⟨by simp,fun j v z=>absurd z (no j v),fun j j' v z _=>absurd z (no j v),fun v hv=>absurd hv (Dx v),fun j v z=>absurd z (no j v)⟩
theorem Dq(hM:M+1=2 ^ m)(hs:Array Int)(hl:hs.size<=M):∃ owner,layClean M hs=some owner/\OI M hs.toList owner:=by
 have go:∀ (l pre:List Int) (owner:Array (Option Nat)),OI M pre owner->pre.length+l.length<=M->∃ YV,l.foldl (fun acc h=>do
   let (owner,k) ← acc
   let j ← layClean.free M owner (turns M) (bits h % (M+1)) (bits h)
   pure (owner.setIfInBounds j (some k),k+1)) (some (owner,pre.length))=some (YV,pre.length+l.length)/\OI M (pre++l) YV:=by
  intro l
  induction l with
  |nil=>intro pre owner O _;exact⟨owner,rfl,by rw[kF];exact O⟩
  |cons h l ih =>
   intro pre owner O hz
   rw[pj] at hz
   obtain⟨j,e,O'⟩:=O.lay hM (by lia) h
   obtain⟨o2,e2,O2⟩:=ih (pre++[h]) _ O' (by simp;lia)
   refine⟨o2,?_,by rw[tT] at O2;exact O2⟩
   rw[IU]
   have:(do
    let (owner,k) ← (some (owner,pre.length):Option (Array (Option Nat) × Nat))
    let j ← layClean.free M owner (turns M) (bits h % (M+1)) (bits h)
    pure (owner.setIfInBounds j (some k),k+1))=some (owner.setIfInBounds j (some pre.length),(pre++[h]).length):=by
    simp[e]
   rw[this,e2]
   simp;lia
 obtain⟨o,e,O⟩:=go hs.toList [] _ (OI.nil M) (by simpa using hl)
 refine⟨o,?_,by simpa using O⟩
 unfold layClean
 rw[<- Array.foldl_toList]
 have e':=e
 simp only[IQ] at e'
 rw[e']
 rfl
theorem lq:∀ (fuel a:Nat),3<=a->n<2 ^ (a+fuel)->∃ b,3<=b/\sizeAbove.go n fuel (2 ^ a)=2 ^ b/\n<2 ^ b/\(2 ^ b<=2*n\/b=a)
 |0,a,ha,h=>⟨a,ha,rfl,by simpa using h,.inr rfl⟩
 |fuel+1,a,ha,h=>by
  unfold sizeAbove.go
  by_cases c:2 ^ a<=n
  ·rw[if_pos c]
   obtain⟨b,h1,h2,h3,h4⟩:=lq fuel (a+1) (by lia) (by rw[show a+1+fuel=a+(fuel+1) by lia];exact h)
   refine⟨b,h1,by rw[se] at h2;exact h2,h3,?_⟩
   rcases h4 with h4|h4
   ·exact .inl h4
   ·left
    rw[h4,se];lia
  ·rw[if_neg c]
   exact⟨a,ha,rfl,by lia,.inr rfl⟩
theorem nW(h:n<2 ^ 60):∃ b,3<=b/\sizeAbove n=2 ^ b/\n<2 ^ b/\(2 ^ b<=2*n\/b=3) :=
 lq 64 3 (cq _) (RL h (by decide))
section
variable {α:Type}
def b7(M:Nat)(owner:Array (Option Nat)):List (Nat × Nat):=(List.range (M+1)).filterMap fun j=>(owner.getD j none).map (j,·)
theorem gk:p∈b7 M owner↔p.1<M+1/\owner[p.1]? = some (some p.2):=by
 unfold b7
 rw[Ry]
 constructor
 ·rintro⟨j,hj,e⟩
  rw[Bn] at e
  cases h:owner[j]? with
  |none=>rw[h] at e;cases e
  |some o =>
   rw[h] at e
   cases o with
   |none=>cases e
   |some v =>
    cases e
    exact⟨px.mp hj,h⟩
 ·rintro⟨h1,h2⟩
  exact⟨p.1,px.mpr h1,by rw[Bn,h2];rfl⟩
theorem uw(M:Nat)(owner:Array (Option Nat)):((b7 M owner).map (·.1)).Pairwise (· < ·):=by
 unfold b7
 rw[qE,List.pairwise_filterMap]
 refine List.Pairwise.imp ?_ List.pairwise_lt_range
 intro a b y2 p hp q hq
 cases h1:owner.getD a none with
 |none=>rw[h1] at hp;cases hp
 |some x =>
  cases h2:owner.getD b none with
  |none=>rw[h2] at hq;cases hq
  |some y =>
   rw[h1] at hp;rw[h2] at hq
   cases hp;cases hq
   exact y2
theorem vK{l:List Nat}(h:l.Pairwise (· < ·)):Up l.toArray:=fun i j kB hj=>by
 have hj:j<l.length:=by simpa using hj
 have:=Rv.mp h i j (by walk_at "s1") hj kB
 have e:∀ k (hk:k<l.length),l.toArray.getD k 0=l[k]:=fun k hk=>by simp[Array.getD,hk]
 rw[e i (by walk_at "s1"),e j hj]
 exact this
theorem vo{β:Type}{f:α->Option β}:∀ {l:List α},(∀ x∈l,(f x).isSome=true)->(l.filterMap f).length=l.length/\∀ i:Nat,(l.filterMap f)[i]? = (l[i]?).bind f
 |[],_=>⟨rfl,fun i=>by simp⟩
 |x :: l,h=>by
  obtain⟨a,b⟩:=vo (f:=f) (l:=l) fun y hy=>h y (dn _ hy)
  have hx:=h x dz
  cases e:f x with
  |none=>rw[e] at hx;cases hx
  |some y =>
   rw[zt,e]
   refine⟨by simp[a],fun i=>?_⟩
   cases i with
   |zero=>simp[e]
   |succ i=>simpa using b i
theorem vL(es:Array (Int × α)):(List.range es.size).filterMap (fun i=>es[i]?)=es.toList:=by
 apply IL
 intro i
 rw[(vo (l:=List.range es.size) fun x hx=>by
  have:=px.mp hx
  simp[this]).2 i]
 by_cases h:i<es.size
 ·rw[List.getElem?_range h,mS];rfl
 ·rw[A5 (by simpa using h),A5 (by simpa using h)];rfl
theorem Dm{M m finger moves:Nat}{led plain:Bool}(hM:M+1=2 ^ m)(hm:3<=m){es:Array (Int × α)}(hf:es.size*5<M*3) :
  ∃ t order,laid M finger moves led plain (es.map (·.1))=some (t,order)/\t.plain=plain/\t.led=led/\t.mask=M/\TI t (order.filterMap fun i=>es[i]?)/\(order.filterMap fun i=>es[i]?).size=es.size/\(order.filterMap fun i=>es[i]?).toList.Perm es.toList/\order.toList.Perm (List.range es.size):=by
 obtain⟨owner,e,O⟩:=Dq hM (es.map (·.1)) (by rw[Array.size_map];lia)
 have hn:(es.map (·.1)).toList.length=es.size:=by simp
 refine⟨{ mask:=M,place:=((b7 M owner).map (·.1)).toArray,dummies:=#[],finger,led,moves,plain },((b7 M owner).map (·.2)).toArray,?_,rfl,rfl,rfl,?_⟩
 ·unfold laid
  rw[e];rfl
 have YW:∀ p∈b7 M owner,p.2<es.size:=fun p hp=>by
  have:=O.lt _ _ (gk.mp hp).2
  lia
 have nd:((b7 M owner).map (·.2)).Nodup:=by
  rw[Rt,qE]
  have:=uw M owner
  rw[qE] at this
  refine List.Pairwise.imp_of_mem ?_ this
  intro p q hp hq fR z
  have:=O.inj _ _ _ (gk.mp hp).2 (by rw[z];exact(gk.mp hq).2)
  lia
 have pm:((b7 M owner).map (·.2)).Perm (List.range es.size):=by
  refine(List.perm_ext_iff_of_nodup nd Pg).mpr fun v=>⟨fun hv=>?_,fun hv=>?_⟩
  ·obtain⟨p,hp,rfl⟩:=cf.mp hv
   exact px.mpr (YW p hp)
  ·obtain⟨j,hj⟩:=O.all v (by rw[hn];exact px.mp hv)
   have YX:=(FE.mp hj).1
   rw[O.sz] at YX
   exact cf.mpr ⟨(j,v),gk.mpr ⟨YX,hj⟩,rfl⟩
 have hlen:(b7 M owner).length=es.size:=by
  have:=pm.length_eq
  simpa using this
 have vn:(((b7 M owner).map (·.2)).toArray.filterMap fun i=>es[i]?).toList=(b7 M owner).filterMap fun p=>es[p.2]? := by
  rw[Array.toList_filterMap,Rz];rfl
 obtain⟨f1,f2⟩:=vo (l:=b7 M owner) (f:=fun p=>es[p.2]?) fun p hp=>by simp[YW p hp]
 have eW':∀ i:Nat,(((b7 M owner).map (·.2)).toArray.filterMap fun i=>es[i]?)[i]? = ((b7 M owner)[i]?).bind fun p=>es[p.2]? := fun i=>by
  rw[<- mS,vn];exact f2 i
 have hsz:(((b7 M owner).map (·.2)).toArray.filterMap fun i=>es[i]?).size=es.size:=by
  rw[<- ua,vn,f1,hlen]
 have ic:∀ i:Nat,∀ p,(b7 M owner)[i]? = some p->((b7 M owner).map (·.1)).toArray.getD i 0=p.1:=fun i p hp=>by
  rw[Bn]
  simp[hp]
 have tk:∀ j,iF owner j=true->j<=M->taken ((b7 M owner).map (·.1)).toArray j=true:=fun j hj hM'=>by
  obtain⟨v,hv⟩:=(uO (by rw[O.sz];exact A9 ‹_›)).mp hj
  obtain⟨i,hi⟩:=Rx.mp (gk.mpr (show((j,v):Nat × Nat).1<M+1/\owner[((j,v):Nat × Nat).1]? = some (some ((j,v):Nat × Nat).2) from⟨by show j<M+1;exact A9 ‹_›,hv⟩))
  exact(ie (vK (uw M owner))).mpr ⟨i,by
   have:=(mI.mp hi).1
   simpa using this,ic i _ hi⟩
 refine⟨?_,hsz,?_,by simpa using pm⟩
 ·refine⟨⟨m,hM,hm⟩,?_,vK (uw M owner),fun i hi=>?_,rfl,by rw[hsz];exact hf,fun i h x hx=>?_⟩
  ·rw[hsz];simp[hlen]
  ·have hi:i<(b7 M owner).length:=by simpa using hi
   have e1:=zo hi
   show((b7 M owner).map (·.1)).toArray.getD i 0<=M
   rw[ic i _ e1]
   have:=(gk.mp (sL e1)).1
   lia
  ·rw[eW'] at hx
   cases hp:(b7 M owner)[i]? with
   |none=>rw[hp] at hx;cases hx
   |some p =>
    rw[hp] at hx
    have hx:es[p.2]? = some (h,x):=hx
    have NF:=gk.mp (sL hp)
    obtain⟨n,a1,a2,a3⟩:=O.path _ _ NF.2
    have hh:(es.map (·.1)).toList.getD p.2 0=h:=by
     rw[IE,mS,Array.getElem?_map,hx];rfl
    rw[hh] at a2 a3
    refine⟨n,a1,?_,fun q hq=>tk _ (a3 q hq) (QY M h q)⟩
    show J M h n=((b7 M owner).map (·.1)).toArray.getD i 0
    rw[ic i _ hp];exact a2
 ·rw[vn]
  have:=pm.filterMap fun i=>es[i]?
  rw[vL,Rz] at this
  exact this
theorem qT{t:SetTable}{es:Array (Int × α)}(hn:es.size<=10000) :
  ∃ t' order,t.relaid (es.map (·.1)) (grown es.size)=some (t',order)/\t'.plain=t.plain/\t'.led=t.led/\sizeAbove (grown es.size)<=16777216/\(es.size<=1000->t'.mask<=8191)/\TI t' (order.filterMap fun i=>es[i]?)/\(order.filterMap fun i=>es[i]?).size=es.size/\(order.filterMap fun i=>es[i]?).toList.Perm es.toList/\order.toList.Perm (List.range es.size):=by
 have hg:grown es.size=es.size*4:=by unfold grown;rw[if_neg (by lia)]
 obtain⟨b,h3,e,fR,hle⟩:=nW (n:=es.size*4) (by lia)
 have h8:8<=2 ^ b:=Pk (n:=2) (by decide) h3
 unfold relaid
 rw[hg,e]
 obtain⟨t',order,q1,q2,q3,qm,q4⟩:=Dm (M:=2 ^ b-1) (m:=b) (finger:=t.finger) (moves:=t.movedTo (2 ^ b-1)) (led:=t.led) (plain:=t.plain) (by lia) h3 (es:=es) (by lia)
 refine⟨t',order,q1,q2,q3,?_,fun hz=>?_,q4⟩
 ·rcases hle with hle|rfl
  ·lia
  ·decide
 ·rw[qm]
  rcases hle with hle|rfl
  ·lia
  ·decide
end
section
variable {α:Type}{t:SetTable}{es:Array (Int × α)}
theorem qI(T:TI t es)(hashAt:Nat->Int)(h:Int):∀ (fuel n:Nat),(∃ N,n<=N/\N<n+fuel/\taken t.place (J t.mask h N)=false) ->
  ∃ n',n<=n'/\n'<n+fuel/\(∀ q,n<=q->q<n'->taken t.place (J t.mask h q)=true/\hashAt (below t.place (J t.mask h q))≠h) /\
   ((taken t.place (J t.mask h n')=false/\probe.go t hashAt h fuel (ps t.mask h n)=some (.empty (J t.mask h n') none)) \/
    (taken t.place (J t.mask h n')=true/\hashAt (below t.place (J t.mask h n'))=h/\probe.go t hashAt h fuel (ps t.mask h n)=some (.candidate (J t.mask h n') (below t.place (J t.mask h n')) (ps t.mask h (n'+1)))))
 |0,n,⟨N,h1,h2,_⟩=>by lia
 |fuel+1,n,⟨N,h1,h2,h3⟩=>by
  unfold probe.go
  have hs:=T.slot (J t.mask h n)
  have hd:=(Fp t.mask h n).2.2.1
  by_cases c:taken t.place (J t.mask h n)=true
  ·rw[if_pos c] at hs
   have hs:t.slot (ps t.mask h n).j=.live (below t.place (J t.mask h n)):=hs
   rw[hs]
   dsimp only
   by_cases e:hashAt (below t.place (J t.mask h n))=h
   ·rw[if_pos (by simpa using e)]
    exact⟨n,cq _,by lia,fun q a b=>by lia,.inr ⟨c,e,rfl⟩⟩
   ·rw[if_neg (by simpa using e)]
    have hN:N≠n:=fun z=>by rw[z,c] at h3;cases h3
    obtain⟨n',a1,a2,a3,a4⟩:=qI T hashAt h fuel (n+1) ⟨N,by lia,by lia,h3⟩
    refine⟨n',by exact kR ‹_›,by lia,fun q b1 b2=>?_,a4⟩
    by_cases z:q=n
    ·subst z;exact⟨c,e⟩
    ·exact a3 q (by lia) b2
  ·have c:taken t.place (J t.mask h n)=false:=by simpa using c
   rw[if_neg (by rw[c];exact iS)] at hs
   have hs:t.slot (ps t.mask h n).j=.empty:=hs
   rw[hs]
   dsimp only
   rw[hd]
   exact⟨n,cq _,by lia,fun q a b=>by lia,.inl ⟨c,rfl⟩⟩
end
section
variable {prog:Program}{w:World}{K:Type}[DecidableEq K]{knd:KeyKind prog w K}
abbrev bu(knd:KeyKind prog w K)(k:List K):Int:=tupleKeyHash knd k
def Ak(knd:KeyKind prog w K)(p:List K × Addr):Int × Value:=(bu knd p.1,.ref p.2)
structure vt(knd:KeyKind prog w K)(h:Heap)(a:Addr)(ks:List (List K × Addr)):Prop where
 ob:∃ o es ep t,h.get? a=some o/\o.ExactSet/\o.data=.set es ep t/\TI t es/\t.mask<=8191/\t.led=(!w.params.followText "set-order")/\es.toList=ks.map (Ak knd)
 nd:(ks.map (·.1)).Nodup
 is:∀ p∈ks,IsTupleKey knd h p.1 p.2
variable {A:Around}{E:Value->Shared->Prop}{s:Shared}
theorem mj(hk:IsTupleKey knd s.heap k a)(h:Q false s):wpAny (model prog w) A (ofAClassStatement 8 (.ref a)) Q E s:=by
 have hT:=hk.typeIs
 obtain⟨o,items,n,ho,_,hd,hi⟩:=hk
 unfold ofAClassStatement
 refine ax (wpAny_typeOf hT ?_)
 dsimp only
 refine ax ?_
 refine aS ?_
 simp only[Pt,gy,if_false]
 refine ax (wpAny_seqItems ho hd ?_)
 dsimp only
 refine ax ?_
 rw[<- Array.forIn_toList]
 refine wpAny_forIn_list _ (fun rest r s'=>r.1=none/\s'=s/\∀ v∈rest,carriedByValue v=true) _ ?_ ?_ _ _ ⟨rfl,rfl,hi.byValue⟩
 ·rintro v rest r s' ⟨hr,rfl,mw⟩
  have hv:=mw v dz
  have e:ofAClassStatement 7 v=pure false:=by
   cases v with
   |ref a=>cases hv
   |_=>rfl
  rw[e]
  refine ax (aS ?_)
  simp only[gy,if_false]
  exact aS ⟨rfl,rfl,fun u EK=>mw u (dn _ EK)⟩
 ·rintro⟨r1,r2⟩ s' ⟨hr,rfl,_⟩
  simp only at hr
  subst hr
  exact aS h
theorem jZ(hk:IsTupleKey knd s.heap k a)(oC:∀ k v,knd.is k v=true->v.scannable=true)(h:∀ b,Q b s):wpAny (model prog w) A (hashByValue 8 (.ref a)) Q E s:=by
 have hT:=hk.typeIs
 obtain⟨o,items,n,ho,_,hd,hi⟩:=hk
 have eX':∀ v∈items.toList,v.scannable=true:=by
  clear ho hd
  generalize items.toList=l at hi
  induction hi with
  |nil=>intro v hv;cases hv
  |cons h1 _ ih =>
   intro v hv
   rcases dv.mp hv with rfl|hv
   ·exact oC _ _ h1
   ·exact ih v hv
 unfold hashByValue
 refine ax (wpAny_specialOf hT F.slot_tuple_hash.lookup ?_)
 dsimp only
 refine ax (wpAny_seqItems ho hd ?_)
 dsimp only[Option.getD]
 refine ax ?_
 rw[<- Array.forIn_toList]
 refine wpAny_forIn_list _ (fun rest r s'=>s'=s/\∀ v∈rest,v.scannable=true) _ ?_ ?_ _ _ ⟨rfl,eX'⟩
 ·rintro v rest r s' ⟨rfl,mw⟩
  rw[hashByValue_scannable 7 (mw v dz)]
  refine ax (aS ?_)
  split
  ·exact aS (aS (h _))
  ·exact aS ⟨rfl,fun u EK=>mw u (dn _ EK)⟩
 ·rintro⟨r1,r2⟩ s' ⟨rfl,_⟩
  cases r1 with
  |none=>exact aS (h true)
  |some b=>exact aS (h b)
end
local macro_rules | `(tactic| walk_at $s:str) => do
 let x:=s.getString
 if x.startsWith "PV" then `(tactic| exact $(Lean.mkIdent (.str (.str (.num (.str (.str (.str .anonymous "_private") "PySem") "SetOps") 0) "PySem") (x.drop 2).toString)))
 else Lean.Macro.throwUnsupported
abbrev yp:Array (Int × Value)->Nat->Int:=by walk_at "PVstoredHashAt"
abbrev Dz:Array (Int × Value)->Option (SetTable × Array Nat)->Sem (Array (Int × Value) × SetTable):=by walk_at "PVreordered"
abbrev qi:Array (Int × Value)->SetTable->Bool:=by walk_at "PVdrawn"
abbrev JR:Array (Int × Value)->SetTable->Sem Unit:=by walk_at "PVmustBeLedForItsPlaces"
abbrev Hj:Bool->Sem Unit:=by walk_at "PVgaveWayHere"
def uU:Array (Int × Value)->Nat->Int:=yp
theorem rM(es:Array (Int × Value))(i:Nat):uU es i=(es[i]?.map (·.1)).getD 0:=rfl
section
variable {prog:Program}{w:World}{K:Type}[DecidableEq K]{knd:KeyKind prog w K}{A:Around}{E:Value->Shared->Prop}{s:Shared}
theorem xJ(hk:IsTupleKey knd s.heap k a)(hy:∀ y∈ys,∃ k' b,y=.ref b/\IsTupleKey knd s.heap k' b)(h:Q false s):wpAny (model prog w) A (searchCouldBeSeen (.ref a) ys) Q E s:=by
 unfold searchCouldBeSeen
 refine ax ?_
 refine wpAny_forIn_list _ (fun rest r s'=>r.1=none/\s'=s/\∀ y∈rest,∃ k' b,y=.ref b/\IsTupleKey knd s.heap k' b) _ ?_ ?_ _ _ ⟨rfl,rfl,hy⟩
 ·rintro y rest r s' ⟨hr,rfl,mw⟩
  obtain⟨k',b,rfl,hb⟩:=mw y dz
  have go:∀ (P:Prop),P->P:=fun _ p=>p
  dsimp only
  split
  ·exact aS ⟨rfl,rfl,fun u EK=>mw u (dn _ EK)⟩
  ·refine ax (wpAny_eqIsQuiet_tuple hk ?_)
   simp only[Pt,gy,if_false]
   refine ax (wpAny_eqIsQuiet_tuple hb ?_)
   simp only[Pt,gy,if_false]
   refine ax (mj hk ?_)
   simp only[gy,if_false]
   refine ax (mj hb ?_)
   simp only[gy,if_false]
   exact aS ⟨rfl,rfl,fun u EK=>mw u (dn _ EK)⟩
 ·rintro⟨r1,r2⟩ s' ⟨hr,rfl,_⟩
  simp only at hr
  subst hr
  exact aS h
theorem Kh{K G:Prop}(pk:K)(h:K->G):G:=h pk
theorem rQ{a x:Addr}{k:List K}{ks:List (List K × Addr)}{o:Obj}{es:Array (Int × Value)}{ep:Nat}{t:SetTable}(hu:A.units<cLine)(ho:s.heap.get? a=some o)(hd:o.data=.set es ep t)(T:TI t es)(he:es.toList=ks.map (Ak knd))
  (oo:∀ p∈ks,IsTupleKey knd s.heap p.1 p.2) (hx:IsTupleKey knd s.heap k x) {Q:SetFound->Shared->Prop} (YY:k∈ks.map (·.1)->Q (.there none) s)
  (nf:Nat) (hnf:nf<=10*(t.mask+13)) (BU:taken t.place (J t.mask (bu knd k) nf)=false) (YZ:∀ q<nf,taken t.place (J t.mask (bu knd k) q)=true)
  (BG:k∉ks.map (·.1)->Q (.free (J t.mask (bu knd k) nf) false) s) :
  ∀ (fuel n:Nat) (stand:Option Probe),stand.getD (t.probeStart (bu knd k))=ps t.mask (bu knd k) n->n<=nf->nf<n+fuel ->
   (∀ q<n,∀ p,ks[below t.place (J t.mask (bu knd k) q)]? = some p->p.1≠k)->wpAny (model prog w) A (setSearchFrom a (.ref x) (bu knd k) true fuel stand) Q E s
 |0,n,stand,_,h1,h2,_=>by lia
 |fuel+1,n,stand,md,h1,h2,hq=>by
  have HL:∀ i:Nat,es[i]? = (ks[i]?).map (Ak knd):=fun i=>by rw[<- mS,he,ot]
  unfold setSearchFrom
  refine ax (wpAny_setState_of ho hd T.fits ?_)
  dsimp only
  rw[if_neg (by rw[T.odd];exact iS)]
  obtain⟨n',a1,a2,a3,a4⟩:=qI T (uU es) (bu knd k) (10*turns t.mask) n ⟨nf,h1,by unfold turns;lia,BU⟩
  have DS:n'<=nf:=by
   by_cases z:n'<=nf
   ·exact z
   ·have:=(a3 nf h1 (by exact Pl ‹_›)).1
    rw[BU] at this;cases this
  rcases a4 with⟨c1,c2⟩|⟨c1,c2,c3⟩
  ·have c2:t.probe (uU es) (bu knd k) (stand.getD (t.probeStart (bu knd k)))=some (.empty (J t.mask (bu knd k) n') none):=by rw[md];exact c2
   have e:n'=nf:=by
    by_cases z:n'<nf
    ·have:=YZ n' z
     rw[c1] at this;cases this
    ·lia
   have c2:t.probe (yp es) (bu knd k) (stand.getD (t.probeStart (bu knd k)))=some (.empty (J t.mask (bu knd k) n') none):=c2
   rw[c2]
   dsimp only
   rw[e]
   refine aS (BG fun hm=>?_)
   obtain⟨p,hp,rfl⟩:=cf.mp hm
   obtain⟨i,hi⟩:=Rx.mp hp
   have ei:es[i]? = some (bu knd p.1,.ref p.2):=by rw[HL,hi];rfl
   have Y0:i<t.place.size:=by rw[T.sz];exact(FE.mp ei).1
   obtain⟨ni,b1,b2,b3⟩:=T.path i _ _ ei
   have bt:below t.place (J t.mask (bu knd p.1) ni)=i:=by rw[b2];exact below_at T.up Y0
   have tk:taken t.place (J t.mask (bu knd p.1) ni)=true:=by rw[b2];exact(ie T.up).mpr ⟨i,Y0,rfl⟩
   have fR:ni<nf:=by
    by_cases z:nf<ni
    ·have:=b3 nf z
     rw[BU] at this;cases this
    ·have:ni≠nf:=fun z=>by rw[z,BU] at tk;cases tk
     lia
   by_cases z:ni<n
   ·exact hq ni z p (by rw[bt];exact hi) rfl
   ·refine(a3 ni (by exact Jn ‹_›) (by lia)).2 ?_
    rw[bt,rM,ei];rfl
  ·have c3:t.probe (yp es) (bu knd k) (stand.getD (t.probeStart (bu knd k)))=some (.candidate (J t.mask (bu knd k) n') (below t.place (J t.mask (bu knd k) n')) (ps t.mask (bu knd k) (n'+1))):=by rw[md];exact c3
   rw[c3]
   dsimp only
   have tk:=lH T.up c1
   have Q0:t.slot (J t.mask (bu knd k) n')=.live (below t.place (J t.mask (bu knd k) n')):=by rw[T.slot,if_pos c1]
   generalize hi:below t.place (J t.mask (bu knd k) n')=i at tk c2 Q0 ⊢
   have T2:i<es.size:=by rw[<- T.sz];exact tk.1
   obtain⟨p,hp⟩:∃ p,ks[i]? = some p:=by
    have:i<ks.length:=by
     have:=congrArg List.length he
     simp at this;lia
    exact⟨_,zo this⟩
   have ei:es[i]? = some (bu knd p.1,.ref p.2):=by rw[HL,hp];rfl
   have Y1:=sL hp
   have kc:n'≠nf:=fun z=>by rw[z,BU] at c1;cases c1
   have again:¬ p.1=k->wpAny (model prog w) A (setSearchFrom a (.ref x) (bu knd k) true fuel (some (ps t.mask (bu knd k) (n'+1)))) Q E s:=fun hpk =>
    rQ hu ho hd T he oo hx YY nf hnf BU YZ BG fuel (n'+1) (some (ps t.mask (bu knd k) (n'+1))) rfl (by lia) (by lia) fun q QZ p' fm=>by
     by_cases z:q<n
     ·exact hq q z p' fm
     ·by_cases z2:q=n'
      ·subst z2
       rw[hi,hp] at fm
       cases fm
       exact hpk
      ·intro e'
       have:=(a3 q (by exact Jn ‹_›) (by lia)).2
       refine this ?_
       rw[rM,HL,fm]
       show bu knd p'.1=_
       rw[e']
   have nI:p.1=k->k∈ks.map (·.1):=fun e=>e ▸ cf.mpr ⟨p,Y1,rfl⟩
   have seen:∀ y∈List.map (fun x=>x.snd) (Array.filter (fun x=>x.fst == bu knd k) es).toList,∃ k' b,y=.ref b/\IsTupleKey knd s.heap k' b:=fun y hy=>by
    obtain⟨e',Qo,rfl⟩:=cf.mp hy
    rw[Array.toList_filter] at Qo
    have:=(kE.mp Qo).1
    rw[he] at this
    obtain⟨p',fm,rfl⟩:=cf.mp this
    exact⟨p'.1,p'.2,rfl,oo p' fm⟩
   refine Kh ?pk (K:=?K) fun key=>?main
   case main =>
    split
    ·refine ax (xJ hx seen ?_)
     rw[if_neg iS]
     exact key
    ·exact key
   rw[ei]
   dsimp only
   refine ax (wpAny_holding (wpAny_eqBool_tuple hu (oo p Y1) hx ?_))
   refine ax (wpAny_setState_of ho hd T.fits ?_)
   dsimp only
   by_cases e:p.1=k
   ·rw[if_pos (by simp[e])]
    exact aS (YY (nI e))
   ·rw[if_neg (by simp[e])]
    have Tg:t.sameMemory t.moves t.mask=some true:=by unfold sameMemory;rw[if_pos (by simp)]
    rw[Tg]
    dsimp only
    rw[if_pos rfl,Q0]
    dsimp only
    rw[ei]
    dsimp only
    refine ax (m:=isSame (.ref p.2) (.ref p.2)) ?_
    unfold isSame
    dsimp only
    rw[if_pos (by simp)]
    refine aS (ax (aS ?_))
    rw[if_pos rfl]
    dsimp only
    rw[if_neg (by simp[e])]
    exact again e
end
theorem k_{α β:Type}{f:α->β}:∀ {l l2:List β},l.Perm l2->∀ {m:List α},l2=m.map f->∃ m':List α,l=m'.map f/\m'.Perm m:=by
 intro l l2 p
 induction p with
 |nil=>intro m e;exact⟨m,by rw[<- e],.refl _⟩
 |cons x _ ih =>
  intro m e
  cases m with
  |nil=>cases e
  |cons y m =>
   simp only[fP,List.cons.injEq] at e
   obtain⟨m',e1,p1⟩:=ih e.2
   exact⟨y :: m',by rw[fP,<- e1,e.1],p1.cons _⟩
 |swap x y l =>
  intro m e
  match m,e with
  |a :: b :: m,e =>
   simp only[fP,List.cons.injEq] at e
   exact⟨b :: a :: m,by simp[e.1,e.2.1,e.2.2],.swap ..⟩
 |trans _ _ ih1 Tw =>
  intro m e
  obtain⟨m',e1,p1⟩:=Tw e
  obtain⟨m2,e2,p2⟩:=ih1 e1
  exact⟨m2,e2,p2.trans p1⟩
theorem oM{α:Type}(xs:Array α)(p:Nat)(x:α):(insertAt xs p x).toList=xs.toList.take p++x :: xs.toList.drop p:=by
 unfold insertAt
 simp
 rw[O5 (by simp)]
theorem rY(hz:(order.filterMap fun i=>es[i]?).size=es.size)
  (h:Q (order.filterMap fun i=>es[i]?,t) s):wpAny (model prog w) A (Dz es (some (t,order))) Q E s:=by
 show wpAny _ _ (if ((order.filterMap fun i=>es[i]?).size != es.size)=true then (do unsupported "internal:set-table-lost-an-element";pure (order.filterMap fun i=>es[i]?,t)) else pure (order.filterMap fun i=>es[i]?,t)) _ _ _
 rw[if_neg (by simp[hz])]
 exact aS h
section
variable {prog:Program}{w:World}{K:Type}[DecidableEq K]{knd:KeyKind prog w K}{A:Around}{E:Value->Shared->Prop}{s:Shared}
theorem IsTupleKey.fi(hk:IsTupleKey knd h k a)(e:∀ o,h.get? a=some o->h'.get? a=some o):IsTupleKey knd h' k a:=by
 obtain⟨o,items,n,ho,r⟩:=hk
 exact⟨o,items,n,e o ho,r⟩
theorem vt.fi(S:vt knd h a ks)(e:∀ b o,h.get? b=some o->h'.get? b=some o):vt knd h' a ks:=by
 obtain⟨⟨o,es,ep,t,ho,r⟩,nd,is⟩:=S
 exact⟨⟨o,es,ep,t,e _ _ ho,r⟩,nd,fun p hp=>IsTupleKey.fi (is p hp) fun o ho=>e _ _ ho⟩
theorem vt.ne(S:vt knd h a ks)(hx:IsTupleKey knd h k x):x≠a:=by
 obtain⟨⟨o,es,ep,t,ho,hex,_⟩,_,_⟩:=S
 obtain⟨o',items,n,lT,hc,_⟩:=hx
 intro z
 subst z
 rw[ho] at lT
 cases lT
 rw[hex.1] at hc
 exact absurd hc (by decide)
theorem Cz(S:vt knd s.heap a ks)(hx:IsTupleKey knd s.heap k x)(hz:ks.length<1000)(hu:A.units<cLine)(oC:∀ k v,knd.is k v=true->v.scannable=true)
  (h:∀ (b:Bool) (h':Heap) (da:List (List K × Addr)),Heap.SameBut a s.heap h'->vt knd h' a da->(k∈ks.map (·.1)/\da=ks\/k∉ks.map (·.1)/\da.Perm ((k,x) :: ks))->Q b { s with heap:=h' }) :
  wpAny (model prog w) A (setAddHashed a (.ref x) (bu knd k)) Q E s:=by
 obtain⟨⟨o,es,ep,t,ho,hex,hd,T,hM,hL,he⟩,nd,is⟩:=id S
 have hlen:es.size=ks.length:=by
  have:=congrArg List.length he
  simpa using this
 obtain⟨m,hm,_⟩:=T.pw
 obtain⟨e0,T3,T4⟩:=T.free
 obtain⟨nf,n1,n2,n3⟩:=oG hm (bu knd k) (taken t.place) T3 T4
 unfold setAddHashed setAddHashedIn
 refine wpAny_holding (ax (wpAny_setState_of ho hd T.fits ?_))
 dsimp only
 have hbs:byScan (.ref x) es=false:=by simp[byScan,Value.scannable]
 rw[hbs]
 simp only[gy,if_false]
 refine ax ?_
 unfold setSearch
 refine rQ hu ho hd T he is hx (fun nI=>?_) nf n1 n2 n3 (fun AQ=>?_) 100000 0 none rfl (eu _) (by lia) fun q hq=>absurd hq (Dx q)
 ·dsimp only
  refine aS ?_
  have e:s={ s with heap:=s.heap }:=by cases s;rfl
  rw[e]
  exact h _ _ ks (Heap.SameBut.refl a s.heap) S (.inl ⟨nI,rfl⟩)
 ·dsimp only
  generalize hj:J t.mask (bu knd k) nf=j at n2 ⊢
  have T5:j<=t.mask:=by rw[<- hj];exact QY ..
  have T6:Reach t.mask t.place (bu knd k) j:=⟨nf,n1,hj,n3⟩
  refine ax (wpAny_setState_of ho hd T.fits ?_)
  dsimp only
  have T7:t.put j=({ t with place:=insertAt t.place (below t.place j) j,dummies:=#[] },below t.place j):=by
   unfold SetTable.put
   have:has t.dummies j=false:=by rw[T.dm];rfl
   simp only[this,gy,if_false]
   rw[T.dm]
  rw[T7]
  dsimp only
  have nI:(insertAt es (below t.place j) (bu knd k,.ref x)).toList=(ks.take (below t.place j)++(k,x) :: ks.drop (below t.place j)).map (Ak knd):=by
   rw[oM,he,mM,fP,Ph,Pj];rfl
  have tF:(ks.take (below t.place j)++(k,x) :: ks.drop (below t.place j)).Perm ((k,x) :: ks):=by
   refine List.perm_middle.trans ?_
   rw[CY]
  have Cb:below t.place j<=es.size:=by rw[<- T.sz];exact(bj T.up j).1
  have y3:(insertAt es (below t.place j) (bu knd k,Value.ref x)).size=es.size+1:=cu _ _ Cb
  have hxa:=S.ne hx
  have NH:∀ h',Heap.SameBut a s.heap h'->∀ da:List (List K × Addr),da.Perm ((k,x) :: ks)->∀ p∈da,IsTupleKey knd h' p.1 p.2:=fun h' sb da pm p hp=>by
   have:IsTupleKey knd s.heap p.1 p.2:=by
    rcases dv.mp (pm.mem_iff.mp hp) with rfl|hp
    ·exact hx
    ·exact is p hp
   exact IsTupleKey.fi this fun o' lT=>sb.extBut _ _ (S.ne this) lT
  have NJ:∀ da:List (List K × Addr),da.Perm ((k,x) :: ks)->(da.map (·.1)).Nodup:=fun da pm=>by
   rw[(pm.map _).nodup_iff,fP,ox]
   exact⟨AQ,nd⟩
  -- behind the flag
  have main:∀ pl:Bool,wpAny (model prog w) A (do
    storeSet a (insertAt es (below t.place j) (bu knd k,.ref x)) { t with place:=insertAt t.place (below t.place j) j,dummies:=#[],plain:=pl }
    if (!false && ({ t with place:=insertAt t.place (below t.place j) j,dummies:=#[],plain:=pl }:SetTable).tooFull)=true then do
      setRelay a (grown (es.size+1))
      pure true
     else pure true) Q E s:=fun pl=>by
   generalize NM:({ t with place:=insertAt t.place (below t.place j) j,dummies:=#[],plain:=pl }:SetTable)=t'
   have tm:t'.mask=t.mask:=by rw[<- NM]
   have tp:t'.place=insertAt t.place (below t.place j) j:=by rw[<- NM]
   have td:t'.dummies = #[]:=by rw[<- NM]
   have Q5:t'.fill=es.size+1:=by
    unfold SetTable.fill
    rw[tp,td,cu _ _ (bj T.up j).1,T.sz];simp
   refine ax (wpAny_storeSet_of ho hd ?_ (by rw[y3,sizeLine_eq];lia))
   have sq:(s.heap.update a (Obj.putSet (insertAt es (below t.place j) (bu knd k,.ref x)) t')).get? a=some { o with data:=.set (insertAt es (below t.place j) (bu knd k,.ref x)) (ep+1) t' }:=by
    have:=DC (Obj.putSet (insertAt es (below t.place j) (bu knd k,.ref x)) t') ho (by rw[putSet_of _ _ hd];rfl)
    rw[putSet_of _ _ hd] at this;exact this
   have sD:=Heap.SameBut.update s.heap a (Obj.putSet (insertAt es (below t.place j) (bu knd k,.ref x)) t')
   by_cases c:t'.tooFull=true
   ·rw[if_pos (by rw[c];rfl)]
    have QD:t'.fits (insertAt es (below t.place j) (bu knd k,Value.ref x)).size=true:=by
     have:=T.few
     simp only[SetTable.fits,Q5,kG,beq_iff_eq,decide_eq_true_eq]
     rw[tp,cu _ _ (bj T.up j).1,y3,T.sz,tm]
     exact⟨rfl,by lia⟩
    obtain⟨t2,order,r1,r2,r3,r4,r5,r6,r7,r8,_⟩:=qT (t:=t') (es:=insertAt es (below t.place j) (bu knd k,Value.ref x)) (by lia)
    rw[y3] at r1 r4
    unfold setRelay
    refine ax (ax (wpAny_setState_of sq rfl QD ?_))
    dsimp only
    rw[if_neg (by rw[sizeLine_eq];lia)]
    refine ax ?_
    rw[r1]
    obtain⟨da,ek,pk⟩:=k_ r8 nI
    refine rY r7 ?_
    dsimp only
    refine wpAny_storeSet_of sq rfl ?_ (by rw[r7,y3,sizeLine_eq];lia)
    refine aS ?_
    have Ct:=sD.trans (Heap.SameBut.update _ a (Obj.putSet (order.filterMap fun i=>(insertAt es (below t.place j) (bu knd k,Value.ref x))[i]?) t2))
    have sR:=DC (Obj.putSet (order.filterMap fun i=>(insertAt es (below t.place j) (bu knd k,Value.ref x))[i]?) t2) sq (by rw[putSet_of _ _ rfl];rfl)
    rw[putSet_of _ _ rfl] at sR
    exact h true _ da Ct ⟨⟨_,_,_,_,sR,hex,rfl,r6,r5 (by lia),by rw[r3,<- NM];exact hL,ek⟩,NJ da (pk.trans tF),NH _ Ct da (pk.trans tF)⟩ (.inr ⟨AQ,pk.trans tF⟩)
   ·rw[if_neg (by simpa using c)]
    refine aS ?_
    have wm:(es.size+1)*5<t.mask*3:=by
     unfold SetTable.tooFull at c
     rw[Q5,tm] at c
     simpa using c
    exact h true _ _ sD ⟨⟨_,_,_,_,sq,hex,rfl,T.put T5 n2 T6 tm tp td wm,by rw[tm];exact hM,by rw[<- NM];exact hL,nI⟩,NJ _ tF,NH _ sD _ tF⟩ (.inr ⟨AQ,tF⟩)
  split
  ·refine ax (jZ hx oC fun b=>?_)
   cases b with
   |true=>exact main t.plain
   |false=>exact main false
  ·exact ax (aS (main t.plain))
end
end TS
namespace TS
open PySem PySem.SetTable PyProof.Rows
section
variable {prog:Program}{w:World}{A:Around}{R:Result->Shared->Prop}{I:Addr}{fp wr:List Addr}{n:Nat}{P:Nat->Value->Prop}{St:Nat->Heap->Prop}
theorem Bd(W:Walks prog w A.in1 I fp wr n P St)(S:Addr)(EL:S∉fp)(SI:Nat->Heap->Prop)(keep:∀ i h h',SI i h->(∀ b o,b∉wr->h.get? b=some o->h'.get? b=some o)->SI i h')
  (step:∀ (i:Nat) (v:Value) (s':Shared) (E':Value->Shared->Prop) (Q:Bool->Shared->Prop),P i v->SI i s'.heap->(∀ b h' tk,Heap.SameBut S s'.heap h'->SI (i+1) h'->Q b { s' with heap:=h',toks:=tk })->wpAny (model prog w) A.in1 (setAdd S v) Q E' s') :
  ∀ (k i:Nat) (s:Shared),n-i=k->i<=n->St i s.heap->SI i s.heap ->
   (∀ h' tk,SI n h'->(∀ b o,b∉wr->b≠S->s.heap.get? b=some o->h'.get? b=some o)->R (.ok (.ret .none)) { s with heap:=h',toks:=tk }) ->
   codeAny (model prog w) A (.builtin "set.update.loop" ⟨[.ref S,.ref I],[]⟩) R s:=by
 have hSw:S∉wr:=fun h=>EL (W.sub _ h)
 intro k
 induction k with
 |zero =>
  intro i s hk hi md hS hR
  have nI:i=n:=by lia
  subst nI
  refine codeAny_builtin F.entry_set_update_loop ?_
  rw[Around.under_plainId F.plain_set_update_loop _]
  show wpAny _ A.in1 (pyNext (.ref I) >>= _) _ _ s
  refine ax (W.done s _ _ md fun h' tk nk=>?_)
  show wpAny _ A.in1 (ret Value.none) _ _ _
  exact aS (hR h' tk (keep _ _ _ hS nk) fun b o hb _ e=>nk b o hb e)
 |succ k ih =>
  intro i s hk hi md hS hR
  have fR:i<n:=by lia
  refine codeAny_builtin F.entry_set_update_loop ?_
  rw[Around.under_plainId F.plain_set_update_loop _]
  show wpAny _ A.in1 (pyNext (.ref I) >>= _) _ _ s
  refine ax (W.item i s _ _ fR md fun v h' tk hP fd' nk=>?_)
  show wpAny _ A.in1 (holding [v] (setAdd S v) >>= _) _ _ _
  refine ax (wpAny_holding (step i v _ _ _ hP (keep _ _ _ hS nk) fun b h2 tk2 sb hS2=>?_))
  refine aS ⟨plainId_quiet F.plain_set_update_loop _,ih (i+1) _ (by lia) fR (W.frame _ _ _ fd' fun b hb o e=>?_) hS2 fun h3 tk3 hS3 ED=>?_⟩
  ·exact sb.extBut b o (fun z=>EL (by rw[<- z];exact hb)) e
  ·exact hR h3 tk3 hS3 fun b o hb NR e=>ED b o hb NR (sb.extBut b o NR (nk b o hb e))
end
section
variable {prog:Program}{w:World}{A:Around}{E:Value->Shared->Prop}{s:Shared}
theorem z9(a:Value)
  (h:Q₁ (.ref s.heap.objs.size) { s with heap:=s.heap.push { cls:=.type "set",dict:=none,data:=.set #[] 0 (.fresh 0 0 (!w.params.followText "set-order")) } }) :
  codeAny (model prog w) A (.call (.builtin "set.__new__") ⟨[.type "set",a],[]⟩) (wants Q₁ E) s:=by
 refine codeAny_of_tree ?_
 show wpAny _ A.in1 (do checkBuiltinCall "set.__new__" ⟨[.type "set",a],[]⟩;again (.builtin "set.__new__" ⟨[.type "set",a],[]⟩)) _ _ s
 refine ax (wpAny_of_eq (F.newCall_set_1 a) (aS ⟨plainId_quiet F.plain_set_new _,codeAny_builtin F.entry_set_new ?_⟩))
 rw[Around.under_plainId F.plain_set_new _]
 unfold Builtin.«set.__new__» Builtin.Frozenset.newClass
 have T8:=sub_set_self
 obtain⟨hp,g,d,tk,os⟩:=s
 dsimp only
 wp_walk
 refine wpAny_askSetting (aS ?_)
 dsimp only
 simp only[newObj]
 refine ax (wpAny_alloc (aS ?_))
 exact aS h
theorem iy(hh:A.handled=none)(hl:s.heap.IsList l items)(SI:Nat->Heap->Prop)
  (h0:∀ h,h.get? s.heap.objs.size=some { cls:=.type "set",dict:=none,data:=.set #[] 0 (.fresh 0 0 (!w.params.followText "set-order")) }->(∀ b o,s.heap.get? b=some o->h.get? b=some o)->SI 0 h)
  (keep:∀ i h h',SI i h->(∀ b o,b<=s.heap.objs.size->h.get? b=some o->h'.get? b=some o)->SI i h')
  (step:∀ (i:Nat) (v:Value) (s':Shared) (E':Value->Shared->Prop) (Q:Bool->Shared->Prop),items[i]? = some v->SI i s'.heap->(∀ b h' tk,Heap.SameBut s.heap.objs.size s'.heap h'->SI (i+1) h'->Q b { s' with heap:=h',toks:=tk }) ->
   wpAny (model prog w) A.in1.in1.in1 (setAdd s.heap.objs.size v) Q E' s')
  (h:∀ (h':Heap) (tk:Nat),SI items.size h'->(∀ b o,b<s.heap.objs.size->s.heap.get? b=some o->h'.get? b=some o)->Q (.ref s.heap.objs.size) { s with heap:=h',toks:=tk }) :
  wpAny (model prog w) A (call (.type "set") [.ref l]) Q E s:=by
 obtain⟨c,tl,iq'⟩:=F.called_set.mro
 have ir':=F.called_set.made
 have T8:=F.called_set.sub
 refine wpAny_call (codeAny_of_tree ?_)
 show wpAny _ _ (callAny (.type "set") _) _ _ _
 refine aS ⟨Code.quiet_builtin _ (by decide +kernel),codeAny_builtin F.entry_type_call ?_⟩
 rw[Around.under_plain (weight_type_call_type "set" [.ref l] []) rfl]
 have h1:=F.called_set.notType
 have h2:=F.called_set.canCreate
 have hct:=F.typeCall_set_1 (.ref l)
 repeat (any_goals (first|assumption|wp_step))
 refine codeAny_mono (z9 (.ref l) (E:=E) (Q₁:=fun obj ez=>obj=.ref s.heap.objs.size/\ez={ s with heap:=s.heap.push { cls:=.type "set",dict:=none,data:=.set #[] 0 (.fresh 0 0 (!w.params.followText "set-order")) } }) ⟨rfl,rfl⟩) fun r ez hr=>?_
 cases r with
 |error e=>exact hr
 |ok fl =>
  cases fl with
  |ret obj =>
   obtain⟨rfl,rfl⟩:=hr
   generalize it':(!w.params.followText "set-order")=led at h0 ⊢
   have hS:(s.heap.push { cls:=.type "set",dict:=none,data:=.set #[] 0 (.fresh 0 0 led) }).get? s.heap.objs.size=some { cls:=.type "set",dict:=none,data:=.set #[] 0 (.fresh 0 0 led) }:=kr _ rfl
   have hT:Shared.TypeIs { s with heap:=s.heap.push { cls:=.type "set",dict:=none,data:=.set #[] 0 (.fresh 0 0 led) } } (.ref s.heap.objs.size) "set" := ⟨_,hS,rfl⟩
   have hli:=F.called_set.init.lookup
   have hbi:=F.called_set.init.bind (.ref s.heap.objs.size)
   repeat (any_goals (first|assumption|wp_step))
   refine codeAny_mono (codeAny_call_builtin (R:=wants (fun r DV=>r=.none/\∃ h' tk,DV={ s with heap:=h',toks:=tk }/\SI items.size h' /\
     (∀ b o,b<s.heap.objs.size->s.heap.get? b=some o->h'.get? b=some o)) E) F.called_set.init.plain F.entry_set_init (check_set_init_1 hT ?_)) fun fi' DV T9=>?_
   ·obtain⟨ol,Y2,yb,nl,Y3⟩:=hl
    obtain⟨ix',fj',iy',fk'⟩:=ol
    simp only at yb Y3
    subst yb;subst Y3
    have fm':(s.heap.push { cls:=.type "set",dict:=none,data:=.set #[] 0 (.fresh 0 0 led) }).get? l=some { cls:=.type "list",dict:=fj',data:=.seq items nl,slots:=fk' }:=fw _ Y2
    have iz':=F.sub_list_set
    have iA':=F.sub_list_frozenset
    have kc:(Value.type "list" == Value.type "dict")=false:=by decide
    have GV:(s.heap.push { cls:=.type "set",dict:=none,data:=.set #[] 0 (.fresh 0 0 led) }).IsList l items:=⟨_,fm',rfl,nl,rfl⟩
    unfold Builtin.«set.__init__» noKeywords Builtin.Frozenset.updateFrom
    generalize hPI:pyIter=PI
    wp_walk
    subst hPI
    refine wpAny_pyIter_list GV ?_
    refine ax (wpAny_runValue ?_)
    have Y4:l<s.heap.objs.size:=dP Y2
    have hh3:A.in1.in1.in1.handled=none:=by simp[hh]
    have hsz:(s.heap.push { cls:=.type "set",dict:=none,data:=.set #[] 0 (.fresh 0 0 led) }).objs.size=s.heap.objs.size+1:=Heap.size_push ..
    have fp':l≠(s.heap.push { cls:=.type "set",dict:=none,data:=.set #[] 0 (.fresh 0 0 led) }).objs.size:=by
     rw[hsz];exact gi (xv Y4)
    have EL:s.heap.objs.size∉[(s.heap.push { cls:=.type "set",dict:=none,data:=.set #[] 0 (.fresh 0 0 led) }).objs.size,l]:=by
     rw[hsz];simp only[dv,n4,Fc,or_false,not_or]
     exact⟨gi (Nat.lt_succ_self _),Nat.ne_of_gt Y4⟩
    refine Bd (Walks.list hh3 _ l fp' items) s.heap.objs.size EL SI (fun i h h' hi hk=>keep i h h' hi fun b o hb e=>hk b o ?_ e) (fun i v s' E' Q' hP hi hq=>step i v s' E' Q' hP hi hq) (items.size-0) 0 _ (by lia) (eu _)
     ⟨⟨_,kr _ rfl,rfl,rfl⟩,(GV.push _)⟩ ?hS0 ?hR
    ·rw[hsz]
     simp only[dv,Fc,or_false]
     exact gi (A9 hb)
    case hS0 =>
     exact h0 _ (fw _ hS) fun b o e=>fw _ (fw _ e)
    case hR =>
     intro h' tI NS nk
     show wpAny _ _ _ _ _ _
     refine aS ?_
     show wpAny _ _ (ret Value.none) _ _ _
     refine aS ⟨rfl,h',tI,rfl,NS,fun b o hb e=>?_⟩
     refine nk b o ?_ (gi hb) (fw _ (fw _ e))
     rw[hsz]
     simp only[dv,Fc,or_false]
     exact gi (xv hb)
   ·cases fi' with
    |error e=>exact T9
    |ok fr' =>
     cases fr' with
     |ret r =>
      obtain⟨rfl,h',tk,rfl,NS,nk⟩:=T9
      repeat (any_goals (first|assumption|wp_step))
      exact h _ _ NS nk
     |_=>exact T9.elim
  |_=>exact hr.elim
end
theorem qP:Manifest.owners.lookup (String.ofList ['r','o','t','a','r','e','t','i','_','t','e','s'].reverse)=some Manifest.sig_set_iterator:=by kernel_rfl
theorem b8:Slot "set_iterator" "__next__" "set_iterator.__next__" :=
 .of (owner := "set_iterator") (n := "__next__") (by rw[typeLookup_type,builtinLookup_eq_fast];kernel_rfl) (by decide +kernel) (by decide +kernel) (by decide +kernel)
  (by first|exact .inl (by decide +kernel)|exact .inr (by decide +kernel)) (by rw[isSubtype_type];kernel_rfl)
theorem nu:entryFor table "set_iterator.__next__" = some Builtin.«set_iterator.__next__» := entryFor_of_tree (by kernel_rfl)
theorem pG (a:Value):argsOk "set_iterator.__next__" ⟨[a],[]⟩:=by
 unfold argsOk;rw[signature?_of (id := "set_iterator.__next__") (n:=['_','_','t','x','e','n','_','_']) (o:=['r','o','t','a','r','e','t','i','_','t','e','s']) (by kernel_rfl) qP];kernel_rfl
theorem jo:Slot "set_iterator" "__iter__" "set_iterator.__iter__" :=
 .of (owner := "set_iterator") (n := "__iter__") (by rw[typeLookup_type,builtinLookup_eq_fast];kernel_rfl) (by decide +kernel) (by decide +kernel) (by decide +kernel)
  (by first|exact .inl (by decide +kernel)|exact .inr (by decide +kernel)) (by rw[isSubtype_type];kernel_rfl)
theorem n_:entryFor table "set.__iter__" = some Builtin.«frozenset.__iter__» :=
 entryFor_alias (id' := "frozenset.__iter__") (by kernel_rfl) rfl (by decide +kernel) (by kernel_rfl)
theorem jV{α:Type}:∀ (l:List α) (i:Nat) (h:i<l.length),(l[i] :: l.eraseIdx i).Perm l
 |x :: l,0,_=>.refl _
 |x :: l,i+1,h=>by
  have ih:=jV l i (by simpa using h)
  exact(List.Perm.swap _ _ _).trans (ih.cons x)
theorem xM{α:Type}(next:Nat->Nat):∀ (fuel k:Nat) (left:List α) (out:Array α),left.length=fuel->(pickOrder.go next fuel k left out).toList.Perm (out.toList++left)
 |0,k,left,out,h=>by
  have:left=[]:=O4.mp h
  subst this
  unfold pickOrder.go
  rw[kF]
 |fuel+1,k,left,out,h=>by
  unfold pickOrder.go
  have fR:next k % left.length<left.length:=FD _ (by lia)
  rw[zo fR]
  dsimp only
  refine(xM next fuel (k+1) _ _ (by rw[List.length_eraseIdx];split<;>lia)).trans ?_
  rw[n9,tT]
  refine List.Perm.append_left _ ?_
  exact jV _ _ fR
theorem m9{α:Type}(next:Nat->Nat)(xs:Array α):(pickOrder next xs).toList.Perm xs.toList:=by
 unfold pickOrder
 have:=xM next xs.size 0 xs.toList #[] (by simp)
 simpa using this
section
variable {prog:Program}{w:World}{A:Around}{E:Value->Shared->Prop}{s:Shared}
theorem tR(hn:n≠0)(h:∀ i d,i<n->Q i { s with drawn:=d }):wpAny M A (choose src n) Q E s:=fun Γ p _=>⟨hn,h _ _ (FD _ (Nat.pos_of_ne_zero hn))⟩
theorem Ey{α:Type}(n:Nat):∀ (xs:List α) (s:Shared) (Q:List α->Shared->Prop),xs.length=n->(∀ ys d,ys.Perm xs->Q ys { s with drawn:=d })->wpAny (model prog w) A (drawOrder n xs) Q E s:=by
 induction n with
 |zero =>
  intro xs s Q h q
  have:xs=[]:=O4.mp h
  subst this
  unfold drawOrder
  exact aS (q [] s.drawn (.refl _))
 |succ n ih =>
  intro xs s Q h q
  cases xs with
  |nil=>cases h
  |cons x xs =>
   unfold drawOrder
   refine ax (tR (by simp) fun i d hi=>?_)
   rw[zo hi]
   dsimp only
   refine ax (ih _ _ _ (by rw[List.length_eraseIdx,if_pos hi];simp at h ⊢;lia) fun ys d' py=>?_)
   refine aS ?_
   exact q _ d' ((py.cons _).trans (jV _ _ hi))
def qA(h:Heap)(I:Addr)(first:Value)(i:Nat)(a:Addr)(n ep:Nat):Prop :=
 h.get? I=some { cls:=.type "set_iterator",dict:=none,data:=.fields #[first,.int i 0,.ref a,.int n 0,.int ep 0],slots:=#[] }
def y4(h:Heap)(a:Addr)(es:Array (Int × Value))(ep:Nat)(t:SetTable):Prop:=∃ o,h.get? a=some o/\o.data=.set es ep t
variable {a I:Addr}{es:Array (Int × Value)}{ep:Nat}{t:SetTable}{first:Value}{i n:Nat}
theorem qA.typeIs (h:qA s.heap I first i a n ep):s.TypeIs (.ref I) "set_iterator" := ⟨_,h,rfl⟩
theorem yF(hit:qA s.heap I first i a n ep)
  (h:wpAny (model prog w) A.in1 (Builtin.«set_iterator.__next__» ⟨[.ref I],[]⟩) (fun fin s'=>∃ v,fin=.done (.ret v)/\Q (some v) s') (fun e s'=>wpAny (model prog w) A (isInstance e (.type "StopIteration")) (fun b BF=>b=true/\Q none BF) E s') s) :
  wpAny (model prog w) A (pyNext (.ref I)) Q E s:=by
 unfold pyNext
 refine ax (wpAny_attempt (wpAny_callSpecial?_slot (name:=Str.ofString "__next__") hit.typeIs b8
  (wpAny_call_entry b8 hit.typeIs nu ?_ (pG _))))
 refine pe h (fun fin s' ⟨v,e,q⟩=>⟨v,e,aS q⟩) fun e s' q=>?_
 refine ax (pe q (fun b BF df=>?_) fun _ _ x=>x)
 obtain⟨e,q⟩:=df
 subst e
 rw[if_pos rfl]
 exact aS q
theorem yE{P:Fin->Shared->Prop}{Q:Option Value->Shared->Prop}(hh:A.handled=none)(hQ:∀ h',(∀ b o,s.heap.get? b=some o->h'.get? b=some o)->Q none { s with heap:=h' }) :
  wpAny (model prog w) A.in1 (newExc (.type "StopIteration") [] >>= fun e=>raiseNew e) P (fun e s'=>wpAny (model prog w) A (isInstance e (.type "StopIteration")) (fun b BF=>b=true/\Q none BF) E s') s:=by
 refine ax ?_
 simp only[newExc,newTuple]
 refine ax (wpAny_newObj_type ?_ (by size_fits))
 refine ax (m:=firstArgMember _ _) (wpAny_of_eq (a:=Value.none) (by first|rfl|(simp only[firstArgMember];rfl)) ?_)
 refine wpAny_newObj_type ?_ (by size_fits)
 simp only[raiseNew]
 refine ax (wpAny_handled ?_)
 rw[show A.in1.handled=none from hh]
 refine ax (aS (wpAny_throw ?_))
 refine wpAny_isInstance (T := "StopIteration") (b:=true) ⟨_,kr _ rfl,rfl⟩ isSubtype_stop ⟨rfl,?_⟩
 exact hQ _ fun b o e=>fw _ (fw _ e)
theorem jw{Q:Option Value->Shared->Prop}{slot:Nat}{r:Option (Value × Nat)}(hh:A.handled=none)(kc:a≠I)(hit:qA s.heap I (.int slot 0) i a es.size ep)(ER:y4 s.heap a es ep t)(hf:t.fits es.size=true)
  (hr:∀ (A':Around) (E':Value->Shared->Prop) (Q':Option (Value × Nat)->Shared->Prop),Q' r s->wpAny (model prog w) A' (setNext a slot i ep) Q' E' s)
  (h1:∀ x nx h',r=some (x,nx)->qA h' I (.int nx 0) (i+1) a es.size ep->Heap.SameBut I s.heap h'->Q (some x) { s with heap:=h' })
  (h2:∀ h',r=none->(∀ b o,b≠I->s.heap.get? b=some o->h'.get? b=some o)->Q none { s with heap:=h' }) :
  wpAny (model prog w) A (pyNext (.ref I)) Q E s:=by
 obtain⟨o,ho,hd⟩:=ER
 refine yF hit ?_
 unfold Builtin.«set_iterator.__next__»
 refine ax (m:=slotArgs "__next__" 0 ⟨[.ref I],[]⟩) (wpAny_of_eq (a:=(.ref I,[])) rfl ?_)
 dsimp only
 refine ax (wpAny_fieldsOf hit rfl ?_)
 dsimp only
 refine ax (wpAny_setEntries_of ho hd hf ?_)
 rw[if_neg (by simp)]
 simp only[Kj]
 refine ax (hr _ _ _ ?_)
 cases r with
 |some p =>
  obtain⟨x,nx⟩:=p
  dsimp only
  refine ax (wpAny_setField_rec hit (by simp) fun g1 e1 sD=>?_)
  refine ax (wpAny_setField_rec (s:={ s with heap:=g1 }) e1 (by simp) fun g2 e2 Ct=>?_)
  exact aS ⟨x,rfl,h1 x nx g2 rfl (by unfold qA;simpa[rawInt] using e2) (sD.trans Ct)⟩
 |none =>
  dsimp only
  refine ax (wpAny_setField_rec hit (by simp) fun g1 e1 sD=>?_)
  exact yE (s:={ s with heap:=g1 }) hh fun h' k=>h2 h' rfl fun b o hb e=>k b o (sD.extBut b o hb e)
theorem oW{Q:Option Value->Shared->Prop}{T:Addr}{ix:List Nat}{oT:Obj}{kT:Nat}(hh:A.handled=none)(hit:qA s.heap I (.ref T) i a es.size ep)(ER:y4 s.heap a es ep t)(hf:t.fits es.size=true)
  (hT:s.heap.get? T=some oT) (hTd:oT.data=.seq (ix.map fun(k:Nat)=>Value.int k 0).toArray kT)
  (h1:∀ k e h',ix[i]? = some k->es[k]? = some e->qA h' I (.ref T) (i+1) a es.size ep->Heap.SameBut I s.heap h'->Q (some e.2) { s with heap:=h' }) (EA:∀ k∈ix,k<es.size)
  (h2:∀ h',ix[i]? = none->(∀ b o,b≠I->s.heap.get? b=some o->h'.get? b=some o)->Q none { s with heap:=h' }) :
  wpAny (model prog w) A (pyNext (.ref I)) Q E s:=by
 obtain⟨o,ho,hd⟩:=ER
 refine yF hit ?_
 unfold Builtin.«set_iterator.__next__»
 refine ax (m:=slotArgs "__next__" 0 ⟨[.ref I],[]⟩) (wpAny_of_eq (a:=(.ref I,[])) rfl ?_)
 dsimp only
 refine ax (wpAny_fieldsOf hit rfl ?_)
 dsimp only
 refine ax (wpAny_setEntries_of ho hd hf ?_)
 rw[if_neg (by simp)]
 refine ax (wpAny_seqItems hT hTd ?_)
 dsimp only
 simp only[Kj,List.getElem?_toArray,ot]
 cases hk:ix[i]? with
 |some k =>
  dsimp only[Option.map]
  have HM:=EA k (sL hk)
  refine ax ?_
  unfold setNextDrawn
  refine ax (wpAny_setState_of ho hd hf ?_)
  dsimp only
  simp only[Kj]
  rw[if_neg (by simp),xA HM]
  refine aS ?_
  refine ax (wpAny_setField_rec hit (by simp) fun g1 e1 sD=>?_)
  exact aS ⟨_,rfl,h1 k es[k] g1 hk (xA HM) (by unfold qA;simpa[rawInt] using e1) sD⟩
 |none =>
  dsimp only[Option.map]
  refine ax (wpAny_setField_rec hit (by simp) fun g1 e1 sD=>?_)
  refine ax (wpAny_setField_rec (s:={ s with heap:=g1 }) e1 (by simp) fun g2 e2 Ct=>?_)
  exact yE (s:={ s with heap:=g2 }) hh fun h' k=>h2 h' hk fun b o hb e=>k b o ((sD.trans Ct).extBut b o hb e)
theorem qd (a:Value):argsOk "set_iterator.__iter__" ⟨[a],[]⟩:=by
 unfold argsOk;rw[signature?_of (id := "set_iterator.__iter__") (n:=['_','_','r','e','t','i','_','_']) (o:=['r','o','t','a','r','e','t','i','_','t','e','s']) (by kernel_rfl) qP];kernel_rfl
theorem nH:entryFor table "set_iterator.__iter__" = some Builtin.«dict_keyiterator.__iter__» :=
 entryFor_alias (id' := "dict_keyiterator.__iter__") (by kernel_rfl) rfl (by decide +kernel) (by kernel_rfl)
theorem lO(hit:qA s.heap I first i a n ep)(h:Q (.ref I) s):wpAny (model prog w) A (pyIter (.ref I)) Q E s:=by
 refine wpAny_pyIter_slot hit.typeIs jo (wpAny_call_entry jo hit.typeIs nH ?_ (qd _))
 show wpAny _ _ (ret (.ref I)) _ _ s
 exact aS ⟨_,rfl, "set_iterator",_,hit.typeIs,b8.lookup,h⟩
theorem qO {slot:Nat} {Q:Option (Value × Nat)->Shared->Prop} (hb:w.params.followText "set-order" = true) (ER:y4 s.heap a es ep t) (hf:t.fits es.size=true)
  (h:Q (((pickOrder (w.params.setOrder a ep) es)[i]?).map fun e=>(e.2,slot)) s):wpAny (model prog w) A (setNext a slot i ep) Q E s:=by
 obtain⟨o,ho,hd⟩:=ER
 unfold setNext
 refine ax (wpAny_setState_of ho hd hf ?_)
 dsimp only
 unfold setsByText
 refine ax (ax (wpAny_askSetting (aS ?_)))
 dsimp only
 rw[if_pos (by exact hb),if_neg (by simp)]
 refine ax ?_
 unfold setWalk
 refine ax (wpAny_setState_of ho hd hf ?_)
 dsimp only
 unfold setsByText
 refine ax (ax (wpAny_askSetting (aS ?_)))
 dsimp only
 rw[if_pos (by exact hb)]
 refine ax (wpAny_askSetting (aS ?_))
 exact aS h
theorem oR {slot:Nat} {Q:Option (Value × Nat)->Shared->Prop} (hb:w.params.followText "set-order" = false) (hl:t.led=true) (HP:(!t.plain && decide (es.size>1))=false) (ER:y4 s.heap a es ep t) (hf:t.fits es.size=true)
  (h:Q (match es[below t.place slot]?,t.place[below t.place slot]? with
  |some (_,x),some j=>some (x,j+1)
  |_,_=>none) s):wpAny (model prog w) A (setNext a slot i ep) Q E s:=by
 obtain⟨o,ho,hd⟩:=ER
 unfold setNext
 refine ax (wpAny_setState_of ho hd hf ?_)
 dsimp only
 unfold setsByText
 refine ax (ax (wpAny_askSetting (aS ?_)))
 dsimp only
 rw[if_neg (by rw[show(model prog w).w.params.followText "set-order" = false from hb];exact iS)]
 have e0:qi es t=(!t.plain && decide (es.size>1)):=rfl
 unfold qi at e0
 rw[e0,HP,if_neg iS]
 refine ax (m:=JR es t) ?_
 show wpAny _ _ (if (!t.led && !es.isEmpty)=true then unsupported "set:maker-not-led" else pure ()) _ _ s
 rw[if_neg (by rw[hl];simp)]
 exact aS (aS h)
def PV(ys:List (Int × Value))(i:Nat)(v:Value):Prop:=∃ e,ys[i]? = some e/\v=e.2
theorem qA.keep(x:qA h I first i a n ep)(e:∀ o,h.get? I=some o->h'.get? I=some o):qA h' I first i a n ep:=e _ x
theorem y4.keep(x:y4 h a es ep t)(e:∀ o,h.get? a=some o->h'.get? a=some o):y4 h' a es ep t:=let ⟨o,ho,r⟩:=x;⟨o,e _ ho,r⟩
theorem z_ (hh:A.handled=none) (kc:a≠I) (hb:w.params.followText "set-order" = true) (hf:t.fits es.size=true) :
  Walks prog w A I [I,a] [I] es.size (PV (pickOrder (w.params.setOrder a ep) es).toList) (fun i h=>(∃ slot:Nat,qA h I (.int slot 0) i a es.size ep)/\y4 h a es ep t) where
 sub:=fun b hb=>by simp at hb;simp[hb]
 frame:=fun _ _ _ ⟨⟨sl,x⟩,y⟩ hk=>⟨⟨sl,x.keep fun o e=>hk I (by simp) o e⟩,y.keep fun o e=>hk a (by simp) o e⟩
 item:=fun i s Q E hi ⟨⟨sl,x⟩,y⟩ hQ=>by
  have hlen:(pickOrder (w.params.setOrder a ep) es).size=es.size:=by
   have:=(m9 (w.params.setOrder a ep) es).length_eq
   simpa using this
  refine jw hh kc x y hf (r:=((pickOrder (w.params.setOrder a ep) es)[i]?).map fun e=>(e.2,sl)) (fun A' E' Q' q=>qO hb y hf q) (fun v nx h' e x' sb=>?_) fun h' e k=>?_
  ·rw[xA (by lia)] at e
   cases e
   exact hQ _ h' s.toks ⟨_,by rw[mS];exact xA (by lia),rfl⟩ ⟨⟨_,x'⟩,y.keep fun o e=>sb.extBut _ _ kc e⟩ fun b o hb e=>sb.extBut b o (fun h=>hb (by simp[h])) e
  ·rw[xA (by lia)] at e
   cases e
 done:=fun s Q E ⟨⟨sl,x⟩,y⟩ hQ=>by
  have hlen:(pickOrder (w.params.setOrder a ep) es).size=es.size:=by
   have:=(m9 (w.params.setOrder a ep) es).length_eq
   simpa using this
  refine jw hh kc x y hf (r:=((pickOrder (w.params.setOrder a ep) es)[es.size]?).map fun e=>(e.2,sl)) (fun A' E' Q' q=>qO hb y hf q) (fun v nx h' e x' sb=>?_) fun h' e k=>?_
  ·rw[FG (by lia)] at e
   cases e
  ·exact hQ h' s.toks fun b o hb e=>k b o (fun h=>hb (by simp[h])) e
 self:=fun _ _ _ _ ⟨⟨sl,x⟩,y⟩ hQ=>lO x hQ
def slotAt(t:SetTable):Nat->Nat
 |0=>0
 |i+1=>t.place.getD i 0+1
theorem kZ(U:Up t.place)(h:i<=t.place.size):below t.place (slotAt t i)=i:=by
 cases i with
 |zero =>
  obtain⟨_,b,_⟩:=bj U 0
  by_cases z:below t.place 0=0
  ·exact z
  ·exact absurd (b 0 (Nat.pos_of_ne_zero z)) (Dx _)
 |succ i=>exact wZ U (by lia)
theorem wX (hh:A.handled=none) (kc:a≠I) (hb:w.params.followText "set-order" = false) (hl:t.led=true) (HP:(!t.plain && decide (es.size>1))=false) (U:Up t.place) (hz:t.place.size=es.size) (hf:t.fits es.size=true) :
  Walks prog w A I [I,a] [I] es.size (PV es.toList) (fun i h=>qA h I (.int (slotAt t i:Nat) 0) i a es.size ep/\y4 h a es ep t) where
 sub:=fun b hb=>by simp at hb;simp[hb]
 frame:=fun _ _ _ ⟨x,y⟩ hk=>⟨x.keep fun o e=>hk I (by simp) o e,y.keep fun o e=>hk a (by simp) o e⟩
 item:=fun i s Q E hi ⟨x,y⟩ hQ=>by
  have Cb:=kZ (t:=t) U (i:=i) (by lia)
  have e1:es[below t.place (slotAt t i)]? = some es[i]:=by rw[Cb];exact xA hi
  have e2:t.place[below t.place (slotAt t i)]? = some (t.place.getD i 0):=by rw[Cb];exact zm (by lia)
  refine jw hh kc x y hf (r:=some (es[i].2,t.place.getD i 0+1)) (fun A' E' Q' q=>oR hb hl HP y hf (by rw[e1,e2];exact q)) (fun v nx h' e x' sb=>?_) fun h' e k=>nomatch e
  cases e
  exact hQ _ h' s.toks ⟨_,by rw[mS];exact xA hi,rfl⟩ ⟨x',y.keep fun o e=>sb.extBut _ _ kc e⟩ fun b o hb e=>sb.extBut b o (fun h=>hb (by simp[h])) e
 done:=fun s Q E ⟨x,y⟩ hQ=>by
  have Cb:=kZ (t:=t) U (i:=es.size) (by lia)
  have e1:es[below t.place (slotAt t es.size)]? = none:=by rw[Cb];exact FG (cq _)
  refine jw hh kc x y hf (r:=none) (fun A' E' Q' q=>oR hb hl HP y hf (by rw[e1];exact q)) (fun v nx h' e x' sb=>nomatch e) fun h' e k=>?_
  exact hQ h' s.toks fun b o hb e=>k b o (fun h=>hb (by simp[h])) e
 self:=fun _ _ _ _ ⟨x,y⟩ hQ=>lO x hQ
theorem xf{T:Addr}{ix:List Nat}{kT:Nat}(hh:A.handled=none)(kc:a≠I)(hTI:T≠I)(hf:t.fits es.size=true)(hp:ix.Perm (List.range es.size)) :
  Walks prog w A I [I,a,T] [I] es.size (PV (ix.filterMap fun k=>es[k]?)) (fun i h=>qA h I (.ref T) i a es.size ep/\y4 h a es ep t/\∃ o,h.get? T=some o/\o.data=.seq (ix.map fun(k:Nat)=>Value.int k 0).toArray kT):=by
 have hlen:ix.length=es.size:=by simpa using hp.length_eq
 have EA:∀ k∈ix,k<es.size:=fun k hk=>px.mp (hp.mem_iff.mp hk)
 obtain⟨f1,f2⟩:=vo (l:=ix) (f:=fun k=>es[k]?) fun k hk=>by simp[EA k hk]
 exact {
  sub:=fun b hb=>by simp at hb;simp[hb]
  frame:=fun _ _ _ ⟨x,y,o,z,zd⟩ hk=>⟨x.keep fun o e=>hk I (by simp) o e,y.keep fun o e=>hk a (by simp) o e,o,hk T (by simp) o z,zd⟩
  item:=fun i s Q E hi ⟨x,y,o,z,zd⟩ hQ=>by
   refine oW hh x y hf z zd (fun k e h' e1 e2 x' sb=>?_) EA fun h' e k=>?_
   ·refine hQ _ h' s.toks ⟨e,by rw[f2,e1];exact e2,rfl⟩ ⟨x',y.keep fun o e=>sb.extBut _ _ kc e,o,sb.extBut _ _ hTI z,zd⟩ fun b o hb e=>sb.extBut b o (fun h=>hb (by simp[h])) e
   ·rw[zo (by lia)] at e;cases e
  done:=fun s Q E ⟨x,y,o,z,zd⟩ hQ=>by
   refine oW hh x y hf z zd (fun k e h' e1 e2 x' sb=>?_) EA fun h' e k=>?_
   ·rw[A5 (by lia)] at e1;cases e1
   ·exact hQ h' s.toks fun b o hb e=>k b o (fun h=>hb (by simp[h])) e
  self:=fun _ _ _ _ ⟨x,_⟩ hQ=>lO x hQ }
end
section
variable {prog:Program}{w:World}{A:Around}{E:Value->Shared->Prop}{s:Shared}{a:Addr}{o:Obj}{es:Array (Int × Value)}{ep:Nat}{t:SetTable}
theorem Bx (hh:A.handled=none) (ho:s.heap.get? a=some o) (hex:o.ExactSet) (hd:o.data=.set es ep t) (hf:t.fits es.size=true) (U:Up t.place) (hz:t.place.size=es.size) (hl:t.led=(!w.params.followText "set-order")) (hn:es.size<=sizeLine)
  (h:∀ (I:Addr) (h2:Heap) d (fp:List Addr) (St:Nat->Heap->Prop) (ys:List (Int × Value)),(∀ b o,s.heap.get? b=some o->h2.get? b=some o)->s.heap.objs.size<=I->(∀ b∈fp,b=a\/s.heap.objs.size<=b)->ys.Perm es.toList ->
   Walks prog w A I fp [I] es.size (PV ys) St->St 0 h2->Q (.ref I) { s with heap:=h2,drawn:=d }):wpAny (model prog w) A (pyIter (.ref a)) Q E s:=by
 have hT:s.TypeIs (.ref a) "set" := ⟨o,ho,hex.1⟩
 have fR:a<s.heap.objs.size:=dP ho
 refine wpAny_pyIter_slot hT F.slot_set_iter (wpAny_call_entry F.slot_set_iter hT n_ ?_ (F.args_set_iter_1 _))
 unfold Builtin.«frozenset.__iter__»
 refine ax (m:=Builtin.Frozenset.slot0 "__iter__" ⟨[.ref a],[]⟩) (wpAny_of_eq (a:=a) rfl ?_)
 refine ax ?_
 unfold Builtin.Frozenset.sizeOf
 refine ax (wpAny_setEntries_of ho hd hf (aS ?_))
 refine ax ?_
 unfold setDrawn
 refine ax (wpAny_setState_of ho hd hf ?_)
 dsimp only
 unfold setsByText
 refine ax (ax (wpAny_askSetting (aS ?_)))
 refine aS ?_
 have e0:qi es t=(!t.plain && decide (es.size>1)):=rfl
 unfold qi at e0
 rw[e0]
 show wpAny _ _ (if (!w.params.followText "set-order" && (!t.plain && decide (es.size>1)))=true then _ else _) _ _ s
 cases hb:w.params.followText "set-order" with
 |true =>
  rw[if_neg (by simp)]
  refine ax (aS ?_)
  refine ax (wpAny_setEpoch_of ho hd hf ?_)
  refine ax (wpAny_newObj_type ?_)
  refine aS ⟨_,rfl, "set_iterator",_,⟨_,kr _ rfl,rfl⟩,b8.lookup,?_⟩
  have lT:(s.heap.push { cls:=.type "set_iterator",data:=.fields #[rawInt 0,rawInt 0,.ref a,rawInt es.size,rawInt ep] }).get? a=some o:=fw _ ho
  exact h s.heap.objs.size _ s.drawn _ _ _ (fun b o e=>fw _ e) (cq _) (fun b hb=>by
   rcases dv.mp hb with rfl|hb
   ·exact .inr (cq _)
   ·exact .inl (n4.mp hb)) (m9 _ _) (z_ (ep:=ep) hh (gi fR) hb hf) ⟨⟨0,kr _ rfl⟩,o,lT,hd⟩
 |false =>
  cases HP:(!t.plain && decide (es.size>1)) with
  |false =>
   rw[if_neg (by simp)]
   refine ax (aS ?_)
   refine ax (wpAny_setEpoch_of ho hd hf ?_)
   refine ax (wpAny_newObj_type ?_)
   refine aS ⟨_,rfl, "set_iterator",_,⟨_,kr _ rfl,rfl⟩,b8.lookup,?_⟩
   have lT:(s.heap.push { cls:=.type "set_iterator",data:=.fields #[rawInt 0,rawInt 0,.ref a,rawInt es.size,rawInt ep] }).get? a=some o:=fw _ ho
   exact h s.heap.objs.size _ s.drawn _ _ _ (fun b o e=>fw _ e) (cq _) (fun b hb=>by
    rcases dv.mp hb with rfl|hb
    ·exact .inr (cq _)
    ·exact .inl (n4.mp hb)) (.refl _) (wX (ep:=ep) hh (gi fR) hb (by rw[hl,hb];rfl) HP U hz hf) ⟨kr _ rfl,o,lT,hd⟩
  |true =>
   rw[if_pos (by simp)]
   refine ax (Ey es.size (List.range es.size) s _ (by simp) fun ix d hp=>?_)
   refine ax (wpAny_newObj_type ?_ ?hzz)
   case hzz =>
    have:=hp.length_eq
    rw[E9] at this
    show(ix.map fun(i:Nat)=>rawInt i).toArray.size<=sizeLine
    rw[iq,bP,this];exact hn
   have sq:(s.heap.push { cls:=.type "tuple",data:=.seq (ix.map fun(i:Nat)=>rawInt i).toArray }).get? a=some o:=fw _ ho
   refine ax (wpAny_setEpoch_of sq hd hf ?_)
   refine ax (wpAny_newObj_type ?_)
   refine aS ⟨_,rfl, "set_iterator",_,⟨_,kr _ rfl,rfl⟩,b8.lookup,?_⟩
   have Q6:(s.heap.push { cls:=.type "tuple",data:=.seq (ix.map fun(i:Nat)=>rawInt i).toArray }).objs.size=s.heap.objs.size+1:=Heap.size_push ..
   refine h (s.heap.push { cls:=.type "tuple",data:=.seq (ix.map fun(i:Nat)=>rawInt i).toArray }).objs.size _ d [(s.heap.push { cls:=.type "tuple",data:=.seq (ix.map fun(i:Nat)=>rawInt i).toArray }).objs.size,a,s.heap.objs.size] _ (ix.filterMap fun k=>es[k]?) (fun b o e=>fw _ (fw _ e)) (by rw[Q6];exact Nat.le_succ _) (fun b hb=>?_) ?_
    (xf (ep:=ep) (kT:=0) (T:=s.heap.objs.size) (ix:=ix) (t:=t) hh (by rw[Q6];exact gi (xv fR)) (by rw[Q6];exact gi (Nat.lt_succ_self _)) hf hp) ⟨kr _ rfl,⟨o,fw _ sq,hd⟩,_,fw _ (kr _ rfl),rfl⟩
   ·rcases dv.mp hb with rfl|hb
    ·exact .inr (by rw[Q6];exact Nat.le_succ _)
    ·rcases dv.mp hb with rfl|hb
     ·exact .inl rfl
     ·rw[n4.mp hb];exact .inr (cq _)
   ·have:=hp.filterMap fun k=>es[k]?
    rw[vL] at this
    exact this
theorem Ae (hT:s.TypeIs (.ref a) "set") (h:Q false s):wpAny (model prog w) A (Builtin.List.listLengthHint (.ref a)) Q E s:=by
 unfold Builtin.List.listLengthHint
 refine ax (wpAny_specialOf hT PySem.F.slot_set_len.lookup ?_)
 generalize iL:("set.__len__" : String)=id0
 wp_delta
 rw[show splitId id0=some ("set", "__len__") from by subst iL;decide +kernel]
 subst iL
 refine ax (wpAny_isInstance (T := "set") (b:=true) hT (by rw[isSubtype_type];kernel_rfl) ?_)
 refine wpAny_ite_split (fun y2=>absurd y2 (by decide)) (fun _=>?_)
 refine wpAny_ite_split (fun _=>?_) (fun y2=>absurd (by decide +kernel) y2)
 refine ax (wpAny_typeOf hT ?_)
 exact aS h
theorem El {R:Result->Shared->Prop} (hh:A.handled=none) (ho:s.heap.get? a=some o) (hex:o.ExactSet) (hd:o.data=.set es ep t) (hf:t.fits es.size=true) (U:Up t.place) (hz:t.place.size=es.size) (hl:t.led=(!w.params.followText "set-order")) (hn:es.size<=sizeLine)
  (S:Addr) (Y5:S≠a) (res:Value) (c₀:Nat) (hS:s.heap.get? S=some { cls:=.type "list",data:=.seq #[] c₀ })
  (hR:∀ h' tk d AX c' ys,(∀ b o,b≠S->s.heap.get? b=some o->h'.get? b=some o)->h'.get? S=some { cls:=.type "list",dict:=none,data:=.seq AX c',slots:=#[] }->ys.Perm es.toList->ItemsOf (PV ys) AX es.size->R (.ok (.ret res)) { s with heap:=h',toks:=tk,drawn:=d }) :
  wpAny (model prog w) A.in1 (Builtin.List.listExtendWith (.ref S) (.ref a) res)
   (fun fin s'=>match fin with|.done f=>R (.ok f) s'|.again c'=>c'.quiet=true/\codeAny (model prog w) A c' R s') (fun e s'=>R (.error e) s') s:=by
 have hT:s.TypeIs (.ref a) "set" := ⟨o,ho,hex.1⟩
 have hSl:=dP hS
 unfold Builtin.List.listExtendWith
 refine ax (wpAny_typeOf hT ?_)
 have h1:Builtin.List.listSameRef (.ref S) (.ref a)=false:=by simp[Builtin.List.listSameRef,Y5]
 simp only[h1,show(Value.type "set" == Value.type "list")=false by decide,show(Value.type "set" == Value.type "tuple")=false by decide,Bool.or_false,gy,if_false]
 refine ax (Bx (A:=A.in1) hh ho hex hd hf U hz hl hn fun I h2 d fp St ys kp hI hfp hp W st=>?_)
 have EL:S∉fp:=fun hm=>by
  rcases hfp S hm with z|z
  ·exact Y5 z
  ·exact absurd hSl (Nat.not_lt.mpr z)
 have key:∀ (h:Heap) (c₁ tk:Nat),St 0 h->(∀ b o,b≠S->s.heap.get? b=some o->h.get? b=some o) ->
   h.get? S=some { cls:=.type "list",data:=.seq #[] c₁ }->codeAny (model prog w) A (.builtin "list.extend.loop" ⟨[.ref S,.ref I,res],[]⟩) R { s with heap:=h,toks:=tk,drawn:=d }:=by
  intro h c₁ tk md hk NV
  refine codeAny_extend_loopS W.toS hn S EL res es.size 0 _ #[] c₁ rfl (eu _) md NV (ItemsOf.nil _) fun s' AX c' hm NS L7=>?_
  rw[Moved.eq_with hm]
  refine hR s'.heap s'.toks d AX c' ys (fun b o hb e=>hm.heap b o (fun MB=>?_) (hk b o hb e)) NS hp L7
  rcases dv.mp MB with e'|MB
  ·exact hb e'
  ·exact absurd (dP e) (by rw[n4.mp MB];exact Nat.not_lt.mpr hI)
 have NV:h2.get? S=some { cls:=.type "list",data:=.seq #[] c₀ }:=kp _ _ hS
 refine ax (wpAny_holding (Ae (s:={ s with heap:=h2,drawn:=d }) ⟨o,kp _ _ ho,hex.1⟩ ?_))
 refine wpAny_ite_split (fun _=>?_) (fun _=>aS ⟨plainId_quiet PySem.F.plain_extend_loop _,key _ c₀ _ st (fun b o _ e=>kp b o e) NV⟩)
 refine ax (wpAny_rule ?_)
 refine ax ?_
 show wpAny _ _ (updateSeq S (·.push .none) >>= fun _=>updateSeq S (·.pop)) _ _ _
 refine ax (wpAny_updateSeq NV rfl ?_)
 have Y6:=DC (Obj.mapSeq (·.push Value.none)) NV rfl
 refine wpAny_updateSeq (hz:=by seq_fits) Y6 rfl ?_
 have fy':=DC (Obj.mapSeq (·.pop)) Y6 rfl
 refine aS ⟨plainId_quiet PySem.F.plain_extend_loop _,key _ _ _ ?_ (fun b o hb e=>?_) fy'⟩
 ·refine W.frame 0 _ _ st fun b hb o e=>?_
  have NR:b≠S:=fun h=>EL (h ▸ hb)
  exact(Kb _ _ (Ne.symm NR)).trans ((Kb _ _ (Ne.symm NR)).trans e)
 ·exact(Kb _ _ (Ne.symm hb)).trans ((Kb _ _ (Ne.symm hb)).trans (kp _ _ e))
theorem wR(h:ItemsOf (PV ys) acc n)(hn:ys.length=n):acc.toList=ys.map (·.2):=by
 apply IL
 intro i
 rw[ot]
 by_cases hi:i<n
 ·have kU:i<acc.size:=by rw[h.1];exact hi
  have e1:acc[i]? = some acc[i]:=xA kU
  obtain⟨e,he,hv⟩:=h.2 i acc[i] e1
  rw[mS,e1,he,hv];rfl
 ·rw[A5 (by rw[ua,h.1];lia),A5 (by lia)];rfl
theorem lB {R:Result->Shared->Prop} (hh:A.handled=none) (ho:s.heap.get? a=some o) (hex:o.ExactSet) (hd:o.data=.set es ep t) (hf:t.fits es.size=true) (U:Up t.place) (hz:t.place.size=es.size) (hl:t.led=(!w.params.followText "set-order")) (hn:es.size<=sizeLine)
  (hR:∀ h' tk d AX c' ys,(∀ b o,s.heap.get? b=some o->h'.get? b=some o)->h'.get? s.heap.objs.size=some { cls:=.type "list",dict:=none,data:=.seq AX c',slots:=#[] }->ys.Perm es.toList->ItemsOf (PV ys) AX es.size->R (.ok (.ret (.ref s.heap.objs.size))) { s with heap:=h',toks:=tk,drawn:=d }) :
  codeAny (model prog w) A (.builtin "proto.collect" ⟨[.ref a],[]⟩) R s:=by
 have fR:a<s.heap.objs.size:=dP ho
 have hS:(s.heap.push { cls:=.type "list",data:=.seq ([]:List Value).toArray }).get? s.heap.objs.size=some { cls:=.type "list",data:=.seq ([]:List Value).toArray }:=kr _ rfl
 refine codeAny_builtin F.entry_proto_collect ?_
 rw[Around.under_plainId F.plain_proto_collect _]
 show wpAny _ A.in1 (newList [] >>= fun l=>again (.builtin "list.__iadd__" ⟨[l,.ref a],[]⟩)) _ _ s
 refine ax (wpAny_newObj_type ?_)
 refine aS ⟨plainId_quiet F.plain_list_iadd _,codeAny_builtin F.entry_list_iadd ?_⟩
 rw[Around.under_plainId F.plain_list_iadd _]
 show wpAny _ A.in1 (Builtin.List.listExtendWith (.ref s.heap.objs.size) (.ref a) (.ref s.heap.objs.size)) _ _ _
 exact El (R:=R) (s:={ s with heap:=s.heap.push { cls:=.type "list",data:=.seq ([]:List Value).toArray } }) hh (fw _ ho) hex hd hf U hz hl hn s.heap.objs.size (Nat.ne_of_gt fR) _ 0 hS fun h' tk d AX c' ys kp eo hp ia =>
  hR h' tk d AX c' ys (fun b o e=>kp b o (gi (dP e)) (fw _ e)) eo hp ia
theorem iY (hh:A.handled=none) (ho:s.heap.get? a=some o) (hex:o.ExactSet) (hd:o.data=.set es ep t) (hf:t.fits es.size=true) (U:Up t.place) (hz:t.place.size=es.size) (hl:t.led=(!w.params.followText "set-order")) (hn:es.size<=sizeLine)
  (hQ:∀ h' tk d vs,(∀ b o,s.heap.get? b=some o->h'.get? b=some o)->s.heap.objs.size<=h'.objs.size->vs.Perm (es.toList.map (·.2))->Q vs { s with heap:=h',toks:=tk,drawn:=d }):wpAny (model prog w) A (collect (.ref a)) Q E s:=by
 unfold collect
 refine ax (wpAny_runValue (lB hh ho hex hd hf U hz hl hn fun h' tk d acc c ys kp eo hp ia=>?_))
 show wpAny _ A (load s.heap.objs.size >>= _) _ _ { s with heap:=h',toks:=tk,drawn:=d }
 refine ax (wpAny_load eo ?_)
 refine aS (hQ h' tk d _ kp (kR (dP eo)) ?_)
 rw[wR ia (by rw[hp.length_eq];simp)]
 exact hp.map _
end
end TS
namespace yn
open PySem PyProof.Rows
section
variable {prog:Program}{w:World}{A:Around}{E:Value->Shared->Prop}{s:Shared}{κ:SortKind}{r:Value->Int}{P:Value->Prop}
theorem iT{R:List Value->Prop}
  (fz':∀ (A':Around) (E':Value->Shared->Prop) (Q':List Value->Shared->Prop),A'.handled=A.handled->(∀ vs h1 tk d,R vs->(∀ b o,s.heap.get? b=some o->h1.get? b=some o)->s.heap.objs.size<=h1.objs.size->Q' vs { s with heap:=h1,toks:=tk,drawn:=d })->wpAny (model prog w) A' (collect v) Q' E' s)
  (hsz:∀ vs,R vs->vs.length<=sizeLine) (hP:∀ vs,R vs->∀ v∈vs,P v)
  (hk:∀ vs,R vs->2<=vs.length->∀ (A':Around) (E':Value->Shared->Prop) (s':Shared),(∀ b o,s.heap.get? b=some o->s'.heap.get? b=some o)->∀ (Q:SortKind->Shared->Prop),Q κ s'->wpAny (model prog w) A' (keyKind' vs.toArray) Q E' s')
  (C:∀ (s':Shared),(∀ b o,s.heap.get? b=some o->s'.heap.get? b=some o)->nv prog w A.in1.in1 s' κ r P)
  (h:∀ (vs:List Value) (h':Heap) (a:Addr) (out:List Value) (n tk:Nat) d,R vs->out.Perm vs->(out.Pairwise fun x y=>r x<=r y)->(∀ b o,s.heap.get? b=some o->h'.get? b=some o)->s.heap.objs.size<=a->h'.get? a=some (seqObj "list" out.toArray n)->Q (.ref a) { s with heap:=h',toks:=tk,drawn:=d }) :
  wpAny (model prog w) A (call (.builtin "sorted") [v]) Q E s:=by
 refine Calls.call_function_entry kind_sorted plain_sorted entry_sorted (args_sorted1 _) ?_
 unfold Builtin.«sorted»
 refine ax (m:=checkCount "sorted" 1 1 _) (aS ?_)
 refine ax (fz' _ _ _ rfl fun vs h1 tk d hR kp hz=>?_)
 have y3:=hsz vs hR
 refine ax (wpAny_newList ?_ (by simpa using y3))
 have KW:(h1.push (seqObj "list" vs.toArray 0)).get? h1.objs.size=some (seqObj "list" vs.toArray 0):=kr _ rfl
 have old:∀ b o,s.heap.get? b=some o->(gq (h1.push (seqObj "list" vs.toArray 0)) h1.objs.size vs).get? b=some o:=fun b o e=>by
  have fR:b<h1.objs.size:=dP (kp b o e)
  rw[uq (gi fR) (by rw[size_push'];exact xv fR)]
  exact fw _ (kp b o e)
 show wpAny _ _ _ _ _ { s with heap:=h1.push (seqObj "list" vs.toArray 0),toks:=tk,drawn:=d }
 refine ax (wpAny_holding (wpAny_call_entry slot_list_sort ⟨_,KW,rfl⟩ entry_list_sort (q_ (r:=r) (s:={ s with heap:=h1.push (seqObj "list" vs.toArray 0),toks:=tk,drawn:=d }) KW y3 (hP vs hR)
  (fun h2=>hk vs hR h2 _ _ _ old) (fun h2=>C _ old) fun out a1 a2=>⟨_,rfl,?_⟩) (args_list_sort _)))
 obtain⟨n,e⟩:=sortedHeap_at (out:=out) KW
 refine aS ⟨_,rfl,h vs _ h1.objs.size out.toList n tk d hR a1 a2 (fun b o e=>?_) hz (by rw[Array.toArray_toList];exact e)⟩
 have fR:b<h1.objs.size:=dP (kp b o e)
 rw[sortedHeap_old (gi fR) (by rw[size_push'];exact xv fR)]
 exact fw _ (kp b o e)
end
end yn
namespace TS
open PySem PySem.SetTable PyProof.Rows
section
variable {prog:Program}{w:World}{K:Type}[DecidableEq K]{knd:KeyKind prog w K}{A:Around}{E:Value->Shared->Prop}{s:Shared}
theorem pR{α:Type}(led:Bool):TI (α:=α) (SetTable.fresh 0 0 led) #[] :=
 ⟨⟨3,rfl,cq _⟩,rfl,fun i j h hj=>absurd hj (Dx _),fun i hi=>absurd hi (Dx _),rfl,(by show 0*5<7*3;decide),fun i h x e=>by simp at e⟩
theorem rB{l:Addr}{items:Array Value}{xs:List (List K × Addr)}{Q:Value->Shared->Prop}(hh:A.handled=none)(hu:A.units+8<cLine)(hl:s.heap.IsList l items)(hi:items.toList=xs.map fun p=>Value.ref p.2)
  (oo:∀ p∈xs,IsTupleKey knd s.heap p.1 p.2) (hz:xs.length<=1000) (oC:∀ k v,knd.is k v=true->v.scannable=true)
  (h:∀ h' tk ks,vt knd h' s.heap.objs.size ks->(∀ k,k∈ks.map (·.1)↔k∈xs.map (·.1))->(∀ p∈ks,p∈xs)->(∀ b o,s.heap.get? b=some o->h'.get? b=some o)->Q (.ref s.heap.objs.size) { s with heap:=h',toks:=tk }) :
  wpAny (model prog w) A (call (.type "set") [.ref l]) Q E s:=by
 have lt:∀ p∈xs,p.2<s.heap.objs.size:=fun p hp=>by
  obtain⟨o,_,_,ho,_⟩:=oo p hp
  exact dP ho
 refine iy hh hl (fun i h=>∃ ks,vt knd h s.heap.objs.size ks/\(∀ k,k∈ks.map (·.1)↔k∈(xs.take i).map (·.1))/\(∀ p∈ks,p∈xs)/\ks.length<=i/\∀ p∈xs,IsTupleKey knd h p.1 p.2) (fun h e k=>?_) (fun i h h' ⟨ks,S,m1,m2,m3,m4⟩ k=>?_) (fun i v s' E' Q' hv ⟨ks,S,m1,m2,m3,m4⟩ q=>?_) fun h' tk ⟨ks,S,m1,m2,m3,m4⟩ k=>?_
 ·exact⟨[],⟨⟨_,#[],0,_,e,⟨rfl,rfl,rfl⟩,rfl,pR _,(by show 7<=8191;decide),rfl,rfl⟩,mP,fun p hp=>nomatch hp⟩,fun k=>by simp,(fun p hp=>nomatch hp),cq _,fun p hp=>IsTupleKey.fi (oo p hp) fun o ho=>k _ _ ho⟩
 ·obtain⟨⟨o,es,ep,t,ho,r⟩,nd,is⟩:=S
  exact⟨ks,⟨⟨o,es,ep,t,k _ _ (cq _) ho,r⟩,nd,fun p hp=>IsTupleKey.fi (is p hp) fun o ho=>k _ _ (kR (lt p (m2 p hp))) ho⟩,m1,m2,m3,fun p hp=>IsTupleKey.fi (m4 p hp) fun o ho=>k _ _ (kR (lt p hp)) ho⟩
 ·have mz:items.toList[i]? = some v:=by rw[mS];exact hv
  rw[hi,ot] at mz
  cases ex:xs[i]? with
  |none=>rw[ex] at mz;cases mz
  |some p =>
   rw[ex] at mz
   cases mz
   have hp:=sL ex
   have T2:i<xs.length:=(mI.mp ex).1
   have NW:(xs.take (i+1)).map (·.1)=(xs.take i).map (·.1)++[p.1]:=by
    rw[xt,ex,mM];rfl
   unfold setAdd
   refine wpAny_holding (ax (wpAny_pyHash_tuple (by show A.units+3<cLine;lia) (m4 p hp) ?_))
   refine Cz (s:={ s' with toks:=s'.toks+(p.1.length+1) }) S (m4 p hp) (by lia) (by show A.units+3<cLine;lia) oC fun b h' da sb S' c=>?_
   refine q b h' _ sb ⟨da,S',fun k=>?_,fun p' fm=>?_,?_,fun p' fm=>IsTupleKey.fi (m4 p' fm) fun o ho=>sb.extBut _ _ (gi (lt p' fm)) ho⟩
   ·rw[NW,dA,n4,<- m1]
    rcases c with⟨c1,rfl⟩|⟨c1,c2⟩
    ·exact⟨.inl,fun z=>z.elim id fun e=>e ▸ c1⟩
    ·rw[(c2.map _).mem_iff,fP,dv]
     exact⟨fun z=>z.symm,fun z=>z.symm⟩
   ·rcases c with⟨c1,rfl⟩|⟨c1,c2⟩
    ·exact m2 p' fm
    ·rcases dv.mp (c2.mem_iff.mp fm) with rfl|z
     ·exact hp
     ·exact m2 p' z
   ·rcases c with⟨c1,rfl⟩|⟨c1,c2⟩
    ·exact RK ‹_›
    ·rw[c2.length_eq];simp;lia
 ·have e:items.size=xs.length:=by
   have:=congrArg List.length hi
   simpa using this
  rw[e,rX] at m1
  exact h h' tk ks S m1 m2 fun b o ho=>k b o (dP ho) ho
end
end TS
namespace L2
open PySem PySem.Spec PyProof.Rows
section
variable {X:Cx}{pins:List (Addr × Obj)}{σ:St}{H:Hp}{s:Shared}
theorem Inv.drawn{d}(I:Inv X pins σ H s):Inv X pins σ H { s with drawn:=d }:=⟨I.ok,I.os,I.bare,I.base,I.loc,I.cell,I.free,I.pS,I.pin,I.bp,I.len⟩
theorem qz:∀ (k:Key) (v:Value),(jv prog w).is k v=true->v.scannable=true:=fun k v h=>by
 rcases xC h with⟨i,t,rfl,rfl⟩|⟨x,t,rfl,rfl⟩<;>rfl
def jg(K:PySem.W.Frag):V->Hp->VK->Prop:=fun x H Q=>match x with
 |.ref p=>∃ ys ks b0 sh,eR K H p ys/\ys.length<=1000/\dw H ys ks/\(∀ k∈ks,gV k=b0 :: sh) /\
   ∀ zs ms l,dw H zs ms->ms.Nodup->(∀ k,k∈ms↔k∈ks)->(ms.Pairwise fun a b=>fo b a=false)->H l=none->Q (.ref l) (upd H l (.lst zs))
 |_=>False
theorem dw.pairs(h:dw H ys ks)(hv:Vals ys vs):∃ xs:List (List Key × Addr),vs=xs.map (fun p=>Value.ref p.2)/\xs.map (·.1)=ks/\∀ p∈xs,H p.2=some (.tup (p.1.map kV)):=by
 induction ys generalizing ks vs with
 |nil=>exact⟨[],Paired.n0 hv,(show ks=[] from Paired.n0 h).symm,fun p hp=>nomatch hp⟩
 |cons y ys ih =>
  obtain⟨k,ks,rfl,⟨b,rfl,g⟩,t⟩:=Paired.c h
  obtain⟨v,vs,rfl,rfl,rs⟩:=Paired.c hv
  obtain⟨xs,e1,e2,e3⟩:=ih t rs
  refine⟨(k,b) :: xs,by rw[e1];rfl,by rw[<- e2];rfl,fun p hp=>?_⟩
  rcases dv.mp hp with rfl|hp
  ·exact g
  ·exact e3 p hp
end
section
variable {X:Cx}{e:Expr}{te:TE}{p p2 pos kP:Pos}
theorem uc (hc:X.calm=true) (hu:X.A.units+64<cLine) (hg:Gl X "sorted") (hm:X.mg "sorted" = none) (rq:Gl X "set") (ny:X.mg "set" = none) (he:PE X e te)
  (hv:bootBuiltins "sorted" = some (.builtin "sorted")) (NX:bootBuiltins "set" = some (.type "set"))
  (iX:starEach [e] X.env=(false,eval e X.env) :: starEach [] X.env:=by rfl)
  (hs:starEach [.Call (.Name "set" p2) [e] [] kP] X.env=(false,eval (.Call (.Name "set" p2) [e] [] kP) X.env) :: starEach [] X.env:=by rfl) :
  PE X (.Call (.Name "sorted" p) [.Call (.Name "set" p2) [e] [] kP] [] pos) (PX (jg X.K) te):=by
 intro pins s σ H Q I h
 refine wpAny_Call_Name_kw (wa I hg hm hv ?_ (by decide) (by decide))
 refine PyProof.Rows.callWith_builtin1 ?_ hs rfl
 rw[hs]
 refine Calls.spliced_cons ?_
 refine wpAny_Call_Name_kw (wa I rq ny NX ?_ (by decide) (by decide))
 refine PyProof.Rows.callWith_type1 ?_ iX rfl
 rw[iX]
 refine Calls.spliced_cons (cK (he pins s σ H _ I h) fun u s1 cy=>L2.fz cy fun x H1 I1 r1 q1=>Calls.spliced_nil ?_)
 have q1:jg X.K x H1 Q:=q1
 obtain⟨a,rfl⟩:∃ a,x=.ref a:=by
  unfold jg at q1
  split at q1
  ·exact⟨_,rfl⟩
  ·exact q1.elim
 obtain⟨ys,ks,b0,sh,hl,hz1,ht,wo,q⟩:=q1
 cases r1
 obtain⟨vs,rv,pl,hz⟩:=I1.list hl
 obtain⟨xs,ex,ek,hx⟩:=ht.pairs rv
 have yi:X.A.handled=none:=I1.ok.hd hc
 have hlen:xs.length=ys.length:=by rw[rv.length,ex,bP]
 have oo:∀ p∈xs,IsTupleKey (jv X.prog X.w) s1.heap p.1 p.2:=fun p hp=>by
  obtain⟨us,ru,o,e1,c1,n1,d1⟩:=I1.tup (hx p hp)
  exact⟨o,us.toArray,n1,e1,c1,d1,by simpa using Qa ru⟩
 refine TS.rB (knd:=jv X.prog X.w) yi (by lia) pl.isList (by simpa using ex) oo (by lia) qz fun h2 tk da S m1 m2 kp=>?_
 refine Calls.spliced_nil ?_
 obtain⟨⟨o,es,ep,t,ho,hex,hd,T,hM,hL,vn⟩,nd,is⟩:=S
 have N0:es.toList.map (·.2)=da.map fun p=>Value.ref p.2:=by rw[vn,eP];rfl
 have Y7:da.length<=1000:=by
  have:=TS.bD nd (m:=ks) fun k hk=>by rw[<- ek];exact(m1 k).mp hk
  rw[bP] at this
  have:ks.length=xs.length:=by rw[<- ek,bP]
  lia
 have N3:es.size=da.length:=by
  have:=congrArg List.length vn
  simpa using this
 have N4:∀ p∈da,p.1∈ks:=fun p hp=>by rw[<- ek];exact cf.mpr ⟨p,m2 p hp,rfl⟩
 have mem:∀ eh:List Value,eh.Perm (da.map fun p=>Value.ref p.2)->∀ v∈eh,∃ b k,v=.ref b/\H1 b=some (.tup (k.map kV))/\k∈ks:=fun eh pv v hv=>by
  obtain⟨p,hp,rfl⟩:=cf.mp (pv.mem_iff.mp hv)
  exact⟨p.2,p.1,rfl,hx p (m2 p hp),N4 p hp⟩
 have CB:s1.heap.objs.size<=h2.objs.size:=kR (dP ho)
 refine yn.iT (s:={ s1 with heap:=h2,toks:=tk }) (κ:=tuples' true) (R:=fun eh=>eh.Perm (da.map fun p=>Value.ref p.2)) (r:=fun v=>yy ks (oh H1 v)) (P:=fun v=>∃ b k,v=.ref b/\H1 b=some (.tup (k.map kV))/\gV k=b0 :: sh/\k∈ks)
  (fun A' E' Q' hA hQ=>TS.iY (s:={ s1 with heap:=h2,toks:=tk }) (hA.trans yi) ho hex hd T.fits T.up T.sz hL (by rw[N3,sizeLine_eq];lia) fun h' tI d eh lI N9 pv=>hQ eh h' tI d (by rw[<- N0];exact pv) lI N9)
  (fun eh pv=>by rw[pv.length_eq,bP,sizeLine_eq];lia) (fun eh pv v hv=>?_) (fun eh pv T_ A' E' s' lI Q' q'=>?_) (fun s' lI=>vq I1 fun b o e=>lI b o (kp b o e)) fun eh h' a' out n tI d pv pm pw lI ha eo=>?_
 ·obtain⟨b,k,e1,e2,e3⟩:=mem eh pv v hv
  exact⟨b,k,e1,e2,wo k e3,e3⟩
 ·obtain⟨zs,z1,z2⟩:=dw.of (H:=H1) (ks:=ks) eh (mem eh pv)
  obtain⟨fs,f1,f2,f3⟩:=kat_tups I1 (s':=s') (fun b o e=>lI b o (kp b o e)) z1 z2 fun k hk=>by
   obtain⟨v,hv,rfl⟩:=cf.mp hk
   obtain⟨b,k,rfl,e2,e3⟩:=mem eh pv v hv
   rw[cO e2];exact wo k e3
  cases b0 with
  |true =>
   refine PySem.W.kat_kind (T:=.type "int") f1 (by lia) (fun f hf=>?_) (by decide) q'
   obtain⟨i,t,rfl⟩:=(f3 f hf).1 rfl
   exact .now
  |false =>
   refine PySem.W.kat_kind (T:=.type "str") f1 (by lia) (fun f hf=>?_) (by decide) q'
   obtain⟨i,t,rfl⟩:=(f3 f hf).2 rfl
   exact .now
 ·have sF:=pm.trans pv
  obtain⟨zs,z1,z2⟩:=dw.of (H:=H1) (ks:=ks) out fun v hv=>mem _ sF v hv
  have zl:=z2.length
  have ol:=sF.length_eq
  rw[bP] at ol
  have Ow:(da.map fun p=>Value.ref p.2).map (oh H1)=da.map (·.1):=by
   rw[eP]
   exact E7 fun p hp=>cO (hx p (m2 p hp))
  have Ox:(out.map (oh H1)).Perm (da.map (·.1)):=by rw[<- Ow];exact sF.map _
  refine⟨.ref a',_,(I1.laid (a:=a') (t':=tI) (fun b o e=>lI b o (kp b o e)) (fS CB ha) (show fA X.prog X.w _ h' _ (.lst zs) from⟨by rw[sizeLine_eq];lia,out,n,z2,eo⟩)).drawn,rfl,
   q zs _ _ z1 (Ox.nodup_iff.mpr nd) (fun k=>by rw[Ox.mem_iff,m1,ek]) ?_ (I1.bp.fresh (fS CB ha))⟩
  rw[qE]
  refine pw.imp_of_mem fun {x y} mx my hle=>?_
  obtain⟨b,k,rfl,hb,kk⟩:=mem _ sF x mx
  obtain⟨c,m,rfl,Ap,km⟩:=mem _ sF y my
  rw[cO hb,cO Ap] at *
  have:=qW (L:=ks) ((wo m km).trans (wo k kk).symm) km
  rw[<- this]
  exact decide_eq_false (by lia)
end
end L2
namespace TS
open PySem PySem.SetTable PyProof.Rows
section
variable {t:SetTable}{es:Array (Int × Value)}
theorem zW(T:TI t es)(h:Int)(x:Value):∃ j,j<=t.mask/\taken t.place j=false/\Reach t.mask t.place h j /\
  layNew t es h x=(insertAt es (below t.place j) (h,x),{ t with place:=insertAt t.place (below t.place j) j,dummies:=#[] },false,false):=by
 obtain⟨m,hm,_⟩:=T.pw
 obtain⟨e0,T3,T4⟩:=T.free
 obtain⟨nf,n1,n2,n3⟩:=oG hm h (taken t.place) T3 T4
 obtain⟨n',a1,a2,a3,a4⟩:=qI T (fun _=>h+1) h (10*turns t.mask) 0 ⟨nf,eu _,by unfold turns;lia,n2⟩
 rcases a4 with⟨c1,c2⟩|⟨_,c2,_⟩
 ·have DS:n'<=nf:=by
   by_cases z:n'<=nf
   ·exact z
   ·have:=(a3 nf (eu _) (by exact Pl ‹_›)).1
    rw[n2] at this;cases this
  refine⟨J t.mask h n',QY ..,c1,⟨n',by walk_at "s1",rfl,fun q hq=>(a3 q (eu _) hq).1⟩,?_⟩
  have SN:t.freeSlot h=some (J t.mask h n',false):=by
   unfold SetTable.freeSlot
   have:t.probe (fun _=>h+1) h (t.probeStart h)=some (.empty (J t.mask h n') none):=c2
   rw[this];rfl
  have T7:t.put (J t.mask h n')=({ t with place:=insertAt t.place (below t.place (J t.mask h n')) (J t.mask h n'),dummies:=#[] },below t.place (J t.mask h n')):=by
   unfold SetTable.put
   have:has t.dummies (J t.mask h n')=false:=by rw[T.dm];rfl
   simp only[this,gy,if_false]
   rw[T.dm]
  have hb:=(bj T.up (J t.mask h n')).1
  have QD:({ t with place:=insertAt t.place (below t.place (J t.mask h n')) (J t.mask h n'),dummies:=#[] }:SetTable).fits (insertAt es (below t.place (J t.mask h n')) (h,x)).size=true:=by
   have:=T.few
   have hsz:(insertAt es (below t.place (J t.mask h n')) (h,x)).size=es.size+1:=cu _ _ (by rw[<- T.sz];exact hb)
   simp only[SetTable.fits,SetTable.fill,hsz,cu _ _ hb,T.sz,kG,beq_iff_eq,decide_eq_true_eq,true_and]
   simp;lia
  unfold layNew
  rw[SN]
  dsimp only
  rw[T7]
  dsimp only
  unfold SetTable.orStandIn
  rw[QD]
  rfl
 ·exact absurd c2 (by lia)
end
section
variable {prog:Program}{w:World}{K:Type}[DecidableEq K]{knd:KeyKind prog w K}
def Oy(knd:KeyKind prog w K)(p:K × Value):Int × Value:=(knd.hash p.1,p.2)
structure Q7(knd:KeyKind prog w K)(h:Heap)(a:Addr)(ks:List (K × Value)):Prop where
 ob:∃ o es ep t,h.get? a=some o/\o.ExactSet/\o.data=.set es ep t/\TI t es/\t.mask<=8191/\t.led=(!w.params.followText "set-order")/\es.toList=ks.map (Oy knd)
 nd:(ks.map (·.1)).Nodup
 is:∀ p∈ks,knd.is p.1 p.2=true
variable {A:Around}{E:Value->Shared->Prop}{s:Shared}
theorem Dn(S:Q7 knd s.heap a ks)(hx:knd.is k x=true)(hz:ks.length<1000)(oC:∀ k v,knd.is k v=true->v.scannable=true)
  (h:∀ (b:Bool) (h':Heap) (da:List (K × Value)),Heap.SameBut a s.heap h'->Q7 knd h' a da->(k∈ks.map (·.1)/\da=ks\/k∉ks.map (·.1)/\da.Perm ((k,x) :: ks))->Q b { s with heap:=h' }) :
  wpAny (model prog w) A (setAddHashed a x (knd.hash k)) Q E s:=by
 obtain⟨⟨o,es,ep,t,ho,hex,hd,T,hM,hL,he⟩,nd,is⟩:=id S
 have hlen:es.size=ks.length:=by
  have:=congrArg List.length he
  simpa using this
 have HL:ElemsOf knd es.toList:=fun e hm=>by
  rw[he] at hm
  obtain⟨p,hp,rfl⟩:=cf.mp hm
  exact⟨⟨p.1,is p hp,rfl⟩,oC _ _ (is p hp)⟩
 have Qg:scanBound=4096:=rfl
 unfold setAddHashed setAddHashedIn
 refine wpAny_holding (ax (wpAny_setState_of ho hd T.fits ?_))
 dsimp only
 rw[byScan_of (oC _ _ hx) (by lia) HL]
 simp only[↓reduceIte]
 unfold setAddByScan
 refine ax ?_
 refine ax (wpAny_rule ?_)
 refine ax (wpAny_setScan_of hx ho hd T.fits HL ?_)
 cases hr:List.findIdx? (fun e=>knd.is k e.2) es.toList with
 |some j =>
  dsimp only
  refine aS (aS ?_)
  obtain⟨hj,Y8,_⟩:=List.findIdx?_eq_some_iff_getElem.mp hr
  have hm:es.toList[j]∈ks.map (Oy knd):=by rw[<- he];exact RC hj
  obtain⟨p,hp,KS⟩:=cf.mp hm
  rw[<- KS] at Y8
  have hk:k=p.1:=knd.inj p.2 k p.1 Y8 (is p hp)
  have e:s={ s with heap:=s.heap }:=by cases s;rfl
  rw[e]
  exact h _ _ ks (Heap.SameBut.refl a s.heap) S (.inl ⟨cf.mpr ⟨p,hp,hk.symm⟩,rfl⟩)
 |none =>
  dsimp only
  have AQ:k∉ks.map (·.1):=fun hm=>by
   obtain⟨p,hp,rfl⟩:=cf.mp hm
   have:=List.findIdx?_eq_none_iff.mp hr (Oy knd p) (by rw[he];exact cf.mpr ⟨p,hp,rfl⟩)
   rw[show knd.is p.1 (Oy knd p).2=true from is p hp] at this
   cases this
  obtain⟨j,T5,n2,T6,hlay⟩:=zW T (knd.hash k) x
  rw[hlay]
  dsimp only
  refine ax (aS ?_)
  have nI:(insertAt es (below t.place j) (knd.hash k,x)).toList=(ks.take (below t.place j)++(k,x) :: ks.drop (below t.place j)).map (Oy knd):=by
   rw[oM,he,mM,fP,Ph,Pj];rfl
  have tF:(ks.take (below t.place j)++(k,x) :: ks.drop (below t.place j)).Perm ((k,x) :: ks):=by
   refine List.perm_middle.trans ?_
   rw[CY]
  have Cb:below t.place j<=es.size:=by rw[<- T.sz];exact(bj T.up j).1
  have y3:(insertAt es (below t.place j) (knd.hash k,x)).size=es.size+1:=cu _ _ Cb
  have NH:∀ da:List (K × Value),da.Perm ((k,x) :: ks)->∀ p∈da,knd.is p.1 p.2=true:=fun da pm p hp=>by
   rcases dv.mp (pm.mem_iff.mp hp) with rfl|hp
   ·exact hx
   ·exact is p hp
  have NJ:∀ da:List (K × Value),da.Perm ((k,x) :: ks)->(da.map (·.1)).Nodup:=fun da pm=>by
   rw[(pm.map _).nodup_iff,fP,ox]
   exact⟨AQ,nd⟩
  have main:∀ t':SetTable,t'.mask=t.mask->t'.place=insertAt t.place (below t.place j) j->t'.dummies = #[]->t'.led=t.led->wpAny (model prog w) A (do
    storeSet a (insertAt es (below t.place j) (knd.hash k,x)) t'
    if (!false && t'.tooFull)=true then do
      Hj (relayAll t' (insertAt es (below t.place j) (knd.hash k,x)) (grown (insertAt es (below t.place j) (knd.hash k,x)).size)).2.2
      storeSet a (relayAll t' (insertAt es (below t.place j) (knd.hash k,x)) (grown (insertAt es (below t.place j) (knd.hash k,x)).size)).1 (relayAll t' (insertAt es (below t.place j) (knd.hash k,x)) (grown (insertAt es (below t.place j) (knd.hash k,x)).size)).2.1
      pure (some true)
     else pure (some true)) (fun r s'=>wpAny (model prog w) A (match r with|some added=>pure added|none=>setAddHashedIn a x (knd.hash k) 99999) Q E s') E s:=fun t' tm tp td tl=>by
   have Q5:t'.fill=es.size+1:=by
    unfold SetTable.fill
    rw[tp,td,cu _ _ (bj T.up j).1,T.sz];simp
   refine ax (wpAny_storeSet_of ho hd ?_ (by rw[y3,sizeLine_eq];lia))
   have sq:(s.heap.update a (Obj.putSet (insertAt es (below t.place j) (knd.hash k,x)) t')).get? a=some { o with data:=.set (insertAt es (below t.place j) (knd.hash k,x)) (ep+1) t' }:=by
    have:=DC (Obj.putSet (insertAt es (below t.place j) (knd.hash k,x)) t') ho (by rw[putSet_of _ _ hd];rfl)
    rw[putSet_of _ _ hd] at this;exact this
   have sD:=Heap.SameBut.update s.heap a (Obj.putSet (insertAt es (below t.place j) (knd.hash k,x)) t')
   by_cases c:t'.tooFull=true
   ·rw[if_pos (by rw[c];rfl)]
    obtain⟨t2,order,r1,r2,r3,r4,r5,r6,r7,r8,r9⟩:=qT (t:=t') (es:=insertAt es (below t.place j) (knd.hash k,x)) (by lia)
    have fB':relayAll t' (insertAt es (below t.place j) (knd.hash k,x)) (grown (insertAt es (below t.place j) (knd.hash k,x)).size)=(order.filterMap fun i=>(insertAt es (below t.place j) (knd.hash k,x))[i]?,t2,false):=by
     unfold relayAll
     rw[r1]
     dsimp only
     rw[if_pos]
     rw[kG]
     refine⟨?_,r6.fits⟩
     unfold coversAll
     rw[List.isPerm_iff];exact r9
    rw[fB']
    dsimp only
    refine ax (aS ?_)
    obtain⟨da,ek,pk⟩:=k_ r8 nI
    refine ax (wpAny_storeSet_of sq rfl ?_ (by rw[r7,y3,sizeLine_eq];lia))
    refine aS (aS ?_)
    have Ct:=sD.trans (Heap.SameBut.update _ a (Obj.putSet (order.filterMap fun i=>(insertAt es (below t.place j) (knd.hash k,x))[i]?) t2))
    have sR:=DC (Obj.putSet (order.filterMap fun i=>(insertAt es (below t.place j) (knd.hash k,x))[i]?) t2) sq (by rw[putSet_of _ _ rfl];rfl)
    rw[putSet_of _ _ rfl] at sR
    exact h true _ da Ct ⟨⟨_,_,_,_,sR,hex,rfl,r6,r5 (by lia),by rw[r3,tl];exact hL,ek⟩,NJ da (pk.trans tF),NH da (pk.trans tF)⟩ (.inr ⟨AQ,pk.trans tF⟩)
   ·rw[if_neg (by simpa using c)]
    refine aS (aS ?_)
    have wm:(es.size+1)*5<t.mask*3:=by
     unfold SetTable.tooFull at c
     rw[Q5,tm] at c
     simpa using c
    exact h true _ _ sD ⟨⟨_,_,_,_,sq,hex,rfl,T.put T5 n2 T6 tm tp td wm,by rw[tm];exact hM,by rw[tl];exact hL,nI⟩,NJ _ tF,NH _ tF⟩ (.inr ⟨AQ,tF⟩)
  split
  ·refine ax ?_
   rw[hashByValue_scannable 8 (oC _ _ hx)]
   refine aS ?_
   split
   ·exact main _ rfl rfl rfl rfl
   ·exact main _ rfl rfl rfl rfl
  ·refine ax (aS ?_)
   rw[if_pos rfl]
   exact main _ rfl rfl rfl rfl
end
section
variable {prog:Program}{w:World}{K:Type}[DecidableEq K]{knd:KeyKind prog w K}{A:Around}{E:Value->Shared->Prop}{s:Shared}
theorem pK{l:Addr}{items:Array Value}{xs:List (K × Value)}{Q:Value->Shared->Prop}(hh:A.handled=none)(hl:s.heap.IsList l items)(hi:items.toList=xs.map (·.2))
  (oo:∀ p∈xs,knd.is p.1 p.2=true) (hz:xs.length<=1000) (oC:∀ k v,knd.is k v=true->v.scannable=true)
  (h:∀ h' tk ks,Q7 knd h' s.heap.objs.size ks->(∀ k,k∈ks.map (·.1)↔k∈xs.map (·.1))->(∀ p∈ks,p∈xs)->(∀ b o,s.heap.get? b=some o->h'.get? b=some o)->Q (.ref s.heap.objs.size) { s with heap:=h',toks:=tk }) :
  wpAny (model prog w) A (call (.type "set") [.ref l]) Q E s:=by
 refine iy hh hl (fun i h=>∃ ks,Q7 knd h s.heap.objs.size ks/\(∀ k,k∈ks.map (·.1)↔k∈(xs.take i).map (·.1))/\(∀ p∈ks,p∈xs)/\ks.length<=i) (fun h e k=>?_) (fun i h h' ⟨ks,S,m1,m2,m3⟩ k=>?_) (fun i v s' E' Q' hv ⟨ks,S,m1,m2,m3⟩ q=>?_) fun h' tk ⟨ks,S,m1,m2,m3⟩ k=>?_
 ·exact⟨[],⟨⟨_,#[],0,_,e,⟨rfl,rfl,rfl⟩,rfl,pR _,(by show 7<=8191;decide),rfl,rfl⟩,mP,fun p hp=>nomatch hp⟩,fun k=>by simp,(fun p hp=>nomatch hp),cq _⟩
 ·obtain⟨⟨o,es,ep,t,ho,r⟩,nd,is⟩:=S
  exact⟨ks,⟨⟨o,es,ep,t,k _ _ (cq _) ho,r⟩,nd,is⟩,m1,m2,m3⟩
 ·have mz:items.toList[i]? = some v:=by rw[mS];exact hv
  rw[hi,ot] at mz
  cases ex:xs[i]? with
  |none=>rw[ex] at mz;cases mz
  |some p =>
   rw[ex] at mz
   cases mz
   have hp:=sL ex
   have T2:i<xs.length:=(mI.mp ex).1
   have NW:(xs.take (i+1)).map (·.1)=(xs.take i).map (·.1)++[p.1]:=by
    rw[xt,ex,mM];rfl
   unfold setAdd
   refine wpAny_holding (ax (knd.pyHash (k:=p.1) (oo p hp) ?_))
   refine Dn (s:={ s' with toks:=s'.toks+1 }) S (oo p hp) (by lia) oC fun b h' da sb S' c=>?_
   refine q b h' _ sb ⟨da,S',fun k=>?_,fun p' fm=>?_,?_⟩
   ·rw[NW,dA,n4,<- m1]
    rcases c with⟨c1,rfl⟩|⟨c1,c2⟩
    ·exact⟨.inl,fun z=>z.elim id fun e=>e ▸ c1⟩
    ·rw[(c2.map _).mem_iff,fP,dv]
     exact⟨fun z=>z.symm,fun z=>z.symm⟩
   ·rcases c with⟨c1,rfl⟩|⟨c1,c2⟩
    ·exact m2 p' fm
    ·rcases dv.mp (c2.mem_iff.mp fm) with rfl|z
     ·exact hp
     ·exact m2 p' z
   ·rcases c with⟨c1,rfl⟩|⟨c1,c2⟩
    ·exact RK ‹_›
    ·rw[c2.length_eq];simp;lia
 ·have e:items.size=xs.length:=by
   have:=congrArg List.length hi
   simpa using this
  rw[e,rX] at m1
  exact h h' tk ks S m1 m2 fun b o ho=>k b o (dP ho) ho
end
end TS
namespace L2
open PySem PySem.Spec PyProof.Rows
def jM(K:PySem.W.Frag):V->Hp->VK->Prop:=fun x H Q=>match x with
 |.ref p=>∃ (ks:List Key) (b:Bool),eR K H p (ks.map kV)/\ks.length<=1000/\(∀ k∈ks,oi k=b) /\
   ∀ (ms:List Key) (l:Addr),ms.Nodup->(∀ k,k∈ms↔k∈ks)->(ms.Pairwise fun a b=>oD b a=false)->H l=none->Q (.ref l) (upd H l (.lst (ms.map kV)))
 |_=>False
theorem xK(h:Vals (ks.map kV) vs):∃ xs:List (Key × Value),vs=xs.map (·.2)/\xs.map (·.1)=ks/\∀ p∈xs,RelV (kV p.1) p.2:=by
 induction ks generalizing vs with
 |nil=>exact⟨[],Paired.n0 h,rfl,fun p hp=>nomatch hp⟩
 |cons k ks ih =>
  obtain⟨v,vs,rfl,r,rs⟩:=Paired.c h
  obtain⟨xs,e1,e2,e3⟩:=ih rs
  refine⟨(k,v) :: xs,by rw[e1];rfl,by rw[<- e2];rfl,fun p hp=>?_⟩
  rcases dv.mp hp with rfl|hp
  ·exact r
  ·exact e3 p hp
section
variable {X:Cx}{e:Expr}{te:TE}{p p2 pos kP:Pos}
theorem uv (hc:X.calm=true) (hg:Gl X "sorted") (hm:X.mg "sorted" = none) (rq:Gl X "set") (ny:X.mg "set" = none) (he:PE X e te)
  (hv:bootBuiltins "sorted" = some (.builtin "sorted")) (NX:bootBuiltins "set" = some (.type "set"))
  (iX:starEach [e] X.env=(false,eval e X.env) :: starEach [] X.env:=by rfl)
  (hs:starEach [.Call (.Name "set" p2) [e] [] kP] X.env=(false,eval (.Call (.Name "set" p2) [e] [] kP) X.env) :: starEach [] X.env:=by rfl) :
  PE X (.Call (.Name "sorted" p) [.Call (.Name "set" p2) [e] [] kP] [] pos) (PX (jM X.K) te):=by
 intro pins s σ H Q I h
 refine wpAny_Call_Name_kw (wa I hg hm hv ?_ (by decide) (by decide))
 refine PyProof.Rows.callWith_builtin1 ?_ hs rfl
 rw[hs]
 refine Calls.spliced_cons ?_
 refine wpAny_Call_Name_kw (wa I rq ny NX ?_ (by decide) (by decide))
 refine PyProof.Rows.callWith_type1 ?_ iX rfl
 rw[iX]
 refine Calls.spliced_cons (cK (he pins s σ H _ I h) fun u s1 cy=>L2.fz cy fun x H1 I1 r1 q1=>Calls.spliced_nil ?_)
 have q1:jM X.K x H1 Q:=q1
 obtain⟨a,rfl⟩:∃ a,x=.ref a:=by
  unfold jM at q1
  split at q1
  ·exact⟨_,rfl⟩
  ·exact q1.elim
 obtain⟨ks,b,hl,hz1,hb,q⟩:=q1
 cases r1
 obtain⟨vs,rv,pl,hz⟩:=I1.list hl
 obtain⟨xs,ex,ek,hx⟩:=xK rv
 have yi:X.A.handled=none:=I1.ok.hd hc
 have hlen:xs.length=ks.length:=by rw[<- ek,bP]
 have oo:∀ p∈xs,(jv X.prog X.w).is p.1 p.2=true:=fun p hp=>by
  obtain⟨k,v⟩:=p
  have r:=hx _ hp
  rw[Z5]
  cases k with
  |inl i=>obtain⟨t,e⟩:=r;rw[show v=_ from e];exact V6 ..
  |inr x=>obtain⟨t,e⟩:=r;rw[show v=_ from e];exact V7 ..
 refine TS.pK (knd:=jv X.prog X.w) yi pl.isList (by simpa using ex) oo (by lia) qz fun h2 tk da S m1 m2 kp=>?_
 refine Calls.spliced_nil ?_
 obtain⟨⟨o,es,ep,t,ho,hex,hd,T,hM,hL,vn⟩,nd,is⟩:=S
 have N0:es.toList.map (·.2)=da.map (·.2):=by rw[vn,eP];rfl
 have Y7:da.length<=1000:=by
  have:=TS.bD nd (m:=ks) fun k hk=>by rw[<- ek];exact(m1 k).mp hk
  rw[bP] at this
  walk_at "s1"
 have N3:es.size=da.length:=by
  have:=congrArg List.length vn
  simpa using this
 have N4:∀ p∈da,p.1∈ks:=fun p hp=>by rw[<- ek];exact cf.mpr ⟨p,m2 p hp,rfl⟩
 have mem:∀ eh:List Value,eh.Perm (da.map (·.2))->∀ v∈eh,∃ k,RelV (kV k) v/\k∈ks:=fun eh pv v hv=>by
  obtain⟨p,hp,rfl⟩:=cf.mp (pv.mem_iff.mp hv)
  exact⟨p.1,hx p (m2 p hp),N4 p hp⟩
 have CB:s1.heap.objs.size<=h2.objs.size:=kR (dP ho)
 refine yn.iT (s:={ s1 with heap:=h2,toks:=tk }) (κ:=oneType') (R:=fun eh=>eh.Perm (da.map (·.2))) (r:=fun v=>yy (ks.map fun k=>[k]) (kY v)) (P:=fun v=>∃ k,RelV (kV k) v/\oi k=b/\k∈ks)
  (fun A' E' Q' hA hQ=>TS.iY (s:={ s1 with heap:=h2,toks:=tk }) (hA.trans yi) ho hex hd T.fits T.up T.sz hL (by rw[N3,sizeLine_eq];walk_at "s4") fun h' tI d eh lI N9 pv=>hQ eh h' tI d (by rw[<- N0];exact pv) lI N9)
  (fun eh pv=>by rw[pv.length_eq,bP,sizeLine_eq];walk_at "s4") (fun eh pv v hv=>?_) (fun eh pv T_ A' E' s' lI Q' q'=>?_) (fun s' lI=>Be) fun eh h' a' out n tI d pv pm pw lI ha eo=>?_
 ·obtain⟨k,rk,mk⟩:=mem eh pv v hv
  exact⟨k,rk,hb k mk,mk⟩
 ·obtain⟨ms,rm⟩:=tD (ks:=ks) eh (mem eh pv)
  refine Aa (b:=b) rm (fun k hk=>?_) T_ q'
  have:(eh.map kY)=ms.map fun k=>[k]:=keys_map rm
  have B4:[k]∈eh.map kY:=by rw[this];exact cf.mpr ⟨k,hk,rfl⟩
  obtain⟨v,hv,e⟩:=cf.mp B4
  obtain⟨k',rk,mk⟩:=mem eh pv v hv
  rw[nj rk] at e
  cases e
  exact hb _ mk
 ·have sF:=pm.trans pv
  obtain⟨ms,rm⟩:=tD (ks:=ks) out (mem _ sF)
  have Ow:(da.map (·.2)).map kY=(da.map (·.1)).map fun k=>[k]:=by
   rw[eP,eP]
   exact E7 fun p hp=>nj (hx p (m2 p hp))
  have pk:ms.Perm (da.map (·.1)):=yc (by rw[<- keys_map rm,<- Ow];exact sF.map _)
  have hml:ms.length=da.length:=by simpa using pk.length_eq
  have Y9:∀ k∈ms,k∈ks:=fun k hk=>by rw[<- ek];exact(m1 k).mp (pk.mem_iff.mp hk)
  refine⟨.ref a',_,(I1.laid (a:=a') (t':=tI) (fun b o e=>lI b o (kp b o e)) (fS CB ha) (show fA X.prog X.w _ h' _ (.lst (ms.map kV)) from⟨by rw[bP,sizeLine_eq];lia,out,n,rm,eo⟩)).drawn,rfl,
   q ms _ (pk.nodup_iff.mpr nd) (fun k=>by rw[pk.mem_iff,m1,ek]) ?_ (I1.bp.fresh (fS CB ha))⟩
  have Y_:(out.map kY).Pairwise fun x y=>yy (ks.map fun k=>[k]) x<=yy (ks.map fun k=>[k]) y:=qE.mpr pw
  rw[keys_map rm,qE] at Y_
  refine Y_.imp_of_mem fun {x y} mx my hle=>?_
  have mx:=Y9 x mx
  have my:=Y9 y my
  rw[<- xO,<- qW (L:=ks.map fun k=>[k]) (by simp[gV,hb x mx,hb y my]) (cf.mpr ⟨y,my,rfl⟩)]
  exact decide_eq_false (by lia)
end
end L2
namespace L2.Q
open PySem PySem.Spec PyProof.Rows
section
variable {X:Cx}{K:PySem.W.Frag}{e:Expr}{te:WE}{p p2 pos kP:Pos}
theorem yH:bootBuiltins "set" = some (.type "set"):=by decide +kernel
def eF:W1:=fun _ x Q=>match x with
 |.list xs=>∃ (ks:List (List Key)) (sh:List Bool),xs=ks.map i5/\ks.length<=1000/\(∀ k∈ks,gV k=true :: sh)/\∀ ms:List (List Key),ms.Nodup->(∀ k,k∈ms↔k∈ks)->(ms.Pairwise fun a b=>fo b a=false)->Q (.ow true) (.list (ms.map i5))
 |_=>False
def jC:W1:=fun _ x Q=>match x with
 |.list xs=>∃ (ks:List Key) (b:Bool),xs=ks.map oQ/\ks.length<=1000/\(∀ k∈ks,oi k=b)/\∀ ms:List Key,ms.Nodup->(∀ k,k∈ms↔k∈ks)->(ms.Pairwise fun a b=>oD b a=false)->Q (.ow true) (.list (ms.map oQ))
 |_=>False
theorem uW:ML K (jg K) eF:=by
 intro Hs H m x v As Qd Qv w rx h f
 have r1:=rx.rep w
 cases r1 with
 |list z s q =>
  obtain⟨ks,sh,rfl,hz,hs,h⟩:=h
  obtain⟨ta,ok⟩:=zc q
  have hl:=q.length
  rw[bP] at hl
  refine⟨_,ks,true,sh,s,by lia,ta,hs,fun zs ms l tz nd mm pw Ua=>?_⟩
  have rr:=qJ (K:=K) tz fun k hk=>ok k ((mm k).mp hk)
  have:ms.length<=ks.length:=TS.bD nd fun k hk=>(mm k).mp hk
  exact f.lst w (by rw[bP,sizeLine_eq];lia) rr (jh ms) (h ms nd mm pw) l Ua
 |_=>exact h.elim
theorem uB:ML K (jM K) jC:=by
 intro Hs H m x v As Qd Qv w rx h f
 have r1:=rx.rep w
 cases r1 with
 |list z s q =>
  obtain⟨ks,b,rfl,hz,hb,h⟩:=h
  obtain⟨e,ok⟩:=zK q
  subst e
  refine⟨ks,b,s,hz,hb,fun ms l nd mm pw hl=>?_⟩
  have:ms.length<=ks.length:=TS.bD nd fun k hk=>(mm k).mp hk
  exact f.lst w (by rw[bP,sizeLine_eq];lia) (qy fun k hk=>ok k ((mm k).mp hk)) (lQ ms) (h ms nd mm pw) l hl
 |_=>exact h.elim
theorem iD (hu:X.A.units+64<cLine) (hg:Gl X "sorted") (hm:X.mg "sorted" = none) (rq:Gl X "set") (ny:X.mg "set" = none) (he:QE X K e te) (hc:X.calm=true:=by rfl) (hK:X.K=K:=by rfl)
  (iX:starEach [e] X.env=(false,eval e X.env) :: starEach [] X.env:=by rfl)
  (hs:starEach [.Call (.Name "set" p2) [e] [] kP] X.env=(false,eval (.Call (.Name "set" p2) [e] [] kP) X.env) :: starEach [] X.env:=by rfl) :
  QE X K (.Call (.Name "sorted" p) [.Call (.Name "set" p2) [e] [] kP] [] pos) (eW eF te):=by
 subst hK
 refine PE.imp (uc hc hu hg hm rq ny he mR yH iX hs) fun σ H Qv df=>?_
 obtain⟨Hs,ρ,ai,Q,sr,h,fin⟩:=df
 exact⟨Hs,ρ,ai,_,sr,h,fun v H1 ay m x As g1 r1 f1 q1=>uW ay H1 m x v As Q Qv g1.wf r1 q1 (Fin.after fin g1)⟩
theorem wO (hg:Gl X "sorted") (hm:X.mg "sorted" = none) (rq:Gl X "set") (ny:X.mg "set" = none) (he:QE X K e te) (hc:X.calm=true:=by rfl) (hK:X.K=K:=by rfl)
  (iX:starEach [e] X.env=(false,eval e X.env) :: starEach [] X.env:=by rfl)
  (hs:starEach [.Call (.Name "set" p2) [e] [] kP] X.env=(false,eval (.Call (.Name "set" p2) [e] [] kP) X.env) :: starEach [] X.env:=by rfl) :
  QE X K (.Call (.Name "sorted" p) [.Call (.Name "set" p2) [e] [] kP] [] pos) (eW jC te):=by
 subst hK
 refine PE.imp (uv hc hg hm rq ny he mR yH iX hs) fun σ H Qv df=>?_
 obtain⟨Hs,ρ,ai,Q,sr,h,fin⟩:=df
 exact⟨Hs,ρ,ai,_,sr,h,fun v H1 ay m x As g1 r1 f1 q1=>uB ay H1 m x v As Q Qv g1.wf r1 q1 (Fin.after fin g1)⟩
end
end L2.Q
namespace L2.Q.R
open PySem PySem.Spec PyProof.Rows L2.Q
section
variable {Q:Md->L2.Q.D->Prop}{m:Md}{xs:List L2.Q.D}
theorem Gr:eF m (.list xs) Q = ∃ (ks:List (List Key)) (sh:List Bool),xs=ks.map i5/\ks.length<=1000/\(∀ k∈ks,gV k=true :: sh)/\∀ ms:List (List Key),ms.Nodup->(∀ k,k∈ms↔k∈ks)->(ms.Pairwise fun a b=>fo b a=false)->Q (.ow true) (.list (ms.map i5)):=rfl
theorem Gp:jC m (.list xs) Q = ∃ (ks:List Key) (b:Bool),xs=ks.map oQ/\ks.length<=1000/\(∀ k∈ks,oi k=b)/\∀ ms:List Key,ms.Nodup->(∀ k,k∈ms↔k∈ks)->(ms.Pairwise fun a b=>oD b a=false)->Q (.ow true) (.list (ms.map oQ)):=rfl
end
end L2.Q.R
namespace L2
open PySem PySem.Spec PyProof.Rows
end L2
namespace L2.Q
open PySem PySem.Spec PyProof.Rows
end L2.Q
namespace L2.Q.R
open PySem PySem.Spec PyProof.Rows L2.Q
end L2.Q.R
namespace L2.Q
open PySem PySem.Spec PyProof.Rows PySem.W
abbrev Za:List Value:=[.type "ValueError",.type "Exception",.type "BaseException",.type "object"]
structure xi(K:PySem.W.Frag)(C:Addr):Prop where
 ex:excIn K C Za "ValueError.__new__" = true
 gx:findIn K (.ref C) "__getattr__" = some none
 ga:findIn K (.ref C) "__getattribute__" = some (some (.builtin "BaseException.__getattribute__"))
 cl:findIn K (.ref C) "__class__" = some (some (.builtin "object.__class__"))
 ob:mroIn K C (.type "object")=some true
theorem xi.obj{K:PySem.W.Frag}(x:xi K C)(X:K.In h):∃ bm N nm q bs hdct sn sub ab col dd k0 k1 k2 k3 k5 mN,
  h.get? C=some (excClassObj nm q C N bs bm hdct sn sub ab col dd k0 k1 k2 k3 k5 "ValueError.__new__")/\h.Ns N mN/\mN "__init__" = none/\OwnTail h Za bm:=by
 have q:=x.ex
 unfold excIn at q
 split at q
 ·rename_i dd cd sl ho
  split at q
  ·rename_i C' bm k0 k1 k2 k3 n k5 hm hs
   simp only[kG,beq_iff_eq,RN] at q
   obtain⟨⟨⟨⟨⟨e1,e2⟩,Zb⟩,ht⟩,bp⟩,Oz⟩:=q
   cases e1;cases e2
   cases cd
   dsimp only at hm Zb bp Oz
   cases hm;cases Zb
   have Q0:sl = #[k0,k1,k2,k3,some (.builtin "ValueError.__new__"),k5]:=by
    cases sl
    dsimp only at hs
    rw[hs]
   cases Q0
   exact⟨bm,_,_,_,_,_,_,_,_,_,dd,k0,k1,k2,k3,k5,_,X _ _ ho,.of_isNs (isNs_of_in X bp),nsMap_none_of_in X bp Oz,tail_of_in X ht⟩
  ·cases q
 ·cases q
def XAt(a C:Addr)(h:Heap):Prop:=∃ o,h.get? a=some o/\o.cls=.ref C
theorem ur{K:PySem.W.Frag}{a C R:Addr}{os:OsState}(x:xi K C)(r:xi K R)(sub:mroIn K C (.ref R)=some true)(X:K.In h)(p:XAt a C h)
  (hq:Q true ⟨h,g,d,t,os⟩):wpAny M A (excMatches (.ref a) (.ref R)) Q E ⟨h,g,d,t,os⟩:=by
 obtain⟨bm,N,nm,q,bs,hdct,sn,iC',ab,col,dd,k0,k1,k2,k3,k5,mN,hC,hN,Oz,T⟩:=r.obj X
 obtain⟨oe,he,R5⟩:=p
 have hcB:(Value.ref R :: bm).contains (.type "BaseException")=true:=by rw[List.contains_cons,T.hasType (X := "BaseException") (b:=true) rfl];rfl
 have f:=tc_notTuple
 have Lk:=looks_mroIn (M:=M) X sub
 unfold excMatches
 repeat (first|(with_reducible refine wpAny_loadPart_at he ?_;rw[R5])|with_reducible refine wpAny_loadPart_at hC ?_|(with_reducible refine wpAny_isSubtype_exc hC ?_;rw[hcB])|with_reducible refine Lk.at ?_|wp_step)
 exact hq
theorem FunFrames.rebase{h base B:Heap}:∀ {l:List PySem.Env},h.FunFrames base l->(∀ b∈fF l,B.get? b=none)->h.FunFrames B l
 |[],_,_=>trivial
 |env :: rest,⟨hk,⟨L,o,hf,hn,ho,hd⟩,hr⟩,hB=>⟨hk,⟨L,o,hf,hB L (by unfold fF;rw[zt,hf];exact dz),ho,hd⟩,
   FunFrames.rebase hr fun b hb=>hB b (by unfold fF;rw[zt,hf];exact dn _ hb)⟩
theorem fA.there{P:Program}(x:fA P w H h a o):∃ u,h.get? a=some u:=by
 cases o with
 |lst xs=>obtain⟨_,_,_,_,e⟩:=x;exact⟨_,e⟩
 |tup xs=>obtain⟨_,_,_,_,e,_⟩:=x;exact⟨_,e⟩
 |dK ae=>obtain⟨_,_,_,_,o,_,_,e,_⟩:=x;exact⟨_,e⟩
 |dT ae=>obtain⟨_,_,_,_,o,_,_,e,_⟩:=x;exact⟨_,e⟩
 |set S n=>obtain⟨o,_,_,_,e,_⟩:=x;exact⟨_,e⟩
 |ins C dx fs=>obtain⟨_,_,_,e,_⟩:=x;exact⟨_,e⟩
 |own y=>exact x
 |xd fs=>obtain⟨_,⟨_,_,_,e,_⟩,_⟩:=x;exact⟨_,e⟩
 |Px lo hi=>obtain⟨_,_,_,e⟩:=x;exact⟨_,e⟩
 |lS ob u=>obtain⟨e,_⟩:=x;exact⟨_,e⟩
 |Bz ps=>exact⟨_,(show h.get? a=some _ from x)⟩
 |met f y=>exact⟨_,(show h.get? a=some _ from x)⟩
 |ext φ=>obtain⟨_,e,_⟩:=x;exact e
def xk(B:Heap)(fs:List Addr)(H':Hp)(h₀ h:Heap):Prop:=∀ b o,h.get? b=some o->(H' b≠none\/h₀.get? b≠none)->b∉fs->B.get? b=some o
def ja(P:Program)(w:World)(mg:Str->Option Value)(rn:List Str):Au:=fun outer H s E e s' =>
 ∃ a n C a0 H' B,e=.ref a/\(n∈rn/\mg n=some (.ref C))/\s'.os=s.os/\AllBare s'.gens/\Un (fF outer) [] H H' s.heap s'.heap/\fT P w H' s'.heap /\
  Heap.FlyingW B outer a (.ref C) a0 s'.heap/\xk B (fF outer) H' s.heap s'.heap/\(∀ b∈fF outer,H' b=none)/\E (.ref C) none H'
structure gm(fs:List Addr)(H':Hp)(h₀ h h':Heap):Prop where
 keep:∀ b o,h.get? b=some o->(H' b≠none\/h₀.get? b≠none)->b∉fs->h'.get? b=some o
 slot:∀ b o,h.get? b=some o->b∈fs->∃ sl,h'.get? b=some { o with slots:=sl }
theorem gm.of{B:Heap}(c:xk B (fF l) H' h₀ h)(st:B.StaysIn h')(up:h.UpToSlots h')(ff:h.FunFrames base l):gm (fF l) H' h₀ h h' :=
 ⟨fun b o e k n=>st b o (c b o e k n),fun b o e m=>by
  obtain⟨_,o',e',d⟩:=ff.mem m
  rw[e] at e';cases e'
  exact up b o e d⟩
theorem gm.trans(a:gm fs H' h₀ h h1)(b:gm fs H' h₀ h1 h2):gm fs H' h₀ h h2 :=
 ⟨fun x o e k n=>b.keep x o (a.keep x o e k n) k n,fun x o e m=>by
  obtain⟨_,e1⟩:=a.slot x o e m
  obtain⟨sl,e2⟩:=b.slot x _ e1 m
  exact⟨sl,e2⟩⟩
theorem gm.un(m:gm fs H' h₀ h h')(u:Un fs [] H H' h₀ h):Un fs [] H H' h₀ h' where
 keep:=fun b o e n nb nx=>m.keep b o (u.keep b o e n nb nx) (.inr (by rw[e];exact fun z=>nomatch z)) nb
 slot:=fun b o e n hb nx=>by
  obtain⟨_,e1⟩:=u.slot b o e n hb nx
  obtain⟨sl,e2⟩:=m.slot b _ e1 hb
  exact⟨sl,e2⟩
 free:=u.free
 there:=fun b o e nx=>by
  obtain⟨o',e1⟩:=u.there b o e nx
  by_cases hb:b∈fs
  ·obtain⟨sl,e2⟩:=m.slot b o' e1 hb
   exact⟨_,e2⟩
  ·exact⟨o',m.keep b o' e1 (.inr (by rw[e];exact fun z=>nomatch z)) hb⟩
 iP:=u.iP
 pz:=u.pz
 qV:=u.qV
theorem gm.bp{P:Program}(m:gm fs H' h₀ h h')(f:∀ b∈fs,H' b=none)(x:fT P w H' h):fT P w H' h':=fun a o e =>
 (x a o e).fi (fun b u hb q=>by
  have hH:H' b≠none:=by
   rcases hb with z|z
   ·rw[z,e];exact fun z=>nomatch z
   ·rw[z];exact fun z=>nomatch z
  exact m.keep b u q (.inl hH) fun z=>hH (f b z)) (fun _ q=>q) fun _ _ q=>q
section
variable {X:Cx}{pins:List (Addr × Obj)}{σ:St}{H H':Hp}{s:Shared}{e:Value}
theorem xk.up{B h h':Heap}(md:X.stack=X.env :: X.outer)(hf:X.env.frame=some X.env.locals)(hex:X.ex=[])(I:Inv X pins σ H s)(un:Un (fF X.stack) [] H H' s.heap h)(c:xk B (fF X.stack) H' s.heap h)(m:gm (fF X.stack) H' s.heap h h')(fr:∀ b∈fF X.stack,H' b=none)(bp:fT X.prog X.w H' h) :
  Un X.fs [] X.vS H' X.eC.heap h'/\xk B X.fs H' X.eC.heap h':=by
 have hs:∀ b,b∈fF X.stack↔b=X.env.locals\/b∈X.fs:=fun b=>by
  rw[md];unfold fF;rw[zt,hf];exact dv
 have KL:∀ b o,X.eC.heap.get? b=some o->b≠X.env.locals:=fun b o e=>gi (n5 (dP e) I.ok.above)
 have HV:∀ b:Addr,b∉X.ex:=fun b z=>by rw[hex] at z;exact nomatch z
 have m':=m.un un
 have th:∀ b o,X.eC.heap.get? b=some o->∃ o',s.heap.get? b=some o':=fun b o e=>I.base.there b o e (HV b)
 refine⟨⟨fun b o e n nb nx=>?_,fun b o e n hb nx=>?_,fun b o e n nx=>?_,fun b o e nx=>?_,fun b xs e=>un.iP b xs (I.base.iP b xs e),fun b ob u e=>un.pz b ob u (I.base.pz b ob u e),fun b ps e=>?_⟩,fun b o e k nb=>?_⟩
 ·exact m'.keep b o (I.base.keep b o e n nb (HV b)) (I.base.free b o e n (HV b)) (fun z=>((hs b).mp z).elim (KL b o e) nb) (by simp)
 ·obtain⟨_,e1⟩:=I.base.slot b o e n hb (HV b)
  obtain⟨sl,e2⟩:=m'.slot b _ e1 (I.base.free b o e n (HV b)) ((hs b).mpr (.inr hb)) (by simp)
  exact⟨sl,e2⟩
 ·obtain⟨o',e1⟩:=th b o e
  exact un.free b o' e1 (I.base.free b o e n (HV b)) (by simp)
 ·obtain⟨o',e1⟩:=th b o e
  exact m'.there b o' e1 (by simp)
 ·obtain⟨m1,e1⟩:=I.base.qV b ps e
  obtain⟨m2,e2⟩:=un.qV b _ e1
  exact⟨m1++m2,by rw[e2,FH]⟩
 ·have key:∀ o',h.get? b=some o'->(H' b≠none\/s.heap.get? b≠none)->b∉fF X.stack->B.get? b=some o:=fun o' e' k' n'=>by
   have:=m.keep b o' e' k' n'
   rw[e] at this;cases this
   exact c b o e' k' n'
  rcases k with k|k
  ·have nf:b∉fF X.stack:=fun z=>k (fr b z)
   cases q:H' b with
   |none=>exact absurd q k
   |some u =>
    obtain⟨o',e'⟩:=fA.there (bp b u q)
    exact key o' e' (.inl k) nf
  ·cases q:X.eC.heap.get? b with
   |none=>exact absurd q k
   |some o0 =>
    obtain⟨o1,e1⟩:=th b o0 q
    obtain⟨o2,e2⟩:=un.there b o1 e1 (by simp)
    exact key o2 e2 (.inr (by rw[e1];exact fun z=>nomatch z)) fun z=>((hs b).mp z).elim (KL b o0 q) nb
end
section
variable {P:Program}{w:World}{K:PySem.W.Frag}{mg:Str->Option Value}{base:Heap}{N:List Str}{qual:Str}{scope:Scope}{f:Addr}{cd:Value}{A:Around}{outer:List PySem.Env}{eC:Shared}{vS:Hp}{E:XK}{rn:List Str}
theorem yG(hf:env.frame=some L)(h:b∈fF l):b∈fF (env :: l):=by
 unfold fF;rw[zt,hf];exact dn _ h
theorem n8:Passes (ja P w mg rn) (mr (ja P w mg rn) P w K mg base N qual scope f cd A outer eC vS E) E:=by
 intro pins σ H s e s' I hx
 obtain⟨a,n,C,a0,H',B,he,hn,os,bare,un,bp,CC,cov,fr,hE⟩:=hx
 subst he
 refine wpAny_leaves_onW I.ok.frames rfl CC fun h' Zc up=>?_
 have mv:=gm.of cov Zc.1 up CC.2.2.1
 obtain⟨u1,c1⟩:=xk.up (X:=mr (ja P w mg rn) P w K mg base N qual scope f cd A outer eC vS E) rfl rfl rfl I un cov mv fr bp
 exact⟨a,n,C,a0,H',B,rfl,hn,os.trans I.os,bare,u1,mv.bp fr bp,Zc,c1,fun b hb=>fr b (yG rfl hb),hE⟩
def uC(X:Cx)(rn:List Str)(E:XK):Prop:=∀ (pins:List (Addr × Obj)) (σ:St) (H:Hp) (s:Shared) (h':Heap) (e:Addr) (n:Str) (C:Addr) (vs:List Value),Inv X pins σ H s->Heap.MadeExcOf s.heap h' e (.ref C) vs ->
 n∈rn->X.mg n=some (.ref C)->E (.ref C) none H->X.xe (.ref e) { s with heap:=h' }
theorem rG:uC (mr (ja P w mg rn) P w K mg base N qual scope f cd A outer eC vS E) rn E:=by
 intro pins σ H s h' e n C vs I hx hn hm hE
 have st:=I.stack
 have ff:s.heap.FunFrames (hideAll s.heap (fF (envOfC qual scope eC.heap.objs.size f cd :: outer))) (envOfC qual scope eC.heap.objs.size f cd :: outer):=FunFrames.rebase st fun b hb=>hideAll_none _ hb
 refine wpAny_leaves_madeW (h:=s.heap) I.ok.frames rfl (fun b o q=>of_hideAll _ q) ff hx fun h'' t CC tup hnt up=>?_
 have ff':h'.FunFrames (hideAll s.heap (fF (envOfC qual scope eC.heap.objs.size f cd :: outer))) (envOfC qual scope eC.heap.objs.size f cd :: outer):=ff.of_keeps fun b o q _=>⟨o,hx.keeps b o q,rfl⟩
 have bp:fT P w H h':=I.bp.kept hx.keeps
 have fr:∀ b∈fF (envOfC qual scope eC.heap.objs.size f cd :: outer),H b=none:=I.R3
 have cov:xk (hideAll s.heap (fF (envOfC qual scope eC.heap.objs.size f cd :: outer))) (fF (envOfC qual scope eC.heap.objs.size f cd :: outer)) H s.heap h':=fun b o q k nb=>by
  have ho:∃ o1,s.heap.get? b=some o1:=by
   rcases k with k|k
   ·cases z:H b with
    |none=>exact absurd z k
    |some u=>exact fA.there (I.bp b u z)
   ·exact Option.ne_none_iff_exists'.mp k
  obtain⟨o1,e1⟩:=ho
  have e2:=hx.keeps b o1 e1
  rw[q] at e2;cases e2
  exact hideAll_get _ e1 nb
 have mv:gm (fF (envOfC qual scope eC.heap.objs.size f cd :: outer)) H s.heap h' h'':=gm.of cov CC.1 up ff'
 obtain⟨u1,c1⟩:=xk.up (X:=mr (ja P w mg rn) P w K mg base N qual scope f cd A outer eC vS E) rfl rfl rfl I (Un.kept hx.keeps) cov mv fr bp
 exact⟨e,n,C,_,H,_,rfl,⟨hn,hm⟩,I.os,I.bare,u1,mv.bp fr bp,CC,c1,fun b hb=>fr b (yG rfl hb),hE⟩
def LX(rn:List Str)(mg:Str->Option Value)(E:XK):Str->Hp->Prop:=fun n H'=>n∈rn->∀ C,mg n=some (.ref C)->E (.ref C) none H'
def cF(K:PySem.W.Frag)(rn:List Str)(mg:Str->Option Value)(sp:dQ):Sp:=fun vs H Qv E=>∃ ds Qd,aT K H ds vs/\sp ds Qd /\
 (∀ v H' aw m d As,aI H aw->Wf aw H'->RM K aw H' m d v As->As.Nodup->(∀ a∈As,aw a=none)->Qd m d->Qv v H') /\
 ∀ n H',aI H H'->Qd (.ow false) (.str n)->LX rn mg E n H'
theorem xG(h:cF K rn mg sp vs H Qv E)(hp:∀ ds Q,sp ds Q->t { nx:=fun _=>Q .sh .non,rt:=Q } (aW N.length ds)) :
  w_ K (LX rn mg E) t { nx:=fun _ H'=>Qv .non H',rt:=Qv } (start N vs) H:=by
 obtain⟨ds,Qd,rs,hs,fin,fx⟩:=h
 have hl:=rs.length
 refine⟨H,aW N.length ds,[],{ nx:=fun _=>Qd .sh .non,rt:=Qd },⟨?_,⟨aI.refl _,fun _ _ e=>e⟩,mP,fun a h=>nomatch h⟩,hp ds Qd hs,?_,?_,?_,?_,fx⟩
 ·unfold aW start
  rw[hl]
  exact SR.start rs
 ·exact fun bE H' aw cw cv s sr q=>fin .non H' aw .sh .non [] s sr.wf ⟨rfl,.non⟩ mP (fun a h=>nomatch h) q
 ·exact fun bE H' aw cw cv s sr q=>q.elim
 ·exact fun bE H' aw cw cv s sr q=>q.elim
 ·exact fun v H' aw m d As s w r nd own q=>fin v H' aw m d As s w r nd own q
theorem EV.ok{st:Stmt}{ps:List Str}(F:eJ K x qual st f fd)(S:g9 N ps (bI st))(len:∀ ds Q,sp ds Q->ds.length=ps.length)
  (AA:∀ (cp:Value) (A:Around) (outer:List PySem.Env) (s:Shared) (H:Hp) (E:XK),gI k (A.deeper (envOfC qual (bI st) s.heap.objs.size f cp))->oj (mr (ja P w mg rn) P w K mg base N qual (bI st) f cp A outer s H E) K (LX rn mg E) (eI st) t)
  (hp:∀ ds Q,sp ds Q->t { nx:=fun _=>Q .sh .non,rt:=Q } (aW N.length ds)):eS P w K mg base (ja P w mg rn) (k+1) f fd ps (cF K rn mg sp):=by
 obtain⟨oc,od,kV,doc,pm,an,cp,ct,D1,rfl,lk,oy⟩:=F.ex
 exact W5 lk oy S (fun vs H Q E ⟨ds,Qd,rs,hs,_⟩=>by rw[<- rs.length];exact len ds Qd hs) fun A outer s H vs Q E hr x5=>⟨_,AA cp A outer s H E hr,xG x5 hp⟩
structure iN(P:Program)(w:World)(K:PySem.W.Frag)(mg:Str->Option Value)(base:Heap)(rn:List Str)(k:Nat)(x:Str)(ps:List Str)(sp:dQ):Prop where
 ex:∃ (g:Addr) (fd:FuncData),mg x=some (.ref g)/\PySem.W.keepIn K (.ref g)=true/\Binds K fd ps []/\eS P w K mg base (ja P w mg rn) k g fd ps (cF K rn mg sp)
theorem eJ.EW{st:Stmt}{ps:List Str}(F:eJ K x qual st f fd)(hm:mg x=some (.ref f))(ok:eS P w K mg base (ja P w mg rn) k f fd ps (cF K rn mg sp))
  (h:∀ (kV doc pm:Value) (an:Option Addr) (cp ct:Value) (us:List Value),us.length=ps.length->bindArgs (PySem.W.fnOf x qual (gS st) (eI st) (bI st) .none kV doc pm an cp ct) ⟨us,[]⟩=pure (ps.zip us)):iN P w K mg base rn k x ps sp:=⟨f,fd,hm,F.kp,F.binds h,ok⟩
end
def Q8(K:PySem.W.Frag)(mg:Str->Option Value)(n:Str):Prop:=∃ C,mg n=some (.ref C)/\xi K C
def kQ(m:Md)(d:D)(Y:Str->Prop)(N:Prop):Prop:=match m,d with
 |.ow false,.str n=>Y n
 |_,_=>N
theorem xR{K:PySem.W.Frag}(r:RM K Hs H m d v As)(h:kQ m d Y N):N:=by
 unfold kQ at h
 split at h
 ·obtain⟨r,ne⟩:=r
  cases r
  exact absurd rfl ne
 ·exact h
section
variable {X:Cx}{K:PySem.W.Frag}{rn:List Str}{E:XK}{e:Expr}{es:List Expr}{te:WE}{t:WA}{pos:Pos}
def lR(n:Str)(te:WE):WS:=fun E ρ=>te ρ fun _ _=>E.rt (.ow false) (.str n)
theorem BL (hc:X.calm=true) (ok:uC X rn E) (hn:x∈rn) (hm:X.mg x=some (.ref C)) (xc:xi X.K C) (ha:PA X [e] ta) (hg:Gl X x) (gL:(x == ("__debug__" : Str))=false)
  (he:starEach [e] X.env=[(false,eval e X.env)]):PS X (.Raise (some (.Call (.Name x np) [e] [] dk)) none pos) (fun D σ H=>ta σ H fun vs H1=>vs.length<=sizeLine/\E (.ref C) none H1):=by
 intro pins s σ H D I h
 obtain⟨bm,N,nm,q,bs,hdct,sn,sub,ab,col,dd,k0,k1,k2,k3,k5,mN,hC,hN,Oz,T⟩:=xc.obj I.mod.KG
 refine wpAny_Raise_call_subT (C:=C) (nm:=nm) (q:=q) (N:=N) (bs:=bs) (bm:=bm) (hdct:=hdct) (sn:=sn) (sub:=sub) (ab:=ab) (col:=col) (dd:=dd) (k0:=k0) (k1:=k1) (k2:=k2) (k3:=k3) (k5:=k5)
  F.excBase_ValueError (mN:=mN) (T.hasType F.excBase_ValueError.hasBase) (I.ok.hd hc) (by rw[he];rfl) Oz (K2 I hg hm ⟨rfl,?_⟩ gL)
 have h2:=ha dk pins s σ H _ I h
 rw[he] at h2 ⊢
 exact Calls.evalArgs_plain (cK h2 fun vs s1 ⟨xs,H1,I1,r,hl,q⟩=>⟨rfl,by rw[<- r.length];exact hl,I1.bk _ _ hC,hN.keeps I1.bk,T.keeps I1.bk,fun h' e' hx=>ok pins σ H1 s1 h' e' x C vs I1 hx hn hm q⟩)
theorem jn (hc:X.calm=true) (ok:uC X rn E) (xc:Q8 K X.mg x) (hn:x∈rn) (he:QE X K e te) (hg:Gl X x:=by rfl) (gL:(x == ("__debug__" : Str))=false:=by decide) (hK:X.K=K:=by rfl)
  (hs:starEach [e] X.env=[(false,eval e X.env)]:=by rfl):QS X K (LX rn X.mg E) (.Raise (some (.Call (.Name x np) [e] [] dk)) none pos) (lR x te):=by
 subst hK
 obtain⟨C,hm,xc⟩:=xc
 refine PS.imp (BL hc ok hn hm xc (pT he uk hs) hg gL hs) fun D σ H hx=>iU hx fun Hs ρ ai E' sr h k1 k2 k3 k4 kx=>?_
 exact⟨Hs,ρ,ai,_,sr,h,fun v H1 ay m d As g1 r1 f1 q1=>⟨(by decide:1<=sizeLine),kx x H1 (g1.sh.trans g1.wf.sub) q1 hn C hm⟩⟩
section
variable {k:Nat}{x:Str}{ps:List Str}{sp:dQ}{p dk:Pos}
theorem tZ (C:iN X.prog X.w X.K X.mg X.base rn k x ps sp) (hr:gI k X.A) (hx:Passes (ja X.prog X.w X.mg rn) X E) (ha:PA X (e :: es) ta) (hg:Gl X x) (gL:(x == ("__debug__" : Str))=false) (he:starEach (e :: es) X.env=(false,eval e X.env) :: starEach es X.env)
  (ic:(backTo pos (starEach es X.env)).any (·.1)=false):PE X (.Call (.Name x p) (e :: es) [] pos) (DZ (cF X.K rn X.mg sp) [] E ta):=by
 obtain⟨g,fd,hm,hk,hb,F⟩:=C.ex
 exact WV F hr hg hm hk hb .nil hx ha gL he ic
theorem kh{σ:St}{H:Hp}{Qv:VK}{Hs:Hp}{ρ:Env}{ai:List Addr}{Y:Str->Prop}{Q:Md->D->Prop}(sr:dE K Hs ρ σ H ai)(h:t ρ fun ps=>sp (ps.map (·.2)) fun m d=>kQ m d Y (bT (m,d) (f:=fun p=>Q (qo p.1 p.2) p.2) ⟨⟩))
  (f:∀ v H' aw m d As,eA Hs H aw H'->RM K aw H' m d v As->cT aw H As->Q m d->Qv v H') (fx:∀ n H',aI Hs H'->Y n->LX rn X.mg E n H'):DZ (cF K rn X.mg sp) [] E (Qx K t) σ H Qv:=by
 refine⟨Hs,ρ,ai,_,sr,h,fun vs H1 ay ps As g1 r1 f1 q1=>?_⟩
 refine⟨_,_,by rw[kF];exact r1.reps g1.wf,q1,fun v H' aw m d As s w r nd own q=>?_,fun n H' s q=>fx n H' (g1.sh.trans (g1.wf.sub.trans s)) q⟩
 obtain⟨gv,r',fr⟩:=pF g1.wf s w r nd own
 exact Fin.after f g1 v H' _ (qo m d) d gv (fY g1.wf s w) r' fr (xR r q)
def mC(sp:dQ)(t:WA):WS:=fun E ρ=>t ρ fun ps=>sp (ps.map (·.2)) fun m d=>kQ m d (fun n=>E.rt (.ow false) (.str n)) (bT (m,d) (f:=fun _=>E.nx ρ) ⟨⟩)
def xx(sp:dQ)(t:WA):WS:=fun E ρ=>t ρ fun ps=>sp (ps.map (·.2)) fun m d=>kQ m d (fun n=>E.rt (.ow false) (.str n)) (bT (m,d) (f:=fun p=>E.rt (qo p.1 p.2) p.2) ⟨⟩)
def Es(i:Nat)(sp:dQ)(t:WA):WS:=fun E ρ=>t ρ fun ps=>sp (ps.map (·.2)) fun m d=>kQ m d (fun n=>E.rt (.ow false) (.str n)) (bT (m,d) (f:=fun p=>match asg (qo p.1 p.2) p.2 with
 |some sl=>E.nx (ρ.set i (some sl))
 |none=>False) ⟨⟩)
variable (C:iN X.prog X.w X.K X.mg X.base rn k x ps sp)(hr:gI k X.A)
include C hr
variable (hx:Passes (ja X.prog X.w X.mg rn) X E)
include hx
theorem jK (ha:QA X K (e :: es) t) (hs:swapsWith (.Call (.Name x p) (e :: es) [] dk) none pos.line X.env=pure false:=by rfl) (hK:X.K=K:=by rfl) (hg:Gl X x:=by rfl) (gL:(x == ("__debug__" : Str))=false:=by decide) (he:starEach (e :: es) X.env=(false,eval e X.env) :: starEach es X.env:=by rfl)
  (ic:(backTo dk (starEach es X.env)).any (·.1)=false:=by rfl):QS X K (LX rn X.mg E) (.Expr (.Call (.Name x p) (e :: es) [] dk) pos) (mC sp t):=by
 subst hK
 exact PS.imp (PF (tZ C hr hx ha hg gL he ic) hs) fun D σ H hx=>iU hx fun Hs ρ ai E' sr h k1 k2 k3 k4 kx=>kh (Q:=fun _ _=>E'.nx ρ) sr h (fun v H1 ay m d As g1 r1 f1 q1=>k1 σ H1 ay ρ ai g1.sh (sr.grow g1) q1) kx
theorem pQ (ha:QA X K (e :: es) t) (hK:X.K=K:=by rfl) (hg:Gl X x:=by rfl) (gL:(x == ("__debug__" : Str))=false:=by decide) (he:starEach (e :: es) X.env=(false,eval e X.env) :: starEach es X.env:=by rfl)
  (ic:(backTo dk (starEach es X.env)).any (·.1)=false:=by rfl):QS X K (LX rn X.mg E) (.Return (some (.Call (.Name x p) (e :: es) [] dk)) pos) (xx sp t):=by
 subst hK
 exact PS.imp (PH (tZ C hr hx ha hg gL he ic)) fun D σ H hx=>iU hx fun Hs ρ ai E' sr h k1 k2 k3 k4 kx=>kh (Q:=E'.rt) sr h (fun v H1 ay m d As g1 r1 f1 q1=>k4 v H1 ay m d As g1.sh g1.wf r1 f1.1 (fun a ha=>(f1.2 a ha).1) q1) kx
theorem FN(hN:X.N.Nodup)(hi:X.N[i]? = some y)(hy:Loc X.env.scope y)(ha:QA X K (e :: es) t)(hs:swapsWith (.Call (.Name x p) (e :: es) [] dk) (some (.Name y pos')) pos.line X.env=pure false:=by rfl)
  (hf:X.fn y=true\/X.env.scope.names.lookup y=some .local:=by first|exact .inl rfl|exact .inr rfl|assumption) (hK:X.K=K:=by rfl) (hg:Gl X x:=by rfl) (gL:(x == ("__debug__" : Str))=false:=by decide) (he:starEach (e :: es) X.env=(false,eval e X.env) :: starEach es X.env:=by rfl)
  (ic:(backTo dk (starEach es X.env)).any (·.1)=false:=by rfl):QS X K (LX rn X.mg E) (.Assign [.Name y pos'] (.Call (.Name x p) (e :: es) [] dk) pos) (Es i sp t):=by
 subst hK
 refine PS.imp (R_ hN hi hy (tZ C hr hx ha hg gL he ic) hs hf) fun D σ H hx=>iU hx fun Hs ρ ai E' sr h k1 k2 k3 k4 kx=>kh (Q:=fun m d=>match asg m d with
  |some sl=>E'.nx (ρ.set i (some sl))
  |none=>False) sr h (fun v H1 ay m d As g1 r1 f1 q1=>?_) kx
 cases e:asg m d with
 |none=>rw[e] at q1;exact q1.elim
 |some sl =>
  rw[e] at q1
  obtain⟨cv,s'⟩:=(sr.grow g1).set i r1 f1.1 (fun a ha=>⟨(f1.2 a ha).1,fun m=>(sr.sr.own a m).ne (f1.2 a ha).2⟩) e
  exact k1 _ H1 ay _ cv g1.sh s' q1
end
end
abbrev jG(X:Cx)(pn:List (Addr × Obj))(xe:Value->Shared->Prop):Cx:={ X with pn:=pn,xe:=xe }
abbrev AY(X:Cx)(pn:List (Addr × Obj))(a:Addr):Cx:={ X with A:=X.A.mark (some (.ref a)),calm:=false,pn:=pn,xe:=fun _ _=>False }
abbrev Iz(X:Cx)(H:Hp)(s:Shared)(p:Addr × Obj):Prop:=s.heap.get? p.1=some p.2/\H p.1=none/\p.1≠X.env.locals/\p.1∉X.fs/\∀ v,p.2.data≠.cell v
section
variable {X:Cx}{pins nc pn:List (Addr × Obj)}{σ:St}{H:Hp}{s:Shared}{xe:Value->Shared->Prop}{a:Addr}
theorem Inv.jG(I:Inv X pins σ H s)(h:∀ p∈pn++nc,Iz X H s p):Inv (jG X pn xe) nc σ H s :=
 ⟨⟨I.ok.mod,I.ok.kind,I.ok.glob,I.ok.blt,I.ok.above,I.ok.inj,I.ok.has,I.ok.xD,I.ok.hd,I.ok.frames,I.ok.z5,I.ok.An,I.ok.bs,I.ok.sQ,I.ok.xE,I.ok.xI,I.ok.pE,I.ok.vT⟩,I.os,I.bare,I.base,I.loc,I.cell,I.free,I.pS,h,I.bp,I.len⟩
theorem Inv.oJ(I:Inv (L2.Q.jG X pn xe) nc σ H s)(h:∀ p∈X.pn++pins,p∈pn++nc):Inv X pins σ H s :=
 ⟨⟨I.ok.mod,I.ok.kind,I.ok.glob,I.ok.blt,I.ok.above,I.ok.inj,I.ok.has,I.ok.xD,I.ok.hd,I.ok.frames,I.ok.z5,I.ok.An,I.ok.bs,I.ok.sQ,I.ok.xE,I.ok.xI,I.ok.pE,I.ok.vT⟩,I.os,I.bare,I.base,I.loc,I.cell,I.free,I.pS,fun p hp=>I.pin p (h p hp),I.bp,I.len⟩
theorem Inv.AY(I:Inv (L2.Q.jG X pn xe) nc σ H s)(h:∀ p∈pn2++fH',Iz X H s p):Inv (L2.Q.AY X pn2 a) fH' σ H s :=
 ⟨⟨I.ok.mod,I.ok.kind,I.ok.glob,I.ok.blt,I.ok.above,I.ok.inj,I.ok.has,I.ok.xD,(fun z=>nomatch z),I.ok.frames,I.ok.z5,I.ok.An,I.ok.bs,I.ok.sQ,I.ok.xE,I.ok.xI,I.ok.pE,I.ok.vT⟩,I.os,I.bare,I.base,I.loc,I.cell,I.free,I.pS,h,I.bp,I.len⟩
theorem Inv.J0(I:Inv (L2.Q.jG X pn xe) pins σ H s):Inv (L2.Q.jG X pn xe2) pins σ H s :=
 ⟨⟨I.ok.mod,I.ok.kind,I.ok.glob,I.ok.blt,I.ok.above,I.ok.inj,I.ok.has,I.ok.xD,I.ok.hd,I.ok.frames,I.ok.z5,I.ok.An,I.ok.bs,I.ok.sQ,I.ok.xE,I.ok.xI,I.ok.pE,I.ok.vT⟩,I.os,I.bare,I.base,I.loc,I.cell,I.free,I.pS,I.pin,I.bp,I.len⟩
theorem Inv.DN(I:Inv (L2.Q.AY X pn a) nc σ H s)(hd:X.calm=true->X.A.handled=none)(h:∀ p∈X.pn++pins,p∈pn++nc):Inv X pins σ H s :=
 ⟨⟨I.ok.mod,I.ok.kind,I.ok.glob,I.ok.blt,I.ok.above,I.ok.inj,I.ok.has,I.ok.xD,hd,I.ok.frames,I.ok.z5,I.ok.An,I.ok.bs,I.ok.sQ,I.ok.xE,I.ok.xI,I.ok.pE,I.ok.vT⟩,I.os,I.bare,I.base,I.loc,I.cell,I.free,I.pS,fun p hp=>I.pin p (h p hp),I.bp,I.len⟩
theorem SP.oJ{D:Ends}(h:SP (L2.Q.jG X pn xe) nc D f s)(hp:∀ p∈X.pn++pins,p∈pn++nc):SP X pins D f s:=by
 cases f with
 |next=>obtain⟨bE,H',I,q⟩:=h;exact⟨bE,H',Inv.oJ I hp,q⟩
 |brk=>obtain⟨bE,H',I,q⟩:=h;exact⟨bE,H',Inv.oJ I hp,q⟩
 |cont=>obtain⟨bE,H',I,q⟩:=h;exact⟨bE,H',Inv.oJ I hp,q⟩
 |ret u=>obtain⟨v,bE,H',I,r,q⟩:=h;exact⟨v,bE,H',Inv.oJ I hp,r,q⟩
end
theorem xk.next{P:Program}{B:Heap}(c:xk B fs H' h₀ h)(m:gm fs H' h₀ h h')(bp:fT P w H' h)(th:∀ b o,h₀.get? b=some o->∃ o',h.get? b=some o'):xk B fs H' h₀ h':=fun b o e k nb=>by
 have ho:∃ o',h.get? b=some o':=by
  rcases k with k|k
  ·cases z:H' b with
   |none=>exact absurd z k
   |some u=>exact fA.there (bp b u z)
  ·obtain⟨o0,e0⟩:=Option.ne_none_iff_exists'.mp k
   exact th b o0 e0
 obtain⟨o',e'⟩:=ho
 have e2:=m.keep b o' e' k nb
 rw[e] at e2;cases e2
 exact c b o e' k nb
structure HW(K:PySem.W.Frag)(mg:Str->Option Value)(rn:List Str)(R:Str):Prop where
 ex:∃ r,mg R=some (.ref r)/\xi K r/\∀ n C,n∈rn->mg n=some (.ref C)->xi K C/\mroIn K C (.ref r)=some true
end L2.Q
namespace L2.Q
open PySem PySem.Spec PyProof.Rows
end L2.Q
namespace L2.Q.R
open PySem PySem.Spec PyProof.Rows L2.Q
section
variable {E:nJ}{ρ:Env}{Q:Md->L2.Q.D->Prop}{te:WE}{tar:WA}{i:Nat}{b:Bool}{sp:dQ}{n:Str}{d:L2.Q.D}{Y:Str->Prop}{N:Prop}
theorem Jt:lR n te E ρ=te ρ fun _ _=>E.rt (.ow false) (.str n):=rfl
theorem Jp:mC sp tar E ρ=tar ρ fun ps=>sp (ps.map (·.2)) fun m d=>kQ m d (fun n=>E.rt (.ow false) (.str n)) (bT (m,d) (f:=fun _=>E.nx ρ) ⟨⟩):=rfl
theorem Lz:xx sp tar E ρ=tar ρ fun ps=>sp (ps.map (·.2)) fun m d=>kQ m d (fun n=>E.rt (.ow false) (.str n)) (bT (m,d) (f:=fun p=>E.rt (qo p.1 p.2) p.2) ⟨⟩):=rfl
theorem Ky:Es i sp tar E ρ=tar ρ fun ps=>sp (ps.map (·.2)) fun m d=>kQ m d (fun n=>E.rt (.ow false) (.str n)) (bT (m,d) (f:=fun p=>bT (asg (qo p.1 p.2) p.2) (f:=fun o=>put o fun sl=>E.nx (ρ.set i (some sl))) ⟨⟩) ⟨⟩):=rfl
theorem MF:kQ (.ow false) (.str n) Y N=Y n:=rfl
theorem Ml:kQ .sh d Y N=N:=rfl
theorem Lw:kQ .bo d Y N=N:=rfl
theorem L_:kQ (.ow true) d Y N=N:=rfl
theorem MJ:kQ (.ow b) (.list xs) Y N=N:=by cases b<;>rfl
theorem NQ:kQ (.ow b) (.tup xs) Y N=N:=by cases b<;>rfl
theorem Mw:kQ (.ow b) (.dK xs) Y N=N:=by cases b<;>rfl
theorem Oh:kQ (.ow b) (.dT xs) Y N=N:=by cases b<;>rfl
end
end L2.Q.R
namespace L2.Q
open PySem PySem.Spec PyProof.Rows
def OB(m:Md)(d:D)(S:D->D->Prop)(O:D->D->Prop):Prop:=match m,d with
 |.sh,.tup [a,b]=>S a b
 |.ow true,.tup [a,b]=>a.flat=false/\b.flat=false/\O a b
 |_,_=>False
def Fz(i j:Nat)(te:WE):WS:=fun E ρ=>te ρ fun m d=>OB m d (fun a b=>E.nx ((ρ.set i (some (.sh a))).set j (some (.sh b)))) fun a b=>E.nx ((ρ.set i (some (.ow true a))).set j (some (.ow true b)))
theorem Gi{X:Cx}{K:PySem.W.Frag}(hc:X.calm=true)(hN:X.N.Nodup)(hi:X.N[i]? = some x)(hx:Loc X.env.scope x)(hj:X.N[j]? = some y)(hy:Loc X.env.scope y)(he:QE X K e te)(hK:X.K=K:=by rfl)
  (hf:X.fn x=true\/X.env.scope.names.lookup x=some .local:=by first|exact .inl rfl|exact .inr rfl|assumption) (hf2:X.fn y=true\/X.env.scope.names.lookup y=some .local:=by first|exact .inl rfl|exact .inr rfl|assumption)
  (hn:(assignEach [.Name x p1,.Name y p2] X.env).length=2:=by rfl) (md:(assignEach [.Name x p1,.Name y p2] X.env).findIdx? (·.1)=none:=by rfl)
  (hs:swapsWithSole [.Tuple [.Name x p1,.Name y p2] k p3] e pos.line X.env=pure false:=by rfl) (hw:swappedStores [.Tuple [.Name x p1,.Name y p2] k p3] e X.env=pure none:=by rfl)
  (h1:(assignEach [.Tuple [.Name x p1,.Name y p2] k p3] X.env).map (·.2)=[assign (.Tuple [.Name x p1,.Name y p2] k p3) X.env]:=by rfl) (h2:(assignEach [.Name x p1,.Name y p2] X.env).map (·.2)=assign (.Name x p1) X.env :: (assignEach [.Name y p2] X.env).map (·.2):=by rfl)
  (h3:(assignEach [.Name y p2] X.env).map (·.2)=assign (.Name y p2) X.env :: (assignEach [] X.env).map (·.2):=by rfl) :
  QS X K L (.Assign [.Tuple [.Name x p1,.Name y p2] k p3] e pos) (Fz i j te):=by
 subst hK
 refine PS.imp (aM' he (Wu hc (R8 (R7 hN hi hx hf) (R8 (R7 hN hj hy hf2) Wt h3) h2) hn md) hs hw h1) fun D σ H hx=>g8 hx fun Hs ρ ai E sr h k1 k2 k3 k4=>?_
 refine⟨Hs,ρ,ai,_,sr,h,fun v H1 ay m d As g1 r1 f1 q1=>?_⟩
 have Q9:=sr.grow g1
 unfold OB at q1
 split at q1
 ·rename_i a b
  obtain⟨_,r⟩:=r1
  cases r with
  |tup z e rs =>
   cases rs with
   |cons ra rs=>cases rs with
    |cons rb rs=>cases rs with
     |nil =>
      obtain⟨t1,m1,s1⟩:=Q9.Fo i ra
      obtain⟨t2,m2,s2⟩:=s1.Fo j rb
      exact⟨_,_,rfl,.inl (.inl (g1.wf.sub _ _ e)),rfl,_,_,rfl,_,_,rfl,rfl,k1 _ H1 ay _ t2 g1.sh s2 q1⟩
 ·rename_i a b
  obtain⟨fa,fb,q1⟩:=q1
  obtain⟨r,ne⟩:=r1
  cases r with
  |sh _ _=>exact absurd rfl ne
  |tup z e n rs =>
   cases rs with
   |@cons _ v1 _ _ A1 _ ra rs=>cases rs with
    |@cons _ v2 _ _ A2 _ rb rs=>cases rs with
     |nil =>
      obtain⟨nd,fr⟩:=f1
      rw[kF] at nd fr
      obtain⟨n1,n2,n3⟩:=iO.mp nd
      have dj:∀ c∈A1++A2,c∉ai:=fun c hc z=>(sr.sr.own c z).ne (fr c hc).2
      obtain⟨t1,a1,b1,c1⟩:=SR.zA (ra.ne fa) ra n1 i Q9.sr Q9.vk fun c hc=>dj c (ki _ hc)
      obtain⟨t2,a2,b2,c2⟩:=SR.zA (rb.ne fb) rb n2 j c1 a1 fun c hc z=>by
       rcases b1 c z with w|w
       ·exact dj c (fE _ hc) w
       ·exact n3 c w c hc rfl
      refine⟨_,_,rfl,.inl (.inl (g1.wf.sub _ _ e)),rfl,_,_,rfl,_,_,rfl,rfl,k1 _ H1 ay _ t2 g1.sh ⟨c2,g1.wf,a2,fun c hc=>?_⟩ q1⟩
      rcases b2 c hc with w|w
      ·rcases b1 c w with w|w
       ·exact Q9.own c w
       ·exact(fr c (ki _ w)).1
      ·exact(fr c (fE _ w)).1
 ·exact q1.elim
end L2.Q
namespace L2.Q.R
open PySem PySem.Spec PyProof.Rows L2.Q
section
variable {E:nJ}{ρ:Env}{te:WE}{i j:Nat}{x y:L2.Q.D}{S O:L2.Q.D->L2.Q.D->Prop}
theorem Ls:Fz i j te E ρ=te ρ fun m d=>bT (m,d) (f:=fun p=>OB p.1 p.2 (fun a b=>E.nx ((ρ.set i (some (.sh a))).set j (some (.sh b)))) fun a b=>E.nx ((ρ.set i (some (.ow true a))).set j (some (.ow true b)))) ⟨⟩:=rfl
theorem J3:OB .sh (.tup [x,y]) S O=S x y:=rfl
theorem JM:OB (.ow true) (.tup [x,y]) S O=(x.flat=false/\y.flat=false/\O x y):=rfl
end
end L2.Q.R
namespace L2
open PySem PySem.Spec PyProof.Rows Builtin Builtin.Str Builtin.Int
end L2
namespace L2.Q
open PySem PySem.Spec PyProof.Rows
section
def owl(o:Option (Option Sl))(k:List D->Prop):Prop:=match o with
 |some (some (.ow true (.list xs)))=>k xs
 |_=>False
def intD(y:D)(k:Int->Prop):Prop:=match y with
 |.int i=>k i
 |_=>False
def fK'(d:D):Md:=bif d.flat then .sh else .ow true
end
end L2.Q
namespace L2.Q.R
open PySem PySem.Spec PyProof.Rows L2.Q
section
variable {ys:List L2.Q.D}
theorem LC:owl (some (some (.ow true (.list ys)))) k=k ys:=rfl
theorem K9:intD (.int i) k=k i:=rfl
end
end L2.Q.R
namespace L2
open PySem PySem.Spec PyProof.Rows
end L2
namespace L2.Q
open PySem PySem.Spec PyProof.Rows
section
variable {X:Cx}{K:PySem.W.Frag}{a b c:Expr}{ta tb tc:WE}{apos dk:Pos}
def Q_(x:D)(f:List (Key × D)->Prop)(g:List (List Key × D)->Prop):Prop:=match x with
 |.dK ae=>f ae
 |.dT ae=>g ae
 |_=>False
def Ub(y:D)(k:List D->Prop):Prop:=match y with
 |.tup ys=>k ys
 |_=>False
def EX(o:Option D)(m n:Md)(z:D)(Q:Md->D->Prop):Prop:=match o with
 |some d=>Q (kL m d) d
 |none=>Q n z
def Ra(ta tb tc:WE):WE:=fun ρ Q=>ta ρ fun m x=>Q_ x (fun ae=>tb ρ fun _ y=>tc ρ fun n z=>∃ k,y.key1=some k/\EX (fq ae k) m n z Q)
 (fun ae=>tb ρ fun _ y=>tc ρ fun n z=>Ub y fun ys=>∃ ks,gC ys=some ks/\EX (fq ae ks) m n z Q)
theorem Ar(hx:mB K (Ra ta tb tc) σ H Qv):Xr (mB K ta) (mB K tb) (mB K tc) σ H Qv:=kC hx fun Hs ρ ai Q sr h fin=>by
 refine⟨Hs,ρ,ai,_,sr,h,fun v H1 ay m x As g1 r1 f1 q1=>?_⟩
 have got:∀ {o:Option V} {d? : Option D} {H2 H3 aE fh:Hp} {w:V} {n:Md} {z:D} {Cs:List Addr},eA ay H1 aE H2->eA aE H2 fh H3->RM K fh H3 n z w Cs->cT fh H2 Cs->(match d? with
   |some d=>∃ v,o=some v/\Rep K H3 d v/\(m=.sh->Rep K fh d v)
   |none=>o=none)->EX d? m n z Q->Qv (o.getD w) H3:=by
  intro o d? H2 H3 aE fh w n z Cs g2 g3 r3 f3 l q
  cases d? with
  |none=>rw[show o=none from l];exact fin w H3 fh n z Cs ((g1.trans g2).trans g3) r3 (f3.of (g1.trans g2).all) q
  |some d =>
   obtain⟨v',e,u1,u2⟩:=l
   rw[e]
   exact(Fin.after fin ((g1.trans g2).trans g3)).kL g3.wf u1 u2 q
 have core:∀ G:Hp,aI G H1->(∀ H3 fh,eA ay H1 fh H3->∀ d v,Rep K G d v->Rep K H3 d v/\(m=.sh->Rep K fh d v))->Rep K G x v->∃ a,v=.ref a/\Qb H1 a/\mB K tb σ H1 fun y H2=>mB K tc σ H2 fun z H3=>∃ o,kA H3 a y o/\Qv (o.getD z) H3:=by
  intro G sg up r
  cases r with
  |dK kk s q =>
   refine⟨_,rfl,.inl ⟨_,aI.rd sg s⟩,ay,ρ,ai,_,sr.grow g1,q1,fun u H2 aE n y Bs g2 r2 f2 q2=>⟨aE,ρ,ai,_,(sr.grow g1).grow g2,q2,fun w H3 fh n3 z Cs g3 r3 f3 q3=>?_⟩⟩
   have ry:=(r2.grow g3).rep g3.wf
   obtain⟨k,hk,q4⟩:=q3
   have ev:=ry.key hk
   subst ev
   refine⟨_,kA.k' (aI.rd (g2.trans g3).all (aI.rd sg s)),got g2 g3 r3 f3 ?_ q4⟩
   have z:=zip_get (k:=k) q
   split
   ·rename_i d e
    rw[e] at z
    obtain⟨v',e',r'⟩:=z
    exact⟨v',e',up _ _ (g2.trans g3) _ _ r'⟩
   ·rename_i e
    rw[e] at z
    exact z
  |dT kk s q =>
   refine⟨_,rfl,.inr ⟨_,aI.rd sg s⟩,ay,ρ,ai,_,sr.grow g1,q1,fun u H2 aE n y Bs g2 r2 f2 q2=>⟨aE,ρ,ai,_,(sr.grow g1).grow g2,q2,fun w H3 fh n3 z Cs g3 r3 f3 q3=>?_⟩⟩
   have ry:=(r2.grow g3).rep g3.wf
   cases ry with
   |tup t2 e2 p2 =>
    obtain⟨k,hk,q4⟩:=q3
    obtain⟨b',eb,e3⟩:=Rep.i5 (.tup t2 e2 p2) hk
    cases eb
    refine⟨_,kA.t' (aI.rd (g2.trans g3).all (aI.rd sg s)) e3,got g2 g3 r3 f3 ?_ q4⟩
    have z:=zip_get (k:=k) q
    split
    ·rename_i d e
     rw[e] at z
     obtain⟨v',e',r'⟩:=z
     exact⟨v',e',up _ _ (g2.trans g3) _ _ r'⟩
    ·rename_i e
     rw[e] at z
     exact z
   |_=>exact q3.elim
  |_=>exact q1.elim
 rcases r1.here g1.wf with⟨hm,r⟩|⟨hm,r⟩
 ·exact core ay g1.wf.sub (fun H3 fh g d v q=>⟨q.same (g1.wf.sub.trans g.all),fun _=>q.same g.sh⟩) r
 ·exact core H1 (aI.refl H1) (fun H3 fh g d v q=>⟨q.same g.all,fun z=>absurd z hm⟩) r
theorem JB (hu:X.A.units+64<cLine) (ha:QE X K a ta) (hb:QE X K b tb) (hc:QE X K c tc) (hm:M2 X a "get" apos b c dk:=by exact⟨rfl,rfl,rfl,rfl⟩):QE X K (.Call (.Attribute a "get" apos) [b,c] [] dk) (Ra ta tb tc) :=
 PE.imp (cK' (by lia) ha hb hc hm) fun σ H Qv hx=>Ar hx
def fL'(o:Option (Option Sl))(k:List (List Key × D)->Prop):Prop:=match o with
 |some (some (.ow true (.dT ae)))=>k ae
 |_=>False
theorem fV{κ β:Type}[DecidableEq κ](p:κ × β)(r:List (κ × β))(k:κ):fq (p :: r) k=if p.1=k then some p.2 else fq r k:=by
 by_cases h:p.1=k<;>simp[fq,h]
end
end L2.Q
namespace L2
open PySem PySem.Spec PyProof.Rows
end L2
namespace L2.Q
open PySem PySem.Spec PyProof.Rows
section
variable {K:PySem.W.Frag}{a b c:Expr}
def Uc(d:D)(k:List (Key × D)->Prop):Prop:=match d with
 |.dK ae=>k ae
 |_=>False
theorem SR.take(i:Nat)(s:SR K Hs H ρ σ ai):ρ[i]? = some (some (.ow fl d))->ai.Nodup ->
  ∃ (v:V) (As cv:List Addr),σ[i]? = some (some v)/\bX K Hs H fl d v As/\As.Sublist ai/\cv.Sublist ai/\(∀ a∈As,a∉cv)/\SR K Hs H (ρ.set i none) σ cv:=by
 induction s generalizing i with
 |nil=>intro e;simp at e
 |non q ih =>
  intro e n
  cases i with
  |zero=>simp at e
  |succ i =>
   obtain⟨v,As,t,o,a,b,c,d,f⟩:=ih i e n
   exact⟨v,As,t,o,a,b,c,d,.non f⟩
 |sh r q ih =>
  intro e n
  cases i with
  |zero=>simp at e
  |succ i =>
   obtain⟨v,As,t,o,a,b,c,d,f⟩:=ih i e n
   exact⟨v,As,t,o,a,b,c,d,.sh r f⟩
 |xc q ih =>
  intro e n
  cases i with
  |zero=>simp at e
  |succ i =>
   obtain⟨v,As,t,o,a,b,c,d,f⟩:=ih i e n
   exact⟨v,As,t,o,a,b,c,d,.xc f⟩
 |ow ne r q ih =>
  intro e n
  obtain⟨n1,n2,n3⟩:=iO.mp n
  cases i with
  |zero =>
   simp at e
   obtain⟨rfl,rfl⟩:=e
   exact⟨_,_,_,rfl,r,E6 _ _,pf _ _,fun a h m=>n3 a h a m rfl,.non q⟩
  |succ i =>
   obtain⟨v,As,t,o,a,b,c,d,f⟩:=ih i e n2
   exact⟨v,As,_,o,a,b.trans (pf _ _),c.append_left _,pY n b d,.ow ne r f⟩
 |lk ne r q ih =>
  intro e n
  obtain⟨n1,n2,n3⟩:=iO.mp n
  cases i with
  |zero=>simp at e
  |succ i =>
   obtain⟨v,As,t,o,a,b,c,d,f⟩:=ih i e n2
   exact⟨v,As,_,o,a,b.trans (pf _ _),c.append_left _,pY n b d,.lk ne r f⟩
end
end L2.Q
namespace L2.Q.R
open PySem PySem.Spec PyProof.Rows L2.Q
section
variable {ρ:Env}{te tb tc:WE}{m:Md}{x y:L2.Q.D}{ys:List L2.Q.D}{Q:Md->L2.Q.D->Prop}{k:Nat}
theorem MT{ae:List (Key × L2.Q.D)}{k:List (Key × L2.Q.D)->Prop}:Uc (.dK ae) k=k ae:=rfl
theorem Ny:Ra te tb tc ρ Q=te ρ fun m x=>bT x (f:=fun x=>Q_ x (fun ae=>tb ρ fun _ y=>tc ρ fun n z=>∃ k,y.key1=some k/\EX (fq ae k) m n z Q)
 (fun ae=>tb ρ fun _ y=>tc ρ fun n z=>bT y (f:=fun y=>Ub y fun ys=>∃ ks,gC ys=some ks/\EX (fq ae ks) m n z Q) ⟨⟩)) ⟨⟩:=rfl
theorem Ol:Q_ (.dK ae) f g=f ae:=rfl
theorem Ng:Q_ (.dT ae) f g=g ae:=rfl
theorem Oo{k:List L2.Q.D->Prop}:Ub (.tup ys) k=k ys:=rfl
theorem Nq{ae:List (List Key × L2.Q.D)}{k:List (List Key × L2.Q.D)->Prop}:fL' (some (some (.ow true (.dT ae)))) k=k ae:=rfl
end
end L2.Q.R
namespace L2
open PySem PySem.Spec PyProof.Rows
section
def iF'{α:Type}(xs:List α)(k:Nat)(y:α):List α:=xs.take k++y :: xs.drop k
end
end L2
namespace L2.Q
open PySem PySem.Spec PyProof.Rows
section
variable {X:Cx}{K:PySem.W.Frag}{L:Str->Hp->Prop}{e e2 e3:Expr}{p:WP}{te:WE}{apos dk pos:Pos}
theorem Ck:bootBuiltins "int" = some (.type "int"):=by decide +kernel
def OD(p:WP)(te:WE):WS:=fun E ρ=>p ρ fun fl d up=>match d with
 |.list xs=>te ρ fun m y=>m=.ow true/\match y with
  |.list ys=>de ys=true/\xs.length+ys.length<=sizeLine/\E.nx (up fl (.list (xs++ys)))
  |_=>False
 |_=>False
theorem yO (ho:QP X K e p) (he:QE X K e2 te) (hK:X.K=K:=by rfl) (hs:swapsWith (.Call (.Attribute e "extend" apos) [e2] [] dk) none pos.line X.env=pure false:=by rfl)
  (D2:attributeBase e "extend" X.env (eval e X.env)=eval e X.env:=by rfl)
  (wm:((backTo dk (starEach [e2] X.env)).all (fun x=>!x.1) && (backToKw dk (keywordEach [] X.env)).all (fun x=>x.1.isSome)
   && decide ([e2].length+([]:List Keyword).length+(if ([]:List Keyword).isEmpty then 0 else 1)<30))=true:=by rfl)
  (hline:(apos.endLine == dk.line)=true:=by rfl) (B9:starEach (e2 :: []) X.env=(false,eval e2 X.env) :: starEach [] X.env:=by rfl) (D3:(backTo dk (starEach [] X.env)).any (·.1)=false:=by rfl) :
  QS X K L (.Expr (.Call (.Attribute e "extend" apos) [e2] [] dk) pos) (OD p te):=by
 subst hK
 refine PS.imp (PF (Sy PySem.F.plainAttrs_list PySem.F.slot_list_extend PySem.F.type_list_extend cu' ho (pT he uk B9) D2 wm hline B9 D3) hs) fun D σ H hx=>g8 hx fun Hs ρ ai E sr h k1 k2 k3 k4=>?_
 refine⟨Hs,ρ,ai,_,sr,h,fun v H1 ay fl d up g1 p1 q1=>?_⟩
 cases d with
 |list xs =>
  obtain⟨a1,vs1,e1,s1⟩:=p1.YL g1.wf
  refine⟨by subst e1;exact .inl ⟨rfl,_,s1⟩,ay,ρ,ai,_,sr.grow g1,q1,fun y H2 aE m x As g2 r2 f2 q2=>?_⟩
  obtain⟨rfl,q2⟩:=q2
  obtain⟨a,vs,A,ea,e2,e21,rs,nd,hn,k⟩:=p1.put g2
  obtain⟨r,ne⟩:=r2
  cases r with
  |sh _ _=>exact absurd rfl ne
  |list hz e3 QR =>
   obtain⟨fy,hl,q2⟩:=q2
   obtain⟨nA,TQ⟩:=ox.mp nd
   have l1:=rs.length
   have l2:=QR.length
   refine⟨a,_,vs,_,ea,rfl,e2,e3,by lia,?_⟩
   obtain⟨eB,kX⟩:=k fl (xs++_) (vs++_) (A++[]) id (rs.append (aT.owned ((QR.reps g2.wf.sub fun _ _=>rfl).lz g2.wf.iP fy) fy)) (by rw[js];lia) (by simpa using TQ) (by simpa using nA) (fun x hx=>.inl (by simpa using hx))
   exact k1 _ _ aE _ eB (g1.sh.trans g2.sh) kX q2
  |_=>exact q2.elim
 |_=>exact q1.elim
end
end L2.Q
namespace L2.Q.R
open PySem PySem.Spec PyProof.Rows L2.Q
section
variable {ρ:Env}{E:nJ}{te:WE}{m:Md}{Q:Md->L2.Q.D->Prop}{p:WP}{xs ys:List L2.Q.D}{k:List L2.Q.D->Prop}
def Ud(d:L2.Q.D)(k:List L2.Q.D->Prop):Prop:=match d with
 |.list xs=>k xs
 |_=>False
theorem Od:Ud (.list xs) k=k xs:=rfl
theorem Nr:OD p te E ρ=p ρ fun fl d up=>bT d (f:=fun d=>Ud d fun xs=>te ρ fun m y=>m=.ow true/\bT y (f:=fun y=>Ud y fun ys=>de ys=true/\xs.length+ys.length<=sizeLine/\E.nx (up fl (.list (xs++ys)))) ⟨⟩) ⟨⟩:=rfl
theorem Ly:EX (some d) m n z Q=Q (kL m d) d:=rfl
theorem Lb:EX none m n z Q=Q n z:=rfl
end
end L2.Q.R
namespace L2
open PySem PySem.Spec PyProof.Rows
section
variable {X:Cx}{pins:List (Addr × Obj)}{σ:St}{H:Hp}{s:Shared}{a:Addr}{A:Around}{E:Value->Shared->Prop}
theorem yI(I:Inv X pins σ H s)(e:H a=some (.dK ae))(ry:RelV (kV k) u)(hl:ae.length<sizeLine)(rv:RelV v r)
  (h1:∀ v' w' s',ky ae k=some v'->Inv X pins σ H s'->RelV v' w'->Q w' s') (h2:ky ae k=none->∀ s',Inv X pins σ (upd H a (.dK (putK ae k v))) s'->Q r s') :
  wpAny (model X.prog X.w) A (call (.builtin "dict.setdefault") [.ref a,u,r]) Q E s:=by
 obtain⟨z,hd,vs,rel,dd⟩:=Xo I.bp e
 have hz:vs.length<=sizeLine:=by rw[<- rel.length];exact z
 have hp:(putK ae k v).length<=sizeLine:=by have:=SD ae k v;lia
 have vl:=rel.val k
 refine call_meetsIn PySem.F.slot_dict_setdefault dd.typeIs PySem.F.entry_dict_setdefault (PySem.F.args_dict_setdefault_3 _ _ _) (kt_meets_setdefault (jv X.prog X.w) a (D4 ry) hd r) ⟨vs,dd,hz,fun w' hw=>?_,fun hn h' D6 hs=>?_⟩
 ·rw[hw] at vl
  cases ev:ky ae k with
  |none=>rw[ev] at vl;exact(vl:False).elim
  |some v'=>rw[ev] at vl;exact h1 v' _ _ ev (I.tok _) vl
 ·have ev:ky ae k=none:=by
   rw[hn] at vl
   cases ev:ky ae k with
   |none=>rfl
   |some v'=>rw[ev] at vl;exact(vl:False).elim
  have he:∃ q,h'.get? a=some q:=let ⟨q,_,_,hq,_⟩:=D6;⟨q,hq⟩
  exact h2 ev _ (SF I (by rw[e];exact True.intro) hs he (Xp hp hd (rel.put k rv) D6))
end
def fN'(td ty tx:TE):TE:=fun σ H Q=>td σ H fun x H1=>∃ a,x=.ref a/\Qb H1 a/\ty σ H1 fun y H2=>tx σ H2 fun z H3=>∃ ae k,H3 a=some (.dK ae)/\y=kV k/\ae.length<sizeLine /\
 (∀ v,ky ae k=some v->Q v H3)/\(ky ae k=none->Q z (upd H3 a (.dK (putK ae k z))))
theorem Ha {X:Cx} (ho:PE X o td) (he:PE X e ty) (hf:PE X f tx) (m:M2 X o "setdefault" apos e f dk):PE X (.Call (.Attribute o "setdefault" apos) [e,f] [] dk) (fN' td ty tx):=by
 intro pins s σ H Q I h
 refine wpAny_Call_method m.base m.few m.line PySem.F.plainAttrs_dict PySem.F.slot_dict_setdefault PySem.F.type_dict_setdefault (cK (ho pins s σ H _ I h) fun u s1 df=>?_)
 obtain⟨x,H1,I1,rx,a,ex,d,q1⟩:=df
 subst ex
 cases (show u=Value.ref a from rx)
 have td:=Xq I1 d
 refine⟨td.1,td.2.1,?_⟩
 rw[m.trees]
 refine Calls.callWith_builtin rfl (Calls.evalArgs_plain (Calls.spliced_cons (cK (he pins s1 σ H1 _ I1 q1) fun iv s2 cy=>L2.fz cy fun y H2 I2 ry q2=>Calls.spliced_cons (cK (hf pins s2 σ H2 _ I2 q2) fun fv s3 ⟨z,H3,I3,rz,ae,k,e1,e2,hl,q3,q4⟩=>Calls.spliced_nil ?_))))
 subst e2
 exact yI I3 e1 ry hl rz (fun v' w' s' ev I' r'=>⟨v',H3,I',r',q3 v' ev⟩) fun ev s' I'=>⟨z,_,I',rz,q4 ev⟩
end L2
namespace L2.Q
open PySem PySem.Spec PyProof.Rows
section
variable {X:Cx}{K:PySem.W.Frag}{a b c e:Expr}{pos apos dk p:Pos}
def y6(ae:List (Key × D))(k:Key)(x:D):List (Key × D):=if (fq ae k).isSome then ae else mE ae k x
def Ue(p:WP)(tk tv:WE):WS:=fun E ρ=>p ρ fun fl d up=>Uc d fun ae=>tk ρ fun _ y=>tv ρ fun _ x=>x.flat=true/\∃ k,y.key1=some k/\ae.length<sizeLine/\E.nx (up fl (.dK (y6 ae k x)))
theorem Ib {L:Str->Hp->Prop} {p:WP} {tk tv:WE} (ho:QP X K a p) (hb:QE X K b tk) (hc:QE X K c tv) (hm:M2 X a "setdefault" apos b c dk:=by exact⟨rfl,rfl,rfl,rfl⟩)
  (hs:swapsWith (.Call (.Attribute a "setdefault" apos) [b,c] [] dk) none pos.line X.env=pure false:=by rfl):QS X K L (.Expr (.Call (.Attribute a "setdefault" apos) [b,c] [] dk) pos) (Ue p tk tv):=by
 refine PS.imp (PF (Ha ho hb hc hm) hs) fun D σ H hx=>g8 hx fun Hs ρ ai E sr h k1 k2 k3 k4=>?_
 refine⟨Hs,ρ,ai,_,sr,h,fun u H1 ay fl d up g1 p1 q1=>?_⟩
 obtain⟨gv,r,ne,nd,own,k⟩:=p1.ex
 have lv:∀ x∈gv,ay x=none/\H1 x≠none:=fun x hx=>⟨own x hx,(r.own x hx).ne⟩
 cases r with
 |sh hf _=>exact absurd rfl ne
 |@dK a0 vs ae A kk e rs =>
  refine⟨a0,rfl,.inl ⟨_,.inl e⟩,ay,ρ,ai,_,sr.grow g1,q1,fun y H2 aE m2 yd gX g2 r2 f2 q2=>⟨aE,ρ,ai,_,(sr.grow g1).grow g2,q2,fun x H3 fh m3 xd Yz g3 r3 f3 q3=>?_⟩⟩
  obtain⟨hx,key,hk,hz,q⟩:=q3
  have ry:=(r2.grow g3).rep g3.wf
  have ey:=ry.key hk
  subst ey
  have rx:Rep K fh xd x:=r3.flat g3.wf hx
  have g:=g2.trans g3
  have sm:aI Hs fh:=g1.sh.trans g.sh
  have hl:ae.length=vs.length:=by have:=rs.length;rwa[bP] at this
  have zg:=zip_get (k:=key) (rs.reps (G:=H1) g1.wf.sub fun _ _=>rfl)
  obtain⟨na,nA⟩:=ox.mp nd
  refine⟨_,key,g.all _ _ e,rfl,by rw[IX,bP,<- hl,JY];exact hz,fun v' ev=>?_,fun ev=>?_⟩
  ·have e0:y6 ae key xd=ae:=by
    unfold y6
    cases hg:fq ae key with
    |none=>rw[hg] at zg;rw[zg] at ev;cases ev
    |some d=>rfl
   rw[e0] at q
   obtain⟨eB,kX⟩:=k fh H3 fl (.dK ae) (a0 :: A) g.sh g.wf (fun x h1 h2=>g.nE h1 h2) id (.dK kk (g.all _ _ e) (rs.grow g.sh g.all)) (by simp) nd (fun b hb=>⟨g.nE (own b hb) (lv b hb).2,.inl hb⟩) fun b h1 _=>by
    cases q:H1 b with
    |none=>exact absurd q h1
    |some o=>exact g.all b o q
   exact k1 σ _ fh _ eB sm kX q
  ·have e0:y6 ae key xd=mE ae key xd:=by
    unfold y6
    cases hg:fq ae key with
    |none=>rfl
    |some d=>rw[hg] at zg;obtain⟨v',e',_⟩:=zg;rw[e'] at ev;cases ev
   rw[e0] at q
   obtain⟨ws,Bs,sb,nh,ew⟩:=ug (k:=key) rx hx (rs.grow g.sh g.all)
   rw[ew]
   have nB:a0∉Bs:=fun z=>na (sb.subset z)
   obtain⟨eB,kX⟩:=k.node (fl2:=fl) (d2:=.dK (mE ae key xd)) g lv (fun _ z=>by cases z) id (.dK ⟨fS (jf _ _ _) hz,fun p hp=>(pq hp).elim (fun z=>by rw[z];exact uL ry hk) fun z=>by obtain⟨p',fm,e'⟩:=cf.mp z;rw[<- e'];exact kk.2 p' fm⟩ kf (nh.fi (aI.refl _) fun b hb=>g7 fun z=>nB (by subst z;exact hb)))
    (sb.nodup nA) nB fun b hb=>.inl (sb.subset hb)
   exact k1 σ _ fh _ eB sm kX q
 |_=>exact q1.elim
end
end L2.Q
namespace L2.Q.R
open PySem PySem.Spec PyProof.Rows L2.Q
section
variable {ρ:Env}{E:nJ}{tk tv:WE}{p:WP}
theorem Oe:Ue p tk tv E ρ=p ρ fun fl d up=>bT d (f:=fun d=>Uc d fun ae=>tk ρ fun _ y=>tv ρ fun _ x=>x.flat=true/\∃ k,y.key1=some k/\ae.length<sizeLine/\E.nx (up fl (.dK (y6 ae k x)))) ⟨⟩:=rfl
end
end L2.Q.R
namespace TS
open PySem PySem.SetTable PyProof.Rows
section
variable {prog:Program}{w:World}{K:Type}[DecidableEq K]{knd:KeyKind prog w K}{A:Around}{E:Value->Shared->Prop}{s:Shared}
theorem pL{l:Addr}{items:Array Value}{xs:List (List K × Addr)}{Q:Value->Shared->Prop}(hh:A.handled=none)(hu:A.units+8<cLine)(hl:s.heap.IsList l items)(hi:items.toList=xs.map fun p=>Value.ref p.2)
  (oo:∀ p∈xs,IsTupleKey knd s.heap p.1 p.2) {U:List (List K)} (hU:U.length<=999) (hxU:∀ p∈xs,p.1∈U) (oC:∀ k v,knd.is k v=true->v.scannable=true)
  (h:∀ h' tk ks,vt knd h' s.heap.objs.size ks->(∀ k,k∈ks.map (·.1)↔k∈xs.map (·.1))->(∀ p∈ks,p∈xs)->(∀ b o,s.heap.get? b=some o->h'.get? b=some o)->Q (.ref s.heap.objs.size) { s with heap:=h',toks:=tk }) :
  wpAny (model prog w) A (call (.type "set") [.ref l]) Q E s:=by
 have lt:∀ p∈xs,p.2<s.heap.objs.size:=fun p hp=>by
  obtain⟨o,_,_,ho,_⟩:=oo p hp
  exact dP ho
 have few:∀ {h:Heap} (ks:List (List K × Addr)),vt knd h s.heap.objs.size ks->(∀ p∈ks,p∈xs)->ks.length<1000:=fun {h} ks S m=>by
  have:=TS.bD S.nd (m:=U) fun k hk=>by
   obtain⟨p,hp,rfl⟩:=cf.mp hk
   exact hxU p (m p hp)
  rw[bP] at this
  lia
 refine iy hh hl (fun i h=>∃ ks,vt knd h s.heap.objs.size ks/\(∀ k,k∈ks.map (·.1)↔k∈(xs.take i).map (·.1))/\(∀ p∈ks,p∈xs)/\ks.length<=i/\∀ p∈xs,IsTupleKey knd h p.1 p.2) (fun h e k=>?_) (fun i h h' ⟨ks,S,m1,m2,m3,m4⟩ k=>?_) (fun i v s' E' Q' hv ⟨ks,S,m1,m2,m3,m4⟩ q=>?_) fun h' tk ⟨ks,S,m1,m2,m3,m4⟩ k=>?_
 ·exact⟨[],⟨⟨_,#[],0,_,e,⟨rfl,rfl,rfl⟩,rfl,pR _,(by show 7<=8191;decide),rfl,rfl⟩,mP,fun p hp=>nomatch hp⟩,fun k=>by simp,(fun p hp=>nomatch hp),cq _,fun p hp=>IsTupleKey.fi (oo p hp) fun o ho=>k _ _ ho⟩
 ·obtain⟨⟨o,es,ep,t,ho,r⟩,nd,is⟩:=S
  exact⟨ks,⟨⟨o,es,ep,t,k _ _ (cq _) ho,r⟩,nd,fun p hp=>IsTupleKey.fi (is p hp) fun o ho=>k _ _ (kR (lt p (m2 p hp))) ho⟩,m1,m2,m3,fun p hp=>IsTupleKey.fi (m4 p hp) fun o ho=>k _ _ (kR (lt p hp)) ho⟩
 ·have mz:items.toList[i]? = some v:=by rw[mS];exact hv
  rw[hi,ot] at mz
  cases ex:xs[i]? with
  |none=>rw[ex] at mz;cases mz
  |some p =>
   rw[ex] at mz
   cases mz
   have hp:=sL ex
   have T2:i<xs.length:=(mI.mp ex).1
   have NW:(xs.take (i+1)).map (·.1)=(xs.take i).map (·.1)++[p.1]:=by
    rw[xt,ex,mM];rfl
   unfold setAdd
   refine wpAny_holding (ax (wpAny_pyHash_tuple (by show A.units+3<cLine;lia) (m4 p hp) ?_))
   refine Cz (s:={ s' with toks:=s'.toks+(p.1.length+1) }) S (m4 p hp) (few ks S m2) (by show A.units+3<cLine;lia) oC fun b h' da sb S' c=>?_
   refine q b h' _ sb ⟨da,S',fun k=>?_,fun p' fm=>?_,?_,fun p' fm=>IsTupleKey.fi (m4 p' fm) fun o ho=>sb.extBut _ _ (gi (lt p' fm)) ho⟩
   ·rw[NW,dA,n4,<- m1]
    rcases c with⟨c1,rfl⟩|⟨c1,c2⟩
    ·exact⟨.inl,fun z=>z.elim id fun e=>e ▸ c1⟩
    ·rw[(c2.map _).mem_iff,fP,dv]
     exact⟨fun z=>z.symm,fun z=>z.symm⟩
   ·rcases c with⟨c1,rfl⟩|⟨c1,c2⟩
    ·exact m2 p' fm
    ·rcases dv.mp (c2.mem_iff.mp fm) with rfl|z
     ·exact hp
     ·exact m2 p' z
   ·rcases c with⟨c1,rfl⟩|⟨c1,c2⟩
    ·lia
    ·rw[c2.length_eq];simp;lia
 ·have e:items.size=xs.length:=by
   have:=congrArg List.length hi
   simpa using this
  rw[e,rX] at m1
  exact h h' tk ks S m1 m2 fun b o ho=>k b o (dP ho) ho
end
end TS
namespace L2
open PySem PySem.Spec PyProof.Rows
def ji(K:PySem.W.Frag):V->Hp->VK->Prop:=fun x H Q=>match x with
 |.ref p=>∃ ys ks b0 sh,eR K H p ys/\(∃ U:List (List Key),U.length<=999/\∀ k∈ks,k∈U)/\dw H ys ks/\(∀ k∈ks,gV k=b0 :: sh) /\
   ∀ zs ms l,dw H zs ms->ms.Nodup->(∀ k,k∈ms↔k∈ks)->(ms.Pairwise fun a b=>fo b a=false)->H l=none->Q (.ref l) (upd H l (.lst zs))
 |_=>False
section
variable {X:Cx}{e:Expr}{te:TE}{p p2 pos kP:Pos}
theorem tY (hc:X.calm=true) (hu:X.A.units+64<cLine) (hg:Gl X "sorted") (hm:X.mg "sorted" = none) (rq:Gl X "set") (ny:X.mg "set" = none) (he:PE X e te)
  (hv:bootBuiltins "sorted" = some (.builtin "sorted")) (NX:bootBuiltins "set" = some (.type "set"))
  (iX:starEach [e] X.env=(false,eval e X.env) :: starEach [] X.env:=by rfl)
  (hs:starEach [.Call (.Name "set" p2) [e] [] kP] X.env=(false,eval (.Call (.Name "set" p2) [e] [] kP) X.env) :: starEach [] X.env:=by rfl) :
  PE X (.Call (.Name "sorted" p) [.Call (.Name "set" p2) [e] [] kP] [] pos) (PX (ji X.K) te):=by
 intro pins s σ H Q I h
 refine wpAny_Call_Name_kw (wa I hg hm hv ?_ (by decide) (by decide))
 refine PyProof.Rows.callWith_builtin1 ?_ hs rfl
 rw[hs]
 refine Calls.spliced_cons ?_
 refine wpAny_Call_Name_kw (wa I rq ny NX ?_ (by decide) (by decide))
 refine PyProof.Rows.callWith_type1 ?_ iX rfl
 rw[iX]
 refine Calls.spliced_cons (cK (he pins s σ H _ I h) fun u s1 cy=>L2.fz cy fun x H1 I1 r1 q1=>Calls.spliced_nil ?_)
 have q1:ji X.K x H1 Q:=q1
 obtain⟨a,rfl⟩:∃ a,x=.ref a:=by
  unfold ji at q1
  split at q1
  ·exact⟨_,rfl⟩
  ·exact q1.elim
 obtain⟨ys,ks,b0,sh,hl,⟨U,hU,OG⟩,ht,wo,q⟩:=q1
 cases r1
 obtain⟨vs,rv,pl,hz⟩:=I1.list hl
 obtain⟨xs,ex,ek,hx⟩:=ht.pairs rv
 have yi:X.A.handled=none:=I1.ok.hd hc
 have hlen:xs.length=ys.length:=by rw[rv.length,ex,bP]
 have oo:∀ p∈xs,IsTupleKey (jv X.prog X.w) s1.heap p.1 p.2:=fun p hp=>by
  obtain⟨us,ru,o,e1,c1,n1,d1⟩:=I1.tup (hx p hp)
  exact⟨o,us.toArray,n1,e1,c1,d1,by simpa using Qa ru⟩
 refine TS.pL (knd:=jv X.prog X.w) yi (by lia) pl.isList (by simpa using ex) oo hU (fun p hp=>OG _ (by rw[<- ek];exact cf.mpr ⟨p,hp,rfl⟩)) qz fun h2 tk da S m1 m2 kp=>?_
 refine Calls.spliced_nil ?_
 obtain⟨⟨o,es,ep,t,ho,hex,hd,T,hM,hL,vn⟩,nd,is⟩:=S
 have N0:es.toList.map (·.2)=da.map fun p=>Value.ref p.2:=by rw[vn,eP];rfl
 have Y7:da.length<=1000:=by
  have:=TS.bD nd (m:=U) fun k hk=>OG k (by rw[<- ek];exact(m1 k).mp hk)
  rw[bP] at this
  lia
 have N3:es.size=da.length:=by
  have:=congrArg List.length vn
  simpa using this
 have N4:∀ p∈da,p.1∈ks:=fun p hp=>by rw[<- ek];exact cf.mpr ⟨p,m2 p hp,rfl⟩
 have mem:∀ eh:List Value,eh.Perm (da.map fun p=>Value.ref p.2)->∀ v∈eh,∃ b k,v=.ref b/\H1 b=some (.tup (k.map kV))/\k∈ks:=fun eh pv v hv=>by
  obtain⟨p,hp,rfl⟩:=cf.mp (pv.mem_iff.mp hv)
  exact⟨p.2,p.1,rfl,hx p (m2 p hp),N4 p hp⟩
 have CB:s1.heap.objs.size<=h2.objs.size:=kR (dP ho)
 refine yn.iT (s:={ s1 with heap:=h2,toks:=tk }) (κ:=tuples' true) (R:=fun eh=>eh.Perm (da.map fun p=>Value.ref p.2)) (r:=fun v=>yy ks (oh H1 v)) (P:=fun v=>∃ b k,v=.ref b/\H1 b=some (.tup (k.map kV))/\gV k=b0 :: sh/\k∈ks)
  (fun A' E' Q' hA hQ=>TS.iY (s:={ s1 with heap:=h2,toks:=tk }) (hA.trans yi) ho hex hd T.fits T.up T.sz hL (by rw[N3,sizeLine_eq];lia) fun h' tI d eh lI N9 pv=>hQ eh h' tI d (by rw[<- N0];exact pv) lI N9)
  (fun eh pv=>by rw[pv.length_eq,bP,sizeLine_eq];lia) (fun eh pv v hv=>?_) (fun eh pv T_ A' E' s' lI Q' q'=>?_) (fun s' lI=>vq I1 fun b o e=>lI b o (kp b o e)) fun eh h' a' out n tI d pv pm pw lI ha eo=>?_
 ·obtain⟨b,k,e1,e2,e3⟩:=mem eh pv v hv
  exact⟨b,k,e1,e2,wo k e3,e3⟩
 ·obtain⟨zs,z1,z2⟩:=dw.of (H:=H1) (ks:=ks) eh (mem eh pv)
  obtain⟨fs,f1,f2,f3⟩:=kat_tups I1 (s':=s') (fun b o e=>lI b o (kp b o e)) z1 z2 fun k hk=>by
   obtain⟨v,hv,rfl⟩:=cf.mp hk
   obtain⟨b,k,rfl,e2,e3⟩:=mem eh pv v hv
   rw[cO e2];exact wo k e3
  cases b0 with
  |true =>
   refine PySem.W.kat_kind (T:=.type "int") f1 (by lia) (fun f hf=>?_) (by decide) q'
   obtain⟨i,t,rfl⟩:=(f3 f hf).1 rfl
   exact .now
  |false =>
   refine PySem.W.kat_kind (T:=.type "str") f1 (by lia) (fun f hf=>?_) (by decide) q'
   obtain⟨i,t,rfl⟩:=(f3 f hf).2 rfl
   exact .now
 ·have sF:=pm.trans pv
  obtain⟨zs,z1,z2⟩:=dw.of (H:=H1) (ks:=ks) out fun v hv=>mem _ sF v hv
  have zl:=z2.length
  have ol:=sF.length_eq
  rw[bP] at ol
  have Ow:(da.map fun p=>Value.ref p.2).map (oh H1)=da.map (·.1):=by
   rw[eP]
   exact E7 fun p hp=>cO (hx p (m2 p hp))
  have Ox:(out.map (oh H1)).Perm (da.map (·.1)):=by rw[<- Ow];exact sF.map _
  refine⟨.ref a',_,(I1.laid (a:=a') (t':=tI) (fun b o e=>lI b o (kp b o e)) (fS CB ha) (show fA X.prog X.w _ h' _ (.lst zs) from⟨by rw[sizeLine_eq];lia,out,n,z2,eo⟩)).drawn,rfl,
   q zs _ _ z1 (Ox.nodup_iff.mpr nd) (fun k=>by rw[Ox.mem_iff,m1,ek]) ?_ (I1.bp.fresh (fS CB ha))⟩
  rw[qE]
  refine pw.imp_of_mem fun {x y} mx my hle=>?_
  obtain⟨b,k,rfl,hb,kk⟩:=mem _ sF x mx
  obtain⟨c,m,rfl,Ap,km⟩:=mem _ sF y my
  rw[cO hb,cO Ap] at *
  have:=qW (L:=ks) ((wo m km).trans (wo k kk).symm) km
  rw[<- this]
  exact decide_eq_false (by lia)
end
end L2
namespace L2.Q
open PySem PySem.Spec PyProof.Rows
end L2.Q
namespace L2.Q.R
open PySem PySem.Spec PyProof.Rows L2.Q
end L2.Q.R
namespace L2.Q
open PySem PySem.Spec PyProof.Rows PySem.W
abbrev WX:=Env->(Md->D->Prop)->(Str->Prop)->Prop
def Zd(K:PySem.W.Frag)(rn:List Str)(mg:Str->Option Value)(E1:XK)(vv:St)(t:WX):TE:=fun σ H Qv=>σ=vv/\∃ Hs ρ ai Q Y,dE K Hs ρ σ H ai/\t ρ Q Y /\
 (∀ v H' aw m d As,eA Hs H aw H'->RM K aw H' m d v As->cT aw H As->Q m d->Qv v H')/\∀ n H',aI H H'->Y n->LX rn mg E1 n H'
def yu(rn:List Str)(X:Cx)(vv:St)(E1:XK):Prop:=∀ pins H s e s',Inv X pins vv H s->ja X.prog X.w X.mg rn X.stack H s E1 e s'->X.xe e s'
def zB(sp:dQ)(t:WA):WX:=fun ρ Q Y=>t ρ fun ps=>sp (ps.map (·.2)) fun m d=>kQ m d Y (bT (m,d) (f:=fun p=>Q (qo p.1 p.2) p.2) ⟨⟩)
def JK(c:D)(sp:dQ)(t:WA):WX:=fun ρ Q Y=>t ρ fun ps=>sp (ps.map (·.2)) fun m d=>kQ m d Y (bT (m,d) (f:=fun p=>c.flat=true/\qo p.1 p.2=.ow true/\p.2.flat=false/\Q (.ow true) (.tup [c,p.2])) ⟨⟩)
section
variable {X:Cx}{K:PySem.W.Frag}{rn:List Str}{E:XK}{vv:St}{e c:Expr}{es:List Expr}{t:WA}{ta:TA}{pos p:Pos}{k:Nat}{x:Str}{ps:List Str}{sp:dQ}
theorem zY (C:iN X.prog X.w X.K X.mg X.base rn k x ps sp) (hr:gI k X.A) (hx:yu rn X vv E) (ha:PA X (e :: es) ta) (hg:Gl X x) (gL:(x == ("__debug__" : Str))=false) (he:starEach (e :: es) X.env=(false,eval e X.env) :: starEach es X.env)
  (ic:(backTo pos (starEach es X.env)).any (·.1)=false):PE X (.Call (.Name x p) (e :: es) [] pos) (fun σ H Q=>σ=vv/\DZ (cF X.K rn X.mg sp) [] E ta σ H Q):=by
 intro pins s σ H Q I ⟨e0,h⟩
 subst e0
 obtain⟨g,fd,hm,hk,hb,F⟩:=C.ex
 refine wpAny_Call_Name_kw (K2 I hg hm ?_ gL)
 refine PySem.W.callWith_K (h₀:=X.base) I.ok.mod.KG hk (cK (ha pos pins s σ H _ I h) fun us s1 cy=>L2.fz cy fun vs H1 I1 r q=>⟨I1.h9,?_⟩) he ic
 have r2:Vals (vs++[]) (us++[]):=r.append .nil
 have hl:(us++[]).length=ps.length:=by rw[<- r2.length];exact F.len _ _ _ _ q
 refine wpAny_call (codeAny_mono (F.run X.A X.stack s1 H1 ⟨us,[]⟩ (us++[]) (vs++[]) Q E hr I1.WU (hb s1 us I1.h9 hl) r2 q) fun r s' hq=>?_)
 cases r with
 |error e=>exact hx pins H1 s1 e s' I1 hq
 |ok fl =>
  cases fl with
  |ret u=>exact I1.after hq
  |next=>exact False.elim hq
  |brk=>exact False.elim hq
  |cont=>exact False.elim hq
theorem uF{σ:St}{H:Hp}{Qv:VK}{Hs:Hp}{ρ:Env}{ai:List Addr}{Y:Str->Prop}{N:Md->D->Prop}(sr:dE K Hs ρ σ H ai)(h:t ρ fun ps=>sp (ps.map (·.2)) fun m d=>kQ m d Y (N m d))
  (f:∀ v H1 ay H' aw m d As,eA Hs H ay H1->aI H1 aw->Wf aw H'->RM K aw H' m d v As->As.Nodup->(∀ a∈As,aw a=none)->N m d->Qv v H') (fx:∀ n H',aI H H'->Y n->LX rn X.mg E n H'):DZ (cF K rn X.mg sp) [] E (Qx K t) σ H Qv:=by
 refine⟨Hs,ρ,ai,_,sr,h,fun vs H1 ay ps As g1 r1 f1 q1=>?_⟩
 exact⟨_,_,by rw[kF];exact r1.reps g1.wf,q1,fun v H' aw m d As s w r nd own q=>f v H1 ay H' aw m d As g1 s w r nd own (xR r q),fun n H' s q=>fx n H' (g1.all.trans s) q⟩
theorem Eb (C:iN X.prog X.w X.K X.mg X.base rn k x ps sp) (hr:gI k X.A) (hx:yu rn X vv E) (ha:QA X K (e :: es) t) (hK:X.K=K:=by rfl) (hg:Gl X x:=by rfl) (gL:(x == ("__debug__" : Str))=false:=by decide) (he:starEach (e :: es) X.env=(false,eval e X.env) :: starEach es X.env:=by rfl)
  (ic:(backTo pos (starEach es X.env)).any (·.1)=false:=by rfl):PE X (.Call (.Name x p) (e :: es) [] pos) (Zd K rn X.mg E vv (zB sp t)):=by
 subst hK
 refine PE.imp (zY C hr hx ha hg gL he ic) fun σ H Qv ⟨e0,Hs,ρ,ai,Q,Y,sr,h,f,fx⟩=>⟨e0,uF sr h (fun v H1 ay H' aw m d As g1 s w r nd own q=>?_) fx⟩
 obtain⟨gv,r',fr⟩:=pF g1.wf s w r nd own
 exact Fin.after f g1 v H' _ (qo m d) d gv (fY g1.wf s w) r' fr q
def Bv(i:Nat)(wb:WX)(R:Str)(hd:WS):WS:=fun E ρ=>wb ρ (fun m d=>match asg m d with
 |some sl=>E.nx (ρ.set i (some sl))
 |none=>False) fun n=>n=R/\hd E ρ
theorem FJ{L:Str->Hp->Prop}{R y:Str}{i:Nat}{suite:List Stmt}{Ze:Stmt}{np TY apos pos':Pos}{wb:WX}{hd:WS}
  (xr:HW X.K X.mg [R] R) (hN:X.N.Nodup) (hi:X.N[i]? = some y) (hy:Loc X.env.scope y) (md:X.stack=X.env :: X.outer) (hf:X.env.frame=some X.env.locals)
  (hb:∀ pn xe E1 vv,yu rn (jG X pn xe) vv E1->PE (jG X pn xe) e (Zd K rn X.mg E1 vv wb))
  (hh:∀ pn a,oj (AY X pn a) K L (Ze :: suite) hd) (hg:Gl X R:=by rfl) (gL:(R == ("__debug__" : Str))=false:=by decide)
  (hs:swapsWith e (some (.Name y pos')) apos.line X.env=pure false:=by rfl) (K0:X.fn y=true\/X.env.scope.names.lookup y=some .local:=by first|exact .inl rfl|exact .inr rfl|assumption) :
  QS X K L (.Try [.Assign [.Name y pos'] e apos] [.ExceptHandler (some (.Name R np)) none (Ze :: suite) TY] [] [] pos) (Bv i wb R hd):=by
 intro pins s σ H D I hx
 obtain⟨Hs,ρ,ai,E,sr,h,k1,k2,k3,k4,kx⟩:=hx
 obtain⟨r,hm,xr,sub⟩:=xr.ex
 have sp0:∀ p∈X.pn++pins,p∈(X.pn++pins)++[]:=fun p hp=>by rw[kF];exact hp
 have AA:=Ws (R_ (X:=jG X (X.pn++pins) (fun e s'=>∃ nc H1 s1,Inv (jG X (X.pn++pins) X.xe) nc σ H1 s1/\ja X.prog X.w X.mg rn X.stack H1 s1 (fun c _ H'=>X.mg R=some c/\aI H H'/\hd E ρ) e s')) hN hi hy (hb (X.pn++pins) _ (fun c _ H'=>X.mg R=some c/\aI H H'/\hd E ρ) σ
  (fun nc H1 s1 e s' I1 c=>⟨nc,H1,s1,Inv.J0 I1,c⟩)) hs K0) [] s σ H D (Inv.jG I fun p hp=>I.pin p (by rw[kF] at hp;exact hp))
  ⟨rfl,Hs,ρ,ai,_,_,sr,h,fun v H' aw m d As g1 r1 f1 q1=>?_,fun n H' s2 q hn C hC=>⟨by rw[<- q.1];exact hC,s2,q.2⟩⟩
 ·refine wpAny_Try_except (pe AA (fun f s1 hs=>?_) fun e s' hx=>?_)
  ·have hs:=SP.oJ hs sp0
   cases f with
   |next =>
    obtain⟨bE,H',I',q⟩:=hs
    exact Wr pins s1 bE H' D I' q
   |brk=>exact hs
   |cont=>exact hs
   |ret u=>exact hs
  ·obtain⟨nc,H1,s1,I1,a,n',C,a0,H',B,rfl,DS,os,bare,un,bp,CC,cov,fr,ny,sm,hq⟩:=hx
   obtain⟨xc,T8⟩:=sub R C (n4.mpr rfl) ny
   obtain⟨Ug,g',d',t',Sq⟩:=s'
   obtain rfl:Sq=s1.os:=os
   have fQ':Heap.FlyingW B (X.env :: X.outer) a (.ref C) a0 Ug:=md ▸ CC
   have th:∀ b o,s1.heap.get? b=some o->∃ o',Ug.get? b=some o':=fun b o e=>un.there b o e (by simp)
   refine wpAny_looks_onW (md ▸ I.ok.frames) hf fQ' fun h4 held up4=>wpAny_landsW held fun h5 Rb up5=>?_
   have Uh:gm (fF X.stack) H' s1.heap Ug h5:=gm.of cov Rb.1 (up4.trans up5) CC.2.2.1
   have fT':=cov.next Uh bp th
   have Zf:=Uh.un un
   have Zg:=Uh.bp fr bp
   have I5:Inv (jG X (X.pn++pins) X.xe) nc σ H' ⟨h5,g',d',t',s1.os⟩:=I1.call (h':=h5) (g':=g') (d':=d') (t':=t') (ch:=[]) Zf Zg bare (fun b z=>absurd z (by simp))
   refine wpAny_handleBy_cons (codeAny_handlers_test ?_) (by intro q;cases q)
   refine K2 (X:=AY X (X.pn++pins) a) (pins:=nc) (Inv.AY I5 fun p hp=>I5.pin p hp) hg hm ?_ gL
   refine ur xc xr T8 I5.h9 Rb.there (codeAny_handlers_suite ?_)
   refine lands_againW Rb fun h6 fU' up6=>?_
   have ff5:h5.FunFrames B X.stack:=md ▸ Rb.2.2.1
   have Zh:gm (fF X.stack) H' s1.heap h5 h6:=gm.of fT' fU'.1 up6 ff5
   have un6:=Zh.un Zf
   have fY':=Zh.bp fr Zg
   have I6:Inv (jG X (X.pn++pins) X.xe) nc σ H' ⟨h6,g',d',t',s1.os⟩:=I1.call (h':=h6) (g':=g') (d':=d') (t':=t') (ch:=[]) un6 fY' bare (fun b z=>absurd z (by simp))
   have I6h:Inv (AY X (X.pn++pins) a) [] σ H' ⟨h6,g',d',t',s1.os⟩:=Inv.AY I6 fun p hp=>by
    rw[kF] at hp
    exact I6.pin p (ki _ hp)
   have gr:=fY sr.wf sm ⟨aI.refl H',fun _ _ e=>e⟩
   refine pe (hh (X.pn++pins) a [] _ σ H' D I6h ⟨_,ρ,ai,E,sr.grow gr,hq,fun bE H2 aE cw cv s2=>k1 bE H2 aE cw cv (gr.sh.trans s2),fun bE H2 aE cw cv s2=>k2 bE H2 aE cw cv (gr.sh.trans s2),fun bE H2 aE cw cv s2=>k3 bE H2 aE cw cv (gr.sh.trans s2),
    fun v H2 aE m d As s2=>k4 v H2 aE m d As (gr.sh.trans s2),fun n H2 s2=>kx n H2 (gr.sh.trans s2)⟩) (fun f s8 hs=>?_) fun _ _ z=>z.elim
   have out:∀ {y8 H8},Inv (AY X (X.pn++pins) a) [] y8 H8 s8->Inv X pins y8 H8 s8:=fun I8=>Inv.DN I8 I.ok.hd fun p hp=>by rw[kF];exact hp
   cases f with
   |next=>obtain⟨y8,H8,I8,q⟩:=hs;exact⟨y8,H8,out I8,q⟩
   |brk=>obtain⟨y8,H8,I8,q⟩:=hs;exact⟨y8,H8,out I8,q⟩
   |cont=>obtain⟨y8,H8,I8,q⟩:=hs;exact⟨y8,H8,out I8,q⟩
   |ret u=>obtain⟨v,y8,H8,I8,rv,q⟩:=hs;exact⟨v,y8,H8,out I8,rv,q⟩
 ·have q1:match asg m d with
   |some sl=>E.nx (ρ.set i (some sl))
   |none=>False:=q1
  cases ea:asg m d with
  |none=>rw[ea] at q1;exact q1.elim
  |some sl =>
   rw[ea] at q1
   obtain⟨cv,s'⟩:=(sr.grow g1).set i r1 f1.1 (fun a ha=>⟨(f1.2 a ha).1,fun m=>(sr.sr.own a m).ne (f1.2 a ha).2⟩) ea
   exact k1 _ H' aw _ cv g1.sh s' q1
end
end L2.Q
namespace L2.Q.R
open PySem PySem.Spec PyProof.Rows L2.Q
section
variable {ρ:L2.Q.Env}{E:nJ}{i:Nat}{R:Str}{hd:WS}{sp:dQ}{t:WA}{c:L2.Q.D}
theorem JQ:Bv i (zB sp t) R hd E ρ=t ρ fun ps=>sp (ps.map (·.2)) fun m d=>kQ m d (fun n=>n=R/\hd E ρ) (bT (m,d) (f:=fun p=>bT (asg (qo p.1 p.2) p.2) (f:=fun o=>put o fun sl=>E.nx (ρ.set i (some sl))) ⟨⟩) ⟨⟩):=rfl
theorem JN:Bv i (JK c sp t) R hd E ρ=t ρ fun ps=>sp (ps.map (·.2)) fun m d=>kQ m d (fun n=>n=R/\hd E ρ) (bT (m,d) (f:=fun p=>c.flat=true/\qo p.1 p.2=.ow true/\p.2.flat=false/\E.nx (ρ.set i (some (.ow true (.tup [c,p.2]))))) ⟨⟩):=rfl
end
end L2.Q.R
namespace L2.Q
open PySem PySem.Spec PyProof.Rows
section
variable {X:Cx}{K:PySem.W.Frag}{e:Expr}{te:WE}{p p2 pos kP:Pos}
def jd:W1:=fun _ x Q=>match x with
 |.list xs=>∃ (ks U:List (List Key)) (sh:List Bool),xs=ks.map i5/\U.length<=999/\(∀ k∈ks,k∈U)/\(∀ k∈ks,gV k=false :: sh)/\∀ ms:List (List Key),ms.Nodup->(∀ k,k∈ms↔k∈ks)->(ms.Pairwise fun a b=>fo b a=false)->Q (.ow true) (.list (ms.map i5))
 |_=>False
theorem uQ:ML K (ji K) jd:=by
 intro Hs H m x v As Qd Qv w rx h f
 have r1:=rx.rep w
 cases r1 with
 |list z s q =>
  obtain⟨ks,U,sh,rfl,hU,OG,hs,h⟩:=h
  obtain⟨ta,ok⟩:=zc q
  refine⟨_,ks,false,sh,s,⟨U,hU,OG⟩,ta,hs,fun zs ms l tz nd mm pw Ua=>?_⟩
  have rr:=qJ (K:=K) tz fun k hk=>ok k ((mm k).mp hk)
  have:ms.length<=U.length:=TS.bD nd fun k hk=>OG k ((mm k).mp hk)
  exact f.lst w (by rw[bP,sizeLine_eq];lia) rr (jh ms) (h ms nd mm pw) l Ua
 |_=>exact h.elim
theorem wY (hu:X.A.units+64<cLine) (hg:Gl X "sorted") (hm:X.mg "sorted" = none) (rq:Gl X "set") (ny:X.mg "set" = none) (he:QE X K e te) (hc:X.calm=true:=by rfl) (hK:X.K=K:=by rfl)
  (iX:starEach [e] X.env=(false,eval e X.env) :: starEach [] X.env:=by rfl)
  (hs:starEach [.Call (.Name "set" p2) [e] [] kP] X.env=(false,eval (.Call (.Name "set" p2) [e] [] kP) X.env) :: starEach [] X.env:=by rfl) :
  QE X K (.Call (.Name "sorted" p) [.Call (.Name "set" p2) [e] [] kP] [] pos) (eW jd te):=by
 subst hK
 refine PE.imp (tY hc hu hg hm rq ny he mR yH iX hs) fun σ H Qv df=>?_
 obtain⟨Hs,ρ,ai,Q,sr,h,fin⟩:=df
 exact⟨Hs,ρ,ai,_,sr,h,fun v H1 ay m x As g1 r1 f1 q1=>uQ ay H1 m x v As Q Qv g1.wf r1 q1 (Fin.after fin g1)⟩
end
end L2.Q
namespace L2.Q.R
open PySem PySem.Spec PyProof.Rows L2.Q
theorem Gq{m:Md}{xs:List L2.Q.D}{Q:Md->L2.Q.D->Prop}:jd m (.list xs) Q = ∃ (ks U:List (List Key)) (sh:List Bool),xs=ks.map i5/\U.length<=999/\(∀ k∈ks,k∈U)/\(∀ k∈ks,gV k=false :: sh)/\∀ ms:List (List Key),ms.Nodup->(∀ k,k∈ms↔k∈ks)->(ms.Pairwise fun a b=>fo b a=false)->Q (.ow true) (.list (ms.map i5)):=rfl
end L2.Q.R
namespace L2.Q
open PySem PySem.Spec PyProof.Rows
namespace R
theorem Ld{m m':Md}{i j:Bool}{Q:Md->L2.Q.D->Prop}:yB m (.bl i) m' (.bl j) Q=Q .sh (.bl (!decide (i=j))):=rfl
end R
end L2.Q
local macro_rules | `(tactic| walk_at "q") => do
 let nm (s:String):Lean.Ident:=Lean.mkIdent ((s.splitOn ".").foldl Lean.Name.mkStr .anonymous)
 let ds ← ("Mr N8 K_ K6 J1 Mj Ou Og Jy Jf K8 Kp K1 Mi Ln Lh M9 Lq K4 Mh Oe Nr Od Ly Lb MT Ny Ol Ng Oo Nq Nh Om Mv KH Nm N7 KZ K3 GF Kg Ji Jx NZ KC wB_ NB eK' Oi Np Kf JL wC_ eM' eN' J7 Mq M8 JQ JN Kz Kr Ov Oa Nv Lx Jz J4 JP JT JS JZ J5 Kw KY LK LR Mt Lp Ks Li M6 MP N6 Ku KN Nf Oj NP Mx KR Lf Gr Gq Gp Ld MK M_ Ob Nk NK Nt NT Mz N_ Ot M7 Ma Lj KQ Lg Mp Nz J2 Js J_ eO' Jh Lr Mm Oc Nu Nj K5 Jl JW eP' Jk Nb Jr N5 MN K7 Ni Ko KJ La JX JV Jj Jg Je gN_ gT_ KD Nx Mu Mf Kq Jo Km JC Jt Jp Lz Ky MF Ml Lw L_ MJ NQ Mw Oh Ls J3 JM LC K9".splitOn " ").toArray.mapM fun s=>`(Lean.Parser.Tactic.simpLemma| ↓$(nm ("L2.Q.R." ++ s)):ident)
 let us ← ("L2.Q.QX L2.Q.fK' L2.Q.xj L2.Q.Gh L2.Q.xa L2.Q.EH L2.Q.B8 L2.Q.qo L2.Q.mY L2.Q.M0 L2.Q.MZ L2.Q.TH L2.Q.oU L2.Q.Fw L2.Q.asg L2.Q.kL L2.Q.aW L2.Q.D.flat L2.Q.de L2.Q.D.ty L2.Q.ei' L2.Q.D.key1 L2.Q.gC L2.Q.Ms L2.Q.Kv List.length_map List.map_cons List.map_nil List.length_cons List.length_nil List.replicate_succ List.replicate_zero List.cons_append List.nil_append List.append_nil List.getElem?_cons_zero List.getElem?_cons_succ List.getElem?_nil List.set_cons_zero List.set_cons_succ List.all_cons List.all_nil Option.some.injEq Option.join_some Option.map_some Option.map_none Nat.reduceAdd Nat.reduceSub true_and and_true Bool.and_true Bool.true_and Bool.and_false Bool.false_and Bool.not_true Bool.not_false Bool.false_eq_true if_true if_false decide_true decide_false reduceIte cond_true cond_false PySem.sizeLine_eq L2.Q.eG' L2.Q.eH' L2.Q.eI' L2.Q.cG L2.Q.Gx L2.Q.empty_app Nat.zero_add exists_eq_left' Int.reduceLT Int.reduceLE Int.reducePow Int.reduceNeg Int.reduceToNat Int.reduceAdd Int.reduceMul Int.reduceSub Nat.reduceLeDiff Nat.reduceLT false_or or_false and_self L2.Oq".splitOn " ").toArray.mapM fun s=>`(Lean.Parser.Tactic.simpLemma| $(nm s):ident)
 let as:Lean.TSyntaxArray [`Lean.Parser.Tactic.simpStar,`Lean.Parser.Tactic.simpErase,`Lean.Parser.Tactic.simpLemma]:=(ds++us).map fun x=>⟨x.raw⟩
 `(tactic| simp -dsimp only [$as,*])
namespace L2.Q.Ui
open PySem PySem.Spec PyProof.Rows
def isLet(c:Nat):Bool:=decide (97<=c/\c<=122)
abbrev abc:Str := "abcdefghijklmnopqrstuvwxyz"
theorem qt:sg abc=(List.range 26).map (97 + ·):=by decide +kernel
theorem Il{i:Int}(h0:0<=i)(h1:i<26):∃ c,fI (sg abc) i=some c/\isLet c=true:=by
 refine⟨97+i.toNat,?_,?_⟩
 ·have:fI (sg abc) ((i.toNat:Nat):Int)=some (97+i.toNat):=BH (by
   rw[qt]
   have:i.toNat<26:=by lia
   simp[this])
  rwa[xB h0] at this
 ·simp[isLet];lia
theorem Fx(x:Int):∃ c,fI (sg abc) (x % 26)=some c/\isLet c=true:=Il (si _ (by decide)) (sf _ (by decide))
def lets(x:Str):Prop:=∀ c∈sg x,isLet c=true
def Open(x:Str):Prop:=1<=x.length/\x.length<=6/\lets x
def nX (x:Str):Prop:=x = "*"\/Open x
theorem vO{x y:Str}(hx:lets x)(hy:lets y):lets (x++y):=fun c hc=>by
 rw[kO] at hc
 exact(dA.mp hc).elim (hx c) (hy c)
theorem Cd{c:Nat}(h:isLet c=true):lets ⟨#[c]⟩:=fun d hd=>by
 have:d=c:=by simpa[sg] using hd
 rw[this];exact h
theorem oY{x:Str}(h:lets x)(lo hi:Option Int):lets (jS x lo hi):=fun c hc=>by
 unfold jS sg at hc
 rw[List.toList_toArray] at hc
 exact h c (O6 (O7 hc))
theorem iC(c:Nat):(⟨#[c]⟩:Str).length=1:=rfl
theorem nX.ok{x:Str}(h:nX x):PyData.strOk x=true:=by
 rw[Ec]
 rcases h with rfl|h
 ·have:sg "*" = [42]:=by decide +kernel
  intro c hc
  rw[this] at hc
  have:c=42:=by simpa using hc
  lia
 ·intro c hc
  have:=h.2.2 c hc
  simp[isLet] at this
  lia
theorem gM:∀ (l:List Str),de (l.map D.str)=true
 |[]=>rfl
 |x :: l=>by simp[de,gM l,D.flat]
theorem jE:∀ (l:List Int),de (l.map D.int)=true
 |[]=>rfl
 |x :: l=>by simp[de,jE l,D.flat]
theorem wg(l:List Str)(x:Str):l.map D.str++[D.str x]=(l++[x]).map D.str:=by simp
theorem ints_app(l:List Int)(x:Int):l.map D.int++[D.int x]=(l++[x]).map D.int:=by simp
theorem gw{n i:Nat}{lo:Int}{x:D}(h:(iJ lo n)[i]? = some x):i<n/\x=.int (lo+(i:Nat)):=by
 unfold iJ at h
 rw[ot] at h
 by_cases hi:i<n
 ·rw[List.getElem?_range hi] at h
  exact⟨hi,(Option.some.inj h).symm⟩
 ·rw[A5 (by simpa using hi)] at h
  cases h
theorem e_(lo:Int)(n:Nat):(iJ lo n).length=n:=by simp[iJ]
theorem qe{lo:Int}{n:Nat}{x:D}(h:x∈iJ lo n):∃ i:Nat,i<n/\x=.int (lo+i):=by
 obtain⟨i,hi⟩:=Rx.mp h
 exact⟨i,gw hi⟩
theorem fH{α:Type}(l:List α):l.filter (fun _=>true)=l:=List.filter_eq_self.mpr fun _ _=>rfl
abbrev aC:=Int × Str × Int
def vw(s:aC):List Key:=[.inl s.1,.inr s.2.1,.inl s.2.2]
def cS(s:aC):D:=.tup [.int s.1,.str s.2.1,.int s.2.2]
def mD(many:Int)(steps:List aC):D:=.tup [.int many,.list (steps.map cS)]
theorem cA:∀ (l:List aC),de (l.map cS)=true
 |[]=>rfl
 |x :: l=>by simp[de,cA l,cS,D.flat]
def gg(many:Int)(s:aC):Prop:=0<=s.1/\s.1<many/\nX s.2.1/\0<=s.2.2/\s.2.2<many
theorem Gu{many:Int}{s:aC}(n:Nat)(h:gg many s):cE (n+1) (cS s)=true:=by
 have:=h.2.2.1.ok
 simp[cE,cS,this]
theorem zP{many:Int}{l:List aC}(n:Nat)(h:∀ s∈l,gg many s):cE (n+2) (.list (l.map cS))=true:=by
 simp only[cE,I0,zC]
 intro s hs
 exact Gu n (h s hs)
theorem Uj{many:Int}{l:List aC}(n:Nat)(h:∀ s∈l,gg many s):cE (n+3) (mD many l)=true:=by
 have h2:=zP n h
 show(cE (n+2) (.int many) && (cE (n+2) (.list (l.map cS)) && true))=true
 rw[h2]
 rfl
theorem uG:∀ (l:List aC),qh (l.map cS)=true
 |[]=>rfl
 |x :: l=>by simp[qh,uG l,cS,D.nb]
theorem ga'(many:Int)(l:List aC):(mD many l).nb=true:=by simp[mD,D.nb,qh,uG]
theorem eq_self{x:D}(h:x.nb=true):kK x x=true:=(lV x x h h).mpr rfl
theorem vB{s t:aC}(h:vw s=vw t):s=t:=by
 obtain⟨a,b,c⟩:=s
 obtain⟨a',b',c'⟩:=t
 simp[vw] at h
 obtain⟨rfl,rfl,rfl⟩:=h
 rfl
def ltP(s t:aC):Bool:=fo (vw s) (vw t)
theorem yr{P:aC->Prop}:∀ {ks:List (List Key)},(∀ k∈ks,∃ s,k=vw s/\P s)->∃ l:List aC,ks=l.map vw/\∀ s∈l,P s
 |[],_=>⟨[],rfl,fun s h=>nomatch h⟩
 |k :: ks,h=>by
  obtain⟨s,rfl,p⟩:=h k dz
  obtain⟨l,rfl,q⟩:=yr fun k hk=>h k (dn _ hk)
  refine⟨s :: l,rfl,fun t ht=>?_⟩
  rcases dv.mp ht with rfl|ht
  ·exact p
  ·exact q t ht
theorem Dr{names:List Str}{i:Int}(h0:0<=i)(h1:i<names.length):∃ n,n∈names/\fI (names.map D.str) i=some (.str n):=by
 have hn:i.toNat<names.length:=by lia
 refine⟨names[i.toNat],RC hn,?_⟩
 have:=BH (xs:=names.map D.str) (j:=i.toNat) (v:=.str names[i.toNat]) (by simp[hn])
 rwa[xB h0] at this
theorem name_mod{names:List Str}(x:Int)(h:1<=names.length):∃ n,n∈names/\fI (names.map D.str) (x % (names.length:Int))=some (.str n) :=
 Dr (si _ (by lia)) (sf _ (by lia))
theorem yD{α:Type}(f:α->D)(l:List α)(lo hi:Option Int):hV (l.map f) lo hi=(hV l lo hi).map f:=by
 unfold hV
 rw[bP,Ph,Pj]
theorem zz{α:Type}{l:List α}{lo hi:Option Int}{x:α}(h:x∈hV l lo hi):x∈l:=O6 (O7 h)
def g0(steps out:List aC):Prop:=out.Nodup/\(∀ s,s∈out↔s∈steps)/\(out.Pairwise fun a b=>ltP b a=false)
theorem gQ{α β:Type}{f:α->β}{l:List α}(h:(l.map f).Nodup):l.Nodup:=by
 rw[List.Nodup,qE] at h
 exact h.imp fun y2 e=>y2 (by rw[e])
theorem g0.one{steps out Zi:List aC}(M:g0 steps out)(M2:g0 steps Zi):out=Zi :=
 List.Perm.eq_of_pairwise (fun a b _ _ h1 h2=>vB (uf (a:=vw a) (b:=vw b) rfl h2 h1)) M.2.2 M2.2.2 ((List.perm_ext_iff_of_nodup M.1 M2.1).mpr fun s=>(M.2.1 s).trans (M2.2.1 s).symm)
theorem g0.len{steps out:List aC}(M:g0 steps out):out.length<=steps.length:=TS.bD M.1 fun s hs=>(M.2.1 s).mp hs
theorem pH{l:List aC}(P:List D->Prop)(hz:l.length<=1000)(k:∀ out,g0 l out->P (out.map cS)):∃ (ks:List (List Key)) (sh:List Bool),l.map cS=ks.map i5/\ks.length<=1000/\(∀ k∈ks,gV k=true :: sh) /\
  ∀ ms:List (List Key),ms.Nodup->(∀ k,k∈ms↔k∈ks)->(ms.Pairwise fun a b=>fo b a=false)->P (ms.map i5):=by
 refine⟨l.map vw,[false,true],by rw[eP];rfl,by simpa using hz,?_,fun ms nd mm pw=>?_⟩
 ·intro k hk
  obtain⟨s,_,rfl⟩:=cf.mp hk
  rfl
 ·obtain⟨out,rfl,ho⟩:=yr (P:=fun s=>s∈l) (ks:=ms) fun k hk=>by
   obtain⟨s,hs,rfl⟩:=cf.mp ((mm k).mp hk)
   exact⟨s,rfl,hs⟩
  have e:(out.map vw).map i5=out.map cS:=by rw[eP];rfl
  rw[e]
  refine k out ⟨gQ nd,fun s=>⟨fun hm=>ho s hm,fun hm=>?_⟩,qE.mp pw⟩
  obtain⟨s',fe,e⟩:=cf.mp ((mm (vw s)).mpr (cf.mpr ⟨s,hm,rfl⟩))
  rw[<- vB e];exact fe
theorem wj{steps:List aC}{i:Nat}{x:D}(h:(steps.map cS)[i]? = some x):∃ p d r,x=.tup [.int p,.str d,.int r]/\(p,d,r)∈steps/\steps.take (i+1)=steps.take i++[(p,d,r)]:=by
 rw[ot] at h
 cases e:steps[i]? with
 |none=>rw[e] at h;cases h
 |some s =>
  rw[e] at h
  cases h
  obtain⟨p,d,r⟩:=s
  exact⟨p,d,r,rfl,sL e,by rw[xt,e];rfl⟩
theorem CV{l:List Str}{i:Nat}{x:D}(h:(l.map D.str)[i]? = some x):∃ n,x=.str n/\n∈l/\l.take (i+1)=l.take i++[n]:=by
 rw[ot] at h
 cases e:l[i]? with
 |none=>rw[e] at h;cases h
 |some s =>
  rw[e] at h
  cases h
  exact⟨s,rfl,sL e,by rw[xt,e];rfl⟩
theorem vy{n:Str}:(decide (1<=n.length/\n.length<=6) && (sg n).all isLet)=true↔Open n:=by
 unfold Open lets
 simp only[kG,decide_eq_true_eq,zC]
 exact⟨fun⟨⟨a,b⟩,c⟩=>⟨a,b,c⟩,fun⟨a,b,c⟩=>⟨⟨a,b⟩,c⟩⟩
def AZ(f:Str->Option Str)(s:aC):aC:=(s.1,(f s.2.1).getD s.2.1,s.2.2)
theorem Df{many:Int}{f:Str->Option Str}{s:aC}(hf:∀ x y,f x=some y->nX y)(h:gg many s):gg many (AZ f s):=by
 refine⟨h.1,h.2.1,?_,h.2.2.2.1,h.2.2.2.2⟩
 show nX ((f s.2.1).getD s.2.1)
 cases e:f s.2.1 with
 |none=>exact h.2.2.1
 |some y=>exact hf _ y e
theorem g0.ok{many:Int}{l out:List aC}(h:∀ s∈l,gg many s)(M:g0 l out):∀ s∈out,gg many s:=fun s hs=>h s ((M.2.1 s).mp hs)
theorem gc'{many:Int}{l:List aC}(h:∀ s∈l,gg many s):cE 12 (D.tup [.int many,.list (l.map cS)])=true:=Uj 9 h
theorem pO{n:Nat}{l:List Str}(h:∀ x∈l,Open x):cE (n+1) (.list (l.map D.str))=true:=by
 simp only[cE,I0,zC]
 intro s hs
 have:=nX.ok (.inr (h s hs))
 cases n<;>simpa[cE] using this
theorem vD:∀ (l:List Str),qh (l.map D.str)=true
 |[]=>rfl
 |x :: l=>by simp[qh,vD l,D.nb]
theorem vV{κ β:Type}[DecidableEq κ](k k':κ)(v:β):∀ (ae:List (κ × β)),fq (ae.map fun kv=>if kv.1=k then (kv.1,v) else kv) k'=if k'=k then (fq ae k').map (fun _=>v) else fq ae k'
 |[]=>by simp[fq]
 |p :: r=>by
  rw[fP,fV,fV,vV k k' v r]
  by_cases h:p.1=k
  ·rw[if_pos h]
   by_cases h2:k'=k
   ·subst h2;simp[h]
   ·have:¬ p.1=k':=fun z=>h2 (z.symm.trans h)
    simp[this,h2]
  ·rw[if_neg h]
   by_cases h2:k'=k
   ·subst h2;simp[h]
   ·simp[h2]
theorem tU{κ β:Type}[DecidableEq κ](k k':κ)(v:β):∀ (ae:List (κ × β)),fq (ae++[(k,v)]) k'=(fq ae k').or (if k=k' then some v else none)
 |[]=>by rw[List.nil_append,fV];rfl
 |p :: r=>by
  rw[O_,fV,fV,tU k k' v r]
  split<;>simp
theorem lU{κ β:Type}[DecidableEq κ](k k':κ)(v:β)(ae:List (κ × β)):fq (mE ae k v) k'=if k'=k then some v else fq ae k':=by
 have ex:∀ ae:List (κ × β),(ae.any fun kv=>decide (kv.1=k))=(fq ae k).isSome:=fun ae=>by
  induction ae with
  |nil=>rfl
  |cons p r ih =>
   rw[zD,fV,ih]
   by_cases h:p.1=k<;>simp[h]
 unfold mE
 rw[ex ae]
 cases e:fq ae k with
 |none =>
  simp only[Option.isSome_none,gy,if_false]
  rw[tU]
  by_cases h:k'=k
  ·subst h;rw[e];simp
  ·rw[if_neg h,if_neg fun z=>h z.symm];simp
 |some u =>
  simp only[Option.isSome_some,if_true]
  rw[vV]
  by_cases h:k'=k
  ·subst h;rw[e];simp
  ·rw[if_neg h,if_neg h]
def CD(steps:List aC):List Str:=steps.map (·.2.1)
theorem g0.uniq{a b o1 o2:List aC}(h:∀ s,s∈a↔s∈b)(M1:g0 a o1)(M2:g0 b o2):o1=o2 :=
 M1.one ⟨M2.1,fun s=>(M2.2.1 s).trans (h s).symm,M2.2.2⟩
def oS(n:Int)(tg:List Str)(s:aC):List aC:=if s.2.1∈tg then [] else (List.range n.toNat).map fun q:Nat=>(s.1*n+(0+(q:Int)),s.2.1,s.2.2*n+(0+(q:Int)))
def pd(m n:Int)(tg:List Str)(s:aC):List aC:=if s.2.1∈tg then [] else (List.range m.toNat).map fun p:Nat=>((0+(p:Int))*n+s.1,s.2.1,(0+(p:Int))*n+s.2.2)
def toS(n:Int)(tg:List Str)(l2:List aC)(s:aC):List aC:=if s.2.1∈tg then (l2.filter fun t=>decide (t.2.1=s.2.1)).map fun t=>(s.1*n+t.1,s.2.1,s.2.2*n+t.2.2) else []
def mG(m n:Int)(tg:List Str)(l1 l2:List aC):List aC:=l1.flatMap (oS n tg)++l2.flatMap (pd m n tg)++l1.flatMap (toS n tg l2)
theorem vf{n:Int}{tg:List Str}{s x:aC}:x∈oS n tg s↔s.2.1∉tg/\∃ q:Nat,q<n.toNat/\x=(s.1*n+(0+(q:Int)),s.2.1,s.2.2*n+(0+(q:Int))):=by
 unfold oS
 split
 ·rename_i h;simp[h]
 ·rename_i h
  simp only[cf,px,h,not_false_eq_true,true_and]
  exact⟨fun⟨q,a,b⟩=>⟨q,a,b.symm⟩,fun⟨q,a,b⟩=>⟨q,a,b.symm⟩⟩
theorem vP{m n:Int}{tg:List Str}{s x:aC}:x∈pd m n tg s↔s.2.1∉tg/\∃ p:Nat,p<m.toNat/\x=((0+(p:Int))*n+s.1,s.2.1,(0+(p:Int))*n+s.2.2):=by
 unfold pd
 split
 ·rename_i h;simp[h]
 ·rename_i h
  simp only[cf,px,h,not_false_eq_true,true_and]
  exact⟨fun⟨q,a,b⟩=>⟨q,a,b.symm⟩,fun⟨q,a,b⟩=>⟨q,a,b.symm⟩⟩
theorem u_{n:Int}{tg:List Str}{l2:List aC}{s x:aC}:x∈toS n tg l2 s↔s.2.1∈tg/\∃ t,t∈l2/\t.2.1=s.2.1/\x=(s.1*n+t.1,s.2.1,s.2.2*n+t.2.2):=by
 unfold toS
 split
 ·rename_i h
  simp only[cf,kE,decide_eq_true_eq,h,true_and]
  exact⟨fun⟨q,a,b⟩=>⟨q,a.1,a.2,b.symm⟩,fun⟨q,a,c,b⟩=>⟨q,⟨a,c⟩,b.symm⟩⟩
 ·rename_i h;simp[h]
theorem uY{m n:Int}{tg:List Str}{l1 l2:List aC}{x:aC}:x∈mG m n tg l1 l2↔(∃ s,s∈l1/\x∈oS n tg s)\/(∃ s,s∈l2/\x∈pd m n tg s)\/(∃ s,s∈l1/\x∈toS n tg l2 s):=by
 unfold mG
 simp only[dA,RG,or_assoc]
theorem Ca{l:List aC}{g:aC->List aC}{p:aC->Bool}{k:Nat}(h:∀ s,(g s).length<=if p s then k else 0):(l.flatMap g).length<=(l.filter p).length*k:=by
 induction l with
 |nil=>simp
 |cons s l ih =>
  have:=h s
  rw[List.flatMap_cons,js,RA]
  cases e:p s with
  |true=>rw[e] at this;simp only[if_true,pj] at *;rw[Nat.add_mul];lia
  |false=>rw[e] at this;simp only[gy,if_false] at *;lia
theorem fU(l:List Str):(l.map D.str).all gB=true:=by
 rw[zC]
 intro x hx
 obtain⟨c,_,rfl⟩:=cf.mp hx
 rfl
theorem jc(x:Str)(l:List Str):inD (.str x) (l.map D.str)=decide (x∈l):=by
 unfold inD
 rw[Bi,List.any_eq_true,decide_eq_true_iff]
 constructor
 ·rintro⟨y,hy,e⟩
  obtain⟨c,hc,rfl⟩:=cf.mp hy
  have:=(lV (.str c) (.str x) rfl rfl).mp e
  cases this
  exact hc
 ·intro hx
  exact⟨.str x,cf.mpr ⟨x,hx,rfl⟩,(lV (.str x) (.str x) rfl rfl).mpr rfl⟩
def uE (steps:List aC) (k:Nat):Prop:=∃ l:List Str,l.Nodup/\(∀ n,n∈l↔n∈CD steps/\n ≠ "*")/\l.length=k
theorem Bh{α:Type}[DecidableEq α]{l m:List α}(h1:l.Nodup)(h2:m.Nodup)(h:∀ x,x∈l↔x∈m):l.length=m.length :=
 JA (TS.bD h1 fun x hx=>(h x).mp hx) (TS.bD h2 fun x hx=>(h x).mpr hx)
theorem uE.uniq{steps:List aC}{j k:Nat}(a:uE steps j)(b:uE steps k):j=k:=by
 obtain⟨l,n1,m1,rfl⟩:=a
 obtain⟨m,n2,m2,rfl⟩:=b
 exact Bh n1 n2 fun x=>(m1 x).trans (m2 x).symm
def Rc(many:Int)(c k:Nat):Prop:=many<=20/\c<=80/\k<=6
def tJ (names:List Str) (x:Str):Option Str:=if x∈names then some "*" else none
theorem BX{names:List Str}(x y:Str)(h:tJ names x=some y):nX y:=by
 unfold tJ at h
 split at h
 ·cases h;exact .inl rfl
 ·cases h
abbrev Rf(names:List Str):aC->aC:=AZ (tJ names)
theorem uM (names:List Str) (d:Str):(tJ names d).getD d=if d∈names then ("*" : Str) else d:=by
 unfold tJ
 split<;>rfl
abbrev Pr:=Str × Str
def oq(p:Pr):D:=.tup [.str p.1,.str p.2]
def EZ(p:Pr):Prop:=Open p.1/\Open p.2
def lk:List Pr->Str->Option Str
 |[],_=>none
 |p :: r,x=>if p.1=x then some p.2 else lk r x
theorem yx(a:List Pr)(p:Pr)(x:Str):lk (a++[p]) x=(lk a x).or (if p.1=x then some p.2 else none):=by
 induction a with
 |nil=>simp[lk]
 |cons q a ih =>
  simp only[O_,lk]
  by_cases h:q.1=x
  ·rw[if_pos h,if_pos h];rfl
  ·rw[if_neg h,if_neg h,ih]
theorem FQ{ps:List Pr}(h:∀ p∈ps,EZ p)(x y:Str)(e:lk ps x=some y):nX y:=by
 induction ps with
 |nil=>cases e
 |cons p ps ih =>
  simp only[lk] at e
  split at e
  ·cases e;exact .inr (h p dz).2
  ·exact ih (fun q hq=>h q (dn _ hq)) e
theorem IK{ps:List Pr}{i:Nat}{x:D}(h:(ps.map oq)[i]? = some x):∃ a b,x=.tup [.str a,.str b]/\(a,b)∈ps/\ps.take (i+1)=ps.take i++[(a,b)]:=by
 rw[ot] at h
 cases e:ps[i]? with
 |none=>rw[e] at h;cases h
 |some s =>
  rw[e] at h
  cases h
  obtain⟨a,b⟩:=s
  exact⟨a,b,rfl,sL e,by rw[xt,e];rfl⟩
theorem Br:∀ (l:List Pr),de (l.map oq)=true
 |[]=>rfl
 |x :: l=>by simp[de,Br l,oq,D.flat]
theorem zL:∀ (l:List Pr),qh (l.map oq)=true
 |[]=>rfl
 |x :: l=>by simp[qh,zL l,oq,D.nb]
theorem Ex{n:Nat}{l:List Pr}(h:∀ x∈l,EZ x):cE (n+2) (.list (l.map oq))=true:=by
 simp only[cE,I0,zC]
 intro s hs
 have h1:=nX.ok (.inr (h s hs).1)
 have h2:=nX.ok (.inr (h s hs).2)
 simp[cE,oq,h1,h2]
theorem wD{m n:Int}{tg:List Str}{l1 l2:List aC}(n0:0<=n)(m0:0<=m){a b:Int}{d:Str}:((a,d,b):aC)∈mG m n tg l1 l2 ↔
  (d∉tg/\∃ p r q,(p,d,r)∈l1/\(0<=q/\q<n)/\a=p*n+q/\b=r*n+q)\/(d∉tg/\∃ p q s,(q,d,s)∈l2/\(0<=p/\p<m)/\a=p*n+q/\b=p*n+s) \/
  (d∈tg/\∃ p r q s,(p,d,r)∈l1/\(q,d,s)∈l2/\a=p*n+q/\b=r*n+s):=by
 rw[uY]
 constructor
 ·rintro(⟨⟨p,e,r⟩,hs,h⟩|⟨⟨q,e,s⟩,hs,h⟩|⟨⟨p,e,r⟩,hs,h⟩)
  ·obtain⟨ht,k,hk,e1⟩:=vf.mp h
   simp only[Prod.mk.injEq] at e1
   obtain⟨rfl,rfl,rfl⟩:=e1
   exact .inl ⟨ht,p,r,k,hs,by lia,by simp,by simp⟩
  ·obtain⟨ht,k,hk,e1⟩:=vP.mp h
   simp only[Prod.mk.injEq] at e1
   obtain⟨rfl,rfl,rfl⟩:=e1
   exact .inr (.inl ⟨ht,k,q,s,hs,by lia,by simp,by simp⟩)
  ·obtain⟨ht,⟨q,e2,s⟩,hu,e3,e1⟩:=u_.mp h
   simp only[Prod.mk.injEq] at e1 e3
   obtain⟨rfl,rfl,rfl⟩:=e1
   subst e3
   exact .inr (.inr ⟨ht,p,r,q,s,hs,hu,rfl,rfl⟩)
 ·rintro(⟨ht,p,r,q,hs,hq,rfl,rfl⟩|⟨ht,p,q,s,hs,hp,rfl,rfl⟩|⟨ht,p,r,q,s,h1,h2,rfl,rfl⟩)
  ·exact .inl ⟨_,hs,vf.mpr ⟨ht,q.toNat,by lia,by simp[xB hq.1]⟩⟩
  ·exact .inr (.inl ⟨_,hs,vP.mpr ⟨ht,p.toNat,by lia,by simp[xB hp.1]⟩⟩)
  ·exact .inr (.inr ⟨_,h1,u_.mpr ⟨ht,_,h2,rfl,rfl⟩⟩)
theorem apart{n p q:Int}(h:0<=q/\q<n):(p*n+q) / n=p/\(p*n+q) % n=q:=by
 have hn:n≠0:=by lia
 rw[Int.add_comm,Int.add_mul_ediv_right _ _ hn,Int.ediv_eq_zero_of_lt h.1 h.2,Int.add_mul_emod_self_right,Int.emod_eq_of_lt h.1 h.2]
 exact⟨by lia,rfl⟩
theorem low{n o q c:Int}(hq:0<=q/\q<n)(hc:0<=c/\c<o):0<=q*o+c/\q*o+c<n*o:=by
 have h1:0<=q*o:=DH hq.1 (by lia)
 have h2:(q+1)*o<=n*o:=DF (by lia) (by lia)
 rw[Int.add_mul,Int.one_mul] at h2
 lia
theorem Dj{m n:Int}{tg:List Str}{l1 l2:List aC}(m0:0<=m)(n0:0<=n)(h1:∀ s∈l1,gg m s)(h2:∀ s∈l2,gg n s):∀ s∈mG m n tg l1 l2,gg (m*n) s:=fun s hm=>by
 obtain⟨a,d,b⟩:=s
 rcases (wD n0 m0).mp hm with⟨ht,p,r,q,hs,hq,rfl,rfl⟩|⟨ht,p,q,s,hs,hp,rfl,rfl⟩|⟨ht,p,r,q,s,hs,hu,rfl,rfl⟩
 ·have o:=h1 _ hs
  have x:=low ⟨o.1,o.2.1⟩ hq
  have y:=low ⟨o.2.2.2.1,o.2.2.2.2⟩ hq
  exact⟨x.1,x.2,o.2.2.1,y.1,y.2⟩
 ·have o:=h2 _ hs
  have x:=low hp ⟨o.1,o.2.1⟩
  have y:=low hp ⟨o.2.2.2.1,o.2.2.2.2⟩
  exact⟨x.1,x.2,o.2.2.1,y.1,y.2⟩
 ·have o:=h1 _ hs
  have o2:=h2 _ hu
  have x:=low ⟨o.1,o.2.1⟩ ⟨o2.1,o2.2.1⟩
  have y:=low ⟨o.2.2.2.1,o.2.2.2.2⟩ ⟨o2.2.2.2.1,o2.2.2.2.2⟩
  exact⟨x.1,x.2,o.2.2.1,y.1,y.2⟩
inductive bG where
 |right (n:Int) (l:List aC) (tg:List Str)
 |left (n:Int) (l:List aC) (tg:List Str)
 |iL (names:List Str)
 |ke (ps:List Pr)
def bG.d:bG->D
 |.right n l tg=>.tup [.str "right",mD n l,.list (tg.map .str)]
 |.left n l tg=>.tup [.str "left",mD n l,.list (tg.map .str)]
 |.iL names=>.tup [.str "hide",.list (names.map .str)]
 |.ke ps=>.tup [.str "rename",.list (ps.map oq)]
def bG.many:bG->Int->Int
 |.right n _ _,m=>m*n
 |.left n _ _,m=>n*m
 |_,m=>m
def bG.raw:bG->Int->List aC->List aC
 |.right n l2 tg,m,l=>mG m n tg l l2
 |.left n l2 tg,m,l=>mG n m tg l2 l
 |.iL names,_,l=>l.map (Rf names)
 |.ke ps,_,l=>l.map (AZ (lk ps))
def bG.Ok(names:List Str):bG->Prop
 |.right n l tg|.left n l tg=>1<=n/\n<=3/\l.length<=4/\(∀ s∈l,gg n s/\s.2.1∈names)/\∀ t∈tg,Open t
 |.iL ns=>ns.length<=6/\∀ t∈ns,Open t
 |.ke ps=>ps.length<=4/\∀ p∈ps,EZ p/\p.2∈names
structure Hm(names:List Str)(m:Int)(l:List aC):Prop where
 m1:1<=m
 m2:m<=20
 ok:∀ s∈l,gg m s/\s.2.1∈names
 len:l.length<=80
def CF (names:List Str):Prop:=∃ pool:List Str,names=("*" : Str) :: pool/\pool.length<=6
theorem Dd{rows:List bG}{i:Nat}{x:D}(h:(rows.map bG.d)[i]? = some x):∃ r,x=r.d/\r∈rows/\rows.take (i+1)=rows.take i++[r]/\rows=rows.take i++r :: rows.drop (i+1):=by
 rw[ot] at h
 cases e:rows[i]? with
 |none=>rw[e] at h;cases h
 |some r =>
  rw[e] at h
  cases h
  obtain⟨hi,e2⟩:=mI.mp e
  refine⟨r,rfl,sL e,by rw[xt,e];rfl,?_⟩
  rw[<- e2,List.getElem_cons_drop,CY]
def mJ:WS :=
 (bq (gu (AR (tj (wB (eW (AU "str") (ag 0)))) (tj (wB (rZ MV MV (wC (.int 1)) (eW oP (ag 0)) (wC (.int 6))))))
 (i7 (wC (.bl false)))
 cz)
 (i7 (eW TX (fZ (Bj (ag 0)) (gN 0) sC (av (qk false) (ag 0) (wC (.str "abcdefghijklmnopqrstuvwxyz"))) 1 []))))
theorem EY{c:Nat}:yk ⟨#[c]⟩ abc=isLet c:=by
 rw[DR]
 have:abc.cps.toList=(List.range 26).map (97 + ·):=qt
 rw[this]
 apply Bi.mpr
 simp only[decide_eq_true_eq,isLet,cf,px]
 constructor
 ·rintro⟨i,hi,rfl⟩;lia
 ·intro h;exact⟨c-97,by lia,by lia⟩
def bR:dQ:=fun ds Q=>∃ x:Str,ds=[.str x]/\Q .sh (.bl (decide (1<=x.length/\x.length<=6) && (sg x).all isLet))
theorem ue (ds Q) (h:bR ds Q):ds.length=["thing"].length:=by obtain⟨_,rfl,_⟩:=h;rfl
theorem zy:∀ ds Q,bR ds Q->mJ { nx:=fun _=>Q .sh .non,rt:=Q } (aW 1 ds):=by
 rintro ds Q ⟨x,rfl,h⟩
 unfold mJ
 walk_at "q"
 refine R.F rfl ?_
 walk_at "q"
 refine R.D (fun h1=>?_) fun h1=>?_
 ·walk_at "q"
  refine R.B (fun h2=>?_) fun h2=>?_
  rotate_left
  ·have h2:x.length<=6:=by simp at h2;lia
   walk_at "q"
   refine bz (fun _=>true) (fun d=>match d with
    |.str z=>.bl (yk z abc)
    |d=>d) (fun ρ=>∃ o,ρ=[o]) _ _ _ ⟨_,rfl⟩ ?_ ?_
   ·rintro y hy ρ ⟨o,rfl⟩ N1 N2 _ h2
    obtain⟨c,hc,rfl⟩:=cf.mp hy
    walk_at "q"
    exact⟨.inl rfl,h2 _ ⟨_,rfl⟩ rfl⟩
   ·rw[fH]
    refine⟨(sg x).map isLet,?_,?_⟩
    ·unfold TJ
     rw[eP,eP]
     refine E7 fun c _=>?_
     show D.bl (yk ⟨#[c]⟩ abc)=_
     rw[EY];rfl
    ·rw[decide_eq_true (by lia),Bool.true_and] at h
     rw[I0]
     exact h
  ·have h2:¬ x.length<=6:=by simp at h2;lia
   walk_at "q"
   rw[decide_eq_false (by lia),Bool.false_and] at h
   exact h
 ·walk_at "q"
  rw[decide_eq_false (by lia),Bool.false_and] at h
  exact h
def jP:WS :=
 (i7 (eW jC (fZ (eZ (av ck (ag 0) (wC (.int 1)))) (gN 0) sC (av ck (ag 0) (wC (.int 1))) 1 [])))
def cH:dQ:=fun ds Q=>∃ (many:Int) (steps:List aC),ds=[mD many steps]/\steps.length<=1000/\∀ names:List Str,names.Nodup->(∀ n,n∈names↔n∈CD steps)->Q (.ow true) (.list (names.map .str))
theorem qR (ds Q) (h:cH ds Q):ds.length=["m"].length:=by obtain⟨_,_,rfl,_⟩:=h;rfl
theorem wV:∀ ds Q,cH ds Q->jP { nx:=fun _=>Q .sh .non,rt:=Q } (aW 1 ds):=by
 rintro ds Q ⟨many,steps,rfl,hz,h⟩
 unfold jP mD
 walk_at "q"
 refine bz (fun _=>true) (fun d=>match d with
  |.tup [.int p,.str d,.int r]=>.str d
  |d=>d) (fun ρ=>∃ o,ρ=[o]) _ _ _ ⟨_,rfl⟩ ?_ ?_
 ·rintro x hx ρ ⟨o,rfl⟩ N1 N2 _ h2
  obtain⟨⟨p,d,r⟩,fe,rfl⟩:=cf.mp hx
  unfold cS
  walk_at "q"
  exact⟨.inl rfl,h2 _ ⟨_,rfl⟩ rfl⟩
 ·rw[fH]
  refine⟨(CD steps).map Sum.inr,false,?_,by simp[CD];exact hz,?_,?_⟩
  ·unfold CD
   rw[eP,eP,eP];rfl
  ·intro k hk
   obtain⟨x,_,rfl⟩:=cf.mp hk
   rfl
  ·intro ms nd mm pw
   have mw:∀ k∈ms,∃ x,k=Sum.inr x/\x∈CD steps:=fun k hk=>by
    obtain⟨x,hx,rfl⟩:=cf.mp ((mm k).mp hk)
    exact⟨x,rfl,hx⟩
   obtain⟨names,rfl⟩:∃ names:List Str,ms=names.map Sum.inr:=by
    clear nd mm pw
    induction ms with
    |nil=>exact⟨[],rfl⟩
    |cons k ms ih =>
     obtain⟨x,rfl,_⟩:=mw k dz
     obtain⟨l,rfl⟩:=ih fun k hk=>mw k (dn _ hk)
     exact⟨x :: l,rfl⟩
   have e:(names.map (Sum.inr:Str->Key)).map oQ=names.map D.str:=by rw[eP];rfl
   rw[e]
   refine h names (gQ nd) fun n=>?_
   have:=mm (Sum.inr n)
   simpa using this
def fG:WS :=
 (bq (dc 3 (av ck (ag 1) (wC (.int 0))))
 (bq (dc 4 (nS b9))
 (bq (gd 0 (lh (eN (av ck (ag 0) (wC (.int 1)))) (gT 3 (a_ (gN 5) (a_ (gN 6) (a_ (gN 7) iH))))
 (gu (wB (av (qk true) (ag 6) (ag 2)))
 (gd 6 (OD (rj 4) (fZ (fM (ag 3)) (gN 0) sC (i6 (ak (av fN (av kD (ag 4) (ag 3)) (ag 0)) (ak (ag 1) (ak (av fN (av kD (ag 2) (ag 3)) (ag 0)) b9)))) 1 [6,7,3,5])))
 cz)))
 (iI 4))))
def bw:dQ:=fun ds Q=>∃ (m n:Int) (l1 l2:List aC) (tg:List Str),ds=[mD m l1,mD n l2,.list (tg.map .str)]/\1<=n/\n<=20/\l1.length<=80/\(∀ s∈l1,gg 20 s)/\Q (.ow true) (.list ((l1.flatMap (oS n tg)).map cS))
theorem lD (ds Q) (h:bw ds Q):ds.length=["one", "other", "together"].length:=by obtain⟨_,_,_,_,_,rfl,_⟩:=h;rfl
theorem z8(n:Int)(tg:List Str)(s:aC):(oS n tg s).length<=n.toNat:=by
 unfold oS
 split<;>simp
theorem jX{l:List aC}{g:aC->List aC}{k:Nat}(h:∀ s,(g s).length<=k):(l.flatMap g).length<=l.length*k:=by
 have:=Ca (l:=l) (g:=g) (p:=fun _=>true) (k:=k) (fun s=>by simpa using h s)
 rwa[fH] at this
theorem nO:∀ ds Q,bw ds Q->fG { nx:=fun _=>Q .sh .non,rt:=Q } (aW 8 ds):=by
 rintro ds Q ⟨m,n,l1,l2,tg,rfl,n1,n2,hz,ok,h⟩
 unfold fG mD
 walk_at "q"
 refine bM _ (fun i ρ=>∃ (o5 o6 o7:Option Sl),ρ=[some (.sh (.tup [.int m,.list (l1.map cS)])),some (.sh (.tup [.int n,.list (l2.map cS)])),some (.sh (.list (tg.map .str))),some (.sh (.int n)),some (.ow true (.list (((l1.take i).flatMap (oS n tg)).map cS))),o5,o6,o7]) ⟨_,_,_,rfl⟩ ?_ ?_
 ·rintro i x ρ hx ⟨o5,o6,o7,rfl⟩ N hN
  have hi:=(mI.mp hx).1
  rw[bP] at hi
  obtain⟨p,d,r,rfl,ht,et⟩:=wj hx
  have hs:=ok _ ht
  have hl:=jX (l:=l1.take i) (z8 n tg)
  have x8:(l1.take i).length*n.toNat<=80*80:=zI (by rw[kz];lia) (by lia)
  have a1:=hs.1
  have a2:=hs.2.1
  have a3:=hs.2.2.2.1
  have a4:=hs.2.2.2.2
  simp only at a1 a2 a3 a4
  have b1:0<=p*n:=DH (by lia) (by lia)
  have b2:p*n<=20*20:=DI (by lia) (by lia) (by lia) (by lia)
  have b3:0<=r*n:=DH (by lia) (by lia)
  have b4:r*n<=20*20:=DI (by lia) (by lia) (by lia) (by lia)
  walk_at "q"
  refine⟨rfl,fU tg,?_⟩
  rw[jc]
  have fin:N [some (.sh (.tup [.int m,.list (l1.map cS)])),some (.sh (.tup [.int n,.list (l2.map cS)])),some (.sh (.list (tg.map .str))),some (.sh (.int n)),some (.ow true (.list (((l1.take i).flatMap (oS n tg)).map cS++(oS n tg (p,d,r)).map cS))),some (.sh (.int p)),some (.sh (.str d)),some (.sh (.int r))]:=by
   rw[<- mM,show(l1.take i).flatMap (oS n tg)++oS n tg (p,d,r)=(l1.take (i+1)).flatMap (oS n tg) by rw[et,O8];simp]
   exact hN _ ⟨_,_,_,rfl⟩
  by_cases hd:d∈tg
  ·refine R.F (by simp[hd]) ?_
   walk_at "q"
   have e0:oS n tg (p,d,r)=[]:=if_pos hd
   rw[e0,IZ,kF] at fin
   exact fin
  ·refine R.T (by simp[hd]) ?_
   walk_at "q"
   refine⟨by lia,by lia,bz (fun _=>true) (fun x=>match x with
    |.int q=>.tup [.int (p*n+q),.str d,.int (r*n+q)]
    |x=>x) (fun ρ=>∃ o,ρ=[o,some (.sh (.str d)),some (.sh (.int r)),some (.sh (.int n)),some (.sh (.int p))]) _ _ _ ⟨_,rfl⟩ ?_ ?_⟩
   ·rintro y hy ρ ⟨o,rfl⟩ N1 N2 _ h2
    obtain⟨q,hq,rfl⟩:=qe hy
    walk_at "q"
    exact⟨.inl ⟨by lia,by lia⟩,.inl ⟨by lia,by lia⟩,.inl rfl,h2 _ ⟨_,rfl⟩ rfl⟩
   ·rw[fH]
    have e0:(iJ 0 n.toNat).map (fun x=>match x with
     |.int q=>D.tup [.int (p*n+q),.str d,.int (r*n+q)]
     |x=>x)=(oS n tg (p,d,r)).map cS:=by
     rw[show oS n tg (p,d,r)=_ from if_neg hd]
     unfold iJ
     rw[eP,eP];rfl
    rw[e0]
    have:=z8 n tg (p,d,r)
    exact⟨cA _,by rw[bP];lia,fin⟩
 ·rintro ρ ⟨o5,o6,o7,rfl⟩
  rw[bP,rX]
  walk_at "q"
  exact h
def dF:WS :=
 (bq (dc 3 (av ck (ag 1) (wC (.int 0))))
 (bq (dc 4 (nS b9))
 (bq (gd 1 (lh (eN (av ck (ag 1) (wC (.int 1)))) (gT 3 (a_ (gN 5) (a_ (gN 6) (a_ (gN 7) iH))))
 (gu (wB (av (qk true) (ag 6) (ag 2)))
 (gd 6 (OD (rj 4) (fZ (fM (av ck (ag 0) (wC (.int 0)))) (gN 0) sC (i6 (ak (av fN (av kD (ag 0) (ag 3)) (ag 4)) (ak (ag 1) (ak (av fN (av kD (ag 0) (ag 3)) (ag 2)) b9)))) 1 [6,7,3,5])))
 cz)))
 (iI 4))))
def aP:dQ:=fun ds Q=>∃ (m n:Int) (l1 l2:List aC) (tg:List Str),ds=[mD m l1,mD n l2,.list (tg.map .str)]/\1<=m/\m<=20/\1<=n/\n<=20/\l2.length<=80/\(∀ s∈l2,gg 20 s)/\Q (.ow true) (.list ((l2.flatMap (pd m n tg)).map cS))
theorem jA (ds Q) (h:aP ds Q):ds.length=["one", "other", "together"].length:=by obtain⟨_,_,_,_,_,rfl,_⟩:=h;rfl
theorem zf(m n:Int)(tg:List Str)(s:aC):(pd m n tg s).length<=m.toNat:=by
 unfold pd
 split<;>simp
theorem lE:∀ ds Q,aP ds Q->dF { nx:=fun _=>Q .sh .non,rt:=Q } (aW 8 ds):=by
 rintro ds Q ⟨m,n,l1,l2,tg,rfl,m1,m2,n1,n2,hz,ok,h⟩
 unfold dF mD
 walk_at "q"
 refine bM _ (fun i ρ=>∃ (o5 o6 o7:Option Sl),ρ=[some (.sh (.tup [.int m,.list (l1.map cS)])),some (.sh (.tup [.int n,.list (l2.map cS)])),some (.sh (.list (tg.map .str))),some (.sh (.int n)),some (.ow true (.list (((l2.take i).flatMap (pd m n tg)).map cS))),o5,o6,o7]) ⟨_,_,_,rfl⟩ ?_ ?_
 ·rintro i x ρ hx ⟨o5,o6,o7,rfl⟩ N hN
  have hi:=(mI.mp hx).1
  rw[bP] at hi
  obtain⟨p,d,r,rfl,ht,et⟩:=wj hx
  have hs:=ok _ ht
  have hl:=jX (l:=l2.take i) (zf m n tg)
  have x8:(l2.take i).length*m.toNat<=80*80:=zI (by rw[kz];lia) (by lia)
  have a1:=hs.1
  have a2:=hs.2.1
  have a3:=hs.2.2.2.1
  have a4:=hs.2.2.2.2
  simp only at a1 a2 a3 a4
  walk_at "q"
  refine⟨rfl,fU tg,?_⟩
  rw[jc]
  have fin:N [some (.sh (.tup [.int m,.list (l1.map cS)])),some (.sh (.tup [.int n,.list (l2.map cS)])),some (.sh (.list (tg.map .str))),some (.sh (.int n)),some (.ow true (.list (((l2.take i).flatMap (pd m n tg)).map cS++(pd m n tg (p,d,r)).map cS))),some (.sh (.int p)),some (.sh (.str d)),some (.sh (.int r))]:=by
   rw[<- mM,show(l2.take i).flatMap (pd m n tg)++pd m n tg (p,d,r)=(l2.take (i+1)).flatMap (pd m n tg) by rw[et,O8];simp]
   exact hN _ ⟨_,_,_,rfl⟩
  by_cases hd:d∈tg
  ·refine R.F (by simp[hd]) ?_
   walk_at "q"
   have e0:pd m n tg (p,d,r)=[]:=if_pos hd
   rw[e0,IZ,kF] at fin
   exact fin
  ·refine R.T (by simp[hd]) ?_
   walk_at "q"
   refine⟨by lia,by lia,bz (fun _=>true) (fun x=>match x with
    |.int q=>.tup [.int (q*n+p),.str d,.int (q*n+r)]
    |x=>x) (fun ρ=>∃ o,ρ=[o,some (.sh (.str d)),some (.sh (.int r)),some (.sh (.int n)),some (.sh (.int p))]) _ _ _ ⟨_,rfl⟩ ?_ ?_⟩
   ·rintro y hy ρ ⟨o,rfl⟩ N1 N2 _ h2
    obtain⟨q,hq,rfl⟩:=qe hy
    have b1:0<=(0+(q:Int))*n:=DH (by lia) (by lia)
    have b2:(0+(q:Int))*n<=20*20:=DI (by lia) (by lia) (by lia) (by lia)
    walk_at "q"
    exact⟨.inl ⟨by lia,by lia⟩,.inl ⟨by lia,by lia⟩,.inl rfl,h2 _ ⟨_,rfl⟩ rfl⟩
   ·rw[fH]
    have e0:(iJ 0 m.toNat).map (fun x=>match x with
     |.int q=>D.tup [.int (q*n+p),.str d,.int (q*n+r)]
     |x=>x)=(pd m n tg (p,d,r)).map cS:=by
     rw[show pd m n tg (p,d,r)=_ from if_neg hd]
     unfold iJ
     rw[eP,eP];rfl
    rw[e0]
    have:=zf m n tg (p,d,r)
    exact⟨cA _,by rw[bP];lia,fin⟩
 ·rintro ρ ⟨o5,o6,o7,rfl⟩
  rw[bP,rX]
  walk_at "q"
  exact h
def dH:WS :=
 (bq (dc 3 (av ck (ag 1) (wC (.int 0))))
 (bq (dc 4 (nS b9))
 (bq (gd 0 (lh (eN (av ck (ag 0) (wC (.int 1)))) (gT 3 (a_ (gN 5) (a_ (gN 6) (a_ (gN 7) iH))))
 (gu (wB (av (qk false) (ag 6) (ag 2)))
 (bq (dc 8 (fZ (eZ (av ck (ag 1) (wC (.int 1)))) (gN 0) (wB (av kN (av ck (ag 0) (wC (.int 1))) (ag 1))) (ag 0) 1 [6]))
 (gd 6 (OD (rj 4) (fZ (eZ (ag 8)) (gN 0) sC (i6 (ak (av fN (av kD (ag 4) (ag 3)) (av ck (ag 0) (wC (.int 0)))) (ak (ag 1) (ak (av fN (av kD (ag 2) (ag 3)) (av ck (ag 0) (wC (.int 2)))) b9)))) 1 [6,7,3,5]))))
 cz)))
 (iI 4))))
def aQ:dQ:=fun ds Q=>∃ (m n:Int) (l1 l2:List aC) (tg:List Str),ds=[mD m l1,mD n l2,.list (tg.map .str)]/\1<=n/\n<=20/\l1.length<=80/\l2.length<=80/\(∀ s∈l1,gg 20 s)/\(∀ s∈l2,gg 20 s)/\Q (.ow true) (.list ((l1.flatMap (toS n tg l2)).map cS))
theorem jl (ds Q) (h:aQ ds Q):ds.length=["one", "other", "together"].length:=by obtain⟨_,_,_,_,_,rfl,_⟩:=h;rfl
theorem zG(n:Int)(tg:List Str)(l2:List aC)(s:aC):(toS n tg l2 s).length<=l2.length:=by
 unfold toS
 split
 ·rw[bP];exact vE _ _
 ·simp
theorem lC:∀ ds Q,aQ ds Q->dH { nx:=fun _=>Q .sh .non,rt:=Q } (aW 9 ds):=by
 rintro ds Q ⟨m,n,l1,l2,tg,rfl,n1,n2,hz,hz2,ok,ok2,h⟩
 unfold dH mD
 walk_at "q"
 refine bM _ (fun i ρ=>∃ (o5 o6 o7 o8:Option Sl),ρ=[some (.sh (.tup [.int m,.list (l1.map cS)])),some (.sh (.tup [.int n,.list (l2.map cS)])),some (.sh (.list (tg.map .str))),some (.sh (.int n)),some (.ow true (.list (((l1.take i).flatMap (toS n tg l2)).map cS))),o5,o6,o7,o8]) ⟨_,_,_,_,rfl⟩ ?_ ?_
 ·rintro i x ρ hx ⟨o5,o6,o7,o8,rfl⟩ N hN
  have hi:=(mI.mp hx).1
  rw[bP] at hi
  obtain⟨p,d,r,rfl,ht,et⟩:=wj hx
  have hs:=ok _ ht
  have hl:=jX (l:=l1.take i) (zG n tg l2)
  have x8:(l1.take i).length*l2.length<=80*80:=zI (by rw[kz];lia) (by lia)
  have a1:=hs.1
  have a2:=hs.2.1
  have a3:=hs.2.2.2.1
  have a4:=hs.2.2.2.2
  simp only at a1 a2 a3 a4
  have b1:0<=p*n:=DH (by lia) (by lia)
  have b2:p*n<=20*20:=DI (by lia) (by lia) (by lia) (by lia)
  have b3:0<=r*n:=DH (by lia) (by lia)
  have b4:r*n<=20*20:=DI (by lia) (by lia) (by lia) (by lia)
  walk_at "q"
  refine⟨rfl,fU tg,?_⟩
  rw[jc]
  have fin:∀ o,N [some (.sh (.tup [.int m,.list (l1.map cS)])),some (.sh (.tup [.int n,.list (l2.map cS)])),some (.sh (.list (tg.map .str))),some (.sh (.int n)),some (.ow true (.list (((l1.take i).flatMap (toS n tg l2)).map cS++(toS n tg l2 (p,d,r)).map cS))),some (.sh (.int p)),some (.sh (.str d)),some (.sh (.int r)),o]:=fun o=>by
   rw[<- mM,show(l1.take i).flatMap (toS n tg l2)++toS n tg l2 (p,d,r)=(l1.take (i+1)).flatMap (toS n tg l2) by rw[et,O8];simp]
   exact hN _ ⟨_,_,_,_,rfl⟩
  by_cases hd:d∈tg
  ·refine R.T (by simp[hd]) ?_
   walk_at "q"
   refine bz (fun x=>match x with
    |.tup [_,.str e,_]=>decide (e=d)
    |_=>false) (fun x=>x) (fun ρ=>∃ o,ρ=[o,some (.sh (.str d))]) _ _ _ ⟨_,rfl⟩ ?_ ?_
   ·rintro y hy ρ ⟨o,rfl⟩ N1 N2 n1 n2
    obtain⟨⟨u,e,v⟩,fe,rfl⟩:=cf.mp hy
    unfold cS
    walk_at "q"
    by_cases e0:e=d
    ·rw[if_pos (decide_eq_true e0)]
     exact⟨.inl rfl,n2 _ ⟨_,rfl⟩ (decide_eq_true e0)⟩
    ·rw[if_neg (by simp[e0])]
     exact n1 _ ⟨_,rfl⟩ (decide_eq_false e0)
   ·rw[List.map_id']
    have e1:(l2.map cS).filter (fun x=>match x with
     |.tup [_,.str e,_]=>decide (e=d)
     |_=>false)=(l2.filter fun t=>decide (t.2.1=d)).map cS:=by
     rw[IY];rfl
    rw[e1]
    have ml:=vE (fun t:aC=>decide (t.2.1=d)) l2
    refine bz (fun _=>true) (fun x=>match x with
     |.tup [.int u,e,.int v]=>.tup [.int (p*n+u),.str d,.int (r*n+v)]
     |x=>x) (fun ρ=>∃ o,ρ=[o,some (.sh (.str d)),some (.sh (.int r)),some (.sh (.int n)),some (.sh (.int p))]) _ _ _ ⟨_,rfl⟩ ?_ ?_
    ·rintro y hy ρ ⟨o,rfl⟩ N1 N2 _ h2
     obtain⟨⟨u,e,v⟩,fe,rfl⟩:=cf.mp hy
     unfold cS
     walk_at "q"
     exact⟨.inl ⟨by lia,by lia⟩,.inl ⟨by lia,by lia⟩,.inl rfl,h2 _ ⟨_,rfl⟩ rfl⟩
    ·rw[fH]
     have e0:((l2.filter fun t=>decide (t.2.1=d)).map cS).map (fun x=>match x with
      |.tup [.int u,e,.int v]=>.tup [.int (p*n+u),.str d,.int (r*n+v)]
      |x=>x)=(toS n tg l2 (p,d,r)).map cS:=by
      rw[show toS n tg l2 (p,d,r)=_ from if_pos hd]
      rw[eP,eP];rfl
     rw[e0]
     have:=zG n tg l2 (p,d,r)
     exact⟨cA _,by rw[bP];lia,fin _⟩
  ·refine R.F (by simp[hd]) ?_
   walk_at "q"
   have e0:toS n tg l2 (p,d,r)=[]:=if_neg hd
   rw[e0,IZ,kF] at fin
   exact fin _
 ·rintro ρ ⟨o5,o6,o7,o8,rfl⟩
  rw[bP,rX]
  walk_at "q"
  exact h
def g_:WS :=
 (bq (dc 2 (fZ (eZ (av ck (ag 0) (wC (.int 1)))) (gN 0) sC (i6 (ak (av ck (ag 0) (wC (.int 0))) (ak (Ra (ag 1) (av ck (ag 0) (wC (.int 1))) (av ck (ag 0) (wC (.int 1)))) (ak (av ck (ag 0) (wC (.int 2))) b9)))) 1 [1]))
 (i7 (i6 (ak (av ck (ag 0) (wC (.int 0))) (ak (eW eF (ag 2)) b9)))))
def OJ(f:Str->Option Str)(kd:List (Key × D)):Prop:=∀ x:Str,fq kd (.inr x)=(f x).map D.str
def aR:dQ:=fun ds Q=>∃ (many:Int) (l:List aC) (f:Str->Option Str) (kd:List (Key × D)),ds=[mD many l,.dK kd]/\OJ f kd/\l.length<=1000/\∀ out,g0 (l.map (AZ f)) out->Q (.ow true) (mD many out)
theorem nG (ds Q) (h:aR ds Q):ds.length=["m", "new_deeds"].length:=by obtain⟨_,_,_,_,rfl,_⟩:=h;rfl
theorem rW:∀ ds Q,aR ds Q->g_ { nx:=fun _=>Q .sh .non,rt:=Q } (aW 3 ds):=by
 rintro ds Q ⟨many,l,f,kd,rfl,hk,hz,h⟩
 unfold g_ mD
 walk_at "q"
 refine bz (fun _=>true) (fun x=>match x with
  |.tup [.int u,.str d,.int v]=>.tup [.int u,.str ((f d).getD d),.int v]
  |x=>x) (fun ρ=>∃ o,ρ=[o,some (.sh (.dK kd))]) _ _ _ ⟨_,rfl⟩ ?_ ?_
 ·rintro x hx ρ ⟨o,rfl⟩ N1 N2 n1 n2
  obtain⟨⟨u,d,v⟩,hs,rfl⟩:=cf.mp hx
  unfold cS
  walk_at "q"
  rw[hk d]
  have n3:=fun o=>n2 [o,some (.sh (.dK kd))] ⟨o,rfl⟩ rfl
  cases e:f d with
  |none =>
   simp only[cS,e,RX] at n3
   walk_at "q"
   exact⟨.inl rfl,n3 _⟩
  |some z =>
   simp only[cS,e,Option.getD_some] at n3
   walk_at "q"
   exact⟨.inl rfl,n3 _⟩
 ·rw[fH]
  have e:(l.map cS).map (fun x=>match x with
   |.tup [.int u,.str d,.int v]=>.tup [.int u,.str ((f d).getD d),.int v]
   |x=>x)=(l.map (AZ f)).map cS:=by
   rw[eP,eP]
   rfl
  rw[e]
  exact pH (l:=l.map (AZ f)) (fun xs=>Q (.ow true) (.tup [.int many,.list xs])) (by simpa using hz) fun out M=>h out M
def fj:WS :=
 (bq (gu (wB (av EF (ag 1) (eW oP (ag 0))))
 (i7 (av ck (ag 0) (ag 1)))
 cz)
 (i7 (wC (.int 0))))
def aG:dQ:=fun ds Q=>∃ (ns:List Int) (k:Int),ds=[.list (ns.map .int),.int k]/\0<=k/\Q .sh (.int (ns.getD k.toNat 0))
theorem lA (ds Q) (h:aG ds Q):ds.length=["_law_script", "_law_k"].length:=by obtain⟨_,_,rfl,_⟩:=h;rfl
theorem nF:∀ ds Q,aG ds Q->fj { nx:=fun _=>Q .sh .non,rt:=Q } (aW 2 ds):=by
 rintro ds Q ⟨ns,k,rfl,hk,h⟩
 unfold fj
 walk_at "q"
 refine R.D (fun hl=>?_) fun hl=>?_
 ·walk_at "q"
  have hn:k.toNat<ns.length:=by lia
  refine⟨.int ns[k.toNat],?_,?_⟩
  ·have:=BH (xs:=ns.map D.int) (j:=k.toNat) (v:=.int ns[k.toNat]) (by simp[hn])
   rwa[xB hk] at this
  ·show Q .sh _;simpa[List.getD,hn] using h
 ·walk_at "q"
  have:ns.getD k.toNat 0=0:=by
   have:ns.length<=k.toNat:=by lia
   simp[List.getD,A5 this]
  rwa[this] at h
def gO:WS :=
 (bq (dc 2 (wC (.str "abcdefghijklmnopqrstuvwxyz")))
 (bq (dc 3 (av fN (wC (.int 1)) (av kg (ag 0) (wC (.int 6)))))
 (bq (dc 0 (av oI (ag 0) (wC (.int 6))))
 (bq (dc 4 (nS b9))
 (bq (lh (fM (ag 3)) (gN 5)
 (bq (y1 (rj 4) (av kg (ag 0) (wC (.int 26))))
 (dc 0 (av oI (ag 0) (wC (.int 26))))))
 (bq (dc 6 (wF (wC (.str "")) (fZ (eZ (ag 4)) (gN 0) sC (av ck (ag 1) (ag 0)) 1 [2])))
 (bq (gu (wB (av kN (av kg (av oI (ag 1) (wC (.int 6))) (wC (.int 3))) (wC (.int 1))))
 (i7 (fZ (vI (wC (.int 1)) (wC (.int 7))) (gN 0) sC (sA (av Ad (wC (.int 6)) (ag 1)) d_ (gD (ag 0))) 1 [6]))
 cz)
 (bq (dc 7 (av kg (ag 1) (ag 3)))
 (bq (dc 8 (nS b9))
 (bq (lh (fM (wC (.int 6))) (gN 5)
 (bq (dc 9 (av ck (ag 2) (av kg (av fN (av ck (ag 4) (ag 7)) (av kD (wC (.int 5)) (ag 5))) (wC (.int 26)))))
 (y1 (rj 8) (av fN (av fN (sA (ag 6) d_ (gD (ag 7))) (ag 9)) (sA (ag 6) (gD (av fN (ag 7) (wC (.int 1)))) d_)))))
 (iI 8)))))))))))
theorem vz{n d:Nat}{k:Int}(h0:0<=k)(h1:k<=n):HT.bS n d (some k)=k.toNat:=by
 simp only[HT.bS]
 rw[if_neg (by lia)]
 lia
theorem uV{x:Str}{k:Int}(h0:0<=k)(h1:k<=x.length):(jS x none (some k)).length=k.toNat:=by
 unfold jS Str.length at *
 simp only[iq,kz,zv,ua]
 rw[vz h0 (by simpa using h1)]
 simp[HT.bS]
 lia
theorem Gk{x:Str}{k:Int}(h0:0<=k)(h1:k<=x.length):(jS x (some k) none).length=x.length-k.toNat:=by
 unfold jS Str.length at *
 simp only[iq,kz,zv,ua]
 rw[vz h0 (by simpa using h1)]
 simp[HT.bS]
theorem Bw{n:Int}{z:Str}(h:lets z):lets (rp n z):=fun c hc=>by
 unfold rp sg at hc
 rw[List.toList_toArray] at hc
 obtain⟨l,hl,yb⟩:=List.mem_flatten.mp hc
 rw[List.eq_of_mem_replicate hl] at yb
 exact h c yb
theorem oV:∀ (l:List Str),mY (l.map D.str)=some l
 |[]=>rfl
 |x :: l=>by simp[mY,oV l]
theorem x_{p:Int}(h0:0<=p)(h1:p<26):fI (sg abc) p=some (97+p.toNat):=by
 have:fI (sg abc) ((p.toNat:Nat):Int)=some (97+p.toNat):=BH (by
  rw[qt]
  have:p.toNat<26:=by lia
  simp[this])
 rwa[xB h0] at this
theorem lu:∀ l:List Nat,sg (Str.join "" (l.map fun c=>(⟨#[c]⟩:Str)))=l
 |[]=>by decide +kernel
 |[c]=>rfl
 |c :: d :: l=>by
  have ih:=lu (d :: l)
  show sg ((⟨#[c]⟩:Str) ++ "" ++ Str.join "" ((d :: l).map fun c=>(⟨#[c]⟩:Str)))=_
  rw[kO,kO,ih,show sg ("" : Str)=[] by decide +kernel]
  rfl
theorem vC:∀ l:List Nat,(l.map fun _=>1).sum=l.length
 |[]=>rfl
 |x :: l=>by simp[vC l];lia
def cg:dQ:=fun ds Q=>∃ c t:Int,ds=[.int c,.int t]/\∀ names:List Str,names.length=6->(∀ n∈names,Open n)->names.Nodup->Q (.ow true) (.list (names.map .str))
theorem nR (ds Q) (h:cg ds Q):ds.length=["_law_cell", "_law_turn"].length:=by obtain⟨_,_,rfl,_⟩:=h;rfl
theorem sO:∀ ds Q,cg ds Q->gO { nx:=fun _=>Q .sh .non,rt:=Q } (aW 10 ds):=by
 rintro ds Q ⟨c,t,rfl,h⟩
 unfold gO
 walk_at "q"
 have s0:=si c (show(6:Int)≠0 by decide)
 have s1:=sf c (show(0:Int)<6 by decide)
 generalize hsz:1+c % 6=size at *
 refine⟨by lia,by lia,?_⟩
 refine bM _ (fun i ρ=>∃ (cc:Int) (ps:List Int) (o:Option Sl),ps.length=i/\(∀ p∈ps,0<=p/\p<26)/\ρ=[some (.sh (.int cc)),some (.sh (.int t)),some (.sh (.str abc)),some (.sh (.int size)),some (.ow true (.list (ps.map .int))),o,none,none,none,none]) ⟨_,[],_,rfl,(fun p hp=>nomatch hp),rfl⟩ ?_ ?_
 ·rintro i x ρ hx ⟨cc,ps,o,hl,hp,rfl⟩ N hN
  obtain⟨hi,rfl⟩:=gw hx
  walk_at "q"
  refine⟨by lia,?_⟩
  rw[ints_app]
  refine hN _ ⟨_,ps++[cc % 26],_,by simp[hl],fun p fm=>?_,rfl⟩
  rcases dA.mp fm with h'|h'
  ·exact hp p h'
  ·rw[n4.mp h']
   exact⟨si _ (by decide),sf _ (by decide)⟩
 rintro ρ ⟨cc,ps,o,hl,hp,rfl⟩
 rw[e_] at hl
 walk_at "q"
 have e0:(Str.ofString "").length=0:=by decide
 refine bz (fun _=>true) (fun d=>match d with
  |.int p=>.str ⟨#[97+p.toNat]⟩
  |d=>d) (fun ρ=>∃ o,ρ=[o,some (.sh (.str abc))]) _ _ _ ⟨_,rfl⟩ ?_ ?_
 ·rintro y hy ρ ⟨o,rfl⟩ N1 N2 _ h2
  obtain⟨p,fm,rfl⟩:=cf.mp hy
  walk_at "q"
  exact⟨_,x_ (hp p fm).1 (hp p fm).2,.inl rfl,h2 _ ⟨_,rfl⟩ rfl⟩
 rw[fH]
 refine⟨(ps.map fun p=>97+p.toNat).map fun c=>⟨#[c]⟩,?_,?_,?_⟩
 ·rw[eP,<- oV,eP,eP];rfl
 ·rw[e0,eP,Nat.mul_zero,Fn]
  show((ps.map fun p=>97+p.toNat).map fun _=>1).sum<=_
  rw[vC,bP];lia
 have hw:=lu (ps.map fun p=>97+p.toNat)
 generalize Str.join "" ((ps.map fun p=>97+p.toNat).map fun c=>(⟨#[c]⟩:Str))=word at hw ⊢
 have wl:word.length=size.toNat:=by
  have:(sg word).length=size.toNat:=by rw[hw,bP,hl]
  rw[<- this];unfold sg Str.length;simp
 have Uk:lets word:=fun ch hc=>by
  rw[hw] at hc
  obtain⟨p,fm,rfl⟩:=cf.mp hc
  have:=hp p fm
  simp[isLet];lia
 refine R.D (fun _=>?_) fun _=>?_
 ·walk_at "q"
  refine bz (fun _=>true) (fun d=>match d with
   |.int k=>.str (jS (rp 6 word) none (some k))
   |d=>d) (fun ρ=>∃ o,ρ=[o,some (.sh (.str word))]) _ _ _ ⟨_,rfl⟩ ?_ ?_
  ·rintro y hy ρ ⟨o,rfl⟩ N1 N2 _ h2
   obtain⟨i,hi,rfl⟩:=qe hy
   walk_at "q"
   exact⟨by lia,.inl rfl,h2 _ ⟨_,rfl⟩ rfl⟩
  ·rw[fH]
   have e6:(List.map (fun d=>match d with
    |.int k=>D.str (jS (rp 6 word) none (some k))
    |d=>d) (iJ 1 6))=((List.range 6).map fun i=>jS (rp 6 word) none (some (1+(i:Nat):Int))).map D.str:=by
    unfold iJ
    rw[eP,eP]
    rfl
   rw[e6]
   have l0:∀ i:Nat,i<6->(jS (rp 6 word) none (some (1+(i:Nat):Int))).length=(1+(i:Int)).toNat:=fun i hi=>uV (by lia) (by rw[qp,wl];simp;lia)
   refine h _ (by simp) (fun n hn=>?_) ?_
   rotate_left
   ·rw[List.Nodup,qE]
    refine List.Pairwise.imp_of_mem (fun {a b} ha hb y2 e=>?_) Pg
    have ha:=l0 a (by simpa using ha)
    have hb:=l0 b (by simpa using hb)
    rw[e] at ha
    lia
   obtain⟨i,hi,rfl⟩:=cf.mp hn
   have hi:i<6:=by simpa using hi
   have l1:(jS (rp 6 word) none (some (1+(i:Nat):Int))).length=(1+(i:Int)).toNat:=uV (by lia) (by rw[qp,wl];simp;lia)
   exact⟨by rw[l1];lia,by rw[l1];lia,oY (Bw Uk) _ _⟩
 ·walk_at "q"
  refine⟨by lia,?_⟩
  have a0:=si t (show size≠0 by lia)
  have a1:=sf t (show 0<size by lia)
  generalize t % size=at' at *
  have l1:(jS word none (some at')).length=at'.toNat:=uV a0 (by lia)
  have l2:(jS word (some (at'+1)) none).length=word.length-(at'+1).toNat:=Gk (by lia) (by lia)
  refine bM _ (fun i ρ=>∃ (names:List Str) (o5 o9:Option Sl),names=(List.range i).map (fun k=>jS word none (some at') ++ ⟨#[97+((ps.getD at'.toNat 0+5*(0+(k:Int))) % 26).toNat]⟩++jS word (some (at'+1)) none)/\(∀ n∈names,Open n)/\ρ=[some (.sh (.int cc)),some (.sh (.int t)),some (.sh (.str abc)),some (.sh (.int size)),some (.ow true (.list (ps.map .int))),o5,some (.sh (.str word)),some (.sh (.int at')),some (.ow true (.list (names.map .str))),o9]) ⟨[],_,_,rfl,(fun n hn=>nomatch hn),rfl⟩ ?_ ?_
  ·rintro i x ρ hx ⟨names,o5,o9,hn,hd,rfl⟩ N hN
   obtain⟨hi,rfl⟩:=gw hx
   have hi:i<6:=hi
   have hnl:names.length=i:=by rw[hn,bP,E9]
   walk_at "q"
   have Zj:at'.toNat<ps.length:=by lia
   refine⟨.int ps[at'.toNat],?_,?_⟩
   ·have:=BH (xs:=ps.map D.int) (j:=at'.toNat) (v:=.int ps[at'.toNat]) (by simp[Zj])
    rwa[xB a0] at this
   walk_at "q"
   obtain⟨ch,ec,lc⟩:=Fx (ps[at'.toNat]+5*(0+(i:Int)))
   have ech:ch=97+((ps.getD at'.toNat 0+5*(0+(i:Int))) % 26).toNat:=by
    have:=x_ (si (ps[at'.toNat]+5*(0+(i:Int))) (show(26:Int)≠0 by decide)) (sf _ (by decide))
    rw[this] at ec
    rw[show ps.getD at'.toNat 0=ps[at'.toNat] by simp[List.getD,Zj]]
    exact(Option.some.inj ec).symm
   refine⟨.inl ⟨by lia,by lia⟩,ch,ec,?_⟩
   refine⟨by rw[l1,iC];lia,by rw[l1,l2,iC];lia,by lia,?_⟩
   rw[wg]
   refine hN _ ⟨names++[_],_,_,by rw[List.range_succ,mM,<- hn,ech,List.map_singleton],fun n DS=>?_,rfl⟩
   rcases dA.mp DS with h'|h'
   ·exact hd n h'
   ·obtain rfl:n=_:=by simpa using h'
    refine⟨?_,?_,vO (vO (oY Uk _ _) (Cd lc)) (oY Uk _ _)⟩
    ·rw[cG,cG,l1,l2,iC];lia
    ·rw[cG,cG,l1,l2,iC];lia
  ·rintro ρ ⟨names,o5,o9,hn,hd,rfl⟩
   rw[e_] at hn
   walk_at "q"
   refine h names (by rw[hn,bP,E9]) hd ?_
   rw[hn,List.Nodup,qE]
   refine List.Pairwise.imp_of_mem (fun {a b} ha hb y2 e=>?_) Pg
   have ha:a<6:=by simpa using ha
   have hb:b<6:=by simpa using hb
   have e:=congrArg sg e
   rw[kO,kO,kO,kO,List.append_cancel_right_eq,List.append_cancel_left_eq] at e
   have e:97+((ps.getD at'.toNat 0+5*(0+(a:Int))) % 26).toNat=97+((ps.getD at'.toNat 0+5*(0+(b:Int))) % 26).toNat:=by simpa[sg] using e
   generalize ps.getD at'.toNat 0=z at e
   exact y2 (by lia)
def gG:WS :=
 (bq (dc 3 (nS b9))
 (bq (lh (fM (eW oP (ag 0))) (gN 4)
 (bq (dc 5 (av kg (av kD (av fN (av kg (av ck (ag 0) (ag 4)) (wC (.int 2147483647))) (wC (.int 1))) (av fN (wC (.int 48271)) (av kD (wC (.int 7)) (ag 4)))) (wC (.int 2147483647))))
 (bq (dc 6 (av ck (ag 2) (av kg (av oI (ag 5) (ag 1)) (eW oP (ag 2)))))
 (gd 6 (y1 (rj 3) (i6 (ak (av kg (ag 5) (ag 1)) (ak (ag 6) (ak (av kg (av oI (ag 5) (av kD (ag 1) (eW oP (ag 2)))) (ag 1)) b9)))))))))
 (iI 3)))
def bB:dQ:=fun ds Q=>∃ (cells:List Int) (many:Int) (names:List Str),ds=[.list (cells.map .int),.int many,.list (names.map .str)]/\cells.length<=200/\1<=many/\many<=20/\1<=names.length/\names.length<=20/\(∀ n∈names,nX n)/\∀ l:List aC,(∀ s∈l,gg many s)->(∀ s∈l,s.2.1∈names)->l.length=cells.length->Q (.ow true) (.list (l.map cS))
theorem nZ (ds Q) (h:bB ds Q):ds.length=["_law_cells", "_law_many", "_law_deeds_here"].length:=by obtain⟨_,_,_,rfl,_⟩:=h;rfl
theorem sJ:∀ ds Q,bB ds Q->gG { nx:=fun _=>Q .sh .non,rt:=Q } (aW 7 ds):=by
 rintro ds Q ⟨cells,many,names,rfl,hc,m1,m2,n1,n2,hd,h⟩
 unfold gG
 walk_at "q"
 refine⟨by lia,by lia,?_⟩
 refine bM _ (fun i ρ=>∃ (l:List aC) (o4 o5 o6:Option Sl),(∀ s∈l,gg many s)/\(∀ s∈l,s.2.1∈names)/\l.length=i/\ρ=[some (.sh (.list (cells.map .int))),some (.sh (.int many)),some (.sh (.list (names.map .str))),some (.ow true (.list (l.map cS))),o4,o5,o6]) ⟨[],_,_,_,(fun s hs=>nomatch hs),(fun s hs=>nomatch hs),rfl,rfl⟩ ?_ ?_
 ·rintro i x ρ hx ⟨l,o4,o5,o6,hs,iX,hl,rfl⟩ N hN
  obtain⟨hi,rfl⟩:=gw hx
  have hi:i<cells.length:=by lia
  walk_at "q"
  have e0:fI (cells.map D.int) (0+(i:Int))=some (.int cells[i]):=by
   have:=BH (xs:=cells.map D.int) (j:=i) (v:=.int cells[i]) (by simp[hi])
   rwa[Int.zero_add]
  refine⟨_,e0,?_⟩
  walk_at "q"
  have c0:=si cells[i] (show(2147483647:Int)≠0 by decide)
  have c1:=sf cells[i] (show(0:Int)<2147483647 by decide)
  refine⟨.inl ⟨by lia,by lia⟩,.inl ⟨by lia,by lia⟩,⟨by lia,by lia⟩,by lia,?_⟩
  generalize (cells[i] % 2147483647+1)*(48271+7*(0+(i:Int))) % 2147483647=num
  obtain⟨n,hn,e⟩:=name_mod (num / many) n1
  refine⟨.str n,e,?_⟩
  walk_at "q"
  have b1:=si num (show many≠0 by lia)
  have b2:=sf num (show 0<many by lia)
  have b3:=si (num / (many*(names.length:Int))) (show many≠0 by lia)
  have b4:=sf (num / (many*(names.length:Int))) (show 0<many by lia)
  have b5:many*(names.length:Int)<=20*20:=DI m2 (by lia) (by lia) (by lia)
  have b6:0<many*(names.length:Int):=Kn (by lia) (by lia)
  refine⟨by lia,.inl ⟨by lia,by lia⟩,⟨b6,by lia⟩,by lia,by lia,?_⟩
  rw[show l.map cS++[D.tup [D.int (num % many),D.str n,D.int (num / (many*(names.length:Int)) % many)]]=(l++[((num % many,n,num / (many*(names.length:Int)) % many):aC)]).map cS by simp[cS]]
  refine hN _ ⟨_,_,_,_,fun s fe=>?_,fun s fe=>?_,by simp[hl],rfl⟩
  ·rcases dA.mp fe with h'|h'
   ·exact hs s h'
   ·rw[n4.mp h']
    exact⟨b1,b2,hd n hn,b3,b4⟩
  ·rcases dA.mp fe with h'|h'
   ·exact iX s h'
   ·rw[n4.mp h'];exact hn
 ·rintro ρ ⟨l,o4,o5,o6,hs,iX,hl,rfl⟩
  rw[e_] at hl
  walk_at "q"
  exact h l hs iX (by lia)
def jb:WS :=
 (bq (dc 2 (nS b9))
 (bq (dc 3 (av kg (ag 0) (wC (.int 7))))
 (bq (dc 0 (av oI (ag 0) (wC (.int 7))))
 (bq (lh (fM (ag 3)) (gN 4)
 (bq (y1 (rj 2) (av ck (ag 1) (av kg (ag 0) (wC (.int 6)))))
 (dc 0 (av oI (ag 0) (wC (.int 6))))))
 (iI 2)))))
def bL:dQ:=fun ds Q=>∃ (c:Int) (pool:List Str),ds=[.int c,.list (pool.map .str)]/\pool.length=6/\∀ ns:List Str,ns.length<=6->(∀ n∈ns,n∈pool)->Q (.ow true) (.list (ns.map .str))
theorem qN (ds Q) (h:bL ds Q):ds.length=["_law_cell", "_law_pool"].length:=by obtain⟨_,_,rfl,_⟩:=h;rfl
theorem uJ:∀ ds Q,bL ds Q->jb { nx:=fun _=>Q .sh .non,rt:=Q } (aW 5 ds):=by
 rintro ds Q ⟨c,pool,rfl,hp,h⟩
 unfold jb
 walk_at "q"
 have s0:=si c (show(7:Int)≠0 by decide)
 have s1:=sf c (show(0:Int)<7 by decide)
 generalize c % 7=size at *
 refine⟨by lia,by lia,?_⟩
 refine bM _ (fun i ρ=>∃ (cc:Int) (ns:List Str) (o:Option Sl),ns.length=i/\(∀ n∈ns,n∈pool)/\ρ=[some (.sh (.int cc)),some (.sh (.list (pool.map .str))),some (.ow true (.list (ns.map .str))),some (.sh (.int size)),o]) ⟨_,[],_,rfl,(fun n hn=>nomatch hn),rfl⟩ ?_ ?_
 ·rintro i x ρ hx ⟨cc,ns,o,hl,hm,rfl⟩ N hN
  obtain⟨hi,rfl⟩:=gw hx
  walk_at "q"
  obtain⟨n,hn,e⟩:=name_mod (names:=pool) cc (by lia)
  rw[hp] at e
  refine⟨.str n,e,?_⟩
  walk_at "q"
  refine⟨by lia,?_⟩
  rw[wg]
  refine hN _ ⟨_,ns++[n],_,by simp[hl],fun m NF=>?_,rfl⟩
  rcases dA.mp NF with h'|h'
  ·exact hm m h'
  ·rw[n4.mp h'];exact hn
 ·rintro ρ ⟨cc,ns,o,hl,hm,rfl⟩
  rw[e_] at hl
  walk_at "q"
  exact h ns (by lia) hm
def ig:WS :=
 (i7 (BW (eW (AU "int") (ag 0)) (Aq (eW (AU "bool") (ag 0)))))
def bx:dQ:=fun ds Q=>∃ i:Int,ds=[.int i]/\Q .sh (.bl true)
theorem oA (ds Q) (h:bx ds Q):ds.length=["_law_found"].length:=by obtain⟨_,rfl,_⟩:=h;rfl
theorem tL:∀ ds Q,bx ds Q->ig { nx:=fun _=>Q .sh .non,rt:=Q } (aW 1 ds):=by
 rintro ds Q ⟨i,rfl,h⟩
 unfold ig
 walk_at "q"
 refine R.T rfl ?_
 walk_at "q"
 exact h
def iu:WS :=
 (bq (dc 2 (nS b9))
 (bq (dc 3 (av fN (wC (.int 1)) (av kg (ag 0) (wC (.int 4)))))
 (bq (dc 0 (av oI (ag 0) (wC (.int 4))))
 (bq (lh (fM (ag 3)) (gN 4)
 (bq (y1 (rj 2) (i6 (ak (av ck (ag 1) (av kg (ag 0) (wC (.int 6)))) (ak (av ck (ag 1) (av kg (av oI (ag 0) (wC (.int 6))) (wC (.int 6)))) b9))))
 (dc 0 (av oI (ag 0) (wC (.int 36))))))
 (iI 2)))))
def cj:dQ:=fun ds Q=>∃ (c:Int) (pool:List Str),ds=[.int c,.list (pool.map .str)]/\pool.length=6/\∀ ps:List Pr,ps.length<=4->(∀ p∈ps,p.1∈pool/\p.2∈pool)->Q (.ow true) (.list (ps.map oq))
theorem nU (ds Q) (h:cj ds Q):ds.length=["_law_cell", "_law_pool"].length:=by obtain⟨_,_,rfl,_⟩:=h;rfl
theorem rJ:∀ ds Q,cj ds Q->iu { nx:=fun _=>Q .sh .non,rt:=Q } (aW 5 ds):=by
 rintro ds Q ⟨c,pool,rfl,hp,h⟩
 unfold iu
 walk_at "q"
 have s0:=si c (show(4:Int)≠0 by decide)
 have s1:=sf c (show(0:Int)<4 by decide)
 generalize c % 4=size at *
 refine⟨by lia,by lia,?_⟩
 refine bM _ (fun i ρ=>∃ (cc:Int) (ps:List Pr) (o:Option Sl),ps.length=i/\(∀ p∈ps,p.1∈pool/\p.2∈pool)/\ρ=[some (.sh (.int cc)),some (.sh (.list (pool.map .str))),some (.ow true (.list (ps.map oq))),some (.sh (.int (1+size))),o]) ⟨_,[],_,rfl,(fun n hn=>nomatch hn),rfl⟩ ?_ ?_
 ·rintro i x ρ hx ⟨cc,ps,o,hl,hm,rfl⟩ N hN
  obtain⟨hi,rfl⟩:=gw hx
  walk_at "q"
  obtain⟨n,hn,e⟩:=name_mod (names:=pool) cc (by lia)
  obtain⟨n2,GB,e2⟩:=name_mod (names:=pool) (cc / 6) (by lia)
  rw[hp] at e e2
  refine⟨.str n,e,?_⟩
  walk_at "q"
  refine⟨.str n2,e2,?_⟩
  walk_at "q"
  refine⟨by lia,?_⟩
  rw[show ps.map oq++[D.tup [.str n,.str n2]]=(ps++[(n,n2)]).map oq by rw[mM];rfl]
  refine hN _ ⟨_,ps++[(n,n2)],_,by simp[hl],fun m NF=>?_,rfl⟩
  rcases dA.mp NF with h'|h'
  ·exact hm m h'
  ·rw[n4.mp h'];exact⟨hn,GB⟩
 ·rintro ρ ⟨cc,ps,o,hl,hm,rfl⟩
  rw[e_] at hl
  walk_at "q"
  exact h ps (by lia) hm
def iV:WS :=
 (bq (dc 2 (av ck (ag 0) (wC (.int 0))))
 (bq (dc 3 (eW oP (av ck (ag 0) (wC (.int 1)))))
 (bq (gd 3 (dc 4 (ag 3)))
 (bq (gd 1 (lh (eN (ag 1)) (gN 5)
 (gu (wB (av (qk false) (av ck (ag 5) (wC (.int 0))) (i6 (ak (wC (.str "right")) (ak (wC (.str "left")) b9)))))
 (bq (dc 6 (eW oP (av ck (av ck (ag 5) (wC (.int 1))) (wC (.int 1)))))
 (bq (dc 3 (av fN (av fN (av kD (ag 3) (av ck (av ck (ag 5) (wC (.int 1))) (wC (.int 0)))) (av kD (ag 6) (ag 2))) (av kD (ag 3) (ag 6))))
 (bq (dc 4 (av FW (ag 4) (ag 3)))
 (dc 2 (av kD (ag 2) (av ck (av ck (ag 5) (wC (.int 1))) (wC (.int 0))))))))
 cz)))
 (Bc [.inr 2,.inr 4])))))
def rL(t:Int × Int × Int):bG->Int × Int × Int
 |.right n l _|.left n l _=>(t.1*n,t.2.1*n+(l.length:Int)*t.1+t.2.1*l.length,if t.2.1*n+(l.length:Int)*t.1+t.2.1*l.length>t.2.2 then t.2.1*n+(l.length:Int)*t.1+t.2.1*l.length else t.2.2)
 |_=>t
def eL(m:Int)(l:List aC)(rows:List bG):Int × Int × Int:=rows.foldl rL (m,l.length,l.length)
theorem qK(m:Int)(l:List aC)(rows:List bG)(r:bG):eL m l (rows++[r])=rL (eL m l rows) r:=by unfold eL;rw[List.foldl_append];rfl
def bA:dQ:=fun ds Q=>∃ (m:Int) (l:List aC) (rows:List bG) (names:List Str),ds=[mD m l,.list (rows.map bG.d)]/\(∀ r∈rows,r.Ok names)/\Q .sh (.tup [.int (eL m l rows).1,.int (eL m l rows).2.2])
theorem pA (ds Q) (h:bA ds Q):ds.length=["_law_m", "_law_frame"].length:=by obtain⟨_,_,_,_,rfl,_⟩:=h;rfl
theorem uZ:∀ ds Q,bA ds Q->iV { nx:=fun _=>Q .sh .non,rt:=Q } (aW 7 ds):=by
 rintro ds Q ⟨m,l,rows,names,rfl,ro,h⟩
 unfold iV mD
 walk_at "q"
 refine bM _ (fun i ρ=>∃ o5 o6:Option Sl,ρ=[some (.sh (mD m l)),some (.sh (.list (rows.map bG.d))),some (.sh (.int (eL m l (rows.take i)).1)),some (.sh (.int (eL m l (rows.take i)).2.1)),some (.sh (.int (eL m l (rows.take i)).2.2)),o5,o6]) ⟨_,_,rfl⟩ ?_ ?_
 ·rintro i x ρ hx ⟨o5,o6,rfl⟩ N hN
  obtain⟨r,rfl,hr,et,_⟩:=Dd hx
  rw[et,qK] at hN
  generalize eL m l (rows.take i)=t at *
  obtain⟨a,b,w⟩:=t
  have rk:=ro r hr
  cases r with
  |right n l2 tg =>
   obtain⟨n1,n2,hl,_⟩:=rk
   simp only[bG.d,mD]
   walk_at "q"
   refine⟨rfl,rfl,R.T (by decide +kernel) ?_⟩
   walk_at "q"
   exact⟨.inr ⟨by lia,by lia⟩,.inl ⟨by lia,by lia⟩,.inr ⟨by lia,by lia⟩,.inr ⟨by lia,by lia⟩,hN _ ⟨_,_,rfl⟩⟩
  |left n l2 tg =>
   obtain⟨n1,n2,hl,_⟩:=rk
   simp only[bG.d,mD]
   walk_at "q"
   refine⟨rfl,rfl,R.T (by decide +kernel) ?_⟩
   walk_at "q"
   exact⟨.inr ⟨by lia,by lia⟩,.inl ⟨by lia,by lia⟩,.inr ⟨by lia,by lia⟩,.inr ⟨by lia,by lia⟩,hN _ ⟨_,_,rfl⟩⟩
  |iL ns =>
   simp only[bG.d]
   walk_at "q"
   refine⟨rfl,rfl,R.F (by decide +kernel) ?_⟩
   walk_at "q"
   exact hN _ ⟨_,_,rfl⟩
  |ke ps =>
   simp only[bG.d]
   walk_at "q"
   refine⟨rfl,rfl,R.F (by decide +kernel) ?_⟩
   walk_at "q"
   exact hN _ ⟨_,_,rfl⟩
 ·rintro ρ ⟨o5,o6,rfl⟩
  rw[bP,rX]
  walk_at "q"
  exact h
def kj:WS :=
 (bq (gu (wB (av kN (av ck (ag 1) (wC (.int 0))) (wC (.str "hide"))))
 (bq (gu (wB (av (qk false) (ag 0) (av ck (ag 1) (wC (.int 1)))))
 (i7 (wC (.str "*")))
 cz)
 (iI 0))
 cz)
 (bq (gd 1 (lh (eN (av ck (ag 1) (wC (.int 1)))) (gT 2 (a_ (gN 2) (a_ (gN 3) iH)))
 (gu (wB (av kN (ag 2) (ag 0)))
 (iI 3)
 cz)))
 (iI 0)))
def newD(r:bG)(d:Str):Str:=match r with
 |.iL ns=>(tJ ns d).getD d
 |.ke ps=>(lk ps d).getD d
 |_=>d
def bG.one:bG->Bool
 |.iL _|.ke _=>true
 |_=>false
theorem Fi(a b:List Pr)(x:Str):lk (a++b) x=(lk a x).or (lk b x):=by
 induction a with
 |nil=>simp[lk]
 |cons q a ih =>
  simp only[O_,lk]
  by_cases h:q.1=x
  ·rw[if_pos h,if_pos h];rfl
  ·rw[if_neg h,if_neg h,ih]
theorem Ho{ps:List Pr}{i:Nat}{a b d:Str}(e:lk (ps.take i) d=none)(et:ps.take (i+1)=ps.take i++[(a,b)])(z:a=d):lk ps d=some b:=by
 rw[<- CY (i+1) ps,Fi,et,yx,e,if_pos z]
 rfl
def bZ:dQ:=fun ds Q=>∃ (d:Str) (r:bG) (names:List Str),ds=[.str d,r.d]/\r.one=true/\r.Ok names/\nX d/\Q .sh (.str (newD r d))
theorem qX (ds Q) (h:bZ ds Q):ds.length=["_law_deed", "_law_row_here"].length:=by obtain⟨_,_,_,rfl,_⟩:=h;rfl
theorem wM:∀ ds Q,bZ ds Q->kj { nx:=fun _=>Q .sh .non,rt:=Q } (aW 4 ds):=by
 rintro ds Q ⟨d,r,names,rfl,r1,ro,hd,h⟩
 unfold kj
 cases r with
 |right n l2 tg=>cases r1
 |left n l2 tg=>cases r1
 |iL ns =>
  unfold bG.d
  walk_at "q"
  have hh:Q .sh (.str ((tJ ns d).getD d)):=h
  rw[uM] at hh
  rw[jc]
  refine⟨rfl,by simp[gB],R.D (fun z=>?_) fun z=>?_⟩
  ·walk_at "q"
   rw[if_pos z] at hh
   exact hh
  ·walk_at "q"
   rw[if_neg z] at hh
   exact hh
 |ke ps =>
  unfold bG.d
  walk_at "q"
  refine R.F (by decide +kernel) ?_
  walk_at "q"
  refine bM _ (fun i ρ=>∃ o2 o3:Option Sl,lk (ps.take i) d=none/\ρ=[some (.sh (.str d)),some (.sh (.tup [.str "rename",.list (ps.map oq)])),o2,o3]) ⟨_,_,rfl,rfl⟩ ?_ ?_
  ·rintro i x ρ hx ⟨o2,o3,e,rfl⟩ N hN
   obtain⟨a,b,rfl,hm,et⟩:=IK hx
   walk_at "q"
   refine R.D (fun z=>?_) fun z=>?_
   ·walk_at "q"
    have hh:Q .sh (.str ((lk ps d).getD d)):=h
    rw[Ho e et z] at hh
    exact hh
   ·walk_at "q"
    refine hN _ ⟨_,_,?_,rfl⟩
    rw[et,yx,e,if_neg z]
    rfl
  ·rintro ρ ⟨o2,o3,e,rfl⟩
   rw[bP,rX] at e
   walk_at "q"
   have hh:Q .sh (.str ((lk ps d).getD d)):=h
   rw[e] at hh
   exact hh
def fC:WS :=
 (bq (gu (wB (av EG (av ck (ag 0) (wC (.int 0))) (wC (.int 20))))
 (lR "TooBig" (wC (.str "too many states")))
 cz)
 (bq (gu (wB (av EG (eW oP (av ck (ag 0) (wC (.int 1)))) (wC (.int 80))))
 (lR "TooBig" (wC (.str "too many different steps")))
 cz)
 (gu (wB (av EG (eW oP (fZ (eZ (bH cH (ak (ag 0) b9))) (gN 0) (wB (bH bR (ak (ag 0) b9))) (ag 0) 1 [])) (wC (.int 6))))
 (lR "TooBig" (wC (.str "too many different open deeds")))
 cz)))
def aU:dQ:=fun ds Q=>∃ (many:Int) (steps:List aC) (k:Nat),ds=[mD many steps]/\steps.length<=1000/\(∀ s∈steps,nX s.2.1)/\uE steps k/\(Rc many steps.length k->Q .sh .non)/\(¬ Rc many steps.length k->Q (.ow false) (.str "TooBig"))
theorem lF (ds Q) (h:aU ds Q):ds.length=["m"].length:=by obtain⟨_,_,_,rfl,_⟩:=h;rfl
theorem rR {n:Str} (h:nX n):(decide (1<=n.length/\n.length<=6) && (sg n).all isLet)=true↔n ≠ "*" := by
 rcases h with rfl|h
 ·exact⟨fun z=>absurd z (by decide +kernel),fun z=>absurd rfl z⟩
 ·refine⟨fun _ e=>?_,fun _=>?_⟩
  ·subst e
   have:=h.2.2 42 (by decide +kernel)
   exact absurd this (by decide)
  ·simp only[kG,decide_eq_true_eq,zC]
   exact⟨⟨h.1,h.2.1⟩,h.2.2⟩
theorem nM:∀ ds Q,aU ds Q->fC { nx:=fun _=>Q .sh .non,rt:=Q } (aW 1 ds):=by
 rintro ds Q ⟨many,steps,k,rfl,hz,hd,hk,h1,h2⟩
 unfold fC mD
 walk_at "q"
 refine R.D (fun a=>?_) fun a=>?_
 ·walk_at "q"
  exact h2 fun z=>by have:=z.1;lia
 walk_at "q"
 refine R.D (fun b=>?_) fun b=>?_
 ·walk_at "q"
  exact h2 fun z=>by have:=z.2.1;lia
 walk_at "q"
 refine⟨many,steps,rfl,hz,fun names nd mm=>?_⟩
 walk_at "q"
 refine bz (fun d=>match d with
  |.str x=>decide (1<=x.length/\x.length<=6) && (sg x).all isLet
  |_=>false) (fun d=>d) (fun ρ=>∃ o,ρ=[o]) _ _ _ ⟨_,rfl⟩ ?_ ?_
 ·rintro x hx ρ ⟨o,rfl⟩ N1 N2 n1 n2
  obtain⟨n,hn,rfl⟩:=cf.mp hx
  walk_at "q"
  refine⟨_,rfl,?_⟩
  walk_at "q"
  try rw[show iJ' (.str n)=(decide (1<=n.length/\n.length<=6) && (sg n).all isLet) from rfl]
  cases e:(decide (1<=n.length/\n.length<=6) && (sg n).all isLet) with
  |true =>
   rw[if_pos rfl]
   exact⟨.inl rfl,n2 _ ⟨_,rfl⟩ e⟩
  |false =>
   rw[if_neg iS]
   exact n1 _ ⟨_,rfl⟩ e
 ·have e1:(names.map D.str).filter (fun d=>match d with
    |.str x=>decide (1<=x.length/\x.length<=6) && (sg x).all isLet
    |_=>false)=(names.filter fun x=>decide (1<=x.length/\x.length<=6) && (sg x).all isLet).map D.str:=by
   rw[IY];rfl
  rw[e1,bP,bP]
  have B1:∀ x∈names,nX x:=fun x hx=>by
   obtain⟨s,fe,e⟩:=cf.mp ((mm x).mp hx)
   rw[<- e];exact hd s fe
  have hl:=hk.uniq ⟨names.filter fun x=>decide (1<=x.length/\x.length<=6) && (sg x).all isLet,nd.filter _,fun n=>by
   rw[kE,<- mm n]
   exact⟨fun z=>⟨z.1,(rR (B1 n z.1)).mp z.2⟩,fun z=>⟨z.1,(rR (B1 n z.1)).mpr z.2⟩⟩,rfl⟩
  rw[<- hl]
  refine R.D (fun c=>?_) fun c=>?_
  ·walk_at "q"
   exact h2 fun z=>by have:=z.2.2;lia
  ·walk_at "q"
   exact h1 ⟨by lia,by lia,by lia⟩
def h_:WS :=
 (gd 0 (lh (eN (ag 0)) (gN 1)
 (gu (tj (wB (bH bR (ak (ag 1) b9))))
 (lR "NoDeed" (wC (.str "a deed that is not open")))
 cz)))
def aH:dQ:=fun ds Q=>∃ names:List Str,ds=[.list (names.map .str)]/\((∀ n∈names,Open n)->Q .sh .non)/\((∃ n,n∈names/\¬ Open n)->Q (.ow false) (.str "NoDeed"))
theorem nY (ds Q) (h:aH ds Q):ds.length=["deeds"].length:=by obtain⟨_,rfl,_⟩:=h;rfl
theorem sS:∀ ds Q,aH ds Q->h_ { nx:=fun _=>Q .sh .non,rt:=Q } (aW 2 ds):=by
 rintro ds Q ⟨names,rfl,h1,h2⟩
 unfold h_
 walk_at "q"
 refine bM _ (fun i ρ=>∃ o,(∀ n∈names.take i,Open n)/\ρ=[some (.sh (.list (names.map .str))),o]) ⟨_,by simp,rfl⟩ ?_ ?_
 ·rintro i x ρ hx ⟨o,ho,rfl⟩ N hN
  obtain⟨n,rfl,hn,et⟩:=CV hx
  walk_at "q"
  refine⟨n,rfl,?_⟩
  walk_at "q"
  by_cases hp:Open n
  ·rw[vy.mpr hp]
   walk_at "q"
   refine hN _ ⟨_,fun m hm=>?_,rfl⟩
   rw[et] at hm
   rcases dA.mp hm with hm|hm
   ·exact ho m hm
   ·have:m=n:=by simpa using hm
    rw[this];exact hp
  ·rw[Bool.eq_false_iff.mpr fun z=>hp (vy.mp z)]
   walk_at "q"
   exact h2 ⟨n,hn,hp⟩
 ·rintro ρ ⟨o,ho,rfl⟩
  rw[bP,rX] at ho
  walk_at "q"
  exact h1 ho
def cZ:WS :=
 (bq (gu (AR (tj (wB (eW (AU "tuple") (ag 0)))) (AR (wB (av yB (eW oP (ag 0)) (wC (.int 2)))) (tj (wB (bH bx (ak (av ck (ag 0) (wC (.int 0))) b9))))))
 (i7 (wC (.bl false)))
 cz)
 (bq (gu (tj (wB (eW (AU "list") (av ck (ag 0) (wC (.int 1))))))
 (i7 (wC (.bl false)))
 cz)
 (bq (gd 0 (lh (eN (av ck (ag 0) (wC (.int 1)))) (gN 1)
 (bq (gu (AR (tj (wB (eW (AU "tuple") (ag 1)))) (AR (wB (av yB (eW oP (ag 1)) (wC (.int 3)))) (tj (wB (eW (AU "str") (av ck (ag 1) (wC (.int 1))))))))
 (i7 (wC (.bl false)))
 cz)
 (gu (AR (tj (wB (bH bx (ak (av ck (ag 1) (wC (.int 0))) b9)))) (tj (wB (bH bx (ak (av ck (ag 1) (wC (.int 2))) b9)))))
 (i7 (wC (.bl false)))
 cz))))
 (i7 (wC (.bl true))))))
def aV:dQ:=fun ds Q=>∃ (many:Int) (l:List aC),ds=[mD many l]/\Q .sh (.bl true)
theorem iW (ds Q) (h:aV ds Q):ds.length=["_law_found"].length:=by obtain⟨_,_,rfl,_⟩:=h;rfl
theorem jR:∀ ds Q,aV ds Q->cZ { nx:=fun _=>Q .sh .non,rt:=Q } (aW 2 ds):=by
 rintro ds Q ⟨many,l,rfl,h⟩
 unfold cZ mD
 walk_at "q"
 refine R.F (by decide) ?_
 walk_at "q"
 refine R.F (by decide) ?_
 walk_at "q"
 refine⟨many,rfl,?_⟩
 walk_at "q"
 refine R.F (by decide) ?_
 walk_at "q"
 refine bM _ (fun i ρ=>∃ o:Option Sl,ρ=[some (.sh (.tup [.int many,.list (l.map cS)])),o]) ⟨_,rfl⟩ ?_ ?_
 ·rintro i x ρ hx ⟨o,rfl⟩ N hN
  obtain⟨p,d,r,rfl,_,_⟩:=wj hx
  walk_at "q"
  refine R.F (by decide) ?_
  walk_at "q"
  refine R.F (by decide) ?_
  walk_at "q"
  refine R.F (by decide) ?_
  walk_at "q"
  refine⟨p,rfl,?_⟩
  walk_at "q"
  refine⟨r,rfl,?_⟩
  walk_at "q"
  exact hN _ ⟨_,rfl⟩
 ·rintro ρ ⟨o,rfl⟩
  walk_at "q"
  exact h
def gY:WS :=
 (bq (dc 2 (av fN (wC (.int 1)) (av kg (av oI (av ck (ag 0) (wC (.int 0))) (wC (.int 9))) (wC (.int 3)))))
 (Bc [.inr 2,.inl (eW eF (bH bB (ak (sA (ag 0) (gD (wC (.int 2))) (gD (wC (.int 6)))) (ak (ag 2) (ak (av fN (nS (ak (wC (.str "*")) b9)) (sA (ag 1) d_ (gD (wC (.int 5))))) b9)))))]))
theorem mV(l:List Int)(lo hi:Option Int):hV (l.map D.int) lo hi=(hV l lo hi).map D.int:=by
 unfold hV
 rw[bP,Ph,Pj]
def bN:dQ:=fun ds Q=>∃ (cs:List Int) (pool:List Str),ds=[.list (cs.map .int),.list (pool.map .str)]/\cs.length=6/\pool.length=6/\(∀ n∈pool,Open n)/\∀ (n:Int) (l:List aC),1<=n->n<=3->l.length<=4->g0 l l->(∀ s∈l,gg n s/\s.2.1∈("*" : Str) :: pool)->Q (.ow true) (mD n l)
theorem nQ (ds Q) (h:bN ds Q):ds.length=["_law_cells", "_law_pool"].length:=by obtain⟨_,_,rfl,_⟩:=h;rfl
theorem rD:∀ ds Q,bN ds Q->gY { nx:=fun _=>Q .sh .non,rt:=Q } (aW 3 ds):=by
 rintro ds Q ⟨cs,pool,rfl,hc,hp,ho,h⟩
 obtain⟨c0,rest,rfl⟩:∃ c0 rest,cs=c0 :: rest:=by
  cases cs with
  |nil=>cases hc
  |cons c0 rest=>exact⟨_,_,rfl⟩
 unfold gY
 walk_at "q"
 rw[show(D.int c0 :: rest.map D.int)=(c0 :: rest).map D.int from rfl,mV,yD]
 have cl:(hV (c0 :: rest) (some 2) (some 6)).length<=4:=by
  unfold hV
  rw[kz]
  simp only[HT.bS]
  rw[if_neg (by lia),if_neg (by lia)]
  lia
 have pl:=jz pool none (some 5)
 have pm:=fun x (hx:x∈hV pool none (some 5))=>zz hx
 generalize hV (c0 :: rest) (some 2) (some 6)=cells at *
 generalize hV pool none (some 5)=HZ at *
 have k0:0<=c0 / 9 % 3/\c0 / 9 % 3<3:=by lia
 generalize c0 / 9 % 3=k at *
 refine .inl ⟨jE rest,.inl ⟨gM pool,by rw[bP];lia,.inl ⟨gM HZ,cells,1+k,("*" : Str) :: HZ,rfl,by lia,by lia,by lia,by simp,by simp;lia,?_,fun l lo lm ll=>?_⟩⟩⟩
 ·intro d hd
  rcases dv.mp hd with hd|hd
  ·exact .inl hd
  ·exact .inr (ho d (pm d hd))
 walk_at "q"
 obtain⟨ks,sh,e1,e2,e3,e4⟩:=pH (l:=l) (fun xs=>∀ ms:List (List Key),ms.map i5=xs->∃ out,g0 l out/\ms.map i5=out.map cS) (by lia) fun out M ms e=>⟨out,M,e⟩
 refine⟨ks,sh,e1,e2,e3,fun OL nd mm pw=>?_⟩
 obtain⟨out,M,e'⟩:=e4 OL nd mm pw OL rfl
 rw[e']
 have ol:=M.len
 refine h (1+k) out (by lia) (by lia) (by lia) ⟨M.1,fun _=>.rfl,M.2.2⟩ fun s hs=>⟨lo s ((M.2.1 s).mp hs),?_⟩
 rcases dv.mp (lm s ((M.2.1 s).mp hs)) with z|z
 ·exact dv.mpr (.inl z)
 ·exact dn _ (pm _ z)
def oZ:WS :=
 (bq (mC aH (ak (ag 2) b9))
 (bq (dc 3 (av kD (av ck (ag 0) (wC (.int 0))) (av ck (ag 1) (wC (.int 0)))))
 (bq (gd 3 (mC aU (ak (i6 (ak (ag 3) (ak (nS b9) b9))) b9)))
 (bq (dc 4 (av fN (bH bw (ak (ag 0) (ak (ag 1) (ak (ag 2) b9)))) (bH aP (ak (ag 0) (ak (ag 1) (ak (ag 2) b9))))))
 (bq (gd 3 (dc 5 (i6 (ak (ag 3) (ak (eW eF (av fN (ag 4) (bH aQ (ak (ag 0) (ak (ag 1) (ak (ag 2) b9)))))) b9)))))
 (bq (mC aU (ak (ag 5) b9))
 (iI 5)))))))
theorem Ir:∀ l:List Str,∃ m:List Str,m.Nodup/\∀ x,x∈m↔x∈l
 |[]=>⟨[],mP,fun _=>Iff.rfl⟩
 |y :: l=>by
  obtain⟨m,nd,h⟩:=Ir l
  by_cases hy:y∈m
  ·refine⟨m,nd,fun x=>(h x).trans ⟨fun z=>dn _ z,fun z=>?_⟩⟩
   rcases dv.mp z with rfl|z
   ·exact(h x).mp hy
   ·exact z
  ·exact⟨y :: m,ox.mpr ⟨hy,nd⟩,fun x=>by rw[dv,dv,h]⟩
theorem HN(steps:List aC):∃ k,uE steps k:=by
 obtain⟨m,nd,h⟩:=Ir ((CD steps).filter fun n=>decide (n≠("*" : Str)))
 exact⟨_,m,nd,fun n=>(h n).trans (by rw[kE];simp),rfl⟩
structure Zk(m n:Int)(l1 l2:List aC):Prop where
 m1:1<=m
 m2:m<=20
 n1:1<=n
 n2:n<=20
 z1:l1.length<=80
 z2:l2.length<=80
 o1:∀ s∈l1,gg m s
 o2:∀ s∈l2,gg n s
theorem gg.up{many:Int}{s:aC}(h:gg many s)(hm:many<=20):gg 20 s:=⟨h.1,RV h.2.1 hm,h.2.2.1,h.2.2.2.1,RV h.2.2.2.2 hm⟩
theorem BZ{m n:Int}{tg:List Str}{l1 l2:List aC}(T:Zk m n l1 l2):∀ s∈mG m n tg l1 l2,nX s.2.1:=fun s hs=>by
 rcases uY.mp hs with⟨t,ht,hs⟩|⟨t,ht,hs⟩|⟨t,ht,hs⟩
 ·obtain⟨_,q,_,rfl⟩:=vf.mp hs
  exact(T.o1 t ht).2.2.1
 ·obtain⟨_,q,_,rfl⟩:=vP.mp hs
  exact(T.o2 t ht).2.2.1
 ·obtain⟨_,u,_,_,rfl⟩:=u_.mp hs
  exact(T.o1 t ht).2.2.1
def du:dQ:=fun ds Q=>∃ (m n:Int) (l1 l2:List aC) (tg:List Str),ds=[mD m l1,mD n l2,.list (tg.map .str)]/\Zk m n l1 l2/\(m*n<=20->(mG m n tg l1 l2).length<=1000) /\
 ((∃ t,t∈tg/\¬ Open t)->Q (.ow false) (.str "NoDeed"))/\((∀ t∈tg,Open t)->(¬ m*n<=20->Q (.ow false) (.str "TooBig")) /\
  (m*n<=20->∀ out k,g0 (mG m n tg l1 l2) out->uE out k->(Rc (m*n) out.length k->Q (.ow true) (mD (m*n) out))/\(¬ Rc (m*n) out.length k->Q (.ow false) (.str "TooBig"))))
theorem xq (ds Q) (h:du ds Q):ds.length=["one", "other", "together"].length:=by obtain⟨_,_,_,_,_,rfl,_⟩:=h;rfl
theorem Bk:∀ ds Q,du ds Q->oZ { nx:=fun _=>Q .sh .non,rt:=Q } (aW 6 ds):=by
 rintro ds Q ⟨m,n,l1,l2,tg,rfl,T,hz,h1,h2⟩
 have m1:=T.m1
 have m2:=T.m2
 have n1:=T.n1
 have n2:=T.n2
 have z1:=T.z1
 have z2:=T.z2
 have s1:=fun s hs=>(T.o1 s hs).up m2
 have s2:=fun s hs=>(T.o2 s hs).up n2
 have mnp:0<=m*n:=DH (by lia) (by lia)
 have mnq:m*n<=20*20:=DI (by lia) (by lia) (by lia) (by lia)
 unfold oZ mD
 walk_at "q"
 refine⟨tg,rfl,fun ht=>?_,fun ht=>?_⟩
 rotate_left
 ·walk_at "q"
  exact h1 ht
 obtain⟨h3,h4⟩:=h2 ht
 walk_at "q"
 refine⟨.inl ⟨by lia,by lia⟩,m*n,[],0,rfl,by simp,(fun s hs=>nomatch hs),⟨[],mP,fun n=>by simp[CD],rfl⟩,fun sm=>?_,fun sm=>?_⟩
 rotate_left
 ·walk_at "q"
  exact h3 fun z=>sm ⟨z,by simp,by simp⟩
 have mn:=sm.1
 have hz:=hz mn
 walk_at "q"
 refine⟨m,n,l1,l2,tg,rfl,n1,n2,by lia,s1,?_⟩
 walk_at "q"
 refine⟨m,n,l1,l2,tg,rfl,m1,m2,n1,n2,by lia,s2,?_⟩
 have bl:(l1.flatMap (oS n tg)).length+(l2.flatMap (pd m n tg)).length+(l1.flatMap (toS n tg l2)).length<=1000:=by
  unfold mG at hz
  rwa[js,js] at hz
 walk_at "q"
 refine⟨by lia,.inl ⟨cA _,cA _,m,n,l1,l2,tg,rfl,n1,n2,by lia,by lia,s1,s2,?_⟩⟩
 walk_at "q"
 rw[<- mM,<- mM]
 refine⟨by rw[bP,js];lia,.inl ⟨cA _,cA _,?_⟩⟩
 obtain⟨ks,sh,e1,e2,e3,e4⟩:=pH (l:=mG m n tg l1 l2) (fun xs=>∀ ms:List (List Key),ms.map i5=xs->∃ out,g0 (mG m n tg l1 l2) out/\ms.map i5=out.map cS) hz fun out M ms e=>⟨out,M,e⟩
 refine⟨ks,sh,e1,e2,e3,fun ms nd mm pw=>?_⟩
 obtain⟨out,M,e⟩:=e4 ms nd mm pw ms rfl
 rw[e]
 have ol:out.length<=1000:=fS M.len hz
 obtain⟨k,hk⟩:=HN out
 obtain⟨h5,h6⟩:=h4 mn out k M hk
 refine⟨m*n,out,k,rfl,ol,fun s hs=>BZ T s ((M.2.1 s).mp hs),hk,fun sm=>?_,fun sm=>?_⟩
 ·walk_at "q"
  exact h5 sm
 ·walk_at "q"
  exact h6 sm
def zE:WS :=
 (bq (mC aH (ak (ag 1) b9))
 (bq (dc 2 vM)
 (bq (gd 1 (lh (eN (ag 1)) (gN 3)
 (A_ (rj 2) (ag 3) (wC (.str "*")))))
 (i7 (bH aR (ak (ag 0) (ak (ag 2) b9)))))))
def i_:dQ:=fun ds Q=>∃ (many:Int) (l:List aC) (names:List Str),ds=[mD many l,.list (names.map .str)]/\l.length<=1000/\names.length<=1000/\((∀ n∈names,Open n)->∀ out,g0 (l.map (Rf names)) out->Q (.ow true) (mD many out))/\((∃ n,n∈names/\¬ Open n)->Q (.ow false) (.str "NoDeed"))
theorem Ax (ds Q) (h:i_ ds Q):ds.length=["m", "deeds"].length:=by obtain⟨_,_,_,rfl,_⟩:=h;rfl
theorem GJ:∀ ds Q,i_ ds Q->zE { nx:=fun _=>Q .sh .non,rt:=Q } (aW 4 ds):=by
 rintro ds Q ⟨many,l,names,rfl,hz,hn,h1,h2⟩
 unfold zE
 walk_at "q"
 refine⟨names,rfl,fun ho=>?_,fun ho=>?_⟩
 ·walk_at "q"
  refine bM _ (fun i ρ=>∃ (kd:List (Key × D)) (o:Option Sl),OJ (tJ (names.take i)) kd/\kd.length<=i/\ρ=[some (.sh (mD many l)),some (.sh (.list (names.map .str))),some (.ow true (.dK kd)),o]) ⟨[],_,(fun x=>rfl),eu _,rfl⟩ ?_ ?_
  ·rintro i x ρ hx ⟨kd,o,hk,HM,rfl⟩ N hN
   have hi:=(mI.mp hx).1
   rw[bP] at hi
   obtain⟨n,rfl,DS,et⟩:=CV hx
   walk_at "q"
   refine⟨by lia,hN _ ⟨_,_,fun y=>?_,by have:=jf kd (Sum.inr n:Key) (D.str "*");lia,rfl⟩⟩
   rw[lU,hk y,et]
   by_cases e:y=n
   ·subst e;simp[tJ]
   ·have:¬ (Sum.inr y:Key)=Sum.inr n:=fun z=>e (Sum.inr.inj z)
    rw[if_neg this]
    simp[tJ,e]
  ·rintro ρ ⟨kd,o,hk,HM,rfl⟩
   rw[bP,rX] at hk
   walk_at "q"
   refine⟨many,l,tJ names,kd,rfl,hk,hz,fun out M=>?_⟩
   unfold mD
   walk_at "q"
   exact h1 ho out M
 ·walk_at "q"
  exact h2 ho
def pW:WS :=
 (bq (dc 2 vM)
 (bq (gd 1 (lh (eN (ag 1)) (gT 2 (a_ (gN 3) (a_ (gN 4) iH)))
 (bq (gd 4 (gd 3 (mC aH (ak (nS (ak (ag 3) (ak (ag 4) b9))) b9))))
 (gd 4 (gd 3 (Ue (rj 2) (ag 3) (ag 4)))))))
 (i7 (bH aR (ak (ag 0) (ak (ag 2) b9))))))
def eU:dQ:=fun ds Q=>∃ (many:Int) (l:List aC) (ps:List Pr),ds=[mD many l,.list (ps.map oq)]/\l.length<=1000/\ps.length<=6300/\((∀ p∈ps,EZ p)->∀ out,g0 (l.map (AZ (lk ps))) out->Q (.ow true) (mD many out))/\((∃ p,p∈ps/\¬ EZ p)->Q (.ow false) (.str "NoDeed"))
theorem wN (ds Q) (h:eU ds Q):ds.length=["m", "pairs"].length:=by obtain⟨_,_,_,rfl,_⟩:=h;rfl
theorem Fg(ae:List (Key × D))(k:Key)(x:D):(y6 ae k x).length<=ae.length+1:=by
 unfold y6
 split
 ·exact Nat.le_succ _
 ·exact jf _ _ _
theorem Ka{ps:List Pr}{kd:List (Key × D)}{a b:Str}(hk:OJ (lk ps) kd):OJ (lk (ps++[(a,b)])) (y6 kd (.inr a) (.str b)):=by
 intro y
 have ha:=hk a
 rw[yx]
 unfold y6
 by_cases e:a=y
 ·subst e
  cases h:lk ps a with
  |none =>
   rw[h] at ha
   rw[ha]
   simp[lU]
  |some z =>
   rw[h] at ha
   rw[ha]
   simp[ha]
 ·have e':¬ (Sum.inr y:Key)=Sum.inr a:=fun z=>e (Sum.inr.inj z).symm
  rw[if_neg e,Option.or_none]
  split
  ·exact hk y
  ·rw[lU,if_neg e'];exact hk y
theorem Az:∀ ds Q,eU ds Q->pW { nx:=fun _=>Q .sh .non,rt:=Q } (aW 5 ds):=by
 rintro ds Q ⟨many,l,ps,rfl,hz,hn,h1,h2⟩
 unfold pW
 walk_at "q"
 refine bM _ (fun i ρ=>∃ (kd:List (Key × D)) (o3 o4:Option Sl),OJ (lk (ps.take i)) kd/\kd.length<=i/\(∀ p∈ps.take i,EZ p)/\ρ=[some (.sh (mD many l)),some (.sh (.list (ps.map oq))),some (.ow true (.dK kd)),o3,o4]) ⟨[],_,_,(fun x=>rfl),eu _,(fun p hp=>nomatch hp),rfl⟩ ?_ ?_
 ·rintro i x ρ hx ⟨kd,o3,o4,hk,HM,Rg,rfl⟩ N hN
  have hi:=(mI.mp hx).1
  rw[bP] at hi
  obtain⟨a,b,rfl,hm,et⟩:=IK hx
  walk_at "q"
  refine⟨[a,b],rfl,fun ho=>?_,fun ho=>?_⟩
  ·walk_at "q"
   have ok:EZ (a,b):=⟨ho a (by simp),ho b (by simp)⟩
   refine⟨by lia,hN _ ⟨_,_,_,by rw[et];exact Ka hk,by have:=Fg kd (Sum.inr a) (D.str b);lia,fun p hp=>?_,rfl⟩⟩
   rw[et] at hp
   rcases dA.mp hp with hp|hp
   ·exact Rg p hp
   ·rw[n4.mp hp];exact ok
  ·walk_at "q"
   refine h2 ⟨(a,b),hm,fun z=>?_⟩
   obtain⟨n,hn,BG⟩:=ho
   rcases dv.mp hn with rfl|hn
   ·exact BG z.1
   ·rw[n4.mp hn] at BG;exact BG z.2
 ·rintro ρ ⟨kd,o3,o4,hk,HM,Rg,rfl⟩
  rw[bP,rX] at hk Rg
  walk_at "q"
  refine⟨many,l,lk ps,kd,rfl,hk,hz,fun out M=>?_⟩
  unfold mD
  walk_at "q"
  exact h1 Rg out M
def jQ:WS :=
 (bq (dc 2 (av kg (av ck (ag 0) (wC (.int 0))) (wC (.int 9))))
 (bq (gu (wB (av EF (ag 2) (wC (.int 3))))
 (i7 (i6 (ak (wC (.str "right")) (ak (bH bN (ak (ag 0) (ak (ag 1) b9))) (ak (bH bL (ak (av ck (ag 0) (wC (.int 1))) (ak (ag 1) b9))) b9)))))
 cz)
 (bq (gu (wB (av EF (ag 2) (wC (.int 6))))
 (i7 (i6 (ak (wC (.str "left")) (ak (bH bN (ak (ag 0) (ak (ag 1) b9))) (ak (bH bL (ak (av ck (ag 0) (wC (.int 1))) (ak (ag 1) b9))) b9)))))
 cz)
 (bq (gu (wB (av EF (ag 2) (wC (.int 7))))
 (i7 (i6 (ak (wC (.str "hide")) (ak (bH bL (ak (av ck (ag 0) (wC (.int 1))) (ak (ag 1) b9))) b9))))
 cz)
 (i7 (i6 (ak (wC (.str "rename")) (ak (bH cj (ak (av ck (ag 0) (wC (.int 1))) (ak (ag 1) b9))) b9))))))))
def cR:dQ:=fun ds Q=>∃ (cs:List Int) (pool:List Str),ds=[.list (cs.map .int),.list (pool.map .str)]/\cs.length=6/\pool.length=6/\(∀ n∈pool,Open n)/\∀ r:bG,r.Ok (("*" : Str) :: pool)->Q (.ow true) r.d
theorem tE (ds Q) (h:cR ds Q):ds.length=["_law_cells", "_law_pool"].length:=by obtain⟨_,_,rfl,_⟩:=h;rfl
theorem wU:∀ ds Q,cR ds Q->jQ { nx:=fun _=>Q .sh .non,rt:=Q } (aW 3 ds):=by
 rintro ds Q ⟨cs,pool,rfl,hc,hp,ho,h⟩
 obtain⟨c0,c1,rest,rfl⟩:∃ c0 c1 rest,cs=c0 :: c1 :: rest:=by
  match cs,hc with
  |c0 :: c1 :: rest,_=>exact⟨_,_,_,rfl⟩
 unfold jQ
 walk_at "q"
 refine R.D (fun e1=>?_) fun e1=>?_
 ·walk_at "q"
  refine⟨c0 :: c1 :: rest,pool,rfl,hc,hp,ho,fun n l n1 n2 l4 M so=>?_⟩
  walk_at "q"
  refine⟨c1,pool,rfl,hp,fun ns nl nm=>?_⟩
  walk_at "q"
  exact h (.right n l ns) ⟨n1,n2,l4,so,fun t ht=>ho t (nm t ht)⟩
 walk_at "q"
 refine R.D (fun e2=>?_) fun e2=>?_
 ·walk_at "q"
  refine⟨c0 :: c1 :: rest,pool,rfl,hc,hp,ho,fun n l n1 n2 l4 M so=>?_⟩
  walk_at "q"
  refine⟨c1,pool,rfl,hp,fun ns nl nm=>?_⟩
  walk_at "q"
  exact h (.left n l ns) ⟨n1,n2,l4,so,fun t ht=>ho t (nm t ht)⟩
 walk_at "q"
 refine R.D (fun e3=>?_) fun e3=>?_
 ·walk_at "q"
  refine⟨c1,pool,rfl,hp,fun ns nl nm=>?_⟩
  walk_at "q"
  exact h (.iL ns) ⟨nl,fun t ht=>ho t (nm t ht)⟩
 ·walk_at "q"
  refine⟨c1,pool,rfl,hp,fun ps pl pm=>?_⟩
  walk_at "q"
  exact h (.ke ps) ⟨pl,fun p hp=>⟨⟨ho _ (pm p hp).1,ho _ (pm p hp).2⟩,dn _ (pm p hp).2⟩⟩
def zj:WS :=
 (bq (gu (wB (av kN (av ck (ag 1) (wC (.int 0))) (wC (.str "right"))))
 (xx du (ak (ag 0) (ak (av ck (ag 1) (wC (.int 1))) (ak (av ck (ag 1) (wC (.int 2))) b9))))
 cz)
 (bq (gu (wB (av kN (av ck (ag 1) (wC (.int 0))) (wC (.str "left"))))
 (xx du (ak (av ck (ag 1) (wC (.int 1))) (ak (ag 0) (ak (av ck (ag 1) (wC (.int 2))) b9))))
 cz)
 (bq (gu (wB (av kN (av ck (ag 1) (wC (.int 0))) (wC (.str "hide"))))
 (xx i_ (ak (ag 0) (ak (av ck (ag 1) (wC (.int 1))) b9)))
 cz)
 (bq (gu (wB (av kN (av ck (ag 1) (wC (.int 0))) (wC (.str "rename"))))
 (xx eU (ak (ag 0) (ak (av ck (ag 1) (wC (.int 1))) b9)))
 cz)
 (lR "NoFrame" (wC (.str "a row of the frame begins with another word")))))))
theorem Hy{m n:Int}{tg:List Str}{l1 l2:List aC}:(mG m n tg l1 l2).length<=l1.length*n.toNat+l2.length*m.toNat+l1.length*l2.length:=by
 unfold mG
 rw[js,js]
 have a:=jX (l:=l1) (z8 n tg)
 have b:=jX (l:=l2) (zf m n tg)
 have c:=jX (l:=l1) (zG n tg l2)
 lia
theorem vH{m n:Int}{tg names:List Str}{l1 l2:List aC}(h1:∀ s∈l1,s.2.1∈names)(h2:∀ s∈l2,s.2.1∈names):∀ s∈mG m n tg l1 l2,s.2.1∈names:=fun s hs=>by
 rcases uY.mp hs with⟨t,ht,hs⟩|⟨t,ht,hs⟩|⟨t,ht,hs⟩
 ·obtain⟨_,q,_,rfl⟩:=vf.mp hs
  exact h1 t ht
 ·obtain⟨_,q,_,rfl⟩:=vP.mp hs
  exact h2 t ht
 ·obtain⟨_,u,_,_,rfl⟩:=u_.mp hs
  exact h1 t ht
theorem CF.Zm{names:List Str}{l:List aC}{k:Nat}(F:CF names)(nm:∀ s∈l,s.2.1∈names)(h:uE l k):k<=6:=by
 obtain⟨pool,e,hp⟩:=F
 obtain⟨ls,nd,mm,rfl⟩:=h
 have:=TS.bD nd (m:=pool) fun x hx=>by
  obtain⟨h1,h2⟩:=(mm x).mp hx
  obtain⟨s,hs,rfl⟩:=cf.mp h1
  have:=nm s hs
  rw[e] at this
  rcases dv.mp this with z|z
  ·exact absurd z h2
  ·exact z
 lia
theorem yU{m n:Int}{tg:List Str}{l1 l2:List aC}(a:l1.length*n.toNat<=320)(b:l2.length*m.toNat<=320)(c:l1.length*l2.length<=320):(mG m n tg l1 l2).length<=1000:=by
 have:=Hy (m:=m) (n:=n) (tg:=tg) (l1:=l1) (l2:=l2)
 lia
def iZ:dQ:=fun ds Q=>∃ (m:Int) (l:List aC) (r:bG) (names:List Str),ds=[mD m l,r.d]/\CF names/\Hm names m l/\r.Ok names /\
 (r.many m<=20->∀ out,g0 (r.raw m l) out->(out.length<=80->Q (.ow true) (mD (r.many m) out))/\(¬ out.length<=80->Q (.ow false) (.str "TooBig")))/\(¬ r.many m<=20->Q (.ow false) (.str "TooBig"))
theorem B_ (ds Q) (h:iZ ds Q):ds.length=["m", "row"].length:=by obtain⟨_,_,_,_,rfl,_⟩:=h;rfl
theorem Hm.lo{names:List Str}{m n:Int}{l l2:List aC}(hm:Hm names m l)(n1:1<=n)(n2:n<=3)(hl:l2.length<=4):l.length*n.toNat<=320/\l2.length*m.toNat<=320/\l.length*l2.length<=320/\l2.length*l.length<=320:=by
 have a:=hm.len
 have b:=hm.m2
 have h1:l.length*n.toNat<=80*3:=zI a (by lia)
 have h2:l2.length*m.toNat<=4*20:=zI hl (by lia)
 have h3:l.length*l2.length<=80*4:=zI a hl
 have h4:=Fs l.length l2.length
 lia
theorem HB:∀ ds Q,iZ ds Q->zj { nx:=fun _=>Q .sh .non,rt:=Q } (aW 2 ds):=by
 rintro ds Q ⟨m,l,r,names,rfl,nm,hm,ro,h,hb⟩
 have m1:=hm.m1
 have m2:=hm.m2
 unfold zj
 cases r with
 |right n l2 tg =>
  obtain⟨n1,n2,hl,so,op⟩:=ro
  obtain⟨q1,q2,q3,q4⟩:=hm.lo n1 n2 hl
  unfold bG.d mD
  walk_at "q"
  refine⟨m,n,l,l2,tg,rfl,⟨m1,m2,n1,by lia,hm.len,by lia,fun s hs=>(hm.ok s hs).1,fun s hs=>(so s hs).1⟩,fun _=>yU q1 q2 q3,fun⟨t,ht,z⟩=>absurd (op t ht) z,fun _=>⟨fun z=>?_,fun z out k M hk=>⟨fun sm=>?_,fun sm=>?_⟩⟩⟩
  ·walk_at "q"
   exact hb z
  ·unfold mD
   walk_at "q"
   exact(h z out M).1 sm.2.1
  ·walk_at "q"
   refine(h z out M).2 fun w=>sm ⟨z,w,nm.Zm (fun s hs=>?_) hk⟩
   exact vH (fun s hs=>(hm.ok s hs).2) (fun s hs=>(so s hs).2) s ((M.2.1 s).mp hs)
 |left n l2 tg =>
  obtain⟨n1,n2,hl,so,op⟩:=ro
  obtain⟨q1,q2,q3,q4⟩:=hm.lo n1 n2 hl
  unfold bG.d mD
  walk_at "q"
  refine R.F (by decide +kernel) ?_
  walk_at "q"
  refine⟨n,m,l2,l,tg,rfl,⟨n1,by lia,m1,m2,by lia,hm.len,fun s hs=>(so s hs).1,fun s hs=>(hm.ok s hs).1⟩,fun _=>yU q2 q1 q4,fun⟨t,ht,z⟩=>absurd (op t ht) z,fun _=>⟨fun z=>?_,fun z out k M hk=>⟨fun sm=>?_,fun sm=>?_⟩⟩⟩
  ·walk_at "q"
   exact hb z
  ·unfold mD
   walk_at "q"
   exact(h z out M).1 sm.2.1
  ·walk_at "q"
   refine(h z out M).2 fun w=>sm ⟨z,w,nm.Zm (fun s hs=>?_) hk⟩
   exact vH (fun s hs=>(so s hs).2) (fun s hs=>(hm.ok s hs).2) s ((M.2.1 s).mp hs)
 |iL ns =>
  obtain⟨hl,op⟩:=ro
  have len:=hm.len
  unfold bG.d
  walk_at "q"
  refine R.F (by decide +kernel) ?_
  walk_at "q"
  refine R.F (by decide +kernel) ?_
  walk_at "q"
  refine⟨m,l,ns,rfl,by lia,by lia,fun _ out M=>?_,fun⟨t,ht,z⟩=>absurd (op t ht) z⟩
  unfold mD
  walk_at "q"
  refine(h m2 out M).1 ?_
  have:=M.len
  rw[bP] at this
  lia
 |ke ps =>
  obtain⟨hl,op⟩:=ro
  have len:=hm.len
  unfold bG.d
  walk_at "q"
  refine R.F (by decide +kernel) ?_
  walk_at "q"
  refine R.F (by decide +kernel) ?_
  walk_at "q"
  refine R.F (by decide +kernel) ?_
  walk_at "q"
  refine⟨m,l,ps,rfl,by lia,by lia,fun _ out M=>?_,fun⟨t,ht,z⟩=>absurd (op t ht).1 z⟩
  unfold mD
  walk_at "q"
  refine(h m2 out M).1 ?_
  have:=M.len
  rw[bP] at this
  lia
def pC:WS :=
 (bq (dc 2 (i6 (ak (av ck (ag 0) (wC (.int 0))) (ak (eW uR (av ck (ag 0) (wC (.int 1)))) b9))))
 (bq (gd 1 (lh (eN (ag 1)) (gN 3)
 (Es 2 iZ (ak (ag 2) (ak (ag 3) b9)))))
 (iI 2)))
theorem C_{ps:List Pr}{x y:Str}(e:lk ps x=some y):∃ p∈ps,p.1=x/\p.2=y:=by
 induction ps with
 |nil=>cases e
 |cons p ps ih =>
  simp only[lk] at e
  split at e
  ·next h=>cases e;exact⟨p,dz,h,rfl⟩
  ·obtain⟨q,hq,z⟩:=ih e
   exact⟨q,dn _ hq,z⟩
theorem bG.many1{names:List Str}{r:bG}{m:Int}(ro:r.Ok names)(m1:1<=m):1<=r.many m:=by
 cases r with
 |right n l2 tg=>exact Kn (by lia) (by have:=ro.1;lia)
 |left n l2 tg=>exact Kn (by have:=ro.1;lia) (by lia)
 |iL ns=>exact m1
 |ke ps=>exact m1
theorem Hm.step{names:List Str}{m:Int}{l out:List aC}{r:bG}(hm:Hm names m l)(nm:CF names)(ro:r.Ok names)(Rh:r.many m<=20)(M:g0 (r.raw m l) out)(Ri:out.length<=80):Hm names (r.many m) out:=by
 have m1:=hm.m1
 refine⟨bG.many1 ro m1,Rh,fun s hs=>?_,Ri⟩
 have hs:=(M.2.1 s).mp hs
 have o1:∀ s∈l,gg m s:=fun s hs=>(hm.ok s hs).1
 have d1:∀ s∈l,s.2.1∈names:=fun s hs=>(hm.ok s hs).2
 cases r with
 |right n l2 tg=>exact⟨Dj (by lia) (by have:=ro.1;lia) o1 (fun s hs=>(ro.2.2.2.1 s hs).1) s hs,vH d1 (fun s hs=>(ro.2.2.2.1 s hs).2) s hs⟩
 |left n l2 tg=>exact⟨Dj (by have:=ro.1;lia) (by lia) (fun s hs=>(ro.2.2.2.1 s hs).1) o1 s hs,vH (fun s hs=>(ro.2.2.2.1 s hs).2) d1 s hs⟩
 |iL ns =>
  obtain⟨u,hu,rfl⟩:=cf.mp hs
  have a:=o1 u hu
  obtain⟨pool,e,_⟩:=nm
  refine⟨Df (fun x y=>BX x y) a,?_⟩
  show(tJ ns u.2.1).getD u.2.1∈names
  rw[uM]
  split
  ·rw[e];exact dz
  ·exact d1 u hu
 |ke ps =>
  obtain⟨u,hu,rfl⟩:=cf.mp hs
  have a:=o1 u hu
  refine⟨Df (FQ fun p hp=>(ro.2 p hp).1) a,?_⟩
  show(lk ps u.2.1).getD u.2.1∈names
  cases e:lk ps u.2.1 with
  |none=>exact d1 u hu
  |some y =>
   obtain⟨p,hp,_,rfl⟩:=C_ e
   exact(ro.2 p hp).2
inductive vx(m:Int)(l:List aC):List bG->Int->List aC->Prop
 |nil:vx m l [] m l
 |snoc {rs:List bG} {r:bG} {M:Int} {o out:List aC}:vx m l rs M o->r.many M<=20->g0 (r.raw M o) out->out.length<=80->vx m l (rs++[r]) (r.many M) out
def Rj(m:Int)(l:List aC)(rows:List bG):Prop:=∃ rs r rest M o,rows=rs++r :: rest/\vx m l rs M o/\(¬ r.many M<=20\/∃ out,g0 (r.raw M o) out/\¬ out.length<=80)
def fK:dQ:=fun ds Q=>∃ (m:Int) (l:List aC) (rows:List bG) (names:List Str),ds=[mD m l,.list (rows.map bG.d)]/\CF names/\Hm names m l/\(∀ r∈rows,r.Ok names) /\
 (∀ M out,vx m l rows M out->Hm names M out->Q (.ow true) (mD M out))/\(Rj m l rows->Q (.ow false) (.str "TooBig"))
theorem xm (ds Q) (h:fK ds Q):ds.length=["m", "frame"].length:=by obtain⟨_,_,_,_,rfl,_⟩:=h;rfl
theorem Bu:∀ ds Q,fK ds Q->pC { nx:=fun _=>Q .sh .non,rt:=Q } (aW 4 ds):=by
 rintro ds Q ⟨m,l,rows,names,rfl,nm,hm,ro,h,hb⟩
 unfold pC mD
 walk_at "q"
 refine .inl ⟨cA _,?_⟩
 refine bM _ (fun i ρ=>∃ (M:Int) (o:List aC) (o3:Option Sl),vx m l (rows.take i) M o/\Hm names M o/\ρ=[some (.sh (mD m l)),some (.sh (.list (rows.map bG.d))),some (.ow true (mD M o)),o3]) ⟨m,l,_,.nil,hm,rfl⟩ ?_ ?_
 ·rintro i x ρ hx ⟨M,o,o3,fr,hM,rfl⟩ N hN
  obtain⟨r,rfl,hr,et,ea⟩:=Dd hx
  walk_at "q"
  refine⟨M,o,r,names,rfl,nm,hM,ro r hr,fun z out MM=>⟨fun w=>?_,fun w=>?_⟩,fun z=>?_⟩
  ·unfold mD
   walk_at "q"
   exact hN _ ⟨_,out,_,by rw[et];exact fr.snoc z MM w,hM.step nm (ro r hr) z MM w,rfl⟩
  ·walk_at "q"
   exact hb ⟨_,r,_,M,o,ea,fr,.inr ⟨out,MM,w⟩⟩
  ·walk_at "q"
   exact hb ⟨_,r,_,M,o,ea,fr,.inl z⟩
 ·rintro ρ ⟨M,o,o3,fr,hM,rfl⟩
  rw[bP,rX] at fr
  walk_at "q"
  exact h M o fr hM
def dN(self:dQ):WS :=
 (bq (gd 7 (lh (eN (ag 7)) (gT 2 (a_ (gN 10) (a_ (gN 11) iH)))
 (gu (wB (av (qk false) (ag 10) (av ck (ag 3) (wC (.int 2)))))
 (gd 10 (dc 9 (av fN (ag 9) (fZ (eZ (ag 8)) (gT 2 (a_ (gN 0) (a_ (gN 1) iH))) (wB (av kN (ag 0) (ag 2))) (i6 (ak (ag 2) (ak (av fN (av kD (ag 4) (ag 3)) (ag 1)) b9))) 2 [10,4,11]))))
 cz)))
 (iI 9))
def dW(self:dQ):WS :=
 (bq (gd 10 (dc 9 (av fN (ag 9) (fZ (eZ (ag 8)) (gT 2 (a_ (gN 0) (a_ (gN 1) iH))) (wB (av (qk true) (ag 0) (av ck (ag 4) (wC (.int 2))))) (i6 (ak (ag 0) (ak (av fN (av kD (ag 3) (ag 2)) (ag 1)) b9))) 2 [4,5,3]))))
 (dN self))
def dJ(self:dQ):WS :=
 (bq (gd 10 (dc 9 (fZ (eZ (ag 7)) (gT 2 (a_ (gN 0) (a_ (gN 1) iH))) (wB (av (qk true) (ag 0) (av ck (ag 4) (wC (.int 2))))) (i6 (ak (ag 0) (ak (av fN (av kD (ag 1) (ag 2)) (ag 3)) b9))) 2 [4,6,3])))
 (dW self))
def dO(self:dQ):WS :=
 (bq (gu (wB (av kN (av ck (ag 3) (wC (.int 0))) (wC (.str "right"))))
 (bq (dc 4 (av ck (av ck (ag 3) (wC (.int 1))) (wC (.int 0))))
 (bq (dc 5 (av oI (ag 2) (ag 4)))
 (bq (dc 6 (av kg (ag 2) (ag 4)))
 (bq (dc 7 (bH self (ak (ag 0) (ak (sA (ag 1) d_ (gD (eW B7 (wC (.int 1))))) (ak (ag 5) b9)))))
 (dc 8 (bH self (ak (av ck (ag 3) (wC (.int 1))) (ak (nS b9) (ak (ag 6) b9)))))))))
 (bq (dc 4 (av ck (bH bA (ak (ag 0) (ak (sA (ag 1) d_ (gD (eW B7 (wC (.int 1))))) b9))) (wC (.int 0))))
 (bq (dc 5 (av oI (ag 2) (ag 4)))
 (bq (dc 6 (av kg (ag 2) (ag 4)))
 (bq (dc 7 (bH self (ak (av ck (ag 3) (wC (.int 1))) (ak (nS b9) (ak (ag 5) b9)))))
 (dc 8 (bH self (ak (ag 0) (ak (sA (ag 1) d_ (gD (eW B7 (wC (.int 1))))) (ak (ag 6) b9))))))))))
 (dJ self))
def dR(self:dQ):WS :=
 (bq (gu (wB (av (qk false) (av ck (ag 3) (wC (.int 0))) (i6 (ak (wC (.str "hide")) (ak (wC (.str "rename")) b9)))))
 (gd 6 (i7 (fZ (eZ (bH self (ak (ag 0) (ak (sA (ag 1) d_ (gD (eW B7 (wC (.int 1))))) (ak (ag 2) b9))))) (gT 2 (a_ (gN 0) (a_ (gN 1) iH))) sC (i6 (ak (bH bZ (ak (ag 0) (ak (ag 2) b9))) (ak (ag 1) b9))) 2 [3])))
 cz)
 (dO self))
def dU(self:dQ):WS :=
 (bq (dc 3 (av ck (ag 1) (eW B7 (wC (.int 1)))))
 (dR self))
def iQ(self:dQ):WS :=
 (bq (gu (wB (av kN (ag 1) (nS b9)))
 (gd 6 (gd 10 (i7 (fZ (eZ (av ck (ag 0) (wC (.int 1)))) (gT 3 (a_ (gN 0) (a_ (gN 1) (a_ (gN 2) iH)))) (wB (av kN (ag 0) (ag 3))) (i6 (ak (ag 1) (ak (ag 2) b9))) 3 [2]))))
 cz)
 (dU self))
abbrev Go:=Str × Int
def ft(g:Go):D:=.tup [.str g.1,.int g.2]
def qB(l:List aC)(p:Int):List Go:=(l.filter fun s=>decide (s.1=p)).map fun s=>s.2
def tN(n P q:Int)(tg:List Str)(ones others:List Go):List Go :=
 ((ones.filter fun g=>decide (g.1∉tg)).map fun g=>(g.1,g.2*n+q))++((others.filter fun g=>decide (g.1∉tg)).map fun g=>(g.1,P*n+g.2)) ++
  ones.flatMap fun g=>if g.1∈tg then (others.filter fun h=>decide (h.1=g.1)).map fun h=>(g.1,g.2*n+h.2) else []
def hZ(m:Int)(l:List aC):List bG->Int->List Go
 |[],p=>qB l p
 |.right n l2 tg :: rs,p=>tN n (p / n) (p % n) tg (hZ m l rs (p / n)) (qB l2 (p % n))
 |.left n l2 tg :: rs,p=>tN (eL m l rs.reverse).1 (p / (eL m l rs.reverse).1) (p % (eL m l rs.reverse).1) tg (qB l2 (p / (eL m l rs.reverse).1)) (hZ m l rs (p % (eL m l rs.reverse).1))
 |r :: rs,p=>(hZ m l rs p).map fun g=>(newD r g.1,g.2)
structure Gs(m:Int)(l:List aC)(rows:List bG)(names:List Str):Prop where
 m1:1<=m
 m2:m<=20
 nm:CF names
 dd:∀ n∈names,nX n
 ln:l.length<=80
 ld:∀ s∈l,s.2.1∈names
 ro:∀ r∈rows,r.Ok names
def aJ(k:Nat):dQ:=fun ds Q=>∃ (m:Int) (l:List aC) (rows:List bG) (names:List Str) (p:Int),ds=[mD m l,.list (rows.map bG.d),.int p]/\rows.length<k/\k<=6/\Gs m l rows names/\Q (.ow true) (.list ((hZ m l rows.reverse p).map ft))
theorem qM (k:Nat) (ds Q) (h:aJ k ds Q):ds.length=["_law_m", "_law_frame", "_law_state"].length:=by obtain⟨_,_,_,_,_,rfl,_⟩:=h;rfl
theorem nT{ds Q}(h:aJ 0 ds Q):False:=by obtain⟨_,_,_,_,_,_,h,_⟩:=h;lia
theorem GK(r:bG):r.d.nb=true:=by
 cases r<;>simp[bG.d,D.nb,qh,ga',vD,zL]
theorem Gd{rows:List bG}{names:List Str}(ro:∀ r∈rows,r.Ok names):cE 12 (.list (rows.map bG.d))=true:=by
 simp only[cE,I0,zC]
 intro r hr
 have rk:=ro r hr
 cases r with
 |right n l tg =>
  have:=Uj 7 fun s hs=>(rk.2.2.2.1 s hs).1
  have h2:cE 10 (.list (tg.map .str))=true:=pO rk.2.2.2.2
  show(cE 10 (.str "right") && (cE 10 (mD n l) && (cE 10 (.list (tg.map .str)) && true)))=true
  rw[this,h2];decide +kernel
 |left n l tg =>
  have:=Uj 7 fun s hs=>(rk.2.2.2.1 s hs).1
  have h2:cE 10 (.list (tg.map .str))=true:=pO rk.2.2.2.2
  show(cE 10 (.str "left") && (cE 10 (mD n l) && (cE 10 (.list (tg.map .str)) && true)))=true
  rw[this,h2];decide +kernel
 |iL ns =>
  have h2:cE 10 (.list (ns.map .str))=true:=pO rk.2
  show(cE 10 (.str "hide") && (cE 10 (.list (ns.map .str)) && true))=true
  rw[h2];decide +kernel
 |ke ps =>
  have h2:cE 10 (.list (ps.map oq))=true:=Ex fun p hp=>(rk.2 p hp).1
  show(cE 10 (.str "rename") && (cE 10 (.list (ps.map oq)) && true))=true
  rw[h2];decide +kernel
theorem yN:∀ rows:List bG,qh (rows.map bG.d)=true
 |[]=>rfl
 |r :: rows=>by rw[fP,qh,GK,yN rows];rfl
theorem Ew(rs:List bG)(r:bG):kK (.list ((rs++[r]).map bG.d)) (.list [])=false:=Bool.eq_false_iff.mpr fun z=>by
 have:=(lV (.list ((rs++[r]).map bG.d)) (.list []) (yN _) rfl).mp z
 simp at this
theorem W_{xs:List D}{x:D}:fI (xs++[x]) (-1)=some x:=by
 have e:ve (xs.length+1) (-1)=some xs.length:=by
  unfold ve
  rw[if_neg (by lia)]
  simp
  lia
 unfold fI
 simp[e]
theorem jJ(rs:List bG)(r:bG):hV ((rs++[r]).map bG.d) none (some (-1))=rs.map bG.d:=by
 unfold hV
 simp[HT.bS]
 rw[show(-1+((rs.length:Int)+1)).toNat=(rs.map bG.d).length by rw[bP];lia]
 exact List.take_left
theorem Gs.init{m:Int}{l:List aC}{rs:List bG}{r:bG}{names:List Str}(G:Gs m l (rs++[r]) names):Gs m l rs names:=⟨G.m1,G.m2,G.nm,G.dd,G.ln,G.ld,fun r hr=>G.ro r (ki _ hr)⟩
theorem Gs.last{m:Int}{l:List aC}{rs:List bG}{r:bG}{names:List Str}(G:Gs m l (rs++[r]) names):r.Ok names:=G.ro r (by simp)
theorem zN{l:List aC}{names:List Str}(h:∀ s∈l,s.2.1∈names){p:Int}:∀ g∈qB l p,g.1∈names:=fun g hg=>by
 obtain⟨s,hs,rfl⟩:=cf.mp hg
 exact h s (kE.mp hs).1
theorem Dk{n P q:Int}{tg names:List Str}{a b:List Go}(ha:∀ g∈a,g.1∈names)(hb:∀ g∈b,g.1∈names):∀ g∈tN n P q tg a b,g.1∈names:=fun g hg=>by
 unfold tN at hg
 rcases dA.mp hg with hg|hg
 ·rcases dA.mp hg with hg|hg
  ·obtain⟨s,hs,rfl⟩:=cf.mp hg
   exact ha s (kE.mp hs).1
  ·obtain⟨s,hs,rfl⟩:=cf.mp hg
   exact hb s (kE.mp hs).1
 ·obtain⟨s,hs,h⟩:=RG.mp hg
  split at h
  ·obtain⟨t,ht,rfl⟩:=cf.mp h
   exact ha s hs
  ·cases h
theorem Cj{names:List Str}{r:bG}{d:Str}(nm:CF names)(ro:r.Ok names)(hd:d∈names):newD r d∈names:=by
 cases r with
 |right n l2 tg=>exact hd
 |left n l2 tg=>exact hd
 |iL ns =>
  show(tJ ns d).getD d∈names
  rw[uM]
  split
  ·obtain⟨pool,e,_⟩:=nm
   rw[e];exact dz
  ·exact hd
 |ke ps =>
  show(lk ps d).getD d∈names
  cases e:lk ps d with
  |none=>exact hd
  |some y =>
   obtain⟨p,hp,_,rfl⟩:=C_ e
   exact(ro.2 p hp).2
theorem wQ{m:Int}{l:List aC}{names:List Str}(nm:CF names)(ld:∀ s∈l,s.2.1∈names):∀ (rs:List bG) (_:∀ r∈rs,r.Ok names) (p:Int),∀ g∈hZ m l rs p,g.1∈names
 |[],_,p=>zN ld
 |.right n l2 tg :: rs,ro,p=>Dk (wQ nm ld rs (fun r hr=>ro r (dn _ hr)) _) (zN fun s hs=>((ro _ dz).2.2.2.1 s hs).2)
 |.left n l2 tg :: rs,ro,p=>Dk (zN fun s hs=>((ro _ dz).2.2.2.1 s hs).2) (wQ nm ld rs (fun r hr=>ro r (dn _ hr)) _)
 |.iL ns :: rs,ro,p=>fun g hg=>by
  obtain⟨s,hs,rfl⟩:=cf.mp hg
  exact Cj nm (ro _ dz) (wQ nm ld rs (fun r hr=>ro r (dn _ hr)) _ s hs)
 |.ke ps :: rs,ro,p=>fun g hg=>by
  obtain⟨s,hs,rfl⟩:=cf.mp hg
  exact Cj nm (ro _ dz) (wQ nm ld rs (fun r hr=>ro r (dn _ hr)) _ s hs)
theorem Cr{names:List Str}:∀ (rs:List bG) (_:∀ r∈rs,r.Ok names) (t:Int × Int × Int),1<=t.1->1<=(rs.foldl rL t).1/\(rs.foldl rL t).1<=t.1*3 ^ rs.length
 |[],_,t,h=>by simp;exact h
 |r :: rs,ro,t,h=>by
  have rk:=ro r dz
  obtain⟨t',e,h1,h2⟩:∃ t',rL t r=t'/\1<=t'.1/\t'.1<=t.1*3:=by
   cases r with
   |right n l2 tg=>exact⟨_,rfl,Kn (by lia) (by have:=rk.1;lia),FI rk.2.1 (by lia)⟩
   |left n l2 tg=>exact⟨_,rfl,Kn (by lia) (by have:=rk.1;lia),FI rk.2.1 (by lia)⟩
   |iL ns=>exact⟨_,rfl,h,by show t.1<=t.1*3;lia⟩
   |ke ps=>exact⟨_,rfl,h,by show t.1<=t.1*3;lia⟩
  obtain⟨a,b⟩:=Cr rs (fun r hr=>ro r (dn _ hr)) t' h1
  rw[IU,e]
  refine⟨a,qS b ?_⟩
  rw[pj,Int.pow_succ,Kk (3 ^ rs.length) 3,<- Int.mul_assoc]
  exact DF h2 (vF (Int.pow_pos (by decide)))
theorem Ip{m:Int}{l:List aC}{rs:List bG}{names:List Str}(G:Gs m l rs names)(h:rs.length<=5):1<=(eL m l rs).1/\(eL m l rs).1<=20*243:=by
 obtain⟨a,b⟩:=Cr rs G.ro (m,l.length,l.length) G.m1
 refine⟨a,qS b (qS (DF G.m2 (vF (Int.pow_pos (by decide)))) (FI ?_ (by decide)))⟩
 have:(3:Nat) ^ rs.length<=3 ^ 5:=Pk (by decide) h
 exact_mod_cast this
theorem za{tg:List Str}{gs:List Go}:((gs.map ft).filter fun x=>match x with
   |.tup [.str d,_]=>decide (d∉tg)
   |_=>false)=(gs.filter fun g=>decide (g.1∉tg)).map ft:=by
 rw[IY]
 rfl
theorem je:∀ l:List Go,de (l.map ft)=true
 |[]=>rfl
 |x :: l=>by simp[de,je l,ft,D.flat]
theorem Hz{gs:List Go}{i:Nat}{x:D}(h:(gs.map ft)[i]? = some x):∃ d v,x=.tup [.str d,.int v]/\gs.take (i+1)=gs.take i++[(d,v)]:=by
 rw[ot] at h
 cases e:gs[i]? with
 |none=>rw[e] at h;cases h
 |some s =>
  rw[e] at h
  cases h
  obtain⟨d,v⟩:=s
  exact⟨d,v,rfl,by rw[xt,e];rfl⟩
def y9(n:Int)(tg:List Str)(others:List Go)(g:Go):List Go:=if g.1∈tg then (others.filter fun h=>decide (h.1=g.1)).map fun h=>(g.1,g.2*n+h.2) else []
theorem yC{n:Int}{tg:List Str}{others:List Go}:∀ ones:List Go,(ones.flatMap (y9 n tg others)).length<=ones.length*others.length
 |[]=>by simp
 |g :: ones=>by
  have ih:=yC (n:=n) (tg:=tg) (others:=others) ones
  have:(y9 n tg others g).length<=others.length:=by
   unfold y9
   split
   ·rw[bP];exact vE ..
   ·exact eu _
  rw[List.flatMap_cons,js,pj,Nat.succ_mul]
  lia
theorem HJ{Q:Md->D->Prop}{k:Nat}{n P q:Int}{ones others found:List Go}{tg:List Str}{w x:D}{o0 o1 o2:Option Sl}(hn:0<=n/\n<=5000)(hz:ones.length*others.length+found.length<=16000000)
  (h:Q (.ow true) (.list ((found++ones.flatMap fun g=>if g.1∈tg then (others.filter fun h=>decide (h.1=g.1)).map fun h=>(g.1,g.2*n+h.2) else []).map ft))) :
  dN (aJ k) { nx:=fun _=>Q .sh .non,rt:=Q } [o0,o1,o2,some (.sh (.tup [w,x,.list (tg.map .str)])),some (.sh (.int n)),some (.sh (.int P)),some (.sh (.int q)),some (.ow true (.list (ones.map ft))),some (.ow true (.list (others.map ft))),some (.ow true (.list (found.map ft))),none,none]:=by
 have hh:Q (.ow true) (.list ((found++ones.flatMap (y9 n tg others)).map ft)):=h
 unfold dN
 walk_at "q"
 refine bM _ (fun i ρ=>∃ Rk Rl:Option Sl,ρ=[o0,o1,o2,some (.sh (.tup [w,x,.list (tg.map .str)])),some (.sh (.int n)),some (.sh (.int P)),some (.sh (.int q)),some (.sh (.list (ones.map ft))),some (.ow true (.list (others.map ft))),some (.ow true (.list ((found++(ones.take i).flatMap (y9 n tg others)).map ft))),Rk,Rl]) ⟨none,none,by simp⟩ ?_ ?_
 ·rintro i y ρ hy ⟨Rk,Rl,rfl⟩ N hN
  have hi:=(mI.mp hy).1
  rw[bP] at hi
  obtain⟨d,v,rfl,et⟩:=Hz hy
  have tl:=yC (n:=n) (tg:=tg) (others:=others) (ones.take i)
  rw[et,O8] at hN
  walk_at "q"
  refine⟨rfl,fU tg,?_⟩
  rw[jc]
  have tll:(ones.take i).length*others.length+others.length<=ones.length*others.length:=by
   rw[<- Nat.succ_mul]
   exact Nat.mul_le_mul_right _ (by rw[kz];lia)
  refine R.D (fun z=>?_) fun z=>?_
  ·have ef:[(d,v)].flatMap (y9 n tg others)=(others.filter fun h=>decide (h.1=d)).map fun h=>(d,v*n+h.2):=by simp[y9,z]
   rw[ef] at hN
   have lf:=vE (fun h:Go=>decide (h.1=d)) others
   walk_at "q"
   refine bz (fun y=>match y with
    |.tup [.str e,_]=>decide (e=d)
    |_=>false) (fun y=>match y with
    |.tup [.str _,.int u]=>.tup [.str d,.int (v*n+u)]
    |y=>y) (fun ρ=>∃ a b,ρ=[a,b,some (.sh (.str d)),some (.sh (.int n)),some (.sh (.int v))]) _ _ _ ⟨_,_,rfl⟩ ?_ ?_
   ·rintro y hy ρ ⟨a,b,rfl⟩ N1 N2 n1 n2
    obtain⟨⟨e,u⟩,hs,rfl⟩:=cf.mp hy
    rw[show ft (e,u)=.tup [.str e,.int u] from rfl] at n1 n2 ⊢
    walk_at "q"
    by_cases hd:e=d
    ·rw[if_pos (decide_eq_true hd)]
     exact⟨.inr ⟨by lia,by lia⟩,.inl rfl,n2 _ ⟨_,_,rfl⟩ (decide_eq_true hd)⟩
    ·rw[if_neg (by simp[hd])]
     exact n1 _ ⟨_,_,rfl⟩ (decide_eq_false hd)
   ·rw[IY,eP,show(((fun y=>match y with
     |D.tup [.str _,.int u]=>D.tup [.str d,.int (v*n+u)]
     |y=>y) ∘ ft))=(ft ∘ fun g:Go=>(d,v*n+g.2)) from rfl,show((fun y=>match y with
     |D.tup [.str e,_]=>decide (e=d)
     |_=>false) ∘ ft)=(fun g:Go=>decide (g.1=d)) from rfl,<- eP,<- mM]
    refine⟨by simp only[js,bP];lia,.inl ⟨je _,je _,?_⟩⟩
    rw[tT]
    exact hN _ ⟨_,_,rfl⟩
  ·walk_at "q"
   rw[show[(d,v)].flatMap (y9 n tg others)=[] by simp[y9,z],kF] at hN
   exact hN _ ⟨_,_,rfl⟩
 ·rintro ρ ⟨Rk,Rl,rfl⟩
  rw[bP,rX]
  walk_at "q"
  exact hh
theorem Hd{Q:Md->D->Prop}{k:Nat}{n P q:Int}{ones others found:List Go}{tg:List Str}{w x:D}{o0 o1 o2:Option Sl}(hn:0<=n/\n<=5000)(hf:found.length<=ones.length)(hz:ones.length*others.length+ones.length+others.length<=16000000)
  (h:Q (.ow true) (.list ((found++((others.filter fun g=>decide (g.1∉tg)).map fun g=>(g.1,P*n+g.2))++ones.flatMap fun g=>if g.1∈tg then (others.filter fun h=>decide (h.1=g.1)).map fun h=>(g.1,g.2*n+h.2) else []).map ft))) :
  dW (aJ k) { nx:=fun _=>Q .sh .non,rt:=Q } [o0,o1,o2,some (.sh (.tup [w,x,.list (tg.map .str)])),some (.sh (.int n)),some (.sh (.int P)),some (.sh (.int q)),some (.ow true (.list (ones.map ft))),some (.ow true (.list (others.map ft))),some (.ow true (.list (found.map ft))),none,none]:=by
 obtain⟨w6,e6⟩:∃ w,w=dN:=⟨_,rfl⟩
 unfold dW
 rw[<- e6]
 walk_at "q"
 refine bz (fun x=>match x with
   |.tup [.str d,_]=>decide (d∉tg)
   |_=>false) (fun x=>match x with
   |.tup [.str d,.int v]=>.tup [.str d,.int (P*n+v)]
   |x=>x) (fun ρ=>∃ a b,ρ=[a,b,some (.sh (.int n)),some (.sh (.int P)),some (.sh (.tup [w,x,.list (tg.map .str)]))]) _ _ _ ⟨_,_,rfl⟩ ?_ ?_
 ·rintro y hy ρ ⟨a,b,rfl⟩ N1 N2 n1 n2
  obtain⟨⟨d,v⟩,hs,rfl⟩:=cf.mp hy
  rw[show ft (d,v)=.tup [.str d,.int v] from rfl] at n1 n2 ⊢
  walk_at "q"
  refine⟨rfl,fU tg,?_⟩
  rw[jc]
  by_cases hd:d∈tg
  ·rw[if_neg (by simp[hd])]
   exact n1 _ ⟨_,_,rfl⟩ (by simp[hd])
  ·rw[if_pos (by simp[hd])]
   exact⟨.inr ⟨by lia,by lia⟩,.inl rfl,n2 _ ⟨_,_,rfl⟩ (by simp[hd])⟩
 ·rw[za,eP,show((fun x=>match x with
   |D.tup [.str d,.int v]=>D.tup [.str d,.int (P*n+v)]
   |x=>x) ∘ ft)=(ft ∘ fun g:Go=>(g.1,P*n+g.2)) from rfl,<- eP,<- mM,e6]
  have lf:=vE (fun g:Go=>decide (g.1∉tg)) others
  refine⟨by simp only[bP];lia,.inl ⟨je _,je _,?_⟩⟩
  exact HJ hn (by simp only[js,bP];lia) h
theorem Di{Q:Md->D->Prop}{k:Nat}{n P q:Int}{ones others:List Go}{tg:List Str}{w x rd:D}{o0 o1 o2:Option Sl}(hr:rd=.tup [w,x,.list (tg.map .str)])(hn:0<=n/\n<=5000)(hz:ones.length*others.length+ones.length+others.length<=16000000)(h:Q (.ow true) (.list ((tN n P q tg ones others).map ft))) :
  dJ (aJ k) { nx:=fun _=>Q .sh .non,rt:=Q } [o0,o1,o2,some (.sh rd),some (.sh (.int n)),some (.sh (.int P)),some (.sh (.int q)),some (.ow true (.list (ones.map ft))),some (.ow true (.list (others.map ft))),none,none,none]:=by
 subst hr
 obtain⟨w5,e5⟩:∃ w,w=dW:=⟨_,rfl⟩
 unfold dJ
 rw[<- e5]
 walk_at "q"
 refine bz (fun x=>match x with
   |.tup [.str d,_]=>decide (d∉tg)
   |_=>false) (fun x=>match x with
   |.tup [.str d,.int v]=>.tup [.str d,.int (v*n+q)]
   |x=>x) (fun ρ=>∃ a b,ρ=[a,b,some (.sh (.int n)),some (.sh (.int q)),some (.sh (.tup [w,x,.list (tg.map .str)]))]) _ _ _ ⟨_,_,rfl⟩ ?_ ?_
 ·rintro y hy ρ ⟨a,b,rfl⟩ N1 N2 n1 n2
  obtain⟨⟨d,v⟩,hs,rfl⟩:=cf.mp hy
  rw[show ft (d,v)=.tup [.str d,.int v] from rfl] at n1 n2 ⊢
  walk_at "q"
  refine⟨rfl,fU tg,?_⟩
  rw[jc]
  by_cases hd:d∈tg
  ·rw[if_neg (by simp[hd])]
   exact n1 _ ⟨_,_,rfl⟩ (by simp[hd])
  ·rw[if_pos (by simp[hd])]
   exact⟨.inr ⟨by lia,by lia⟩,.inl rfl,n2 _ ⟨_,_,rfl⟩ (by simp[hd])⟩
 ·rw[za,eP,e5]
  have:=Hd (Q:=Q) (k:=k) (n:=n) (tg:=tg) (ones:=ones) (P:=P) (q:=q) (others:=others) (found:=(ones.filter fun g=>decide (g.1∉tg)).map fun g:Go=>(g.1,g.2*n+q)) (w:=w) (x:=x) (o0:=o0) (o1:=o1) (o2:=o2) hn (by rw[bP];exact vE ..) hz h
  rw[eP] at this
  exact this
theorem lZ(l:List aC)(p:Int):(qB l p).length<=l.length:=by
 unfold qB
 rw[bP]
 exact vE ..
theorem yh(n P q:Int)(tg:List Str)(a b:List Go):(tN n P q tg a b).length<=a.length+b.length+a.length*b.length:=by
 have h:tN n P q tg a b=((a.filter fun g=>decide (g.1∉tg)).map fun g=>(g.1,g.2*n+q))++((b.filter fun g=>decide (g.1∉tg)).map fun g=>(g.1,P*n+g.2))++a.flatMap (y9 n tg b):=rfl
 have t:=yC (n:=n) (tg:=tg) (others:=b) a
 have f1:=vE (fun g:Go=>decide (g.1∉tg)) a
 have f2:=vE (fun g:Go=>decide (g.1∉tg)) b
 rw[h]
 simp only[js,bP]
 lia
theorem tK{m:Int}{l:List aC}{names:List Str}(hl:l.length<=80):∀ (rs:List bG) (_:∀ r∈rs,r.Ok names) (p:Int),(hZ m l rs p).length+1<=81*5 ^ rs.length
 |[],_,p=>by have:=lZ l p;show(qB l p).length+1<=81*1;lia
 |.right n l2 tg :: rs,ro,p=>by
  have a:=tK (m:=m) hl rs (fun r hr=>ro r (dn _ hr)) (p / n)
  have b:=lZ l2 (p % n)
  have c:=(ro _ dz).2.2.1
  have d:=yh n (p / n) (p % n) tg (hZ m l rs (p / n)) (qB l2 (p % n))
  have e:(hZ m l rs (p / n)).length*(qB l2 (p % n)).length<=(hZ m l rs (p / n)).length*4:=Nat.mul_le_mul_left _ (by lia)
  show(tN n (p / n) (p % n) tg (hZ m l rs (p / n)) (qB l2 (p % n))).length+1<=81*5 ^ (rs.length+1)
  rw[se]
  lia
 |.left n l2 tg :: rs,ro,p=>by
  generalize e:(eL m l rs.reverse).1=k
  have a:=tK (m:=m) hl rs (fun r hr=>ro r (dn _ hr)) (p % k)
  have b:=lZ l2 (p / k)
  have c:=(ro _ dz).2.2.1
  have d:=yh k (p / k) (p % k) tg (qB l2 (p / k)) (hZ m l rs (p % k))
  have f:(qB l2 (p / k)).length*(hZ m l rs (p % k)).length<=4*(hZ m l rs (p % k)).length:=Nat.mul_le_mul_right _ (by lia)
  rw[hZ,e,pj,se]
  lia
 |.iL ns :: rs,ro,p=>by
  have a:=tK (m:=m) hl rs (fun r hr=>ro r (dn _ hr)) p
  show((hZ m l rs p).map _).length+1<=81*5 ^ (rs.length+1)
  rw[bP,se]
  lia
 |.ke ps :: rs,ro,p=>by
  have a:=tK (m:=m) hl rs (fun r hr=>ro r (dn _ hr)) p
  show((hZ m l rs p).map _).length+1<=81*5 ^ (rs.length+1)
  rw[bP,se]
  lia
theorem Zn{m p:Int}{l:List aC}{rs:List bG}{names:List Str}(G:Gs m l rs names)(h:rs.length<=5):(hZ m l rs.reverse p).length<=300000:=by
 have a:=tK (m:=m) G.ln rs.reverse (fun r hr=>G.ro r (RH.mp hr)) p
 rw[List.length_reverse] at a
 have:5 ^ rs.length<=5 ^ 5:=Pk (by decide) h
 lia
theorem HX{a b:Nat}(h:a<=300000)(hb:b<=4):a*b+a+b<=16000000/\b*a+b+a<=16000000:=by
 have:=zI h hb
 have:=Fs a b
 lia
theorem Cm{Q:Md->D->Prop}{k:Nat}{m p:Int}{l:List aC}{rs:List bG}{r:bG}{names:List Str}(r1:r.one=false)(hk:rs.length<k)(k6:k<=6)(G:Gs m l (rs++[r]) names)(h:Q (.ow true) (.list ((hZ m l (r :: rs.reverse) p).map ft))) :
  dO (aJ k) { nx:=fun _=>Q .sh .non,rt:=Q } [some (.sh (mD m l)),some (.sh (.list ((rs++[r]).map bG.d))),some (.sh (.int p)),some (.sh r.d),none,none,none,none,none,none,none,none]:=by
 obtain⟨w4,e4⟩:∃ w,w=dJ:=⟨_,rfl⟩
 unfold dO
 rw[<- e4]
 have rk:=G.last
 cases r with
 |right n l2 tg =>
  obtain⟨n1,n2,hl,so,op⟩:=rk
  rw[show bG.d (.right n l2 tg)=.tup [.str "right",.tup [.int n,.list (l2.map cS)],.list (tg.map .str)] from rfl]
  walk_at "q"
  rw[jJ]
  refine⟨⟨by lia,by lia⟩,by lia,.inr ⟨m,l,rs,names,p / n,rfl,hk,k6,G.init,?_⟩⟩
  walk_at "q"
  refine⟨n,l2,[],names,p % n,rfl,by rw[IQ];lia,k6,⟨n1,by lia,G.nm,G.dd,by lia,fun s hs=>(so s hs).2,(fun r hr=>nomatch hr)⟩,?_⟩
  walk_at "q"
  rw[e4]
  exact Di (w:=.str "right") (x:=.tup [.int n,.list (l2.map cS)]) rfl ⟨by lia,by lia⟩ (HX (Zn G.init (by lia)) (fS (lZ l2 _) hl)).1 h
 |left n l2 tg =>
  obtain⟨n1,n2,hl,so,op⟩:=rk
  rw[show bG.d (.left n l2 tg)=.tup [.str "left",.tup [.int n,.list (l2.map cS)],.list (tg.map .str)] from rfl]
  walk_at "q"
  refine R.F (by decide +kernel) ?_
  walk_at "q"
  rw[jJ]
  refine .inr ⟨m,l,rs,names,rfl,G.init.ro,?_⟩
  walk_at "q"
  have hs:=Ip G.init (by lia)
  have hh:Q (.ow true) (.list ((tN (eL m l rs.reverse.reverse).1 (p / (eL m l rs.reverse.reverse).1) (p % (eL m l rs.reverse.reverse).1) tg (qB l2 (p / (eL m l rs.reverse.reverse).1)) (hZ m l rs.reverse (p % (eL m l rs.reverse.reverse).1))).map ft)):=h
  rw[List.reverse_reverse] at hh
  generalize (eL m l rs).1=n' at *
  refine⟨⟨by lia,by lia⟩,by lia,n,l2,[],names,p / n',rfl,by rw[IQ];lia,k6,⟨n1,by lia,G.nm,G.dd,by lia,fun s hs=>(so s hs).2,(fun r hr=>nomatch hr)⟩,?_⟩
  walk_at "q"
  rw[jJ]
  refine .inr ⟨m,l,rs,names,p % n',rfl,hk,k6,G.init,?_⟩
  walk_at "q"
  rw[e4]
  exact Di (w:=.str "left") (x:=.tup [.int n,.list (l2.map cS)]) rfl ⟨by lia,by lia⟩ (HX (Zn G.init (by lia)) (fS (lZ l2 _) hl)).2 hh
 |iL ns=>cases r1
 |ke ps=>cases r1
theorem v_{gs:List Go}{r:bG}{names:List Str}(r1:r.one=true)(ro:r.Ok names)(dd:∀ n∈names,nX n)(gn:∀ g∈gs,g.1∈names){k:List D->Prop}(h:k ((gs.map fun g=>(newD r g.1,g.2)).map ft)) :
  gZ (gT 2 (a_ (gN 0) (a_ (gN 1) iH))) sC (i6 (ak (bH bZ (ak (ag 0) (ak (ag 2) b9))) (ak (ag 1) b9))) (gs.map ft) [none,none,some (.sh r.d)] k:=by
 refine bz (fun _=>true) (fun x=>match x with
  |.tup [.str d,v]=>.tup [.str (newD r d),v]
  |x=>x) (fun ρ=>∃ o0 o1,ρ=[o0,o1,some (.sh r.d)]) _ _ _ ⟨_,_,rfl⟩ ?_ ?_
 ·rintro x hx ρ ⟨o0,o1,rfl⟩ N1 N2 n1 n2
  obtain⟨⟨d,v⟩,hs,rfl⟩:=cf.mp hx
  rw[show ft (d,v)=.tup [.str d,.int v] from rfl] at n2 ⊢
  walk_at "q"
  refine⟨d,r,names,rfl,r1,ro,dd _ (gn _ hs),?_⟩
  walk_at "q"
  exact⟨.inl rfl,n2 _ ⟨_,_,rfl⟩ rfl⟩
 ·rw[fH,eP]
  rw[eP] at h
  exact h
theorem Im{Q:Md->D->Prop}{k:Nat}{m p:Int}{l:List aC}{rs:List bG}{r:bG}{names:List Str}(hk:rs.length<k)(k6:k<=6)(G:Gs m l (rs++[r]) names)(h:Q (.ow true) (.list ((hZ m l (r :: rs.reverse) p).map ft))) :
  dR (aJ k) { nx:=fun _=>Q .sh .non,rt:=Q } [some (.sh (mD m l)),some (.sh (.list ((rs++[r]).map bG.d))),some (.sh (.int p)),some (.sh r.d),none,none,none,none,none,none,none,none]:=by
 obtain⟨w3,e3⟩:∃ w,w=dO:=⟨_,rfl⟩
 unfold dR
 rw[<- e3]
 cases r with
 |right n l2 tg =>
  rw[show bG.d (.right n l2 tg)=.tup [.str "right",mD n l2,.list (tg.map .str)] from rfl]
  walk_at "q"
  refine⟨rfl,rfl,R.F (by decide +kernel) ?_⟩
  walk_at "q"
  rw[e3]
  exact Cm rfl hk k6 G h
 |left n l2 tg =>
  rw[show bG.d (.left n l2 tg)=.tup [.str "left",mD n l2,.list (tg.map .str)] from rfl]
  walk_at "q"
  refine⟨rfl,rfl,R.F (by decide +kernel) ?_⟩
  walk_at "q"
  rw[e3]
  exact Cm rfl hk k6 G h
 |iL ns =>
  rw[show bG.d (.iL ns)=.tup [.str "hide",.list (ns.map .str)] from rfl]
  walk_at "q"
  refine⟨rfl,rfl,R.T (by decide +kernel) ?_⟩
  walk_at "q"
  rw[jJ]
  refine .inr ⟨m,l,rs,names,p,rfl,hk,k6,G.init,?_⟩
  have gn:=wQ (m:=m) G.nm G.ld rs.reverse (fun r hr=>G.init.ro r (RH.mp hr)) p
  have hh:Q (.ow true) (.list (((hZ m l rs.reverse p).map fun g=>(newD (.iL ns) g.1,g.2)).map ft)):=h
  generalize hZ m l rs.reverse p=gs at *
  walk_at "q"
  exact v_ (r:=.iL ns) rfl G.last G.dd gn hh
 |ke ps =>
  rw[show bG.d (.ke ps)=.tup [.str "rename",.list (ps.map oq)] from rfl]
  walk_at "q"
  refine⟨rfl,rfl,R.T (by decide +kernel) ?_⟩
  walk_at "q"
  rw[jJ]
  refine .inr ⟨m,l,rs,names,p,rfl,hk,k6,G.init,?_⟩
  have gn:=wQ (m:=m) G.nm G.ld rs.reverse (fun r hr=>G.init.ro r (RH.mp hr)) p
  have hh:Q (.ow true) (.list (((hZ m l rs.reverse p).map fun g=>(newD (.ke ps) g.1,g.2)).map ft)):=h
  generalize hZ m l rs.reverse p=gs at *
  walk_at "q"
  exact v_ (r:=.ke ps) rfl G.last G.dd gn hh
theorem Hf{Q:Md->D->Prop}{k:Nat}{m p:Int}{l:List aC}{rs:List bG}{r:bG}{names:List Str}(hk:rs.length<k)(k6:k<=6)(G:Gs m l (rs++[r]) names)(h:Q (.ow true) (.list ((hZ m l (r :: rs.reverse) p).map ft))) :
  dU (aJ k) { nx:=fun _=>Q .sh .non,rt:=Q } [some (.sh (mD m l)),some (.sh (.list ((rs++[r]).map bG.d))),some (.sh (.int p)),none,none,none,none,none,none,none,none,none]:=by
 obtain⟨w2,e2⟩:∃ w,w=dR:=⟨_,rfl⟩
 unfold dU
 rw[<- e2]
 walk_at "q"
 refine⟨r.d,by rw[mM];exact W_,?_⟩
 rw[e2]
 exact Im hk k6 G h
theorem uH(k:Nat):∀ ds Q,aJ (k+1) ds Q->iQ (aJ k) { nx:=fun _=>Q .sh .non,rt:=Q } (aW 12 ds):=by
 rintro ds Q ⟨m,l,rows,names,p,rfl,hk,k6,G,h⟩
 obtain⟨w1,e1⟩:∃ w,w=dU:=⟨_,rfl⟩
 unfold iQ mD
 rw[<- e1]
 walk_at "q"
 refine⟨Gd G.ro,rfl,?_⟩
 rcases List.eq_nil_or_concat rows with rfl|⟨rs,r,er⟩
 ·refine R.T (by decide +kernel) ?_
  walk_at "q"
  refine bz (fun x=>match x with
   |.tup [.int u,_,_]=>decide (u=p)
   |_=>false) (fun x=>match x with
   |.tup [.int _,d,v]=>.tup [d,v]
   |x=>x) (fun ρ=>∃ o0 o1 o2,ρ=[o0,o1,o2,some (.sh (.int p))]) _ _ _ ⟨_,_,_,rfl⟩ ?_ ?_
  ·rintro x hx ρ ⟨o0,o1,o2,rfl⟩ N1 N2 n1 n2
   obtain⟨⟨u,d,v⟩,hs,rfl⟩:=cf.mp hx
   unfold cS at n1 n2 ⊢
   walk_at "q"
   by_cases z:u=p
   ·rw[if_pos (decide_eq_true z)]
    exact⟨.inl rfl,n2 _ ⟨_,_,_,rfl⟩ (decide_eq_true z)⟩
   ·rw[if_neg (by simp[z])]
    exact n1 _ ⟨_,_,_,rfl⟩ (decide_eq_false z)
  ·have hh:Q (.ow true) (.list (((l.filter fun s=>decide (s.1=p)).map fun s=>s.2).map ft)):=h
   rw[eP] at hh
   rw[IY,eP]
   exact hh
 ·rw[List.concat_eq_append] at er
  subst er
  refine R.F (Ew rs r) ?_
  walk_at "q"
  rw[e1]
  rw[js,List.length_singleton] at hk
  rw[List.reverse_append] at h
  exact Hf (by lia) (by lia) G h
theorem uT{l:List aC}{p q:Int}{d:Str}:((d,q):Go)∈qB l p↔(p,d,q)∈l:=by
 unfold qB
 rw[cf]
 constructor
 ·rintro⟨⟨a,b,c⟩,hs,e⟩
  obtain⟨h1,h2⟩:=kE.mp hs
  have h3:a=p:=of_decide_eq_true h2
  cases e
  subst h3
  exact h1
 ·exact fun h=>⟨(p,d,q),kE.mpr ⟨h,decide_eq_true rfl⟩,rfl⟩
theorem Bf{n P Q x:Int}{tg:List Str}{a b:List Go}{d:Str}:((d,x):Go)∈tN n P Q tg a b↔(d∉tg/\∃ r,(d,r)∈a/\x=r*n+Q)\/(d∉tg/\∃ s,(d,s)∈b/\x=P*n+s)\/(d∈tg/\∃ r s,(d,r)∈a/\(d,s)∈b/\x=r*n+s):=by
 unfold tN
 rw[dA,dA,or_assoc]
 refine or_congr ?_ (or_congr ?_ ?_)
 ·rw[cf]
  constructor
  ·rintro⟨⟨e,r⟩,hs,z⟩
   obtain⟨h1,h2⟩:=kE.mp hs
   cases z
   exact⟨of_decide_eq_true h2,r,h1,rfl⟩
  ·rintro⟨h,r,h1,rfl⟩
   exact⟨(d,r),kE.mpr ⟨h1,decide_eq_true h⟩,rfl⟩
 ·rw[cf]
  constructor
  ·rintro⟨⟨e,r⟩,hs,z⟩
   obtain⟨h1,h2⟩:=kE.mp hs
   cases z
   exact⟨of_decide_eq_true h2,r,h1,rfl⟩
  ·rintro⟨h,r,h1,rfl⟩
   exact⟨(d,r),kE.mpr ⟨h1,decide_eq_true h⟩,rfl⟩
 ·rw[RG]
  constructor
  ·rintro⟨⟨e,r⟩,hs,z⟩
   split at z
   ·next ht =>
    obtain⟨⟨f,s⟩,hf,y⟩:=cf.mp z
    obtain⟨h1,h2⟩:=kE.mp hf
    have h2:f=e:=of_decide_eq_true h2
    cases y
    subst h2
    exact⟨ht,r,s,hs,h1,rfl⟩
   ·cases z
  ·rintro⟨ht,r,s,h1,h2,rfl⟩
   refine⟨(d,r),h1,?_⟩
   rw[if_pos ht]
   exact cf.mpr ⟨(d,s),kE.mpr ⟨h2,decide_eq_true rfl⟩,rfl⟩
theorem E_{p P q n:Int}(h:0<=q/\q<n)(e:p=P*n+q):P=p / n/\q=p % n:=by
 subst e
 rw[Int.add_comm,Int.add_mul_ediv_right _ _ (by lia),Int.ediv_eq_zero_of_lt h.1 h.2,Int.add_mul_emod_self_right,Int.emod_eq_of_lt h.1 h.2]
 simp
theorem Cw{M n p x:Int}{a b:List Go}{o l2:List aC}{tg:List Str}{d:Str}(n1:1<=n)(M1:1<=M)(so:∀ s∈l2,gg n s)(h0:0<=p)(h1:p<M*n)(ha:∀ d q,(d,q)∈a↔(p / n,d,q)∈o)(hb:∀ d q,(d,q)∈b↔(p % n,d,q)∈l2) :
  ((d,x):Go)∈tN n (p / n) (p % n) tg a b↔(p,d,x)∈mG M n tg o l2:=by
 have e:=Int.mul_ediv_add_emod p n
 have q0:=si p (show n≠0 by lia)
 have q1:=sf p (show 0<n by lia)
 have e':p=p / n*n+p % n:=by rw[Kk];lia
 have P0:=Int.ediv_nonneg h0 (show 0<=n by lia)
 have P1:p / n<M:=Int.ediv_lt_of_lt_mul (by lia) h1
 rw[Bf,wD (by lia) (by lia)]
 refine or_congr (and_congr_right fun _=>⟨?_,?_⟩) (or_congr (and_congr_right fun _=>⟨?_,?_⟩) (and_congr_right fun _=>⟨?_,?_⟩))
 ·rintro⟨r,hr,rfl⟩
  exact⟨p / n,r,p % n,(ha _ _).mp hr,⟨q0,q1⟩,e',rfl⟩
 ·rintro⟨P,r,q,hr,hq,e2,rfl⟩
  obtain⟨rfl,rfl⟩:=E_ hq e2
  exact⟨r,(ha _ _).mpr hr,rfl⟩
 ·rintro⟨s,hs,rfl⟩
  exact⟨p / n,p % n,s,(hb _ _).mp hs,⟨P0,P1⟩,e',rfl⟩
 ·rintro⟨P,q,s,hs,hP,e2,rfl⟩
  have o2:=so _ hs
  obtain⟨rfl,rfl⟩:=E_ ⟨o2.1,o2.2.1⟩ e2
  exact⟨s,(hb _ _).mpr hs,rfl⟩
 ·rintro⟨r,s,hr,hs,rfl⟩
  exact⟨p / n,r,p % n,s,(ha _ _).mp hr,(hb _ _).mp hs,e',rfl⟩
 ·rintro⟨P,r,q,s,hr,hs,e2,rfl⟩
  have o2:=so _ hs
  obtain⟨rfl,rfl⟩:=E_ ⟨o2.1,o2.2.1⟩ e2
  exact⟨r,s,(ha _ _).mpr hr,(hb _ _).mpr hs,rfl⟩
theorem vG{m:Int}{l:List aC}{names:List Str}{rows:List bG}{M:Int}{out:List aC}(fr:vx m l rows M out)(G:Gs m l rows names)(lo:∀ s∈l,gg m s):M=(eL m l rows).1/\Hm names M out/\∀ p d x,0<=p->p<M->(((d,x):Go)∈hZ m l rows.reverse p↔(p,d,x)∈out):=by
 induction fr with
 |nil=>exact⟨rfl,⟨G.m1,G.m2,fun s hs=>⟨lo s hs,G.ld s hs⟩,G.ln⟩,fun p d x _ _=>uT⟩
 |@snoc rs r M o out fr Rh MM Ri ih =>
  obtain⟨e,hM,ia⟩:=ih G.init
  have rk:=G.last
  have M1:=hM.m1
  refine⟨?_,hM.step G.nm G.last Rh MM Ri,fun p d x p0 p1=>?_⟩
  ·rw[qK]
   cases r with
   |right n l2 tg=>show M*n=(eL m l rs).1*n;rw[e]
   |left n l2 tg=>show n*M=(eL m l rs).1*n;rw[e,Kk]
   |iL ns=>exact e
   |ke ps=>exact e
  rw[List.reverse_append,MM.2.1]
  cases r with
  |right n l2 tg =>
   obtain⟨n1,n2,hl,so,op⟩:=rk
   exact Cw n1 M1 (fun s hs=>(so s hs).1) p0 p1 (fun d q=>ia (p / n) d q (Int.ediv_nonneg p0 (by lia)) (Int.ediv_lt_of_lt_mul (by lia) p1)) fun d q=>uT
  |left n l2 tg =>
   obtain⟨n1,n2,hl,so,op⟩:=rk
   have q0:=si p (show M≠0 by lia)
   have q1:=sf p (show 0<M by lia)
   show((d,x):Go)∈tN (eL m l rs.reverse.reverse).1 (p / (eL m l rs.reverse.reverse).1) (p % (eL m l rs.reverse.reverse).1) tg (qB l2 (p / (eL m l rs.reverse.reverse).1)) (hZ m l rs.reverse (p % (eL m l rs.reverse.reverse).1))↔_
   rw[List.reverse_reverse,<- e]
   exact Cw M1 n1 (fun s hs=>(hM.ok s hs).1) p0 p1 (fun d q=>uT) fun d q=>ia (p % M) d q q0 q1
  |iL ns =>
   have ip:=ia p
   show((d,x):Go)∈(hZ m l rs.reverse p).map (fun g=>(newD (.iL ns) g.1,g.2))↔(p,d,x)∈o.map (Rf ns)
   rw[cf,cf]
   constructor
   ·rintro⟨⟨a,b⟩,hg,z⟩
    cases z
    exact⟨(p,a,b),(ip a b p0 p1).mp hg,rfl⟩
   ·rintro⟨⟨a,b,c⟩,hg,z⟩
    cases z
    exact⟨(b,c),(ip b c p0 p1).mpr hg,rfl⟩
  |ke ps =>
   have ip:=ia p
   show((d,x):Go)∈(hZ m l rs.reverse p).map (fun g=>(newD (.ke ps) g.1,g.2))↔(p,d,x)∈o.map (AZ (lk ps))
   rw[cf,cf]
   constructor
   ·rintro⟨⟨a,b⟩,hg,z⟩
    cases z
    exact⟨(p,a,b),(ip a b p0 p1).mp hg,rfl⟩
   ·rintro⟨⟨a,b,c⟩,hg,z⟩
    cases z
    exact⟨(b,c),(ip b c p0 p1).mpr hg,rfl⟩
theorem wu{names:List Str}:∀ (rs:List bG) (_:∀ r∈rs,r.Ok names) (t:Int × Int × Int),1<=t.1->t.1<=(rs.foldl rL t).1/\t.2.2<=(rs.foldl rL t).2.2
 |[],_,t,h=>⟨lP _,lP _⟩
 |r :: rs,ro,t,h=>by
  have rk:=ro r dz
  obtain⟨t',e,h1,h2⟩:∃ t',rL t r=t'/\t.1<=t'.1/\t.2.2<=t'.2.2:=by
   cases r with
   |right n l2 tg =>
    have:=FI rk.1 (show 0<=t.1 by lia)
    exact⟨_,rfl,by show t.1<=t.1*n;lia,by show t.2.2<=if t.2.1*n+(l2.length:Int)*t.1+t.2.1*l2.length>t.2.2 then t.2.1*n+(l2.length:Int)*t.1+t.2.1*l2.length else t.2.2;split<;>lia⟩
   |left n l2 tg =>
    have:=FI rk.1 (show 0<=t.1 by lia)
    exact⟨_,rfl,by show t.1<=t.1*n;lia,by show t.2.2<=if t.2.1*n+(l2.length:Int)*t.1+t.2.1*l2.length>t.2.2 then t.2.1*n+(l2.length:Int)*t.1+t.2.1*l2.length else t.2.2;split<;>lia⟩
   |iL ns=>exact⟨_,rfl,lP _,lP _⟩
   |ke ps=>exact⟨_,rfl,lP _,lP _⟩
  obtain⟨a,b⟩:=wu rs (fun r hr=>ro r (dn _ hr)) t' (by lia)
  rw[IU,e]
  exact⟨by lia,by lia⟩
def lM:WS :=
 (bq (dc 11 (nS b9))
 (bq (lh (fM (ag 8)) (gN 12)
 (lh (eN (eW jd (bH (aJ 6) (ak (ag 5) (ak (ag 6) (ak (ag 12) b9)))))) (gT 2 (a_ (gN 13) (a_ (gN 14) iH)))
 (gd 14 (gd 13 (gd 12 (y1 (rj 11) (i6 (ak (ag 12) (ak (ag 13) (ak (ag 14) b9))))))))))
 (i7 (av kN (ag 11) (av ck (ag 10) (wC (.int 1)))))))
def lL:WS :=
 (bq (gu (wB (av kN (ag 10) (wC (.str "too big"))))
 (i7 (QC (av EG (ag 8) (wC (.int 20))) (av EG (ag 9) (wC (.int 80)))))
 cz)
 (bq (gu (AR (tj (wB (bH aV (ak (ag 10) b9)))) (wB (av yB (av ck (ag 10) (wC (.int 0))) (ag 8))))
 (i7 (wC (.bl false)))
 cz)
 lM))
def lJ:WS :=
 (bq (Bv 10 (zB fK (ak (i6 (ak (ag 2) (ak (eW uR (av ck (ag 5) (wC (.int 1)))) b9))) (ak (eW uR (ag 6)) b9))) "TooBig" (dc 10 (wC (.str "too big"))))
 lL)
def pI:WS :=
 (bq (gd 6 (Fz 8 9 (bH bA (ak (ag 5) (ak (ag 6) b9)))))
 (bq (dc 10 (wC .non))
 lJ))
def qb:WS :=
 (bq (dc 6 (nS b9))
 (bq (lh (fM (av kg (bH aG (ak (ag 0) (ak (wC (.int 3)) b9))) (wC (.int 6)))) (gN 7)
 (y1 (rj 6) (bH cR (ak (fZ (fM (wC (.int 6))) (gN 0) sC (bH aG (ak (ag 2) (ak (av fN (av fN (wC (.int 9)) (av kD (wC (.int 6)) (ag 1))) (ag 0)) b9))) 1 [7,0]) (ak (ag 3) b9)))))
 pI))
def p_:WS :=
 (bq (gd 2 (dc 5 (i6 (ak (ag 2) (ak (eW eF (bH bB (ak (ag 4) (ak (ag 2) (ak (av fN (nS (ak (wC (.str "*")) b9)) (sA (ag 3) d_ (gD (wC (.int 5))))) b9))))) b9)))))
 qb)
def Gj:WS :=
 (bq (dc 1 (bH aG (ak (ag 0) (ak (wC (.int 0)) b9))))
 (bq (dc 2 (av fN (wC (.int 1)) (av kg (ag 1) (wC (.int 5)))))
 (bq (dc 3 (bH cg (ak (bH aG (ak (ag 0) (ak (wC (.int 1)) b9))) (ak (bH aG (ak (ag 0) (ak (wC (.int 2)) b9))) b9))))
 (bq (dc 4 (sA (ag 0) (gD (wC (.int 39))) (gD (wC (.int 51)))))
 (bq (gu (wB (av kN (av kg (av oI (ag 1) (wC (.int 5))) (wC (.int 4))) (wC (.int 1))))
 (dc 4 (sA (ag 0) (gD (wC (.int 39))) (gD (wC (.int 64)))))
 cz)
 p_)))))
abbrev Ic:dQ:=YN
theorem Fd (ds Q) (h:Ic ds Q):ds.length=["_law_script"].length:=by obtain⟨_,rfl,_⟩:=h;rfl
theorem yz{m n:Int}{tg:List Str}{l1 l2:List aC}(m0:0<=m)(n0:0<=n):((mG m n tg l1 l2).length:Int)<=l1.length*n+l2.length*m+l1.length*l2.length:=by
 have bl:=Hy (m:=m) (n:=n) (tg:=tg) (l1:=l1) (l2:=l2)
 have e1:((l1.length*n.toNat:Nat):Int)=(l1.length:Int)*n:=by rw[Int.natCast_mul,xB n0]
 have e2:((l2.length*m.toNat:Nat):Int)=(l2.length:Int)*m:=by rw[Int.natCast_mul,xB m0]
 have e3:((l1.length*l2.length:Nat):Int)=(l1.length:Int)*l2.length:=Int.natCast_mul ..
 rw[<- e1,<- e2,<- e3]
 lia
theorem ym{names:List Str}{r:bG}{M:Int}{o:List aC}{t:Int × Int × Int}(rk:r.Ok names)(M1:1<=M)(e:M=t.1)(h:(o.length:Int)<=t.2.1)(hw:t.2.1<=t.2.2):((r.raw M o).length:Int)<=(rL t r).2.1/\(rL t r).2.1<=(rL t r).2.2/\r.many M=(rL t r).1:=by
 obtain⟨a,b,c⟩:=t
 dsimp only at e h hw
 subst e
 cases r with
 |right n l2 tg =>
  have n1:=rk.1
  have q:=yz (tg:=tg) (l1:=o) (l2:=l2) (m:=M) (n:=n) (by lia) (by lia)
  have h1:(o.length:Int)*n<=b*n:=DF h (by lia)
  have h2:(o.length:Int)*l2.length<=b*l2.length:=DF h (by lia)
  refine⟨?_,?_,rfl⟩
  ·show((mG M n tg o l2).length:Int)<=b*n+(l2.length:Int)*M+b*l2.length
   lia
  ·show b*n+(l2.length:Int)*M+b*l2.length<=if b*n+(l2.length:Int)*M+b*l2.length>c then b*n+(l2.length:Int)*M+b*l2.length else c
   split<;>lia
 |left n l2 tg =>
  have n1:=rk.1
  have q:=yz (tg:=tg) (l1:=l2) (l2:=o) (m:=n) (n:=M) (by lia) (by lia)
  have h1:(o.length:Int)*n<=b*n:=DF h (by lia)
  have h2:(l2.length:Int)*o.length<=b*l2.length:=by rw[Kk];exact DF h (by lia)
  refine⟨?_,?_,Kk ..⟩
  ·show((mG n M tg l2 o).length:Int)<=b*n+(l2.length:Int)*M+b*l2.length
   lia
  ·show b*n+(l2.length:Int)*M+b*l2.length<=if b*n+(l2.length:Int)*M+b*l2.length>c then b*n+(l2.length:Int)*M+b*l2.length else c
   split<;>lia
 |iL ns =>
  refine⟨?_,hw,rfl⟩
  show((o.map (Rf ns)).length:Int)<=b
  rw[bP]
  exact h
 |ke ps =>
  refine⟨?_,hw,rfl⟩
  show((o.map (AZ (lk ps))).length:Int)<=b
  rw[bP]
  exact h
theorem Ef{m:Int}{l:List aC}{names:List Str}{rows:List bG}{M:Int}{out:List aC}(fr:vx m l rows M out)(G:Gs m l rows names)(lo:∀ s∈l,gg m s):(out.length:Int)<=(eL m l rows).2.1/\(eL m l rows).2.1<=(eL m l rows).2.2:=by
 induction fr with
 |nil=>exact⟨lP _,lP _⟩
 |@snoc rs r M o out fr Rh MM Ri ih =>
  obtain⟨a,b⟩:=ih G.init
  obtain⟨e,hM,_⟩:=vG fr G.init lo
  obtain⟨c,d,_⟩:=ym G.last hM.m1 e a b
  rw[qK]
  have:=MM.len
  exact⟨by lia,d⟩
theorem Rj.sz{m:Int}{l:List aC}{names:List Str}{rows:List bG}(B:Rj m l rows)(G:Gs m l rows names)(lo:∀ s∈l,gg m s):20<(eL m l rows).1\/80<(eL m l rows).2.2:=by
 obtain⟨rs,r,rest,M,o,rfl,fr,h⟩:=B
 have G1:Gs m l rs names:=⟨G.m1,G.m2,G.nm,G.dd,G.ln,G.ld,fun r hr=>G.ro r (ki _ hr)⟩
 have rk:r.Ok names:=G.ro r (by simp)
 obtain⟨e,hM,_⟩:=vG fr G1 lo
 obtain⟨a,b⟩:=Ef fr G1 lo
 obtain⟨c,d,f⟩:=ym rk hM.m1 e a b
 have m1:=bG.many1 rk hM.m1
 obtain⟨x,y⟩:=wu rest (fun r hr=>G.ro r (by simp[hr])) (rL (eL m l rs) r) (by rw[<- f];exact m1)
 rw[show eL m l (rs++r :: rest)=rest.foldl rL (rL (eL m l rs) r) by unfold eL;rw[List.foldl_append];rfl]
 rcases h with h|⟨out,MM,h⟩
 ·exact .inl (by lia)
 ·have:=MM.len
  exact .inr (by lia)
def tP(g:Go):List Key:=[.inr g.1,.inl g.2]
theorem zF{g h:Go}(e:tP g=tP h):g=h:=by
 obtain⟨a,b⟩:=g
 obtain⟨c,d⟩:=h
 simp[tP] at e
 obtain⟨rfl,rfl⟩:=e
 rfl
theorem De:∀ {ks:List (List Key)},(∀ k∈ks,∃ g,k=tP g)->∃ gs:List Go,ks=gs.map tP
 |[],_=>⟨[],rfl⟩
 |k :: ks,h=>by
  obtain⟨g,rfl⟩:=h k dz
  obtain⟨gs,rfl⟩:=De fun k hk=>h k (dn _ hk)
  exact⟨g :: gs,rfl⟩
def Iq(out:List aC)(i:Int)(L:List aC):Prop:=g0 (out.filter fun s=>decide (s.1<i)) L
theorem Iq.next{out L:List aC}{i:Int}(U:Iq out i L){gs:List Go}(nd:gs.Nodup)(mm:∀ d x,((d,x):Go)∈gs↔(i,d,x)∈out)(pw:gs.Pairwise fun a b=>fo (tP b) (tP a)=false):Iq out (i+1) (L++gs.map fun g=>(i,g)):=by
 obtain⟨n1,m1,p1⟩:=U
 have lt:∀ s∈L,s.1<i:=fun s hs=>of_decide_eq_true (kE.mp ((m1 s).mp hs)).2
 refine⟨iO.mpr ⟨n1,?_,?_⟩,fun s=>?_,II.mpr ⟨p1,?_,?_⟩⟩
 ·exact qE.mpr (nd.imp fun h e=>h (Prod.mk.inj e).2)
 ·rintro a ha b hb rfl
  obtain⟨g,_,rfl⟩:=cf.mp hb
  have:=lt _ ha
  exact absurd this (Int.lt_irrefl _)
 ·obtain⟨p,d,x⟩:=s
  rw[dA,m1,kE,kE,cf]
  constructor
  ·rintro(⟨a,b⟩|⟨⟨d',x'⟩,hg,e⟩)
   ·exact⟨a,decide_eq_true (by have:=of_decide_eq_true b;dsimp only at this ⊢;lia)⟩
   ·cases e
    exact⟨(mm d x).mp hg,decide_eq_true (by dsimp only;lia)⟩
  ·rintro⟨a,b⟩
   have b:=of_decide_eq_true b
   dsimp only at b
   by_cases z:p=i
   ·subst z
    exact .inr ⟨(d,x),(mm d x).mpr a,rfl⟩
   ·exact .inl ⟨a,decide_eq_true (by dsimp only;lia)⟩
 ·refine qE.mpr (pw.imp fun {a b} h=>?_)
  show fo (.inl i :: tP b) (.inl i :: tP a)=false
  rw[fo,if_pos rfl]
  exact h
 ·intro a ha b hb
  obtain⟨g,_,rfl⟩:=cf.mp hb
  have:=lt _ ha
  show fo (.inl i :: tP g) (.inl a.1 :: [.inr a.2.1,.inl a.2.2])=false
  rw[fo,if_neg (by simp;lia)]
  exact decide_eq_false (by lia)
theorem Iq.all{M:Int}{out L:List aC}(U:Iq out M L)(ok:∀ s∈out,gg M s)(MM:g0 out out):L=out :=
 g0.uniq (fun s=>by
  rw[kE]
  exact⟨fun h=>h.1,fun h=>⟨h,decide_eq_true (ok s h).2.1⟩⟩) U MM
theorem vx.mde{m:Int}{l:List aC}{rows:List bG}{M:Int}{out:List aC}(fr:vx m l rows M out)(h:g0 l l):g0 out out:=by
 cases fr with
 |nil=>exact h
 |snoc _ _ MM _=>exact⟨MM.1,fun _=>.rfl,MM.2.2⟩
theorem Cg{Q:Md->D->Prop}{m M W:Int}{l out:List aC}{rows:List bG}{names:List Str}{o0 o1 o2 o3 o4 o7:Option Sl}(G:Gs m l rows names)(lo:∀ s∈l,gg m s)(ml:g0 l l)(rl:rows.length<=5)(fr:vx m l rows M out)(h:∀ m,Q m (.bl true)) :
  lM { nx:=fun _=>Q .sh .non,rt:=Q } [o0,o1,o2,o3,o4,some (.ow true (mD m l)),some (.sh (.list (rows.map bG.d))),o7,some (.sh (.int M)),some (.sh (.int W)),some (.ow true (mD M out)),none,none,none,none]:=by
 obtain⟨eM,hM,ia⟩:=vG fr G lo
 have m1:=hM.m1
 have m2:=hM.m2
 unfold lM
 walk_at "q"
 refine⟨by lia,by lia,?_⟩
 refine bM _ (fun i ρ=>∃ (L:List aC) (Rm A0 A3:Option Sl),Iq out i L/\ρ=[o0,o1,o2,o3,o4,some (.ow true (mD m l)),some (.sh (.list (rows.map bG.d))),o7,some (.sh (.int M)),some (.sh (.int W)),some (.ow true (mD M out)),some (.ow true (.list (L.map cS))),Rm,A0,A3]) ⟨[],_,_,_,⟨mP,fun s=>⟨(fun h=>nomatch h),(fun h=>?_)⟩,.nil⟩,rfl⟩ ?_ ?_
 ·have h:=kE.mp h
  have h1:=hM.ok s h.1
  have h2:=of_decide_eq_true h.2
  exact absurd h2 (by have:=h1.1.1;lia)
 ·rintro i x ρ hx ⟨L,Rm,A0,A3,U,rfl⟩ N hN
  obtain⟨hi,rfl⟩:=gw hx
  have hi:(i:Int)<M:=by lia
  walk_at "q"
  refine⟨m,l,rows,names,_,rfl,by lia,by decide,G,?_⟩
  have ii:∀ d x,((d,x):Go)∈hZ m l rows.reverse (0+(i:Int))↔((i:Int),d,x)∈out:=fun d x=>by
   rw[Int.zero_add]
   exact ia i d x (by lia) hi
  generalize hZ m l rows.reverse (0+(i:Int))=goes at *
  have ul:L.length<=80:=fS U.len (fS (vE ..) hM.len)
  walk_at "q"
  refine⟨goes.map tP,out.map fun s=>tP s.2,[true],by rw[eP];rfl,by rw[bP];have:=hM.len;lia,fun k hk=>?_,fun k hk=>?_,fun ms nd mm pw=>?_⟩
  ·obtain⟨⟨d,x⟩,hg,rfl⟩:=cf.mp hk
   exact cf.mpr ⟨_,(ii d x).mp hg,rfl⟩
  ·obtain⟨g,hg,rfl⟩:=cf.mp hk
   rfl
  obtain⟨gs,rfl⟩:=De (ks:=ms) fun k hk=>by
   obtain⟨g,hg,rfl⟩:=cf.mp ((mm k).mp hk)
   exact⟨g,rfl⟩
  have nd:=gQ nd
  have pw:=qE.mp pw
  have mm:∀ d x,((d,x):Go)∈gs↔((i:Int),d,x)∈out:=fun d x=>by
   rw[<- ii]
   constructor
   ·intro hg
    obtain⟨g,rq,e⟩:=cf.mp ((mm _).mp (cf.mpr ⟨_,hg,rfl⟩))
    rw[<- zF e];exact rq
   ·intro hg
    obtain⟨g,rq,e⟩:=cf.mp ((mm _).mpr (cf.mpr ⟨_,hg,rfl⟩))
    rw[<- zF e];exact rq
  have un:=U.next nd mm pw
  rw[show(i:Int)+1=((i+1:Nat):Int) from rfl] at un
  have gl:gs.length<=80:=by
   have:=fS un.len (fS (vE ..) hM.len)
   rw[js,bP] at this
   lia
  rw[eP,show(gs.map (i5 ∘ tP))=gs.map ft from rfl]
  refine bM _ (fun j ρ=>∃ (A0 A3:Option Sl),ρ=[o0,o1,o2,o3,o4,some (.ow true (mD m l)),some (.sh (.list (rows.map bG.d))),o7,some (.sh (.int M)),some (.sh (.int W)),some (.ow true (mD M out)),some (.ow true (.list ((L++(gs.take j).map fun g=>((i:Int),g)).map cS))),some (.sh (.int (0+(i:Int)))),A0,A3]) ⟨A0,A3,by simp⟩ ?_ ?_
  ·rintro j x ρ hx ⟨A0,A3,rfl⟩ N hN
   obtain⟨d,v,rfl,et⟩:=Hz hx
   have lt:=kz (i:=j) (l:=gs)
   walk_at "q"
   refine⟨by rw[js,bP];lia,?_⟩
   rw[et] at hN
   rw[show(L++(gs.take j).map fun g=>((i:Int),g)).map cS++[D.tup [.int (0+(i:Int)),.str d,.int v]]=(L++(gs.take j++[(d,v)]).map fun g=>((i:Int),g)).map cS by rw[Int.zero_add];simp[cS]]
   exact hN _ ⟨_,_,rfl⟩
  ·rintro ρ ⟨A0,A3,rfl⟩
   rw[bP,rX]
   exact hN _ ⟨_,_,_,_,un,rfl⟩
 ·rintro ρ ⟨L,Rm,A0,A3,U,rfl⟩
  rw[e_] at U
  have:=U.all (fun s hs=>by have:=(hM.ok s hs).1;rwa[xB (by lia)]) (fr.mde ml)
  subst this
  have ok:=zP 10 fun s hs=>(hM.ok s hs).1
  unfold mD
  walk_at "q"
  refine⟨ok,ok,?_⟩
  rw[eq_self (x:=.list (L.map cS)) (uG L)]
  exact h _
theorem vR {Q:Md->D->Prop} {m:Int} {l:List aC} {rows:List bG} {names:List Str} {o0 o1 o2 o3 o4 o7:Option Sl} {sl:Sl} (G:Gs m l rows names) (lo:∀ s∈l,gg m s) (ml:g0 l l) (rl:rows.length<=5) (hs:(∃ M out,vx m l rows M out/\sl=.ow true (mD M out))\/(Rj m l rows/\sl=.sh (.str "too big"))) (h:∀ m,Q m (.bl true)) :
  lL { nx:=fun _=>Q .sh .non,rt:=Q } [o0,o1,o2,o3,o4,some (.ow true (mD m l)),some (.sh (.list (rows.map bG.d))),o7,some (.sh (.int (eL m l rows).1)),some (.sh (.int (eL m l rows).2.2)),some sl,none,none,none,none]:=by
 obtain⟨w13,Ul⟩:∃ w,w=lM:=⟨_,rfl⟩
 unfold lL
 rw[<- Ul]
 rcases hs with⟨M,out,fr,rfl⟩|⟨B,rfl⟩
 ·obtain⟨eM,hM,ia⟩:=vG fr G lo
  have ok:=gc' fun s hs=>(hM.ok s hs).1
  unfold mD
  walk_at "q"
  refine⟨ok,by decide +kernel,R.F rfl ?_⟩
  walk_at "q"
  refine⟨M,out,rfl,?_⟩
  walk_at "q"
  refine R.F (by rw[<- eM];simp) ?_
  walk_at "q"
  rw[Ul,<- eM]
  exact Cg G lo ml rl fr h
 ·walk_at "q"
  have bs:=B.sz G lo
  refine R.D (fun z=>?_) fun z=>?_
  ·rw[if_pos rfl]
   exact h _
  ·rw[if_neg (by decide)]
   walk_at "q"
   rw[decide_eq_true (by lia)]
   exact h _
theorem Ab{Q:Md->D->Prop}{m:Int}{l:List aC}{rows:List bG}{names:List Str}{o0 o1 o3 o4 o7:Option Sl}(G:Gs m l rows names)(lo:∀ s∈l,gg m s)(ml:g0 l l)(rl:rows.length<=5)(h:∀ m,Q m (.bl true)) :
  lJ { nx:=fun _=>Q .sh .non,rt:=Q } [o0,o1,some (.sh (.int m)),o3,o4,some (.ow true (mD m l)),some (.sh (.list (rows.map bG.d))),o7,some (.sh (.int (eL m l rows).1)),some (.sh (.int (eL m l rows).2.2)),some (.sh .non),none,none,none,none]:=by
 obtain⟨w11,Rn⟩:∃ w,w=lL:=⟨_,rfl⟩
 unfold lJ
 rw[<- Rn]
 unfold mD
 walk_at "q"
 refine .inl ⟨cA _,.inr ⟨m,l,rows,names,rfl,G.nm,⟨G.m1,G.m2,fun s hs=>⟨lo s hs,G.ld s hs⟩,G.ln⟩,G.ro,fun M out fr hM=>?_,fun B=>?_⟩⟩
 ·unfold mD
  walk_at "q"
  rw[Rn]
  exact vR G lo ml rl (.inl ⟨M,out,fr,rfl⟩) h
 ·walk_at "q"
  rw[Rn]
  exact vR G lo ml rl (.inr ⟨B,rfl⟩) h
theorem Fj{Q:Md->D->Prop}{m:Int}{l:List aC}{rows:List bG}{names:List Str}{o0 o1 o3 o4 o7:Option Sl}(G:Gs m l rows names)(lo:∀ s∈l,gg m s)(ml:g0 l l)(rl:rows.length<=5)(h:∀ m,Q m (.bl true)) :
  pI { nx:=fun _=>Q .sh .non,rt:=Q } [o0,o1,some (.sh (.int m)),o3,o4,some (.ow true (mD m l)),some (.ow true (.list (rows.map bG.d))),o7,none,none,none,none,none,none,none]:=by
 obtain⟨w10,Um⟩:∃ w,w=lJ:=⟨_,rfl⟩
 unfold pI
 rw[<- Um]
 walk_at "q"
 refine⟨m,l,rows,names,rfl,G.ro,?_⟩
 walk_at "q"
 rw[Um]
 exact Ab G lo ml rl h
theorem zu{ns:List Int}{v:Int}{K:List D->Prop}(hv:0<=v/\v<=100)(h:∀ cs:List Int,cs.length=6->K (cs.map .int)):gZ (gN 0) sC (bH aG (ak (ag 2) (ak (av fN (av fN (wC (.int 9)) (av kD (wC (.int 6)) (ag 1))) (ag 0)) b9))) (iJ 0 6) [none,some (.sh (.int v)),some (.sh (.list (ns.map .int)))] K:=by
 refine sU (fun n out=>∃ cs:List Int,out=cs.map .int/\cs.length=n) (fun ρ=>∃ o,ρ=[o,some (.sh (.int v)),some (.sh (.list (ns.map .int)))]) _ 0 [] _ _ ⟨_,rfl⟩ ⟨[],rfl,rfl⟩ ?_ ?_
 ·rintro j y hy ρ ⟨o,rfl⟩ out ⟨us,rfl,Uo⟩ N1 N2 SV
  obtain⟨hj,rfl⟩:=gw hy
  walk_at "q"
  refine⟨.inl ⟨by lia,by lia⟩,ns,_,rfl,by lia,?_⟩
  walk_at "q"
  exact⟨.inl rfl,SV _ _ ⟨_,rfl⟩ ⟨us++[_],(by rw[mM];rfl),by simp[Uo]⟩⟩
 rintro out ⟨us,e,Uo⟩
 simp only[List.nil_append] at e
 subst e
 rw[e_] at Uo
 exact h us (by lia)
theorem DX {Q:Md->D->Prop} {m:Int} {l:List aC} {pool:List Str} {ns:List Int} {o1 o4:Option Sl} (G:Gs m l [] (("*" : Str) :: pool)) (hp:pool.length=6) (ho:∀ n∈pool,Open n) (lo:∀ s∈l,gg m s) (ml:g0 l l) (h:∀ m,Q m (.bl true)) :
  qb { nx:=fun _=>Q .sh .non,rt:=Q } [some (.sh (.list (ns.map .int))),o1,some (.sh (.int m)),some (.ow true (.list (pool.map .str))),o4,some (.ow true (mD m l)),none,none,none,none,none,none,none,none,none]:=by
 obtain⟨w8,e8⟩:∃ w,w=pI:=⟨_,rfl⟩
 unfold qb
 rw[<- e8]
 walk_at "q"
 refine⟨ns,3,rfl,by decide,?_⟩
 generalize ns.getD _ 0=c3
 walk_at "q"
 refine⟨by lia,by lia,?_⟩
 refine bM _ (fun i ρ=>∃ (rows:List bG) (o7:Option Sl),rows.length=i/\(∀ r∈rows,r.Ok (("*" : Str) :: pool))/\ρ=[some (.sh (.list (ns.map .int))),o1,some (.sh (.int m)),some (.ow true (.list (pool.map .str))),o4,some (.ow true (mD m l)),some (.ow true (.list (rows.map bG.d))),o7,none,none,none,none,none,none,none]) ⟨[],_,rfl,(fun r hr=>nomatch hr),rfl⟩ ?_ ?_
 ·rintro i x ρ hx ⟨rows,o7,rl,ro,rfl⟩ N hN
  obtain⟨hi,rfl⟩:=gw hx
  have hi:i<6:=by lia
  walk_at "q"
  refine zu (by lia) fun cs hc=>?_
  refine⟨cs,pool,rfl,hc,hp,ho,fun r rk=>?_⟩
  walk_at "q"
  rw[show rows.map bG.d++[r.d]=(rows++[r]).map bG.d by rw[mM];rfl]
  refine⟨by lia,hN _ ⟨rows++[r],_,by simp[rl],fun x hx=>?_,rfl⟩⟩
  rcases dA.mp hx with hx|hx
  ·exact ro x hx
  ·rw[n4.mp hx];exact rk
 ·rintro ρ ⟨rows,o7,rl,ro,rfl⟩
  rw[e_] at rl
  rw[e8]
  exact Fj (names:=("*" : Str) :: pool) ⟨G.m1,G.m2,G.nm,G.dd,G.ln,G.ld,ro⟩ lo ml (by lia) h
theorem rO(ns:List Int){b:Int}(h:39<=b/\b<=64):(hV ns (some 39) (some b)).length<=25:=by
 unfold hV
 rw[kz]
 simp only[HT.bS]
 rw[if_neg (by lia),if_neg (by lia)]
 lia
theorem xX{Q:Md->D->Prop}{m:Int}{cells ns:List Int}{pool:List Str}{o1:Option Sl}(m1:1<=m)(m2:m<=5)(hc:cells.length<=25)(hp:pool.length=6)(ho:∀ n∈pool,Open n)(h:∀ m,Q m (.bl true)) :
  p_ { nx:=fun _=>Q .sh .non,rt:=Q } [some (.sh (.list (ns.map .int))),o1,some (.sh (.int m)),some (.ow true (.list (pool.map .str))),some (.ow true (.list (cells.map .int))),none,none,none,none,none,none,none,none,none,none]:=by
 obtain⟨w6,e6⟩:∃ w,w=qb:=⟨_,rfl⟩
 unfold p_
 rw[<- e6]
 walk_at "q"
 rw[yD]
 have pl:=jz pool none (some 5)
 have pm:=fun x (hx:x∈hV pool none (some 5))=>zz hx
 generalize hV pool none (some 5)=HZ at *
 have dd:∀ n∈("*" : Str) :: HZ,nX n:=fun d hd=>(dv.mp hd).imp id fun z=>ho d (pm d z)
 refine .inl ⟨gM pool,by rw[bP];lia,.inl ⟨gM HZ,cells,m,("*" : Str) :: HZ,rfl,by lia,m1,by lia,by simp,by simp;lia,dd,fun l lo lm ll=>?_⟩⟩
 walk_at "q"
 obtain⟨ks,sh,a1,a2,a3,a4⟩:=pH (l:=l) (fun xs=>∀ ms:List (List Key),ms.map i5=xs->∃ out,g0 l out/\ms.map i5=out.map cS) (by lia) fun out M ms e=>⟨out,M,e⟩
 refine⟨ks,sh,a1,a2,a3,fun OL nd mm pw=>?_⟩
 obtain⟨out,M,e'⟩:=a4 OL nd mm pw OL rfl
 rw[e']
 have ol:=M.len
 have lm2:∀ s∈out,s.2.1∈("*" : Str) :: pool:=fun s hs=>by
  rcases dv.mp (lm s ((M.2.1 s).mp hs)) with z|z
  ·exact dv.mpr (.inl z)
  ·exact dn _ (pm _ z)
 rw[e6]
 exact DX ⟨m1,by lia,⟨pool,rfl,by lia⟩,fun d hd=>(dv.mp hd).imp id fun z=>ho d z,by lia,lm2,(fun r hr=>nomatch hr)⟩ hp ho (M.ok lo) ⟨M.1,fun _=>.rfl,M.2.2⟩ h
theorem Kd:∀ ds Q,Ic ds Q->Gj { nx:=fun _=>Q .sh .non,rt:=Q } (aW 15 ds):=by
 rintro ds Q ⟨ns,rfl,hl,h⟩
 obtain⟨w5,e5⟩:∃ w,w=p_:=⟨_,rfl⟩
 unfold Gj
 rw[<- e5]
 walk_at "q"
 refine⟨ns,0,rfl,by decide,?_⟩
 generalize ns.getD _ 0=c0
 walk_at "q"
 refine⟨ns,1,rfl,by decide,?_⟩
 generalize ns.getD _ 0=c1
 walk_at "q"
 refine⟨ns,2,rfl,by decide,?_⟩
 generalize ns.getD _ 0=c2
 walk_at "q"
 refine⟨c1,c2,rfl,fun pool hp ho nd=>?_⟩
 walk_at "q"
 refine .inl ⟨jE ns,?_⟩
 have k0:0<=c0 % 5/\c0 % 5<5:=by lia
 generalize c0 % 5=k at *
 refine R.D (fun z=>?_) fun z=>?_
 ·walk_at "q"
  rw[mV]
  have cl:=rO ns (b:=64) (by decide)
  generalize hV ns (some 39) (some 64)=cells at *
  refine .inl ⟨jE ns,?_⟩
  rw[e5]
  exact xX (by lia) (by lia) cl hp ho h
 ·walk_at "q"
  rw[mV]
  have cl:=rO ns (b:=51) (by decide)
  generalize hV ns (some 39) (some 51)=cells at *
  rw[e5]
  exact xX (by lia) (by lia) cl hp ho h
def top(i:Nat):Stmt:=PySem.Challenge.pw_kinlook_k18_whole_steps_in_a_frame.main.body.getD i (.Pass ⟨0,0,0,0⟩)
abbrev eQ:Stmt:=top 9
abbrev oK:List Str:=["thing"]
abbrev aK:Stmt:=top 14
abbrev eO:List Str:=["m"]
abbrev cW:Stmt:=top 15
abbrev lN:List Str:=["m"]
abbrev bf:Stmt:=top 17
abbrev jm:List Str:=["deeds", "deed"]
abbrev bC:Stmt:=top 18
abbrev iw:List Str:=["one", "other", "together", "many", "steps", "start", "deed", "end"]
abbrev aX:Stmt:=top 19
abbrev fJ:List Str:=["one", "other", "together", "many", "steps", "start", "deed", "end"]
abbrev aO:Stmt:=top 20
abbrev cX:List Str:=["one", "other", "together", "many", "steps", "start", "deed", "end", "mates"]
abbrev dh:Stmt:=top 21
abbrev rN:List Str:=["one", "other", "together", "many", "steps", "m"]
abbrev bY:Stmt:=top 22
abbrev jj:List Str:=["m", "new_deeds", "steps"]
abbrev iK:Stmt:=top 23
abbrev yg:List Str:=["m", "deeds", "new_deeds", "deed"]
abbrev di:Stmt:=top 24
abbrev tO:List Str:=["m", "pairs", "new_deeds", "old", "new"]
abbrev iM:Stmt:=top 26
abbrev yw:List Str:=["m", "row"]
abbrev dg:Stmt:=top 27
abbrev rE:List Str:=["m", "frame", "told", "row"]
abbrev bQ:Stmt:=top 29
abbrev mQ:List Str:=["_law_script", "_law_k"]
abbrev bK:Stmt:=top 30
abbrev gh:List Str:=["_law_cell", "_law_turn", "_law_letters", "_law_size_here", "_law_places", "_law_k", "_law_word", "_law_at", "_law_found", "_law_sign"]
abbrev cL:Stmt:=top 31
abbrev qw:List Str:=["_law_cells", "_law_many", "_law_deeds_here", "_law_found", "_law_k", "_law_number", "_law_deed"]
abbrev cV:Stmt:=top 32
abbrev rH:List Str:=["_law_cell", "_law_pool", "_law_found", "_law_size_here", "_law_k"]
abbrev cI:Stmt:=top 33
abbrev qu:List Str:=["_law_found"]
abbrev bh:Stmt:=top 34
abbrev jF:List Str:=["_law_found", "_law_step"]
abbrev cJ:Stmt:=top 35
abbrev qL:List Str:=["_law_cell", "_law_pool", "_law_found", "_law_size_here", "_law_k"]
abbrev cM:Stmt:=top 36
abbrev pM:List Str:=["_law_cells", "_law_pool", "_law_many"]
abbrev dY:Stmt:=top 37
abbrev ud:List Str:=["_law_cells", "_law_pool", "_law_way"]
abbrev cU:Stmt:=top 38
abbrev rK:List Str:=["_law_m", "_law_frame", "_law_many", "_law_most", "_law_worst", "_law_row_here", "_law_steps_here"]
abbrev dZ:Stmt:=top 39
abbrev uI:List Str:=["_law_deed", "_law_row_here", "_law_old", "_law_new_here"]
abbrev aL:Stmt:=top 40
abbrev bW:List Str:=["_law_m", "_law_frame", "_law_state", "_law_row_here", "_law_n", "_law_p", "_law_q", "_law_ones", "_law_others", "_law_found", "_law_deed", "_law_r"]
abbrev n6:Stmt:=top 41
abbrev Cu:List Str:=["_law_script", "_law_first", "_law_many", "_law_pool", "_law_cells", "_law_m", "_law_frame", "_law_k", "_law_size_here", "_law_worst", "_law_found", "_law_steps_here", "_law_state", "_law_deed", "_law_end"]
abbrev rn:List Str:=["NoDeed", "NoFrame", "TooBig"]
structure Txt(K:PySem.W.Frag)(mg:Str->Option Value):Prop where
 OO:mg "all" = none
 OQ:mg "bool" = none
 OS:mg "int" = none
 xl:mg "isinstance" = none
 rS:mg "len" = none
 CH:mg "list" = none
 OU:mg "max" = none
 rV:mg "range" = none
 zh:mg "set" = none
 zi:mg "sorted" = none
 Iy:mg "str" = none
 IA:mg "tuple" = none
 OV:Qm mg "HIDDEN" "*"
 OW:Qm mg "LETTERS" "abcdefghijklmnopqrstuvwxyz"
 OX:GN mg "MOST_LETTERS" 6
 OY:GN mg "MOST_STATES" 20
 OZ:GN mg "MOST_STEPS" 80
 O0:GN mg "MOST_OPEN_DEEDS" 6
 gg':Q8 K mg "NoDeed"
 gh':Q8 K mg "NoFrame"
 Uq:Q8 K mg "TooBig"
 gi':HW K mg ["TooBig"] "TooBig"
section
variable {P:Program}{w:World}{K:PySem.W.Frag}{mg:Str->Option Value}{base:Heap}
theorem oH:g9 oK ["thing"] (bI eQ):=⟨rfl,rfl,rfl,by decide +kernel,rfl,by decide +kernel,by decide +kernel⟩
theorem wK {f:Addr} {fd:FuncData} (F:eJ K "is_open" "is_open" eQ f fd) (T:Txt K mg)  : eS P w K mg base iA 1 f fd ["thing"] (az K bR) :=
 nV.ok (t:=mJ) F oH ue (fun cp A outer s H E hr =>
  have nd:=oH.nd
  have hu:=hr.units
  (aj (cB (MR (tX (gH (il (uD T.xl (qv 0) (uP T.Iy CK)))) (rP (gH (Ay CW CW Ie Ie aq (dI bF gR rfl T.rS ir (qv 0)) (QB T.OX))))))
   (ao (bO EE))
   aM)
   (ao (bO (dI dw' Hn rfl T.OO HF (fO (tn:=["sign"]) (cn:=[]) (ix:=[]) rfl (qY (Iw (qv 0))) (bU.of (sc:=bI eQ) (N:=oK) rfl rfl (by decide +kernel)) (fun _ _ _ _=>(aA (i:=0) (show(["sign"]:List Str).Nodup by decide +kernel) rfl (Or.inl rfl) (.inr rfl))) (fun _ _ _ _=>fD) (fun _ _ _ _=>(Bl (h9 (K:=K) hu) nP (qv 0) (Yy T.OW) (by rfl))))))))) zy
theorem lX:g9 lN ["m"] (bI cW):=⟨rfl,rfl,rfl,by decide +kernel,rfl,by decide +kernel,by decide +kernel⟩
theorem uh {f:Addr} {fd:FuncData} (F:eJ K "deeds_of" "deeds_of" cW f fd) (T:Txt K mg)  : eS P w K mg base iA 1 f fd ["m"] (az K cH) :=
 nV.ok (t:=jP) F lX qR (fun cp A outer s H E hr =>
  have nd:=lX.nd
  have hu:=hr.units
  (ao (bO (wO rfl T.zi rfl T.zh (fO (tn:=["step"]) (cn:=[]) (ix:=[]) rfl (eE (cx hu (qv 0) aq)) (bU.of (sc:=bI cW) (N:=lN) rfl rfl (by decide +kernel)) (fun _ _ _ _=>(aA (i:=0) (show(["step"]:List Str).Nodup by decide +kernel) rfl (Or.inl rfl) (.inr rfl))) (fun _ _ _ _=>fD) (fun _ _ _ _=>(cx hu (qv 0) aq))))))) wV
theorem gW:g9 iw ["one", "other", "together"] (bI bC):=⟨rfl,rfl,rfl,by decide +kernel,rfl,by decide +kernel,by decide +kernel⟩
theorem mL {f:Addr} {fd:FuncData} (F:eJ K "steps_of_one" "steps_of_one" bC f fd) (T:Txt K mg)  : eS P w K mg base iA 1 f fd ["one", "other", "together"] (az K bw) :=
 nV.ok (t:=fG) F gW lD (fun cp A outer s H E hr =>
  have nd:=gW.nd
  have hu:=hr.units
  (aj (aB (i:=3) nd rfl (Or.inr rfl) (cx hu (qv 1) aq))
   (aj (aB (i:=4) nd rfl (Or.inl rfl) (gJ au))
   (aj (aY 0 (cN PassesOwn.never rfl (dB (cx hu (qv 0) aq)) (gA rfl (aF (aA (i:=5) nd rfl (Or.inr rfl)) (aF (aA (i:=6) nd rfl (Or.inr rfl)) (aF (aA (i:=7) nd rfl (Or.inr rfl)) dG))))
   (ao (cB (aZ (wA (K:=K) hu) nP (qv 6) (qv 2) (by rfl))
   (ao (aY 6 (yO (dD (pv 4)) (fO (tn:=["q"]) (cn:=["deed", "end", "many", "start"]) (ix:=[6,7,3,5]) rfl (qY (fu T.rV (qv 3))) (bU.of (sc:=bI bC) (N:=iw) rfl rfl (by decide +kernel)) (fun _ _ _ _=>(aA (i:=0) (show(["q", "deed", "end", "many", "start"]:List Str).Nodup by decide +kernel) rfl (Or.inl rfl) (.inr rfl))) (fun _ _ _ _=>fD) (fun _ _ _ _=>(dM (aa (cP (gj (qv 4) (qv 3)) (qv 0)) (aa (qv 1) (aa (cP (gj (qv 2) (qv 3)) (qv 0)) au)))))))))
   aM))))
   (ao (cY (pv 4))))))) nO
theorem fL:g9 fJ ["one", "other", "together"] (bI aX):=⟨rfl,rfl,rfl,by decide +kernel,rfl,by decide +kernel,by decide +kernel⟩
theorem jW {f:Addr} {fd:FuncData} (F:eJ K "steps_of_other" "steps_of_other" aX f fd) (T:Txt K mg)  : eS P w K mg base iA 1 f fd ["one", "other", "together"] (az K aP) :=
 nV.ok (t:=dF) F fL jA (fun cp A outer s H E hr =>
  have nd:=fL.nd
  have hu:=hr.units
  (aj (aB (i:=3) nd rfl (Or.inr rfl) (cx hu (qv 1) aq))
   (aj (aB (i:=4) nd rfl (Or.inl rfl) (gJ au))
   (aj (aY 1 (cN PassesOwn.never rfl (dB (cx hu (qv 1) aq)) (gA rfl (aF (aA (i:=5) nd rfl (Or.inr rfl)) (aF (aA (i:=6) nd rfl (Or.inr rfl)) (aF (aA (i:=7) nd rfl (Or.inr rfl)) dG))))
   (ao (cB (aZ (wA (K:=K) hu) nP (qv 6) (qv 2) (by rfl))
   (ao (aY 6 (yO (dD (pv 4)) (fO (tn:=["p"]) (cn:=["deed", "end", "many", "start"]) (ix:=[6,7,3,5]) rfl (qY (fu T.rV (cx hu (qv 0) aq))) (bU.of (sc:=bI aX) (N:=fJ) rfl rfl (by decide +kernel)) (fun _ _ _ _=>(aA (i:=0) (show(["p", "deed", "end", "many", "start"]:List Str).Nodup by decide +kernel) rfl (Or.inl rfl) (.inr rfl))) (fun _ _ _ _=>fD) (fun _ _ _ _=>(dM (aa (cP (gj (qv 0) (qv 3)) (qv 4)) (aa (qv 1) (aa (cP (gj (qv 0) (qv 3)) (qv 2)) au)))))))))
   aM))))
   (ao (cY (pv 4))))))) lE
theorem fQ:g9 cX ["one", "other", "together"] (bI aO):=⟨rfl,rfl,rfl,by decide +kernel,rfl,by decide +kernel,by decide +kernel⟩
theorem jT {f:Addr} {fd:FuncData} (F:eJ K "steps_together" "steps_together" aO f fd) (T:Txt K mg)  : eS P w K mg base iA 1 f fd ["one", "other", "together"] (az K aQ) :=
 nV.ok (t:=dH) F fQ jl (fun cp A outer s H E hr =>
  have nd:=fQ.nd
  have hu:=hr.units
  (aj (aB (i:=3) nd rfl (Or.inr rfl) (cx hu (qv 1) aq))
   (aj (aB (i:=4) nd rfl (Or.inl rfl) (gJ au))
   (aj (aY 0 (cN PassesOwn.never rfl (dB (cx hu (qv 0) aq)) (gA rfl (aF (aA (i:=5) nd rfl (Or.inr rfl)) (aF (aA (i:=6) nd rfl (Or.inr rfl)) (aF (aA (i:=7) nd rfl (Or.inr rfl)) dG))))
   (ao (cB (aZ (h9 (K:=K) hu) nP (qv 6) (qv 2) (by rfl))
   (aj (jY (i:=8) (tn:=["step"]) (cn:=["deed"]) (ix:=[6]) nd rfl (Or.inl rfl) rfl (eE (cx hu (qv 1) aq)) (bU.of (sc:=bI aO) (N:=cX) rfl rfl (by decide +kernel)) (fun _ _ _ _=>(aA (i:=0) (show(["step", "deed"]:List Str).Nodup by decide +kernel) rfl (Or.inl rfl) (.inr rfl))) (fun _ _ _ _=>(jU (aZ (ri (K:=K) hu) iR (cx hu (qv 0) aq) (qv 1) (i3 _)))) (fun _ _ _ _=>(qv 0)))
   (ao (aY 6 (yO (dD (pv 4)) (fO (tn:=["mate"]) (cn:=["deed", "end", "many", "start"]) (ix:=[6,7,3,5]) rfl (eE (qv 8)) (bU.of (sc:=bI aO) (N:=cX) rfl rfl (by decide +kernel)) (fun _ _ _ _=>(aA (i:=0) (show(["mate", "deed", "end", "many", "start"]:List Str).Nodup by decide +kernel) rfl (Or.inl rfl) (.inr rfl))) (fun _ _ _ _=>fD) (fun _ _ _ _=>(dM (aa (cP (gj (qv 4) (qv 3)) (cx hu (qv 0) aq)) (aa (qv 1) (aa (cP (gj (qv 2) (qv 3)) (cx hu (qv 0) aq)) au))))))))))
   aM))))
   (ao (cY (pv 4))))))) lC
theorem jy:g9 jj ["m", "new_deeds"] (bI bY):=⟨rfl,rfl,rfl,by decide +kernel,rfl,by decide +kernel,by decide +kernel⟩
theorem qD {f:Addr} {fd:FuncData} (F:eJ K "with_deeds" "with_deeds" bY f fd) (T:Txt K mg)  : eS P w K mg base iA 1 f fd ["m", "new_deeds"] (az K aR) :=
 nV.ok (t:=g_) F jy nG (fun cp A outer s H E hr =>
  have nd:=jy.nd
  have hu:=hr.units
  (aj (jY (i:=2) (tn:=["step"]) (cn:=["new_deeds"]) (ix:=[1]) nd rfl (Or.inl rfl) rfl (eE (cx hu (qv 0) aq)) (bU.of (sc:=bI bY) (N:=jj) rfl rfl (by decide +kernel)) (fun _ _ _ _=>(aA (i:=0) (show(["step", "new_deeds"]:List Str).Nodup by decide +kernel) rfl (Or.inl rfl) (.inr rfl))) (fun _ _ _ _=>fD) (fun _ _ _ _=>(dM (aa (cx hu (qv 0) aq) (aa (JB hu (qv 1) (cx hu (qv 0) aq) (cx hu (qv 0) aq)) (aa (cx hu (qv 0) aq) au))))))
   (ao (bO (dM (aa (cx hu (qv 0) aq) (aa (iD hu rfl T.zi rfl T.zh (qv 2)) au))))))) rW
theorem gU:g9 mQ ["_law_script", "_law_k"] (bI bQ):=⟨rfl,rfl,rfl,by decide +kernel,rfl,by decide +kernel,by decide +kernel⟩
theorem l_ {f:Addr} {fd:FuncData} (F:eJ K "_law_cell_at" "_law_cell_at" bQ f fd) (T:Txt K mg)  : eS P w K mg base iA 1 f fd ["_law_script", "_law_k"] (az K aG) :=
 nV.ok (t:=fj) F gU lA (fun cp A outer s H E hr =>
  have nd:=gU.nd
  have hu:=hr.units
  (aj (cB (aZ vA Bp (qv 1) (dI bF gR rfl T.rS ir (qv 0)) (i3 _))
   (ao (bO (cx hu (qv 0) (qv 1))))
   aM)
   (ao (bO aq)))) nF
theorem jL:g9 gh ["_law_cell", "_law_turn"] (bI bK):=⟨rfl,rfl,rfl,by decide +kernel,rfl,by decide +kernel,by decide +kernel⟩
theorem pP {f:Addr} {fd:FuncData} (F:eJ K "_law_deeds" "_law_deeds" bK f fd) (T:Txt K mg)  : eS P w K mg base iA 1 f fd ["_law_cell", "_law_turn"] (az K cg) :=
 nV.ok (t:=gO) F jL nR (fun cp A outer s H E hr =>
  have nd:=jL.nd
  have hu:=hr.units
  (aj (aB (i:=2) nd rfl (Or.inr rfl) dq)
   (aj (aB (i:=3) nd rfl (Or.inl rfl) (cP aq (eV (qv 0) aq)))
   (aj (aB (i:=0) nd rfl (Or.inl rfl) (jr (qv 0) aq))
   (aj (aB (i:=4) nd rfl (Or.inl rfl) (gJ au))
   (aj (cN PassesOwn.never rfl (fu T.rV (qv 3)) (aA (i:=5) nd rfl (Or.inl rfl))
   (aj (mZ (dD (pv 4)) (eV (qv 0) aq))
   (ao (aB (i:=0) nd rfl (Or.inl rfl) (jr (qv 0) aq)))))
   (aj (aB (i:=6) nd rfl (Or.inr rfl) (Hu dq (fO (tn:=["_law_k"]) (cn:=["_law_letters"]) (ix:=[2]) rfl (eE (qv 4)) (bU.of (sc:=bI bK) (N:=gh) rfl rfl (by decide +kernel)) (fun _ _ _ _=>(aA (i:=0) (show(["_law_k", "_law_letters"]:List Str).Nodup by decide +kernel) rfl (Or.inl rfl) (.inr rfl))) (fun _ _ _ _=>fD) (fun _ _ _ _=>(cx hu (qv 1) (qv 0))))))
   (aj (cB (aZ (ri (K:=K) hu) iR (eV (jr (qv 1) aq) aq) aq (i3 _))
   (ao (bO (fO (tn:=["_law_k"]) (cn:=["_law_word"]) (ix:=[6]) rfl (qY (Eg T.rV aq aq)) (bU.of (sc:=bI bK) (N:=gh) rfl rfl (by decide +kernel)) (fun _ _ _ _=>(aA (i:=0) (show(["_law_k", "_law_word"]:List Str).Nodup by decide +kernel) rfl (Or.inl rfl) (.inr rfl))) (fun _ _ _ _=>fD) (fun _ _ _ _=>(dC (G8 aq (qv 1)) gf (cD (qv 0)))))))
   aM)
   (aj (aB (i:=7) nd rfl (Or.inl rfl) (eV (qv 1) (qv 3)))
   (aj (aB (i:=8) nd rfl (Or.inl rfl) (gJ au))
   (aj (cN PassesOwn.never rfl (fu T.rV aq) (aA (i:=5) nd rfl (Or.inl rfl))
   (aj (aB (i:=9) nd rfl (Or.inl rfl) (cx hu (qv 2) (eV (cP (cx hu (qv 4) (qv 7)) (gj aq (qv 5))) aq)))
   (ao (mZ (dD (pv 8)) (cP (cP (dC (qv 6) gf (cD (qv 7))) (qv 9)) (dC (qv 6) (cD (cP (qv 7) aq)) gf))))))
   (ao (cY (pv 8)))))))))))))) sO
theorem jB:g9 qw ["_law_cells", "_law_many", "_law_deeds_here"] (bI cL):=⟨rfl,rfl,rfl,by decide +kernel,rfl,by decide +kernel,by decide +kernel⟩
theorem ph {f:Addr} {fd:FuncData} (F:eJ K "_law_steps" "_law_steps" cL f fd) (T:Txt K mg)  : eS P w K mg base iA 1 f fd ["_law_cells", "_law_many", "_law_deeds_here"] (az K bB) :=
 nV.ok (t:=gG) F jB nZ (fun cp A outer s H E hr =>
  have nd:=jB.nd
  have hu:=hr.units
  (aj (aB (i:=3) nd rfl (Or.inl rfl) (gJ au))
   (aj (cN PassesOwn.never rfl (fu T.rV (dI bF gR rfl T.rS ir (qv 0))) (aA (i:=4) nd rfl (Or.inl rfl))
   (aj (aB (i:=5) nd rfl (Or.inl rfl) (eV (gj (cP (eV (cx hu (qv 0) (qv 4)) aq) aq) (cP aq (gj aq (qv 4)))) aq))
   (aj (aB (i:=6) nd rfl (Or.inl rfl) (cx hu (qv 2) (eV (jr (qv 5) (qv 1)) (dI bF gR rfl T.rS ir (qv 2)))))
   (ao (aY 6 (mZ (dD (pv 3)) (dM (aa (eV (qv 5) (qv 1)) (aa (qv 6) (aa (eV (jr (qv 5) (gj (qv 1) (dI bF gR rfl T.rS ir (qv 2)))) (qv 1)) au))))))))))
   (ao (cY (pv 3)))))) sJ
theorem kI:g9 rH ["_law_cell", "_law_pool"] (bI cV):=⟨rfl,rfl,rfl,by decide +kernel,rfl,by decide +kernel,by decide +kernel⟩
theorem rF {f:Addr} {fd:FuncData} (F:eJ K "_law_some" "_law_some" cV f fd) (T:Txt K mg)  : eS P w K mg base iA 1 f fd ["_law_cell", "_law_pool"] (az K bL) :=
 nV.ok (t:=jb) F kI qN (fun cp A outer s H E hr =>
  have nd:=kI.nd
  have hu:=hr.units
  (aj (aB (i:=2) nd rfl (Or.inl rfl) (gJ au))
   (aj (aB (i:=3) nd rfl (Or.inl rfl) (eV (qv 0) aq))
   (aj (aB (i:=0) nd rfl (Or.inl rfl) (jr (qv 0) aq))
   (aj (cN PassesOwn.never rfl (fu T.rV (qv 3)) (aA (i:=4) nd rfl (Or.inl rfl))
   (aj (mZ (dD (pv 2)) (cx hu (qv 1) (eV (qv 0) aq)))
   (ao (aB (i:=0) nd rfl (Or.inl rfl) (jr (qv 0) aq)))))
   (ao (cY (pv 2)))))))) uJ
theorem jN:g9 qu ["_law_found"] (bI cI):=⟨rfl,rfl,rfl,by decide +kernel,rfl,by decide +kernel,by decide +kernel⟩
theorem qj {f:Addr} {fd:FuncData} (F:eJ K "_law_whole" "_law_whole" cI f fd) (T:Txt K mg)  : eS P w K mg base iA 1 f fd ["_law_found"] (az K bx) :=
 nV.ok (t:=ig) F jN oA (fun cp A outer s H E hr =>
  have nd:=jN.nd
  have hu:=hr.units
  (ao (bO (J9 (uD T.xl (qv 0) (uP T.OS Ck)) (Ik (Jv (uD T.xl (qv 0) (uP T.OQ Ek)))))))) tL
theorem jq:g9 qL ["_law_cell", "_law_pool"] (bI cJ):=⟨rfl,rfl,rfl,by decide +kernel,rfl,by decide +kernel,by decide +kernel⟩
theorem o_ {f:Addr} {fd:FuncData} (F:eJ K "_law_pairs" "_law_pairs" cJ f fd) (T:Txt K mg)  : eS P w K mg base iA 1 f fd ["_law_cell", "_law_pool"] (az K cj) :=
 nV.ok (t:=iu) F jq nU (fun cp A outer s H E hr =>
  have nd:=jq.nd
  have hu:=hr.units
  (aj (aB (i:=2) nd rfl (Or.inl rfl) (gJ au))
   (aj (aB (i:=3) nd rfl (Or.inl rfl) (cP aq (eV (qv 0) aq)))
   (aj (aB (i:=0) nd rfl (Or.inl rfl) (jr (qv 0) aq))
   (aj (cN PassesOwn.never rfl (fu T.rV (qv 3)) (aA (i:=4) nd rfl (Or.inl rfl))
   (aj (mZ (dD (pv 2)) (dM (aa (cx hu (qv 1) (eV (qv 0) aq)) (aa (cx hu (qv 1) (eV (jr (qv 0) aq) aq)) au))))
   (ao (aB (i:=0) nd rfl (Or.inl rfl) (jr (qv 0) aq)))))
   (ao (cY (pv 2)))))))) rJ
theorem lg:g9 rK ["_law_m", "_law_frame"] (bI cU):=⟨rfl,rfl,rfl,by decide +kernel,rfl,by decide +kernel,by decide +kernel⟩
theorem qQ {f:Addr} {fd:FuncData} (F:eJ K "_law_size" "_law_size" cU f fd) (T:Txt K mg)  : eS P w K mg base iA 1 f fd ["_law_m", "_law_frame"] (az K bA) :=
 nV.ok (t:=iV) F lg pA (fun cp A outer s H E hr =>
  have nd:=lg.nd
  have hu:=hr.units
  (aj (aB (i:=2) nd rfl (Or.inl rfl) (cx hu (qv 0) aq))
   (aj (aB (i:=3) nd rfl (Or.inl rfl) (dI bF gR rfl T.rS ir (cx hu (qv 0) aq)))
   (aj (aY 3 (aB (i:=4) nd rfl (Or.inl rfl) (qv 3)))
   (aj (aY 1 (cN PassesOwn.never rfl (dB (qv 1)) (aA (i:=5) nd rfl (Or.inl rfl))
   (ao (cB (aZ (h9 (K:=K) hu) nP (cx hu (qv 5) aq) (dM (aa dq (aa dq au))) (by rfl))
   (aj (aB (i:=6) nd rfl (Or.inl rfl) (dI bF gR rfl T.rS ir (cx hu (cx hu (qv 5) aq) aq)))
   (aj (aB (i:=3) nd rfl (Or.inl rfl) (cP (cP (gj (qv 3) (cx hu (cx hu (qv 5) aq) aq)) (gj (qv 6) (qv 2))) (gj (qv 3) (qv 6))))
   (aj (aB (i:=4) nd rfl (Or.inl rfl) (Ft Ja Ez rfl T.OU IW (qv 4) (qv 3)))
   (ao (aB (i:=2) nd rfl (Or.inl rfl) (gj (qv 2) (cx hu (cx hu (qv 5) aq) aq)))))))
   aM))))
   (ao (zp (TN (pv 2) (TN (pv 4) CN))))))))) uZ
theorem m7:g9 uI ["_law_deed", "_law_row_here"] (bI dZ):=⟨rfl,rfl,rfl,by decide +kernel,rfl,by decide +kernel,by decide +kernel⟩
theorem tW {f:Addr} {fd:FuncData} (F:eJ K "_law_new" "_law_new" dZ f fd) (T:Txt K mg)  : eS P w K mg base iA 1 f fd ["_law_deed", "_law_row_here"] (az K bZ) :=
 nV.ok (t:=kj) F m7 qX (fun cp A outer s H E hr =>
  have nd:=m7.nd
  have hu:=hr.units
  (aj (cB (aZ (ri (K:=K) hu) iR (cx hu (qv 1) aq) dq (i3 _))
   (aj (cB (aZ (h9 (K:=K) hu) nP (qv 0) (cx hu (qv 1) aq) (by rfl))
   (ao (bO dq))
   aM)
   (ao (cY (pv 0))))
   aM)
   (aj (aY 1 (cN PassesOwn.never rfl (dB (cx hu (qv 1) aq)) (gA rfl (aF (aA (i:=2) nd rfl (Or.inl rfl)) (aF (aA (i:=3) nd rfl (Or.inl rfl)) dG)))
   (ao (cB (aZ (ri (K:=K) hu) iR (qv 2) (qv 0) (i3 _))
   (ao (cY (pv 3)))
   aM))))
   (ao (cY (pv 0)))))) wM
theorem gP:g9 eO ["m"] (bI aK):=⟨rfl,rfl,rfl,by decide +kernel,rfl,by decide +kernel,by decide +kernel⟩
theorem ou {f:Addr} (T:Txt K mg) (Ur:dy P w K mg base 1 "deeds_of" ["m"] (az K cH)) (E2:dy P w K mg base 1 "is_open" ["thing"] (az K bR)) (cp:Value) (A:Around) (outer:List PySem.Env) (s:Shared) (H:Hp) (E:XK) (hr:gI 1 (A.deeper (envOfC "check_bounds" (bI aK) s.heap.objs.size f cp))) :
  oj (mr (ja P w mg rn) P w K mg base eO "check_bounds" (bI aK) f cp A outer s H E) K (LX rn mg E) (eI aK) fC :=
 have nd:=gP.nd
 have hu:(A.deeper (envOfC "check_bounds" (bI aK) s.heap.objs.size f cp)).units+64<cLine:=hr.units
 (aj (cB (aZ sZ zx (cx hu (qv 0) aq) (QB T.OY) (i3 _))
   (ao (jn rfl rG T.Uq (.tail _ (.tail _ (.head _))) dq))
   aM)
   (aj (cB (aZ sZ zx (dI bF gR rfl T.rS ir (cx hu (qv 0) aq)) (QB T.OZ) (i3 _))
   (ao (jn rfl rG T.Uq (.tail _ (.tail _ (.head _))) dq))
   aM)
   (ao (cB (aZ sZ zx (dI bF gR rfl T.rS ir (fO (tn:=["deed"]) (cn:=[]) (ix:=[]) rfl (eE (bV Ur (hr.mono (by decide)) (aa (qv 0) au))) (bU.of (sc:=bI aK) (N:=eO) rfl rfl (by decide +kernel)) (fun _ _ _ _=>(aA (i:=0) (show(["deed"]:List Str).Nodup by decide +kernel) rfl (Or.inl rfl) (.inr rfl))) (fun _ _ _ _=>(jU (il (bV E2 (hr.mono (by decide)) (aa (qv 0) au))))) (fun _ _ _ _=>(qv 0)))) (QB T.O0) (i3 _))
   (ao (jn rfl rG T.Uq (.tail _ (.tail _ (.head _))) dq))
   aM))))
theorem lW {f:Addr} {fd:FuncData} (F:eJ K "check_bounds" "check_bounds" aK f fd) (T:Txt K mg) (Ur:dy P w K mg base 1 "deeds_of" ["m"] (az K cH)) (E2:dy P w K mg base 1 "is_open" ["thing"] (az K bR)):eS P w K mg base (ja P w mg rn) 2 f fd ["m"] (cF K rn mg aU) :=
 EV.ok F gP lF (ou T Ur E2) nM
theorem jD:g9 jm ["deeds"] (bI bf):=⟨rfl,rfl,rfl,by decide +kernel,rfl,by decide +kernel,by decide +kernel⟩
theorem qU {f:Addr} (T:Txt K mg) (E2:dy P w K mg base 1 "is_open" ["thing"] (az K bR)) (cp:Value) (A:Around) (outer:List PySem.Env) (s:Shared) (H:Hp) (E:XK) (hr:gI 1 (A.deeper (envOfC "check_open" (bI bf) s.heap.objs.size f cp))) :
  oj (mr (ja P w mg rn) P w K mg base jm "check_open" (bI bf) f cp A outer s H E) K (LX rn mg E) (eI bf) h_ :=
 have nd:=jD.nd
 have hu:(A.deeper (envOfC "check_open" (bI bf) s.heap.objs.size f cp)).units+64<cLine:=hr.units
 (ao (aY 0 (cN PassesOwn.leaving rfl (dB (qv 0)) (aA (i:=1) nd rfl (Or.inl rfl))
   (ao (cB (gH (il (bV E2 (hr.mono (by decide)) (aa (qv 1) au))))
   (ao (jn rfl rG T.gg' (.head _) dq))
   aM)))))
theorem pX {f:Addr} {fd:FuncData} (F:eJ K "check_open" "check_open" bf f fd) (T:Txt K mg) (E2:dy P w K mg base 1 "is_open" ["thing"] (az K bR)):eS P w K mg base (ja P w mg rn) 2 f fd ["deeds"] (cF K rn mg aH) :=
 EV.ok F jD nY (qU T E2) sS
theorem eY:g9 jF ["_law_found"] (bI bh):=⟨rfl,rfl,rfl,by decide +kernel,rfl,by decide +kernel,by decide +kernel⟩
theorem jO {f:Addr} {fd:FuncData} (F:eJ K "_law_is_machine" "_law_is_machine" bh f fd) (T:Txt K mg) (Us:dy P w K mg base 1 "_law_whole" ["_law_found"] (az K bx)):eS P w K mg base iA 2 f fd ["_law_found"] (az K aV) :=
 nV.ok (t:=cZ) F eY iW (fun cp A outer s H E hr =>
  have nd:=eY.nd
  have hu:=hr.units
  (aj (cB (MR (tX (gH (il (uD T.xl (qv 0) (uP T.IA vU)))) (tX (aZ (Tb (K:=K) hu) Fl (dI bF gR rfl T.rS ir (qv 0)) aq (i3 _)) (rP (gH (il (bV Us (hr.mono (by decide)) (aa (cx hu (qv 0) aq) au))))))))
   (ao (bO EE))
   aM)
   (aj (cB (gH (il (uD T.xl (cx hu (qv 0) aq) (uP T.CH pZ))))
   (ao (bO EE))
   aM)
   (aj (aY 0 (cN PassesOwn.never rfl (dB (cx hu (qv 0) aq)) (aA (i:=1) nd rfl (Or.inl rfl))
   (aj (cB (MR (tX (gH (il (uD T.xl (qv 1) (uP T.IA vU)))) (tX (aZ (Tb (K:=K) hu) Fl (dI bF gR rfl T.rS ir (qv 1)) aq (i3 _)) (rP (gH (il (uD T.xl (cx hu (qv 1) aq) (uP T.Iy CK))))))))
   (ao (bO EE))
   aM)
   (ao (cB (MR (tX (gH (il (bV Us (hr.mono (by decide)) (aa (cx hu (qv 1) aq) au)))) (rP (gH (il (bV Us (hr.mono (by decide)) (aa (cx hu (qv 1) aq) au)))))))
   (ao (bO EE))
   aM)))))
   (ao (bO EE)))))) jR
theorem jk:g9 pM ["_law_cells", "_law_pool"] (bI cM):=⟨rfl,rfl,rfl,by decide +kernel,rfl,by decide +kernel,by decide +kernel⟩
theorem pB {f:Addr} {fd:FuncData} (F:eJ K "_law_other" "_law_other" cM f fd) (T:Txt K mg) (Ut:dy P w K mg base 1 "_law_steps" ["_law_cells", "_law_many", "_law_deeds_here"] (az K bB)):eS P w K mg base iA 2 f fd ["_law_cells", "_law_pool"] (az K bN) :=
 nV.ok (t:=gY) F jk nQ (fun cp A outer s H E hr =>
  have nd:=jk.nd
  have hu:=hr.units
  (aj (aB (i:=2) nd rfl (Or.inl rfl) (cP aq (eV (jr (cx hu (qv 0) aq) aq) aq)))
   (ao (zp (TN (pv 2) (eE' (iD hu rfl T.zi rfl T.zh (bV Ut (hr.mono (by decide)) (aa (dC (qv 0) (cD aq) (cD aq)) (aa (qv 2) (aa (cP (gJ (aa dq au)) (dC (qv 1) gf (cD aq))) au))))) CN)))))) rD
theorem qZ:g9 rN ["one", "other", "together"] (bI dh):=⟨rfl,rfl,rfl,by decide +kernel,rfl,by decide +kernel,by decide +kernel⟩
theorem Ce {f:Addr} (T:Txt K mg) (xo:iN P w K mg base rn 2 "check_open" ["deeds"] aH) (Ro:iN P w K mg base rn 2 "check_bounds" ["m"] aU) (Uu:dy P w K mg base 1 "steps_of_one" ["one", "other", "together"] (az K bw)) (Uv:dy P w K mg base 1 "steps_of_other" ["one", "other", "together"] (az K aP)) (Uw:dy P w K mg base 1 "steps_together" ["one", "other", "together"] (az K aQ)) (cp:Value) (A:Around) (outer:List PySem.Env) (s:Shared) (H:Hp) (E:XK) (hr:gI 2 (A.deeper (envOfC "beside" (bI dh) s.heap.objs.size f cp))) :
  oj (mr (ja P w mg rn) P w K mg base rN "beside" (bI dh) f cp A outer s H E) K (LX rn mg E) (eI dh) oZ :=
 have nd:=qZ.nd
 have hu:(A.deeper (envOfC "beside" (bI dh) s.heap.objs.size f cp)).units+64<cLine:=hr.units
 (aj (jK xo (hr.mono (by decide)) n8 (aa (qv 2) au))
   (aj (aB (i:=3) nd rfl (Or.inl rfl) (gj (cx hu (qv 0) aq) (cx hu (qv 1) aq)))
   (aj (aY 3 (jK Ro (hr.mono (by decide)) n8 (aa (dM (aa (qv 3) (aa (gJ au) au))) au)))
   (aj (aB (i:=4) nd rfl (Or.inl rfl) (cP (bV Uu (hr.mono (by decide)) (aa (qv 0) (aa (qv 1) (aa (qv 2) au)))) (bV Uv (hr.mono (by decide)) (aa (qv 0) (aa (qv 1) (aa (qv 2) au))))))
   (aj (aY 3 (aB (i:=5) nd rfl (Or.inl rfl) (dM (aa (qv 3) (aa (iD hu rfl T.zi rfl T.zh (cP (qv 4) (bV Uw (hr.mono (by decide)) (aa (qv 0) (aa (qv 1) (aa (qv 2) au)))))) au)))))
   (aj (jK Ro (hr.mono (by decide)) n8 (aa (qv 5) au))
   (ao (cY (pv 5)))))))))
theorem zq {f:Addr} {fd:FuncData} (F:eJ K "beside" "beside" dh f fd) (T:Txt K mg) (xo:iN P w K mg base rn 2 "check_open" ["deeds"] aH) (Ro:iN P w K mg base rn 2 "check_bounds" ["m"] aU) (Uu:dy P w K mg base 1 "steps_of_one" ["one", "other", "together"] (az K bw)) (Uv:dy P w K mg base 1 "steps_of_other" ["one", "other", "together"] (az K aP)) (Uw:dy P w K mg base 1 "steps_together" ["one", "other", "together"] (az K aQ)):eS P w K mg base (ja P w mg rn) 3 f fd ["one", "other", "together"] (cF K rn mg du) :=
 EV.ok F qZ xq (Ce T xo Ro Uu Uv Uw) Bk
theorem zZ:g9 yg ["m", "deeds"] (bI iK):=⟨rfl,rfl,rfl,by decide +kernel,rfl,by decide +kernel,by decide +kernel⟩
theorem Hl {f:Addr} (T:Txt K mg) (xo:iN P w K mg base rn 2 "check_open" ["deeds"] aH) (E3:dy P w K mg base 1 "with_deeds" ["m", "new_deeds"] (az K aR)) (cp:Value) (A:Around) (outer:List PySem.Env) (s:Shared) (H:Hp) (E:XK) (hr:gI 2 (A.deeper (envOfC "hide" (bI iK) s.heap.objs.size f cp))) :
  oj (mr (ja P w mg rn) P w K mg base yg "hide" (bI iK) f cp A outer s H E) K (LX rn mg E) (eI iK) zE :=
 have nd:=zZ.nd
 have hu:(A.deeper (envOfC "hide" (bI iK) s.heap.objs.size f cp)).units+64<cLine:=hr.units
 (aj (jK xo (hr.mono (by decide)) n8 (aa (qv 1) au))
   (aj (aB (i:=2) nd rfl (Or.inl rfl) zR)
   (aj (aY 1 (cN PassesOwn.leaving rfl (dB (qv 1)) (aA (i:=3) nd rfl (Or.inl rfl))
   (ao (Gm hu (dD (pv 2)) (qv 3) (Yy T.OV)))))
   (ao (bO (bV E3 (hr.mono (by decide)) (aa (qv 0) (aa (qv 2) au))))))))
theorem En {f:Addr} {fd:FuncData} (F:eJ K "hide" "hide" iK f fd) (T:Txt K mg) (xo:iN P w K mg base rn 2 "check_open" ["deeds"] aH) (E3:dy P w K mg base 1 "with_deeds" ["m", "new_deeds"] (az K aR)):eS P w K mg base (ja P w mg rn) 3 f fd ["m", "deeds"] (cF K rn mg i_) :=
 EV.ok F zZ Ax (Hl T xo E3) GJ
theorem sI:g9 tO ["m", "pairs"] (bI di):=⟨rfl,rfl,rfl,by decide +kernel,rfl,by decide +kernel,by decide +kernel⟩
theorem Am {f:Addr} (T:Txt K mg) (E3:dy P w K mg base 1 "with_deeds" ["m", "new_deeds"] (az K aR)) (xo:iN P w K mg base rn 2 "check_open" ["deeds"] aH) (cp:Value) (A:Around) (outer:List PySem.Env) (s:Shared) (H:Hp) (E:XK) (hr:gI 2 (A.deeper (envOfC "rename" (bI di) s.heap.objs.size f cp))) :
  oj (mr (ja P w mg rn) P w K mg base tO "rename" (bI di) f cp A outer s H E) K (LX rn mg E) (eI di) pW :=
 have nd:=sI.nd
 have hu:(A.deeper (envOfC "rename" (bI di) s.heap.objs.size f cp)).units+64<cLine:=hr.units
 (aj (aB (i:=2) nd rfl (Or.inl rfl) zR)
   (aj (aY 1 (cN PassesOwn.leaving rfl (dB (qv 1)) (gA rfl (aF (aA (i:=3) nd rfl (Or.inl rfl)) (aF (aA (i:=4) nd rfl (Or.inl rfl)) dG)))
   (aj (aY 4 (aY 3 (jK xo (hr.mono (by decide)) n8 (aa (gJ (aa (qv 3) (aa (qv 4) au))) au))))
   (ao (aY 4 (aY 3 (Ib (dD (pv 2)) (qv 3) (qv 4))))))))
   (ao (bO (bV E3 (hr.mono (by decide)) (aa (qv 0) (aa (qv 2) au)))))))
theorem yJ {f:Addr} {fd:FuncData} (F:eJ K "rename" "rename" di f fd) (T:Txt K mg) (E3:dy P w K mg base 1 "with_deeds" ["m", "new_deeds"] (az K aR)) (xo:iN P w K mg base rn 2 "check_open" ["deeds"] aH):eS P w K mg base (ja P w mg rn) 3 f fd ["m", "pairs"] (cF K rn mg eU) :=
 EV.ok F sI wN (Am T E3 xo) Az
theorem mH:g9 ud ["_law_cells", "_law_pool"] (bI dY):=⟨rfl,rfl,rfl,by decide +kernel,rfl,by decide +kernel,by decide +kernel⟩
theorem uN {f:Addr} {fd:FuncData} (F:eJ K "_law_row" "_law_row" dY f fd) (T:Txt K mg) (gj':dy P w K mg base 1 "_law_pairs" ["_law_cell", "_law_pool"] (az K cj)) (Zo:dy P w K mg base 2 "_law_other" ["_law_cells", "_law_pool"] (az K bN)) (Ux:dy P w K mg base 1 "_law_some" ["_law_cell", "_law_pool"] (az K bL)):eS P w K mg base iA 3 f fd ["_law_cells", "_law_pool"] (az K cR) :=
 nV.ok (t:=jQ) F mH tE (fun cp A outer s H E hr =>
  have nd:=mH.nd
  have hu:=hr.units
  (aj (aB (i:=2) nd rfl (Or.inl rfl) (eV (cx hu (qv 0) aq) aq))
   (aj (cB (aZ vA Bp (qv 2) aq (i3 _))
   (ao (bO (dM (aa dq (aa (bV Zo (hr.mono (by decide)) (aa (qv 0) (aa (qv 1) au))) (aa (bV Ux (hr.mono (by decide)) (aa (cx hu (qv 0) aq) (aa (qv 1) au))) au))))))
   aM)
   (aj (cB (aZ vA Bp (qv 2) aq (i3 _))
   (ao (bO (dM (aa dq (aa (bV Zo (hr.mono (by decide)) (aa (qv 0) (aa (qv 1) au))) (aa (bV Ux (hr.mono (by decide)) (aa (cx hu (qv 0) aq) (aa (qv 1) au))) au))))))
   aM)
   (aj (cB (aZ vA Bp (qv 2) aq (i3 _))
   (ao (bO (dM (aa dq (aa (bV Ux (hr.mono (by decide)) (aa (cx hu (qv 0) aq) (aa (qv 1) au))) au)))))
   aM)
   (ao (bO (dM (aa dq (aa (bV gj' (hr.mono (by decide)) (aa (cx hu (qv 0) aq) (aa (qv 1) au))) au)))))))))) wU
theorem yL:g9 yw ["m", "row"] (bI iM):=⟨rfl,rfl,rfl,by decide +kernel,rfl,by decide +kernel,by decide +kernel⟩
theorem Ii {f:Addr} (T:Txt K mg) (Rp:iN P w K mg base rn 3 "beside" ["one", "other", "together"] du) (Uy:iN P w K mg base rn 3 "hide" ["m", "deeds"] i_) (Uz:iN P w K mg base rn 3 "rename" ["m", "pairs"] eU) (cp:Value) (A:Around) (outer:List PySem.Env) (s:Shared) (H:Hp) (E:XK) (hr:gI 3 (A.deeper (envOfC "done" (bI iM) s.heap.objs.size f cp))) :
  oj (mr (ja P w mg rn) P w K mg base yw "done" (bI iM) f cp A outer s H E) K (LX rn mg E) (eI iM) zj :=
 have nd:=yL.nd
 have hu:(A.deeper (envOfC "done" (bI iM) s.heap.objs.size f cp)).units+64<cLine:=hr.units
 (aj (cB (aZ (ri (K:=K) hu) iR (cx hu (qv 1) aq) dq (i3 _))
   (ao (pQ Rp (hr.mono (by decide)) n8 (aa (qv 0) (aa (cx hu (qv 1) aq) (aa (cx hu (qv 1) aq) au)))))
   aM)
   (aj (cB (aZ (ri (K:=K) hu) iR (cx hu (qv 1) aq) dq (i3 _))
   (ao (pQ Rp (hr.mono (by decide)) n8 (aa (cx hu (qv 1) aq) (aa (qv 0) (aa (cx hu (qv 1) aq) au)))))
   aM)
   (aj (cB (aZ (ri (K:=K) hu) iR (cx hu (qv 1) aq) dq (i3 _))
   (ao (pQ Uy (hr.mono (by decide)) n8 (aa (qv 0) (aa (cx hu (qv 1) aq) au))))
   aM)
   (aj (cB (aZ (ri (K:=K) hu) iR (cx hu (qv 1) aq) dq (i3 _))
   (ao (pQ Uz (hr.mono (by decide)) n8 (aa (qv 0) (aa (cx hu (qv 1) aq) au))))
   aM)
   (ao (jn rfl rG T.gh' (.tail _ (.head _)) dq))))))
theorem Gn {f:Addr} {fd:FuncData} (F:eJ K "done" "done" iM f fd) (T:Txt K mg) (Rp:iN P w K mg base rn 3 "beside" ["one", "other", "together"] du) (Uy:iN P w K mg base rn 3 "hide" ["m", "deeds"] i_) (Uz:iN P w K mg base rn 3 "rename" ["m", "pairs"] eU):eS P w K mg base (ja P w mg rn) 4 f fd ["m", "row"] (cF K rn mg iZ) :=
 EV.ok F yL B_ (Ii T Rp Uy Uz) HB
theorem sV:g9 rE ["m", "frame"] (bI dg):=⟨rfl,rfl,rfl,by decide +kernel,rfl,by decide +kernel,by decide +kernel⟩
theorem Ah {f:Addr} (T:Txt K mg) (UA:iN P w K mg base rn 4 "done" ["m", "row"] iZ) (cp:Value) (A:Around) (outer:List PySem.Env) (s:Shared) (H:Hp) (E:XK) (hr:gI 4 (A.deeper (envOfC "framed" (bI dg) s.heap.objs.size f cp))) :
  oj (mr (ja P w mg rn) P w K mg base rE "framed" (bI dg) f cp A outer s H E) K (LX rn mg E) (eI dg) pC :=
 have nd:=sV.nd
 have hu:(A.deeper (envOfC "framed" (bI dg) s.heap.objs.size f cp)).units+64<cLine:=hr.units
 (aj (aB (i:=2) nd rfl (Or.inl rfl) (dM (aa (cx hu (qv 0) aq) (aa (pN j_ t_ rfl T.CH pZ (cx hu (qv 0) aq)) au))))
   (aj (aY 1 (cN PassesOwn.leaving rfl (dB (qv 1)) (aA (i:=3) nd rfl (Or.inl rfl))
   (ao (FN UA (hr.mono (by decide)) n8 (i:=2) nd rfl (Or.inl rfl) (aa (qv 2) (aa (qv 3) au))))))
   (ao (cY (pv 2)))))
theorem xU {f:Addr} {fd:FuncData} (F:eJ K "framed" "framed" dg f fd) (T:Txt K mg) (UA:iN P w K mg base rn 4 "done" ["m", "row"] iZ):eS P w K mg base (ja P w mg rn) 5 f fd ["m", "frame"] (cF K rn mg fK) :=
 EV.ok F sV xm (Ah T UA) Bu
theorem kW:g9 bW ["_law_m", "_law_frame", "_law_state"] (bI aL):=⟨rfl,rfl,rfl,by decide +kernel,rfl,by decide +kernel,by decide +kernel⟩
theorem tV {f:Addr} (T:Txt K mg) (IB:dy P w K mg base 1 "_law_size" ["_law_m", "_law_frame"] (az K bA)) (Rq:dy P w K mg base 1 "_law_new" ["_law_deed", "_law_row_here"] (az K bZ)) {self:dQ} {lv:Nat} (hlv:1<=lv) (E4:dy P w K mg base lv "_law_goes" ["_law_m", "_law_frame", "_law_state"] (az K self)) (cp:Value) (A:Around) (outer:List PySem.Env) (s:Shared) (H:Hp) (E:XK) (hr:gI lv (A.deeper (envOfC "_law_goes" (bI aL) s.heap.objs.size f cp))) :
  oj (mr iA P w K mg base bW "_law_goes" (bI aL) f cp A outer s H E).FR K L0 (eI aL) (iQ self) :=
 have nd:=kW.nd
 have hu:(A.deeper (envOfC "_law_goes" (bI aL) s.heap.objs.size f cp)).units+64<cLine:=hr.units
 (aj (cB (aZ (ri (K:=K) hu) iR (qv 1) (gJ au) (i3 _))
   (ao (aY 6 (aY 10 (bO (fO (tn:=["_law_p", "_law_deed", "_law_q"]) (cn:=["_law_state"]) (ix:=[2]) rfl (eE (cx hu (qv 0) aq)) (bU.of (sc:=bI aL) (N:=bW) rfl rfl (by decide +kernel)) (fun _ _ _ _=>(gA rfl (aF (aA (i:=0) (show(["_law_p", "_law_deed", "_law_q", "_law_state"]:List Str).Nodup by decide +kernel) rfl (Or.inl rfl) (.inr rfl)) (aF (aA (i:=1) (show(["_law_p", "_law_deed", "_law_q", "_law_state"]:List Str).Nodup by decide +kernel) rfl (Or.inl rfl) (.inr rfl)) (aF (aA (i:=2) (show(["_law_p", "_law_deed", "_law_q", "_law_state"]:List Str).Nodup by decide +kernel) rfl (Or.inl rfl) (.inr rfl)) dG))))) (fun _ _ _ _=>(jU (aZ (ri (K:=K) hu) iR (qv 0) (qv 3) (i3 _)))) (fun _ _ _ _=>(dM (aa (qv 1) (aa (qv 2) au)))))))))
   aM)
   (aj (aB (i:=3) nd rfl (Or.inr rfl) (cx hu (qv 1) (zX aq)))
   (aj (cB (aZ (h9 (K:=K) hu) nP (cx hu (qv 3) aq) (dM (aa dq (aa dq au))) (by rfl))
   (ao (aY 6 (bO (fO (tn:=["_law_deed", "_law_q"]) (cn:=["_law_row_here"]) (ix:=[3]) rfl (eE (bV E4 (hr.mono (by lia)) (aa (qv 0) (aa (dC (qv 1) gf (cD (zX aq))) (aa (qv 2) au))))) (bU.of (sc:=bI aL) (N:=bW) rfl rfl (by decide +kernel)) (fun _ _ _ _=>(gA rfl (aF (aA (i:=0) (show(["_law_deed", "_law_q", "_law_row_here"]:List Str).Nodup by decide +kernel) rfl (Or.inl rfl) (.inr rfl)) (aF (aA (i:=1) (show(["_law_deed", "_law_q", "_law_row_here"]:List Str).Nodup by decide +kernel) rfl (Or.inl rfl) (.inr rfl)) dG)))) (fun _ _ _ _=>fD) (fun _ _ _ _=>(dM (aa (bV Rq (hr.mono (by lia)) (aa (qv 0) (aa (qv 2) au))) (aa (qv 1) au))))))))
   aM)
   (aj (cB (aZ (ri (K:=K) hu) iR (cx hu (qv 3) aq) dq (i3 _))
   (aj (aB (i:=4) nd rfl (Or.inr rfl) (cx hu (cx hu (qv 3) aq) aq))
   (aj (aB (i:=5) nd rfl (Or.inr rfl) (jr (qv 2) (qv 4)))
   (aj (aB (i:=6) nd rfl (Or.inr rfl) (eV (qv 2) (qv 4)))
   (aj (aB (i:=7) nd rfl (Or.inl rfl) (bV E4 (hr.mono (by lia)) (aa (qv 0) (aa (dC (qv 1) gf (cD (zX aq))) (aa (qv 5) au)))))
   (ao (aB (i:=8) nd rfl (Or.inl rfl) (bV E4 (hr.mono (by lia)) (aa (cx hu (qv 3) aq) (aa (gJ au) (aa (qv 6) au))))))))))
   (aj (aB (i:=4) nd rfl (Or.inr rfl) (cx hu (bV IB (hr.mono (by lia)) (aa (qv 0) (aa (dC (qv 1) gf (cD (zX aq))) au))) aq))
   (aj (aB (i:=5) nd rfl (Or.inr rfl) (jr (qv 2) (qv 4)))
   (aj (aB (i:=6) nd rfl (Or.inr rfl) (eV (qv 2) (qv 4)))
   (aj (aB (i:=7) nd rfl (Or.inl rfl) (bV E4 (hr.mono (by lia)) (aa (cx hu (qv 3) aq) (aa (gJ au) (aa (qv 5) au)))))
   (ao (aB (i:=8) nd rfl (Or.inl rfl) (bV E4 (hr.mono (by lia)) (aa (qv 0) (aa (dC (qv 1) gf (cD (zX aq))) (aa (qv 6) au)))))))))))
   (aj (aY 10 (jY (i:=9) (tn:=["_law_deed", "_law_r"]) (cn:=["_law_n", "_law_q", "_law_row_here"]) (ix:=[4,6,3]) nd rfl (Or.inl rfl) rfl (eE (qv 7)) (bU.of (sc:=bI aL) (N:=bW) rfl rfl (by decide +kernel)) (fun _ _ _ _=>(gA rfl (aF (aA (i:=0) (show(["_law_deed", "_law_r", "_law_n", "_law_q", "_law_row_here"]:List Str).Nodup by decide +kernel) rfl (Or.inl rfl) (.inr rfl)) (aF (aA (i:=1) (show(["_law_deed", "_law_r", "_law_n", "_law_q", "_law_row_here"]:List Str).Nodup by decide +kernel) rfl (Or.inl rfl) (.inr rfl)) dG)))) (fun _ _ _ _=>(jU (aZ (wA (K:=K) hu) nP (qv 0) (cx hu (qv 4) aq) (by rfl)))) (fun _ _ _ _=>(dM (aa (qv 0) (aa (cP (gj (qv 1) (qv 2)) (qv 3)) au))))))
   (aj (aY 10 (aB (i:=9) nd rfl (Or.inl rfl) (cP (qv 9) (fO (tn:=["_law_deed", "_law_s"]) (cn:=["_law_n", "_law_p", "_law_row_here"]) (ix:=[4,5,3]) rfl (eE (qv 8)) (bU.of (sc:=bI aL) (N:=bW) rfl rfl (by decide +kernel)) (fun _ _ _ _=>(gA rfl (aF (aA (i:=0) (show(["_law_deed", "_law_s", "_law_n", "_law_p", "_law_row_here"]:List Str).Nodup by decide +kernel) rfl (Or.inl rfl) (.inr rfl)) (aF (aA (i:=1) (show(["_law_deed", "_law_s", "_law_n", "_law_p", "_law_row_here"]:List Str).Nodup by decide +kernel) rfl (Or.inl rfl) (.inr rfl)) dG)))) (fun _ _ _ _=>(jU (aZ (wA (K:=K) hu) nP (qv 0) (cx hu (qv 4) aq) (by rfl)))) (fun _ _ _ _=>(dM (aa (qv 0) (aa (cP (gj (qv 3) (qv 2)) (qv 1)) au))))))))
   (aj (aY 7 (cN PassesOwn.never rfl (dB (qv 7)) (gA rfl (aF (aA (i:=10) nd rfl (Or.inr rfl)) (aF (aA (i:=11) nd rfl (Or.inr rfl)) dG)))
   (ao (cB (aZ (h9 (K:=K) hu) nP (qv 10) (cx hu (qv 3) aq) (by rfl))
   (ao (aY 10 (aB (i:=9) nd rfl (Or.inl rfl) (cP (qv 9) (fO (tn:=["_law_same", "_law_s"]) (cn:=["_law_deed", "_law_n", "_law_r"]) (ix:=[10,4,11]) rfl (eE (qv 8)) (bU.of (sc:=bI aL) (N:=bW) rfl rfl (by decide +kernel)) (fun _ _ _ _=>(gA rfl (aF (aA (i:=0) (show(["_law_same", "_law_s", "_law_deed", "_law_n", "_law_r"]:List Str).Nodup by decide +kernel) rfl (Or.inl rfl) (.inr rfl)) (aF (aA (i:=1) (show(["_law_same", "_law_s", "_law_deed", "_law_n", "_law_r"]:List Str).Nodup by decide +kernel) rfl (Or.inl rfl) (.inr rfl)) dG)))) (fun _ _ _ _=>(jU (aZ (ri (K:=K) hu) iR (qv 0) (qv 2) (i3 _)))) (fun _ _ _ _=>(dM (aa (qv 2) (aa (cP (gj (qv 4) (qv 3)) (qv 1)) au)))))))))
   aM))))
   (ao (cY (pv 9))))))))))
theorem jt {f:Addr} {fd:FuncData} (F:eJ K "_law_goes" "_law_goes" aL f fd) (hm:mg "_law_goes" = some (.ref f)) (T:Txt K mg) (IB:dy P w K mg base 1 "_law_size" ["_law_m", "_law_frame"] (az K bA)) (Rq:dy P w K mg base 1 "_law_new" ["_law_deed", "_law_row_here"] (az K bZ)):∀ n,dy P w K mg base (2+n) "_law_goes" ["_law_m", "_law_frame", "_law_state"] (az K (aJ n))
 |0=>F.nr hm (eS.imp (k:=2) (sp:=fun _ _ _ _=>False) ⟨fun _ _ _ _ h=>h.elim,fun _ _ _ _ _ _ _ _ _ _ _ _ _ h=>h.elim⟩ fun vs H Q E ⟨ds,Qd,_,h,_⟩=>nT h) fun _ _ _ _ _ _ us hl=>match us,hl with|[_,_,_],_=>rfl
 |n+1=>F.nr hm (nV.ok F kW (qM (n+1)) (tV T IB Rq (show 1<=2+n from fS (by decide) (A8 _ _)) (jt F hm T IB Rq n)) (uH n)) fun _ _ _ _ _ _ us hl=>match us,hl with|[_,_,_],_=>rfl
theorem CJ:g9 Cu ["_law_script"] (bI n6):=⟨rfl,rfl,rfl,by decide +kernel,rfl,by decide +kernel,by decide +kernel⟩
theorem gk' {f:Addr} {fd:FuncData} (F:eJ K "law" "law" n6 f fd) (T:Txt K mg) (O1:dy P w K mg base 1 "_law_cell_at" ["_law_script", "_law_k"] (az K aG)) (gl':dy P w K mg base 1 "_law_deeds" ["_law_cell", "_law_turn"] (az K cg)) (IB:dy P w K mg base 1 "_law_size" ["_law_m", "_law_frame"] (az K bA)) (gm':iN P w K mg base rn 5 "framed" ["m", "frame"] fK) (gn':dy P w K mg base 3 "_law_row" ["_law_cells", "_law_pool"] (az K cR)) (gp':dy P w K mg base 2 "_law_is_machine" ["_law_found"] (az K aV)) (Ut:dy P w K mg base 1 "_law_steps" ["_law_cells", "_law_many", "_law_deeds_here"] (az K bB)) (E4:dy P w K mg base 8 "_law_goes" ["_law_m", "_law_frame", "_law_state"] (az K (aJ 6))):eS P w K mg base iA 9 f fd ["_law_script"] (az K Ic) :=
 nV.ok (t:=Gj) F CJ Fd (fun cp A outer s H E hr =>
  have nd:=CJ.nd
  have hu:=hr.units
  (aj (aB (i:=1) nd rfl (Or.inl rfl) (bV O1 (hr.mono (by decide)) (aa (qv 0) (aa aq au))))
   (aj (aB (i:=2) nd rfl (Or.inl rfl) (cP aq (eV (qv 1) aq)))
   (aj (aB (i:=3) nd rfl (Or.inl rfl) (bV gl' (hr.mono (by decide)) (aa (bV O1 (hr.mono (by decide)) (aa (qv 0) (aa aq au))) (aa (bV O1 (hr.mono (by decide)) (aa (qv 0) (aa aq au))) au))))
   (aj (aB (i:=4) nd rfl (Or.inl rfl) (dC (qv 0) (cD aq) (cD aq)))
   (aj (cB (aZ (ri (K:=K) hu) iR (eV (jr (qv 1) aq) aq) aq (i3 _))
   (ao (aB (i:=4) nd rfl (Or.inl rfl) (dC (qv 0) (cD aq) (cD aq))))
   aM)
   (aj (aY 2 (aB (i:=5) nd rfl (Or.inl rfl) (dM (aa (qv 2) (aa (iD hu rfl T.zi rfl T.zh (bV Ut (hr.mono (by decide)) (aa (qv 4) (aa (qv 2) (aa (cP (gJ (aa dq au)) (dC (qv 3) gf (cD aq))) au))))) au)))))
   (aj (aB (i:=6) nd rfl (Or.inl rfl) (gJ au))
   (aj (cN PassesOwn.never rfl (fu T.rV (eV (bV O1 (hr.mono (by decide)) (aa (qv 0) (aa aq au))) aq)) (aA (i:=7) nd rfl (Or.inr rfl))
   (ao (mZ (dD (pv 6)) (bV gn' (hr.mono (by decide)) (aa (fO (tn:=["_law_j"]) (cn:=["_law_k", "_law_script"]) (ix:=[7,0]) rfl (qY (fu T.rV aq)) (bU.of (sc:=bI n6) (N:=Cu) rfl rfl (by decide +kernel)) (fun _ _ _ _=>(aA (i:=0) (show(["_law_j", "_law_k", "_law_script"]:List Str).Nodup by decide +kernel) rfl (Or.inl rfl) (.inr rfl))) (fun _ _ _ _=>fD) (fun _ _ _ _=>(bV O1 (hr.mono (by decide)) (aa (qv 2) (aa (cP (cP aq (gj aq (qv 1))) (qv 0)) au))))) (aa (qv 3) au))))))
   (aj (aY 6 (Gi (i:=8) (j:=9) rfl nd rfl (Or.inl rfl) rfl (Or.inl rfl) (bV IB (hr.mono (by decide)) (aa (qv 5) (aa (qv 6) au)))))
   (aj (aB (i:=10) nd rfl (Or.inl rfl) Kl)
   (aj (FJ T.gi' nd rfl (Or.inl rfl) rfl rfl (fun pn xe E1 vv hx1=>(Eb gm' (hr.mono (by decide)) hx1 (aa (dM (aa (qv 2) (aa (pN j_ t_ rfl T.CH pZ (cx hu (qv 5) aq)) au))) (aa (pN j_ t_ rfl T.CH pZ (qv 6)) au))))
   (fun pn a=>(ao (aB (i:=10) nd rfl (Or.inl rfl) dq))))
   (aj (cB (aZ (ri (K:=K) hu) iR (qv 10) dq (i3 _))
   (ao (bO (eh' (Bl sZ zx (qv 8) aq (i3 _)) (Ik (Bl sZ zx (qv 9) aq (i3 _))))))
   aM)
   (aj (cB (MR (tX (gH (il (bV gp' (hr.mono (by decide)) (aa (qv 10) au)))) (rP (aZ (Tb (K:=K) hu) Fl (cx hu (qv 10) aq) (qv 8) (i3 _)))))
   (ao (bO EE))
   aM)
   (aj (aB (i:=11) nd rfl (Or.inl rfl) (gJ au))
   (aj (cN PassesOwn.never rfl (fu T.rV (qv 8)) (aA (i:=12) nd rfl (Or.inl rfl))
   (ao (cN PassesOwn.never rfl (dB (wY hu rfl T.zi rfl T.zh (bV E4 (hr.mono (by decide)) (aa (qv 5) (aa (qv 6) (aa (qv 12) au)))))) (gA rfl (aF (aA (i:=13) nd rfl (Or.inl rfl)) (aF (aA (i:=14) nd rfl (Or.inl rfl)) dG)))
   (ao (aY 14 (aY 13 (aY 12 (mZ (dD (pv 11)) (dM (aa (qv 12) (aa (qv 13) (aa (qv 14) au))))))))))))
   (ao (bO (Bl (ri (K:=K) hu) iR (qv 11) (cx hu (qv 10) aq) (i3 _)))))))))))))))))))) Kd
end
theorem IC{us:List Value}(h:us.length=1):∃ a0,us=[a0]:=by
 cases us with
 |nil=>simp at h
 |cons a0 us =>
 cases us with
 |nil=>exact⟨_,rfl⟩
 |cons b us=>simp at h
theorem tS{us:List Value}(h:us.length=2):∃ a0 a1,us=[a0,a1]:=by
 cases us with
 |nil=>simp at h
 |cons a0 us =>
 cases us with
 |nil=>simp at h
 |cons a1 us =>
 cases us with
 |nil=>exact⟨_,_,rfl⟩
 |cons b us=>simp at h
theorem O3{us:List Value}(h:us.length=3):∃ a0 a1 a2,us=[a0,a1,a2]:=by
 cases us with
 |nil=>simp at h
 |cons a0 us =>
 cases us with
 |nil=>simp at h
 |cons a1 us =>
 cases us with
 |nil=>simp at h
 |cons a2 us =>
 cases us with
 |nil=>exact⟨_,_,_,rfl⟩
 |cons b us=>simp at h
theorem all_mk {l:PySem.W.OpenLaw} {w:World} {K:PySem.W.Frag} {h:Heap} {mg:Str->Option Value} {fa:Addr} (X:K.In h) (G:h.Ns mainGlobals mg) (hfa:mg "law" = some (.ref fa))
  (a0:PySem.W.nsIn K mainGlobals "is_open" = some (some (.ref f0))) (l0:K.lookup f0=some ⟨o0,d0,.func (PySem.W.fnOf "is_open" "is_open" (gS eQ) (eI eQ) (bI eQ) .none v0 j0 p0 e0 r0 u0),t0⟩) (c0:PySem.W.codeIn K r0 "is_open" = true) (k0:PySem.W.keepIn K (.ref f0)=true)
  (a1:PySem.W.nsIn K mainGlobals "check_bounds" = some (some (.ref f1))) (l1:K.lookup f1=some ⟨o1,d1,.func (PySem.W.fnOf "check_bounds" "check_bounds" (gS aK) (eI aK) (bI aK) .none v1 j1 p1 e1 r1 u1),t1⟩) (c1:PySem.W.codeIn K r1 "check_bounds" = true) (k1:PySem.W.keepIn K (.ref f1)=true)
  (a2:PySem.W.nsIn K mainGlobals "deeds_of" = some (some (.ref f2))) (l2:K.lookup f2=some ⟨o2,d2,.func (PySem.W.fnOf "deeds_of" "deeds_of" (gS cW) (eI cW) (bI cW) .none v2 j2 p2 e2 r2 u2),t2⟩) (c2:PySem.W.codeIn K r2 "deeds_of" = true) (k2:PySem.W.keepIn K (.ref f2)=true)
  (a3:PySem.W.nsIn K mainGlobals "check_open" = some (some (.ref f3))) (l3:K.lookup f3=some ⟨o3,d3,.func (PySem.W.fnOf "check_open" "check_open" (gS bf) (eI bf) (bI bf) .none v3 j3 p3 e3 r3 u3),t3⟩) (c3:PySem.W.codeIn K r3 "check_open" = true) (k3:PySem.W.keepIn K (.ref f3)=true)
  (a4:PySem.W.nsIn K mainGlobals "steps_of_one" = some (some (.ref f4))) (l4:K.lookup f4=some ⟨o4,d4,.func (PySem.W.fnOf "steps_of_one" "steps_of_one" (gS bC) (eI bC) (bI bC) .none v4 j4 p4 e4 r4 u4),t4⟩) (c4:PySem.W.codeIn K r4 "steps_of_one" = true) (k4:PySem.W.keepIn K (.ref f4)=true)
  (a5:PySem.W.nsIn K mainGlobals "steps_of_other" = some (some (.ref f5))) (l5:K.lookup f5=some ⟨o5,d5,.func (PySem.W.fnOf "steps_of_other" "steps_of_other" (gS aX) (eI aX) (bI aX) .none v5 j5 p5 e5 r5 u5),t5⟩) (c5:PySem.W.codeIn K r5 "steps_of_other" = true) (k5:PySem.W.keepIn K (.ref f5)=true)
  (a6:PySem.W.nsIn K mainGlobals "steps_together" = some (some (.ref f6))) (l6:K.lookup f6=some ⟨o6,d6,.func (PySem.W.fnOf "steps_together" "steps_together" (gS aO) (eI aO) (bI aO) .none v6 j6 p6 e6 r6 u6),t6⟩) (c6:PySem.W.codeIn K r6 "steps_together" = true) (k6:PySem.W.keepIn K (.ref f6)=true)
  (a7:PySem.W.nsIn K mainGlobals "beside" = some (some (.ref f7))) (l7:K.lookup f7=some ⟨o7,d7,.func (PySem.W.fnOf "beside" "beside" (gS dh) (eI dh) (bI dh) .none v7 j7 p7 e7 r7 u7),t7⟩) (c7:PySem.W.codeIn K r7 "beside" = true) (k7:PySem.W.keepIn K (.ref f7)=true)
  (a8:PySem.W.nsIn K mainGlobals "with_deeds" = some (some (.ref f8))) (l8:K.lookup f8=some ⟨o8,d8,.func (PySem.W.fnOf "with_deeds" "with_deeds" (gS bY) (eI bY) (bI bY) .none v8 j8 p8 e8 r8 u8),t8⟩) (c8:PySem.W.codeIn K r8 "with_deeds" = true) (k8:PySem.W.keepIn K (.ref f8)=true)
  (a9:PySem.W.nsIn K mainGlobals "hide" = some (some (.ref f9))) (l9:K.lookup f9=some ⟨o9,d9,.func (PySem.W.fnOf "hide" "hide" (gS iK) (eI iK) (bI iK) .none v9 j9 p9 e9 r9 u9),t9⟩) (c9:PySem.W.codeIn K r9 "hide" = true) (k9:PySem.W.keepIn K (.ref f9)=true)
  (UB:PySem.W.nsIn K mainGlobals "rename" = some (some (.ref Zq))) (l10:K.lookup Zq=some ⟨Rk,d10,.func (PySem.W.fnOf "rename" "rename" (gS di) (eI di) (bI di) .none v10 j10 p10 Um SX u10),t10⟩) (UC:PySem.W.codeIn K SX "rename" = true) (UD:PySem.W.keepIn K (.ref Zq)=true)
  (UE:PySem.W.nsIn K mainGlobals "done" = some (some (.ref Zr))) (UG:K.lookup Zr=some ⟨Rl,d11,.func (PySem.W.fnOf "done" "done" (gS iM) (eI iM) (bI iM) .none v11 j11 p11 Rn r11 u11),t11⟩) (UH:PySem.W.codeIn K r11 "done" = true) (UI:PySem.W.keepIn K (.ref Zr)=true)
  (UJ:PySem.W.nsIn K mainGlobals "framed" = some (some (.ref Zt))) (UK:K.lookup Zt=some ⟨Rm,d12,.func (PySem.W.fnOf "framed" "framed" (gS dg) (eI dg) (bI dg) .none v12 j12 p12 e12 r12 u12),t12⟩) (UL:PySem.W.codeIn K r12 "framed" = true) (UM:PySem.W.keepIn K (.ref Zt)=true)
  (UN:PySem.W.nsIn K mainGlobals "_law_cell_at" = some (some (.ref Zu))) (UO:K.lookup Zu=some ⟨A0,d13,.func (PySem.W.fnOf "_law_cell_at" "_law_cell_at" (gS bQ) (eI bQ) (bI bQ) .none v13 j13 p13 Ul r13 u13),t13⟩) (UQ:PySem.W.codeIn K r13 "_law_cell_at" = true) (UR:PySem.W.keepIn K (.ref Zu)=true)
  (UT:PySem.W.nsIn K mainGlobals "_law_deeds" = some (some (.ref Zv))) (UU:K.lookup Zv=some ⟨A3,d14,.func (PySem.W.fnOf "_law_deeds" "_law_deeds" (gS bK) (eI bK) (bI bK) .none v14 j14 p14 e14 r14 u14),t14⟩) (UW:PySem.W.codeIn K r14 "_law_deeds" = true) (UX:PySem.W.keepIn K (.ref Zv)=true)
  (UY:PySem.W.nsIn K mainGlobals "_law_steps" = some (some (.ref Zw))) (UZ:K.lookup Zw=some ⟨o15,d15,.func (PySem.W.fnOf "_law_steps" "_law_steps" (gS cL) (eI cL) (bI cL) .none v15 j15 p15 e15 r15 u15),t15⟩) (U0:PySem.W.codeIn K r15 "_law_steps" = true) (U4:PySem.W.keepIn K (.ref Zw)=true)
  (U5:PySem.W.nsIn K mainGlobals "_law_some" = some (some (.ref Zx))) (U6:K.lookup Zx=some ⟨o16,d16,.func (PySem.W.fnOf "_law_some" "_law_some" (gS cV) (eI cV) (bI cV) .none v16 j16 p16 e16 r16 u16),t16⟩) (c16:PySem.W.codeIn K r16 "_law_some" = true) (U7:PySem.W.keepIn K (.ref Zx)=true)
  (U8:PySem.W.nsIn K mainGlobals "_law_whole" = some (some (.ref Zy))) (U9:K.lookup Zy=some ⟨o17,d17,.func (PySem.W.fnOf "_law_whole" "_law_whole" (gS cI) (eI cI) (bI cI) .none v17 j17 p17 e17 r17 u17),t17⟩) (U_:PySem.W.codeIn K r17 "_law_whole" = true) (Va:PySem.W.keepIn K (.ref Zy)=true)
  (Vb:PySem.W.nsIn K mainGlobals "_law_is_machine" = some (some (.ref Zz))) (Vc:K.lookup Zz=some ⟨o18,d18,.func (PySem.W.fnOf "_law_is_machine" "_law_is_machine" (gS bh) (eI bh) (bI bh) .none v18 j18 p18 e18 r18 u18),t18⟩) (Vd:PySem.W.codeIn K r18 "_law_is_machine" = true) (Ve:PySem.W.keepIn K (.ref Zz)=true)
  (Vf:PySem.W.nsIn K mainGlobals "_law_pairs" = some (some (.ref ZC))) (Vg:K.lookup ZC=some ⟨o19,d19,.func (PySem.W.fnOf "_law_pairs" "_law_pairs" (gS cJ) (eI cJ) (bI cJ) .none v19 j19 p19 e19 r19 u19),t19⟩) (Vh:PySem.W.codeIn K r19 "_law_pairs" = true) (Vi:PySem.W.keepIn K (.ref ZC)=true)
  (Vj:PySem.W.nsIn K mainGlobals "_law_other" = some (some (.ref ZD))) (Vk:K.lookup ZD=some ⟨o20,d20,.func (PySem.W.fnOf "_law_other" "_law_other" (gS cM) (eI cM) (bI cM) .none v20 j20 p20 e20 r20 u20),t20⟩) (Vl:PySem.W.codeIn K r20 "_law_other" = true) (Vm:PySem.W.keepIn K (.ref ZD)=true)
  (Vn:PySem.W.nsIn K mainGlobals "_law_row" = some (some (.ref ZE))) (Vo:K.lookup ZE=some ⟨o21,d21,.func (PySem.W.fnOf "_law_row" "_law_row" (gS dY) (eI dY) (bI dY) .none v21 j21 p21 e21 r21 u21),t21⟩) (Vp:PySem.W.codeIn K r21 "_law_row" = true) (Vq:PySem.W.keepIn K (.ref ZE)=true)
  (Vr:PySem.W.nsIn K mainGlobals "_law_size" = some (some (.ref ZF))) (MD:K.lookup ZF=some ⟨o22,d22,.func (PySem.W.fnOf "_law_size" "_law_size" (gS cU) (eI cU) (bI cU) .none v22 j22 p22 e22 r22 u22),t22⟩) (Vs:PySem.W.codeIn K r22 "_law_size" = true) (Vt:PySem.W.keepIn K (.ref ZF)=true)
  (Vu:PySem.W.nsIn K mainGlobals "_law_new" = some (some (.ref ZG))) (Vv:K.lookup ZG=some ⟨o23,d23,.func (PySem.W.fnOf "_law_new" "_law_new" (gS dZ) (eI dZ) (bI dZ) .none v23 j23 p23 e23 r23 u23),t23⟩) (Vw:PySem.W.codeIn K r23 "_law_new" = true) (LZ:PySem.W.keepIn K (.ref ZG)=true)
  (Vx:PySem.W.nsIn K mainGlobals "_law_goes" = some (some (.ref ZH))) (Vy:K.lookup ZH=some ⟨o24,d24,.func (PySem.W.fnOf "_law_goes" "_law_goes" (gS aL) (eI aL) (bI aL) .none v24 j24 p24 e24 r24 u24),t24⟩) (Vz:PySem.W.codeIn K r24 "_law_goes" = true) (VA:PySem.W.keepIn K (.ref ZH)=true)
  (VB:PySem.W.nsIn K mainGlobals "law" = some (some (.ref ZI))) (VC:K.lookup ZI=some ⟨o25,d25,.func (PySem.W.fnOf "law" "law" (gS n6) (eI n6) (bI n6) .none v25 j25 p25 e25 ZJ u25),t25⟩) (VD:PySem.W.codeIn K ZJ "law" = true) (VF:PySem.W.keepIn K (.ref ZI)=true)
  (OO:PySem.W.nsIn K mainGlobals "all" = some none)
  (OQ:PySem.W.nsIn K mainGlobals "bool" = some none)
  (OS:PySem.W.nsIn K mainGlobals "int" = some none)
  (xl:PySem.W.nsIn K mainGlobals "isinstance" = some none)
  (rS:PySem.W.nsIn K mainGlobals "len" = some none)
  (CH:PySem.W.nsIn K mainGlobals "list" = some none)
  (OU:PySem.W.nsIn K mainGlobals "max" = some none)
  (rV:PySem.W.nsIn K mainGlobals "range" = some none)
  (zh:PySem.W.nsIn K mainGlobals "set" = some none)
  (zi:PySem.W.nsIn K mainGlobals "sorted" = some none)
  (Iy:PySem.W.nsIn K mainGlobals "str" = some none)
  (IA:PySem.W.nsIn K mainGlobals "tuple" = some none)
  {gL':Tok} (OV:PySem.W.nsIn K mainGlobals "HIDDEN" = some (some (.str "*" gL')))
  {gM':Tok} (OW:PySem.W.nsIn K mainGlobals "LETTERS" = some (some (.str "abcdefghijklmnopqrstuvwxyz" gM')))
  {gN':Tok} (OX:PySem.W.nsIn K mainGlobals "MOST_LETTERS" = some (some (.int 6 gN')))
  {gO':Tok} (OY:PySem.W.nsIn K mainGlobals "MOST_STATES" = some (some (.int 20 gO')))
  {gP':Tok} (OZ:PySem.W.nsIn K mainGlobals "MOST_STEPS" = some (some (.int 80 gP')))
  {gQ':Tok} (O0:PySem.W.nsIn K mainGlobals "MOST_OPEN_DEEDS" = some (some (.int 6 gQ')))
  {CL:Addr} (VG:PySem.W.nsIn K mainGlobals "NoDeed" = some (some (.ref CL)))
  {CM:Addr} (VH:PySem.W.nsIn K mainGlobals "NoFrame" = some (some (.ref CM)))
  {zk:Addr} (VJ:PySem.W.nsIn K mainGlobals "TooBig" = some (some (.ref zk)))
  (VL:PySem.W.excIn K CL [.type "ValueError",.type "Exception",.type "BaseException",.type "object"] "ValueError.__new__" = true) (VM:PySem.W.findIn K (.ref CL) "__getattr__" = some none) (VN:PySem.W.findIn K (.ref CL) "__getattribute__" = some (some (.builtin "BaseException.__getattribute__"))) (VP:PySem.W.findIn K (.ref CL) "__class__" = some (some (.builtin "object.__class__"))) (VQ:PySem.W.mroIn K CL (.type "object")=some true)
  (VR:PySem.W.excIn K CM [.type "ValueError",.type "Exception",.type "BaseException",.type "object"] "ValueError.__new__" = true) (VS:PySem.W.findIn K (.ref CM) "__getattr__" = some none) (VW:PySem.W.findIn K (.ref CM) "__getattribute__" = some (some (.builtin "BaseException.__getattribute__"))) (VX:PySem.W.findIn K (.ref CM) "__class__" = some (some (.builtin "object.__class__"))) (VY:PySem.W.mroIn K CM (.type "object")=some true)
  (VZ:PySem.W.excIn K zk [.type "ValueError",.type "Exception",.type "BaseException",.type "object"] "ValueError.__new__" = true) (V0:PySem.W.findIn K (.ref zk) "__getattr__" = some none) (V1:PySem.W.findIn K (.ref zk) "__getattribute__" = some (some (.builtin "BaseException.__getattribute__"))) (V2:PySem.W.findIn K (.ref zk) "__class__" = some (some (.builtin "object.__class__"))) (V3:PySem.W.mroIn K zk (.type "object")=some true)
  (V4:PySem.W.mroIn K zk (.ref zk)=some true)
  : ∃ fd:FuncData,(∀ (s:Shared) (v:Value),BindsTo s fd ⟨[v],[]⟩ [("_law_script",v)])/\∀ base:Heap,K.In base->base.Ns mainGlobals mg->eS l.prog w K mg base iA 9 fa fd ["_law_script"] (az K Ic):=by
 have e:=hfa.symm.trans (PySem.W.mg_of X G VB)
 cases e
 have ZK:=PySem.W.mg_of X G VG
 have ZL:=PySem.W.mg_of X G VH
 have Rr:=PySem.W.mg_of X G VJ
 have gR':xi K CL:=⟨VL,VM,VN,VP,VQ⟩
 have gS':xi K CM:=⟨VR,VS,VW,VX,VY⟩
 have V5:xi K zk:=⟨VZ,V0,V1,V2,V3⟩
 have each:∀ {G:Str->Addr->Prop},G "NoDeed" CL->G "NoFrame" CM->G "TooBig" zk->∀ n C,n∈rn->mg n=some (.ref C)->G n C:=by
  intro G gT' gU' gV' n C hn hm
  simp only[rn,dv,Fc,or_false] at hn
  rcases hn with rfl|rfl|rfl
  ·rw[ZK] at hm;cases hm;exact gT'
  ·rw[ZL] at hm;cases hm;exact gU'
  ·rw[Rr] at hm;cases hm;exact gV'
 have T:Txt K mg:=⟨PySem.W.mg_none_of X G OO,PySem.W.mg_none_of X G OQ,PySem.W.mg_none_of X G OS,PySem.W.mg_none_of X G xl,PySem.W.mg_none_of X G rS,PySem.W.mg_none_of X G CH,PySem.W.mg_none_of X G OU,PySem.W.mg_none_of X G rV,PySem.W.mg_none_of X G zh,PySem.W.mg_none_of X G zi,PySem.W.mg_none_of X G Iy,PySem.W.mg_none_of X G IA,⟨_,PySem.W.mg_of X G OV⟩,⟨_,PySem.W.mg_of X G OW⟩,⟨_,PySem.W.mg_of X G OX⟩,⟨_,PySem.W.mg_of X G OY⟩,⟨_,PySem.W.mg_of X G OZ⟩,⟨_,PySem.W.mg_of X G O0⟩,⟨_,ZK,gR'⟩,⟨_,ZL,gS'⟩,⟨_,Rr,V5⟩,⟨_,Rr,V5,fun n C hn hm=>by obtain rfl:=n4.mp hn;rw[Rr] at hm;cases hm;exact⟨V5,V4⟩⟩⟩
 have F0:=jI (st:=eQ) l0 c0 k0
 have F1:=jI (st:=aK) l1 c1 k1
 have F2:=jI (st:=cW) l2 c2 k2
 have F3:=jI (st:=bf) l3 c3 k3
 have F4:=jI (st:=bC) l4 c4 k4
 have F5:=jI (st:=aX) l5 c5 k5
 have F6:=jI (st:=aO) l6 c6 k6
 have F7:=jI (st:=dh) l7 c7 k7
 have F8:=jI (st:=bY) l8 c8 k8
 have F9:=jI (st:=iK) l9 c9 k9
 have ZM:=jI (st:=di) l10 UC UD
 have ZN:=jI (st:=iM) UG UH UI
 have ZO:=jI (st:=dg) UK UL UM
 have ZP:=jI (st:=bQ) UO UQ UR
 have ZQ:=jI (st:=bK) UU UW UX
 have ZR:=jI (st:=cL) UZ U0 U4
 have ZS:=jI (st:=cV) U6 c16 U7
 have ZT:=jI (st:=cI) U9 U_ Va
 have ZU:=jI (st:=bh) Vc Vd Ve
 have ZV:=jI (st:=cJ) Vg Vh Vi
 have ZW:=jI (st:=cM) Vk Vl Vm
 have ZX:=jI (st:=dY) Vo Vp Vq
 have ZY:=jI (st:=cU) MD Vs Vt
 have ZZ:=jI (st:=dZ) Vv Vw LZ
 have F24:=jI (st:=aL) Vy Vz VA
 have F25:=jI (st:=n6) VC VD VF
 refine⟨PySem.W.fnOf "law" "law" (gS n6) (eI n6) (bI n6) .none v25 j25 p25 e25 ZJ u25,fun s v=>.of_eq rfl,fun base _ _=>?_⟩
 have C0:dy l.prog w K mg base 1 "is_open" ["thing"] (az K bR):=F0.nr (PySem.W.mg_of X G a0) (wK F0 T ) fun _ _ _ _ _ _ us hl=>by obtain⟨_,rfl⟩:=IC hl;rfl
 have C2:dy l.prog w K mg base 1 "deeds_of" ["m"] (az K cH):=F2.nr (PySem.W.mg_of X G a2) (uh F2 T ) fun _ _ _ _ _ _ us hl=>by obtain⟨_,rfl⟩:=IC hl;rfl
 have C4:dy l.prog w K mg base 1 "steps_of_one" ["one", "other", "together"] (az K bw):=F4.nr (PySem.W.mg_of X G a4) (mL F4 T ) fun _ _ _ _ _ _ us hl=>by obtain⟨_,_,_,rfl⟩:=O3 hl;rfl
 have C5:dy l.prog w K mg base 1 "steps_of_other" ["one", "other", "together"] (az K aP):=F5.nr (PySem.W.mg_of X G a5) (jW F5 T ) fun _ _ _ _ _ _ us hl=>by obtain⟨_,_,_,rfl⟩:=O3 hl;rfl
 have C6:dy l.prog w K mg base 1 "steps_together" ["one", "other", "together"] (az K aQ):=F6.nr (PySem.W.mg_of X G a6) (jT F6 T ) fun _ _ _ _ _ _ us hl=>by obtain⟨_,_,_,rfl⟩:=O3 hl;rfl
 have C8:dy l.prog w K mg base 1 "with_deeds" ["m", "new_deeds"] (az K aR):=F8.nr (PySem.W.mg_of X G a8) (qD F8 T ) fun _ _ _ _ _ _ us hl=>by obtain⟨_,_,rfl⟩:=tS hl;rfl
 have C13:dy l.prog w K mg base 1 "_law_cell_at" ["_law_script", "_law_k"] (az K aG):=ZP.nr (PySem.W.mg_of X G UN) (l_ ZP T ) fun _ _ _ _ _ _ us hl=>by obtain⟨_,_,rfl⟩:=tS hl;rfl
 have C14:dy l.prog w K mg base 1 "_law_deeds" ["_law_cell", "_law_turn"] (az K cg):=ZQ.nr (PySem.W.mg_of X G UT) (pP ZQ T ) fun _ _ _ _ _ _ us hl=>by obtain⟨_,_,rfl⟩:=tS hl;rfl
 have Z0:dy l.prog w K mg base 1 "_law_steps" ["_law_cells", "_law_many", "_law_deeds_here"] (az K bB):=ZR.nr (PySem.W.mg_of X G UY) (ph ZR T ) fun _ _ _ _ _ _ us hl=>by obtain⟨_,_,_,rfl⟩:=O3 hl;rfl
 have C16:dy l.prog w K mg base 1 "_law_some" ["_law_cell", "_law_pool"] (az K bL):=ZS.nr (PySem.W.mg_of X G U5) (rF ZS T ) fun _ _ _ _ _ _ us hl=>by obtain⟨_,_,rfl⟩:=tS hl;rfl
 have C17:dy l.prog w K mg base 1 "_law_whole" ["_law_found"] (az K bx):=ZT.nr (PySem.W.mg_of X G U8) (qj ZT T ) fun _ _ _ _ _ _ us hl=>by obtain⟨_,rfl⟩:=IC hl;rfl
 have C19:dy l.prog w K mg base 1 "_law_pairs" ["_law_cell", "_law_pool"] (az K cj):=ZV.nr (PySem.W.mg_of X G Vf) (o_ ZV T ) fun _ _ _ _ _ _ us hl=>by obtain⟨_,_,rfl⟩:=tS hl;rfl
 have Z1:dy l.prog w K mg base 1 "_law_size" ["_law_m", "_law_frame"] (az K bA):=ZY.nr (PySem.W.mg_of X G Vr) (qQ ZY T ) fun _ _ _ _ _ _ us hl=>by obtain⟨_,_,rfl⟩:=tS hl;rfl
 have C23:dy l.prog w K mg base 1 "_law_new" ["_law_deed", "_law_row_here"] (az K bZ):=ZZ.nr (PySem.W.mg_of X G Vu) (tW ZZ T ) fun _ _ _ _ _ _ us hl=>by obtain⟨_,_,rfl⟩:=tS hl;rfl
 have C1:iN l.prog w K mg base rn 2 "check_bounds" ["m"] aU:=eJ.EW F1 (PySem.W.mg_of X G a1) (lW F1 T C2 C0) fun _ _ _ _ _ _ us hl=>by obtain⟨_,rfl⟩:=IC hl;rfl
 have C3:iN l.prog w K mg base rn 2 "check_open" ["deeds"] aH:=eJ.EW F3 (PySem.W.mg_of X G a3) (pX F3 T C0) fun _ _ _ _ _ _ us hl=>by obtain⟨_,rfl⟩:=IC hl;rfl
 have C18:dy l.prog w K mg base 2 "_law_is_machine" ["_law_found"] (az K aV):=ZU.nr (PySem.W.mg_of X G Vb) (jO ZU T C17) fun _ _ _ _ _ _ us hl=>by obtain⟨_,rfl⟩:=IC hl;rfl
 have C20:dy l.prog w K mg base 2 "_law_other" ["_law_cells", "_law_pool"] (az K bN):=ZW.nr (PySem.W.mg_of X G Vj) (pB ZW T Z0) fun _ _ _ _ _ _ us hl=>by obtain⟨_,_,rfl⟩:=tS hl;rfl
 have C7:iN l.prog w K mg base rn 3 "beside" ["one", "other", "together"] du:=eJ.EW F7 (PySem.W.mg_of X G a7) (zq F7 T C3 C1 C4 C5 C6) fun _ _ _ _ _ _ us hl=>by obtain⟨_,_,_,rfl⟩:=O3 hl;rfl
 have C9:iN l.prog w K mg base rn 3 "hide" ["m", "deeds"] i_:=eJ.EW F9 (PySem.W.mg_of X G a9) (En F9 T C3 C8) fun _ _ _ _ _ _ us hl=>by obtain⟨_,_,rfl⟩:=tS hl;rfl
 have C10:iN l.prog w K mg base rn 3 "rename" ["m", "pairs"] eU:=eJ.EW ZM (PySem.W.mg_of X G UB) (yJ ZM T C8 C3) fun _ _ _ _ _ _ us hl=>by obtain⟨_,_,rfl⟩:=tS hl;rfl
 have C21:dy l.prog w K mg base 3 "_law_row" ["_law_cells", "_law_pool"] (az K cR):=ZX.nr (PySem.W.mg_of X G Vn) (uN ZX T C19 C20 C16) fun _ _ _ _ _ _ us hl=>by obtain⟨_,_,rfl⟩:=tS hl;rfl
 have C11:iN l.prog w K mg base rn 4 "done" ["m", "row"] iZ:=eJ.EW ZN (PySem.W.mg_of X G UE) (Gn ZN T C7 C9 C10) fun _ _ _ _ _ _ us hl=>by obtain⟨_,_,rfl⟩:=tS hl;rfl
 have C12:iN l.prog w K mg base rn 5 "framed" ["m", "frame"] fK:=eJ.EW ZO (PySem.W.mg_of X G UJ) (xU ZO T C11) fun _ _ _ _ _ _ us hl=>by obtain⟨_,_,rfl⟩:=tS hl;rfl
 have C24:dy l.prog w K mg base 8 "_law_goes" ["_law_m", "_law_frame", "_law_state"] (az K (aJ 6)):=jt F24 (PySem.W.mg_of X G Vx) T Z1 C23 6
 exact gk' F25 T C13 C14 Z1 C12 C21 C18 Z0 C24
theorem walk{l:PySem.W.OpenLaw}{q:Program}{loose:List Str}{XP:(Str->Option Value)->Heap->Prop}{YP:World->Heap->Prop}{d:DefRec}{K:Params->PySem.W.Frag}(hn:l.most=some 63)(LS:d.params.defaults=[])
  (hY:∀ (w:World) (h:Heap),YP w h->(K w.params).In h)
  (F:∀ (w:World) (mg:Str->Option Value) (fa:Addr) (h:Heap),(K w.params).In h->h.Ns mainGlobals mg->mg d.name=some (.ref fa) ->
   ∃ fd:FuncData,(∀ (s:Shared) (u:Value),BindsTo s fd ⟨[u],[]⟩ [("_law_script",u)])/\∀ base:Heap,(K w.params).In base->base.Ns mainGlobals mg->eS l.prog w (K w.params) mg base iA 9 fa fd ["_law_script"] (az (K w.params) Ic)) :
  PySem.W.WalkO q loose XP YP l.row.toRowW d [] (fun f vs=>PySem.call f vs) :=
 L2.cV' (n:=63) (k:=9) (x := "_law_script") (CX:=fun _=>iA) (sp:=fun w=>az (K w.params) Ic) hn (by decide) LS ⟨rfl,by decide,by decide⟩ hY F (fun w H a ns hl hO hS=>Aj hl hS) fun _ _ _ _ _ z=>z
end L2.Q.Ui
open PySem PySem.W PyProof.Rows
namespace PySem.W.Fast
def tw17085203832018427517:=0
def tw14670081302612991455:=0
def tw8188669228647878104:=0
def tw5832373097366390628:=0
def tw9608693845238831374:=0
def tw1411398219928811348:=0
def tw11936644296920342695:=0
def tw2323815502459684955:=0
def tw14005421916864306938:=0
def tw15298768623832297319:=0
def tw11806706912810181049:=0
def tw550949941701771802:=0
def tw3203410306148357660:=0
def tw8910627534093990436:=0
def tw7766386739344410521:=0
def tw7617561327522645648:=0
def tw1647815110828856373:=0
def tw16367426546058817701:=0
def tw4774096240626224709:=0
def tw2621429489244664045:=0
end PySem.W.Fast
set_option maxRecDepth 100000 in
set_option maxHeartbeats 0 in
theorem PySem.Challenge.cw_kinlook_k18_whole_steps_in_a_frame_holds : PySem.Challenge.rw_kinlook_k18_whole_steps_in_a_frame.Holds := by
 w_on;o_law;k_head;(case hw=>w_witness2)
 k_fill
 refine L2.Q.Ui.walk (l:=PySem.Challenge.rw_kinlook_k18_whole_steps_in_a_frame) rfl rfl (fun w h Y=>PySem.W.kIn_of Y) ?F
 case F =>
  intro w mg fa h KX G LV
  refine' L2.Q.Ui.all_mk KX G LV ?a0 ?l0 ?c0 ?k0 ?a1 ?l1 ?c1 ?k1 ?a2 ?l2 ?c2 ?k2 ?a3 ?l3 ?c3 ?k3 ?a4 ?l4 ?c4 ?k4 ?a5 ?l5 ?c5 ?k5 ?a6 ?l6 ?c6 ?k6 ?a7 ?l7 ?c7 ?k7 ?a8 ?l8 ?c8 ?k8 ?a9 ?l9 ?c9 ?k9 ?UB ?l10 ?UC ?UD ?UE ?UG ?UH ?UI ?UJ ?UK ?UL ?UM ?UN ?UO ?UQ ?UR ?UT ?UU ?UW ?UX ?UY ?UZ ?U0 ?U4 ?U5 ?U6 ?c16 ?U7 ?U8 ?U9 ?U_ ?Va ?Vb ?Vc ?Vd ?Ve ?Vf ?Vg ?Vh ?Vi ?Vj ?Vk ?Vl ?Vm ?Vn ?Vo ?Vp ?Vq ?Vr ?MD ?Vs ?Vt ?Vu ?Vv ?Vw ?LZ ?Vx ?Vy ?Vz ?VA ?VB ?VC ?VD ?VF ?OO ?OQ ?OS ?xl ?rS ?CH ?OU ?rV ?zh ?zi ?Iy ?IA ?OV ?OW ?OX ?OY ?OZ ?O0 ?VG ?VH ?VJ ?VL ?VM ?VN ?VP ?VQ ?VR ?VS ?VW ?VX ?VY ?VZ ?V0 ?V1 ?V2 ?V3 ?V4
  (case a0=>k_is)
  (case l0=>k_is)
  (case c0=>k_is)
  (case k0=>k_is)
  (case a1=>k_is)
  (case l1=>k_is)
  (case c1=>k_is)
  (case k1=>k_is)
  (case a2=>k_is)
  (case l2=>k_is)
  (case c2=>k_is)
  (case k2=>k_is)
  (case a3=>k_is)
  (case l3=>k_is)
  (case c3=>k_is)
  (case k3=>k_is)
  (case a4=>k_is)
  (case l4=>k_is)
  (case c4=>k_is)
  (case k4=>k_is)
  (case a5=>k_is)
  (case l5=>k_is)
  (case c5=>k_is)
  (case k5=>k_is)
  (case a6=>k_is)
  (case l6=>k_is)
  (case c6=>k_is)
  (case k6=>k_is)
  (case a7=>k_is)
  (case l7=>k_is)
  (case c7=>k_is)
  (case k7=>k_is)
  (case a8=>k_is)
  (case l8=>k_is)
  (case c8=>k_is)
  (case k8=>k_is)
  (case a9=>k_is)
  (case l9=>k_is)
  (case c9=>k_is)
  (case k9=>k_is)
  (case UB=>k_is)
  (case l10=>k_is)
  (case UC=>k_is)
  (case UD=>k_is)
  (case UE=>k_is)
  (case UG=>k_is)
  (case UH=>k_is)
  (case UI=>k_is)
  (case UJ=>k_is)
  (case UK=>k_is)
  (case UL=>k_is)
  (case UM=>k_is)
  (case UN=>k_is)
  (case UO=>k_is)
  (case UQ=>k_is)
  (case UR=>k_is)
  (case UT=>k_is)
  (case UU=>k_is)
  (case UW=>k_is)
  (case UX=>k_is)
  (case UY=>k_is)
  (case UZ=>k_is)
  (case U0=>k_is)
  (case U4=>k_is)
  (case U5=>k_is)
  (case U6=>k_is)
  (case c16=>k_is)
  (case U7=>k_is)
  (case U8=>k_is)
  (case U9=>k_is)
  (case U_=>k_is)
  (case Va=>k_is)
  (case Vb=>k_is)
  (case Vc=>k_is)
  (case Vd=>k_is)
  (case Ve=>k_is)
  (case Vf=>k_is)
  (case Vg=>k_is)
  (case Vh=>k_is)
  (case Vi=>k_is)
  (case Vj=>k_is)
  (case Vk=>k_is)
  (case Vl=>k_is)
  (case Vm=>k_is)
  (case Vn=>k_is)
  (case Vo=>k_is)
  (case Vp=>k_is)
  (case Vq=>k_is)
  (case Vr=>k_is)
  (case MD=>k_is)
  (case Vs=>k_is)
  (case Vt=>k_is)
  (case Vu=>k_is)
  (case Vv=>k_is)
  (case Vw=>k_is)
  (case LZ=>k_is)
  (case Vx=>k_is)
  (case Vy=>k_is)
  (case Vz=>k_is)
  (case VA=>k_is)
  (case VB=>k_is)
  (case VC=>k_is)
  (case VD=>k_is)
  (case VF=>k_is)
  (case OO=>k_is)
  (case OQ=>k_is)
  (case OS=>k_is)
  (case xl=>k_is)
  (case rS=>k_is)
  (case CH=>k_is)
  (case OU=>k_is)
  (case rV=>k_is)
  (case zh=>k_is)
  (case zi=>k_is)
  (case Iy=>k_is)
  (case IA=>k_is)
  (case OV=>k_is)
  (case OW=>k_is)
  (case OX=>k_is)
  (case OY=>k_is)
  (case OZ=>k_is)
  (case O0=>k_is)
  (case VG=>k_is)
  (case VH=>k_is)
  (case VJ=>k_is)
  (case VL=>k_exc)
  (case VM=>k_is)
  (case VN=>k_is)
  (case VP=>k_is)
  (case VQ=>k_is)
  (case VR=>k_exc)
  (case VS=>k_is)
  (case VW=>k_is)
  (case VX=>k_is)
  (case VY=>k_is)
  (case VZ=>k_exc)
  (case V0=>k_is)
  (case V1=>k_is)
  (case V2=>k_is)
  (case V3=>k_is)
  (case V4=>k_is)
