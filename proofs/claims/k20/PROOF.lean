import PyProof.Rows.All
import Wide.All
import OpenK.AllK
import Wide.FinOn
import Lean
import PyProof.EqAt
import PyProof.EqKinds
import PyProof.TupleCall
import PyProof.CompUse
import PyProof.NeData
import PyProof.WalksEnum
import PyProof.EnumMake
import PyProof.ZipIter
import PyProof.Rows.EnumRows
import PyProof.Rows.FactsT2
import KE.KDictList
import PyProof.Rows.SortRuns
import PyProof.Rows.SortWalk
import KE.KSortTup
import PyProof.Rows.SortStr
import PyProof.ListRange
import PyProof.StrOps2
import PyProof.StrBlock2
import PyProof.AutoIntG3
import PyProof.ListMulRight
import PyProof.Rows.ListMulArg
import PyProof.Rows.CallKwBuiltin
import PyProof.Rows.StrMul
import KE.KMinBuiltin
import PyProof.TupleKey
import PyProof.SetKind
import PyProof.Rows.SetFrom
import PyProof.DictWalks
import KE.KRevIter
import PyProof.NsDelKeeps
import PyProof.AutoSeq1
import PySem.Challenge.RW_kinlook_k20_where_it_holds
open PySem renaming wpAny_bind->ai,wpAny_pure->ay,wpAny_mono->pS
open List renaming mem_cons_of_mem->dz,length_map->cE,mem_cons_self->dQ,mem_append_right->fT,mem_cons->dA,mem_append->eJ,mem_map->dP,getElem?_eq_some_iff->lh,size_toArray->hX,nodup_append->iP,mem_append_left->kK,getElem?_map->kf,sublist_append_right->oC,map_cons->iF,length_append->md,map_map->hJ,length_take->mG,getElem?_append_right->ub,append_nil->mh,getD_eq_getElem?_getD->vx,nodup_cons->nE,getElem?_eq_getElem->vE,mem_range->nI,nodup_nil->nK,length_cons->pT,map_append->oD,mem_of_getElem?->ui,mem_singleton->uj,getElem?_eq_none->xC,getElem?_append_left->BH,filterMap_cons->xD,append_assoc->vF,drop_eq_getElem_cons->DS,all_eq_true->vS,not_mem_nil->xE,pairwise_map->zD,all_map->sN,mem_filter->xI,sublist_append_left->Fs,length_drop->zI,take_add_one->BI,take_append_drop->Fu,pairwise_iff_getElem->I0,nil_sublist->BM,ext_getElem?->DT,map_congr_left->FC,append_eq_nil_iff->Jn,mem_iff_getElem?->JA,all_cons->BO,mem_of_mem_drop->JJ,mem_of_mem_take->JY,replicate_succ->Kb,take_length->FD,length_eq_zero_iff->P4,any_cons->DU,find?_cons->FE,take_of_length_le->P5,length_pos_of_mem->P6,length_singleton->P7,getElem?_set_ne->P8,pairwise_append->P9,nodup_iff_pairwise_ne->SW,any_eq_true->Ki,extract_eq_drop_take->SX,getElem?_range->Qb,getElem?_replicate->SY,flatten_cons->Qr,length_range->Qy,length_replicate->S0,cons_append->Qz,getElem_mem->QB,perm_append_comm->S4,countP_cons->QC,cons_ne_nil->QD,length_filter_le->S5,getElem?_mapIdx->S6,length_nil->QF,foldl_cons->QH,length_zipWith->S7,filter_eq_self->S8,mem_filterMap->S9,filterMap_map->S_,zip_cons_cons->Ta,contains_cons->Tb,filter_append->Tc,getElem?_set->Td,lookup_cons->Te,drop_length->Tf
open Nat renaming le_refl->bP,ne_of_lt->eM,zero_le->eu,lt_of_lt_of_le->mI,le_trans->kg,le_of_lt->ll,lt_irrefl->rV,lt_succ_of_lt->zS,pow_succ->xS,le_of_not_lt->Kj,not_lt_zero->DV,lt_succ_of_le->FG,add_sub_of_le->Kk,mul_assoc->FH,one_pos->DZ,zero_add->FI,add_zero->FK,lt_of_succ_lt->Tg,le_of_lt_succ->QJ,sub_lt->D1,ne_of_gt->Kx,add_comm->KG,sub_self->KL,mod_lt->FL,lt_of_le_of_lt->xcr,lt_trans->Ti,mul_comm->QK,succ_pos->QL
open PySem.Heap renaming get?_push_of_some->fe,lt_size->dk,get?_push_size->jv,get?_update_self->BQ,get?_update_other->KP,get?_push_ne->QN,size_update->QQ
open Bool renaming false_eq_true->iL,false_ne_true->kA,and_eq_true->ly,eq_iff_iff->sP,not_eq_true'->Tj,not_true->QR
open Array renaming getElem?_toList->og,toList_push->oi,getElem?_eq_getElem->x3,length_toList->uk,getD_eq_getD_getElem?->BU,getElem?_eq_some_iff->FP,eq_empty_of_size_eq_zero->KS,getElem?_eq_none->FR,size_extract->D2,append_assoc->KW,getElem?_extract->QV,perm_iff_toList_perm->Tn,toList_inj->QX,toList_extract->To,append_empty->Tp
open Int renaming emod_lt_of_pos->oI,emod_nonneg->oj,toNat_of_nonneg->z5,le_trans->uS,le_refl->rX,le_of_lt->An,toNat_natCast->K0
open Option renaming map_some->K2,isSome_map->Tq
local macro_rules | `(command| def $i:declId $s:optDeclSig $v:declVal)=>`(command| noncomputable def $i:declId $s:optDeclSig $v:declVal)
local macro_rules | `(command| abbrev $i:declId $s:optDeclSig $v:declVal)=>`(command| noncomputable abbrev $i:declId $s:optDeclSig $v:declVal)
set_option compiler.extract_closed false
local macro_rules | `(tactic| walk_at "l") => `(tactic| first | lia | omega)
local macro_rules | `(tactic| walk_at "s1") => `(tactic| solve_by_elim (maxDepth := 4) [Nat.lt_of_lt_of_le, Nat.lt_of_le_of_lt, Nat.le_trans, Nat.lt_trans, Nat.le_of_lt, Nat.le_of_not_lt])
local macro_rules | `(tactic| walk_at "s2") => `(tactic| solve_by_elim (maxDepth := 5) [Nat.lt_of_lt_of_le, Nat.lt_of_le_of_lt, Nat.le_trans, Nat.le_of_lt, Nat.le_of_not_lt, Nat.lt_of_not_le, Nat.lt_of_succ_lt, Nat.le_of_succ_le])
local macro_rules | `(tactic| walk_at "s3") => `(tactic| solve_by_elim (maxDepth := 5) [Int.lt_of_lt_of_le, Int.lt_of_le_of_lt, Int.le_trans, Int.le_of_lt, Int.not_lt.mp, Int.not_le.mp])
local macro_rules | `(tactic| walk_at "s4") => `(tactic| solve_by_elim (maxDepth := 5) [Nat.le_trans, Nat.lt_of_lt_of_le, Nat.le_of_lt, Nat.le_add_right, Nat.le_add_left, Nat.add_le_add_left, Nat.add_lt_add_left, Nat.succ_le_succ, Nat.sub_le])
theorem L2.fw{α β:Type _}{A B C:α->β->Prop}{G:Prop}(x:∃ a b,A a b/\B a b/\C a b)(k:∀ a b,A a b->B a b->C a b->G):G :=
 let ⟨a,b,p,q,r⟩:=x
 k a b p q r
set_option Elab.async false
set_option linter.all false
set_option maxRecDepth 100000
namespace L2
open PySem PySem.Spec PyProof.Rows
abbrev Key:=Sum Int Str
def D3:Key->Value->Bool
 |.inl k,v=>Value.isInt k v
 |.inr x,v=>Value.isStrOf x v
def bT'(w:World):Key->Int
 |.inl k=>hashInt k
 |.inr x=>hashStr w x
theorem x5:∀ {k:Key} {v:Value},D3 k v=true->(∃ i t,k=Sum.inl i/\v=Value.int i t)\/(∃ x t,k=Sum.inr x/\v=Value.str x t)
 |.inl i,v,h=>by
  obtain⟨t,e⟩:=Value.isInt_shape (k:=i) (v:=v) h
  exact .inl ⟨i,t,rfl,e⟩
 |.inr x,v,h=>by
  obtain⟨t,e⟩:=Value.isStrOf_shape (x:=x) (v:=v) h
  exact .inr ⟨x,t,rfl,e⟩
theorem XS(i:Int)(t:Tok):D3 (.inl i) (.int i t)=true:=by simp[D3,Value.isInt]
theorem XX(x:Str)(t:Tok):D3 (.inr x) (.str x t)=true:=by simp[D3,Value.isStrOf]
theorem X3(a b:Int):decide ((Sum.inl a:Key)=Sum.inl b)=(a == b):=by
 by_cases e:a=b
 ·subst e;simp
 ·have h:¬ (Sum.inl a:Key)=Sum.inl b:=fun q=>e (Sum.inl.inj q)
  rw[decide_eq_false h]
  exact(beq_eq_false_iff_ne.mpr e).symm
theorem X4(a b:Str):decide ((Sum.inr a:Key)=Sum.inr b)=decide (a=b):=by
 by_cases e:a=b
 ·subst e;simp
 ·have h:¬ (Sum.inr a:Key)=Sum.inr b:=fun q=>e (Sum.inr.inj q)
  rw[decide_eq_false h,decide_eq_false e]
theorem bU'(a:Int)(b:Str):decide ((Sum.inl a:Key)=Sum.inr b)=false:=decide_eq_false (fun q=>nomatch q)
theorem bV'(a:Str)(b:Int):decide ((Sum.inr a:Key)=Sum.inl b)=false:=decide_eq_false (fun q=>nomatch q)
def kR(prog:Program)(w:World):PySem.KeyKind prog w Key where
 is:=D3
 hash:=bT' w
 inj:=fun v a b ha hb=>by
  rcases x5 ha with⟨i,t,rfl,rfl⟩|⟨x,t,rfl,rfl⟩
  ·rcases x5 hb with⟨j,u,rfl,e⟩|⟨y,u,rfl,e⟩
   ·injection e with e1 _;rw[e1]
   ·exact nomatch e
  ·rcases x5 hb with⟨j,u,rfl,e⟩|⟨y,u,rfl,e⟩
   ·exact nomatch e
   ·injection e with e1 _;rw[e1]
 byValue:=fun k v h=>by
  rcases x5 h with⟨i,t,rfl,rfl⟩|⟨x,t,rfl,rfl⟩<;>rfl
 pyHash:=fun hv h=>by
  rcases x5 hv with⟨i,t,rfl,rfl⟩|⟨x,t,rfl,rfl⟩
  ·exact wpAny_pyHash_int h
  ·exact wpAny_pyHash_str h
 eqBool:=fun hu hv h=>by
  rcases x5 hu with⟨i,t,rfl,rfl⟩|⟨x,t,rfl,rfl⟩
  ·rcases x5 hv with⟨j,u,rfl,rfl⟩|⟨y,u,rfl,rfl⟩
   ·rw[X3] at h;exact wpAny_eqBool_int h
   ·rw[bU'] at h;exact SeqAt.EqAt.int_str i t y u _ _ _ _ h
  ·rcases x5 hv with⟨j,u,rfl,rfl⟩|⟨y,u,rfl,rfl⟩
   ·rw[bV'] at h;exact SeqAt.EqAt.str_int x t j u _ _ _ _ h
   ·rw[X4] at h;exact wpAny_eqBool_str h
 «strs» := fun k x t v h=>by
  rcases x5 h with⟨i,u,rfl,e⟩|⟨y,u,rfl,e⟩
  ·exact nomatch e
  ·injection e with e1 _
   subst e1
   cases v<;>rfl
theorem bW'(prog:Program)(w:World)(k:Key)(v:Value):(kR prog w).is k v=D3 k v:=rfl
theorem bX'(prog:Program)(w:World)(i:Int)(t:Tok):(kR prog w).is (.inl i) (.int i t)=true:=XS i t
theorem bY'(prog:Program)(w:World)(x:Str)(t:Tok):(kR prog w).is (.inr x) (.str x t)=true:=XX x t
inductive V where
 |non|bl (b:Bool)|int (i:Int)|str (x:Str)|qS (b:Array UInt8)|Ap (b:UInt64)|ref (a:Addr)|ty (n:String)
 deriving DecidableEq
def RelV:V->Value->Prop
 |.non,u=>u=Value.none
 |.bl b,u=>u=Value.bool b
 |.int i,u=>∃ t,u=Value.int i t
 |.str x,u=>∃ t,u=Value.str x t
 |.qS b,u=>∃ t,u=Value.bytes b t
 |.Ap b,u=>∃ t,u=Value.float b t
 |.ref a,u=>u=Value.ref a
 |.ty n,u=>u=Value.type n
abbrev Vals:List V->List Value->Prop:=Paired RelV
theorem Vals.length(r:Vals xs us):xs.length=us.length:=Paired.length r
theorem Vals.get:∀ {xs:List V} {us:List Value} {i:Nat} {x:V},Vals xs us->xs[i]? = some x->∃ u,us[i]? = some u/\RelV x u
 |_,_,_,_,.nil,e=>by simp at e
 |_,_,0,_,.cons r _,e=>by simp at e;subst e;exact⟨_,rfl,r⟩
 |_,_,i+1,x,.cons _ t,e=>by
  obtain⟨u,h1,h2⟩:=Vals.get (i:=i) (x:=x) t (by simpa using e)
  exact⟨u,by simpa using h1,h2⟩
theorem Vals.append:∀ {xs ys:List V} {us ws:List Value},Vals xs us->Vals ys ws->Vals (xs++ys) (us++ws)
 |_,_,_,_,.nil,s=>s
 |_,_,_,_,.cons r t,s=>.cons r (Vals.append t s)
theorem Vals.take:∀ {xs:List V} {us:List Value} (n:Nat),Vals xs us->Vals (xs.take n) (us.take n)
 |_,_,0,_=>.nil
 |_,_,_+1,.nil=>.nil
 |_,_,n+1,.cons r t=>.cons r (Vals.take n t)
theorem Vals.drop:∀ {xs:List V} {us:List Value} (n:Nat),Vals xs us->Vals (xs.drop n) (us.drop n)
 |_,_,0,r=>r
 |_,_,_+1,.nil=>.nil
 |_,_,n+1,.cons _ t=>Vals.drop n t
def sQ:Option V->Option Value->Prop
 |some v,some u=>RelV v u
 |none,none=>True
 |_,_=>False
def KV{κ:Type}:List (κ × V)->List (κ × Value)->Prop:=Paired fun(p:κ × V) (q:κ × Value)=>p.1=q.1/\RelV p.2 q.2
def kV:Key->V
 |.inl i=>.int i
 |.inr x=>.str x
inductive HO where
 /-- a list -/
 |lst (xs:List V)
 /-- a tuple (never changes) -/
 |tup (xs:List V)
 /-- a dict whose keys are ints and texts;one whose keys are tuples of ints and texts (the empty one is both) -/
 |dK (kvs:List (Key × V))|dT (kvs:List (List Key × V))
 /-- a set of ints: its members,its size -/
 |set (S:Int->Bool) (n:Nat)
 /-- an instance of the class at C,its dict at dx,its attributes -/
 |ins (C dx:Addr) (fs:List (Str × V))
 /-- the dict of the instance at x -/
 |own (x:Addr)
 /-- the dict of an exception -/
 |xd (fs:List (Str × V))
 /-- a bound method,f of x -/
 |met (f x:Addr)
 /-- a range object lo,lo+1,.. below hi -/
 |QY (lo hi:Int)
 /-- a thing that is known to the object (the script;a dict while a loop walks it): read,never written while it is so -/
 |mM (o:Obj) (u:HO)
 /-- a code object's table -/
 |B1 (ps:Array Value)
 /-- any other thing,by what is true of its one object (a def of lh' own: li' a S n:=HO.ext fun h=>..) -/
 |ext (φ:Heap->Prop)
abbrev Hp:=Addr->Option HO
def upd(H:Hp)(a:Addr)(o:HO):Hp:=fun b=>if b=a then some o else H b
theorem iN:upd H a o a=some o:=by unfold upd;rw[if_pos rfl]
theorem fh(h:b≠a):upd H a o b=H b:=by unfold upd;rw[if_neg h]
theorem bZ'{H:Hp}{a b:Addr}{o u:HO}(h:H a=some o)(h':H b=some u)(d:o≠u):a≠b:=by
 intro e;subst e;rw[h] at h';exact d (Option.some.inj h')
theorem vT{H:Hp}{a b:Addr}{o:HO}(h:H a=some o)(h':H b=none):a≠b:=by
 intro e;subst e;rw[h] at h';cases h'
section
variable (P:Program)(w:World)
def fI(H:Hp)(h:Heap)(a:Addr):HO->Prop
 |.lst xs=>xs.length<=sizeLine/\∃ (its:List Value) (n:Nat),Vals xs its/\h.get? a=some { cls:=.type "list",data:=.seq its.toArray n }
 |.tup xs=>xs.length<=sizeLine/\∃ its:List Value,Vals xs its/\IsTup h a its.toArray
 |.dK kvs=>kvs.length<=sizeLine/\(a == sysModules)=false/\∃ vs,KV kvs vs/\h.DictOf (kR P w) a vs
 |.dT kvs=>kvs.length<=sizeLine/\(a == sysModules)=false/\∃ xs:List (List Key × Addr × Value),
   Paired (fun(p:List Key × V) (q:List Key × Addr × Value)=>p.1=q.1/\H q.2.1=some (.tup (p.1.map kV))/\RelV p.2 q.2.2) kvs xs /\
   ∃ o es ep,h.get? a=some o/\o.ExactDict/\o.data=.dict es ep/\es.toList=xs.map (entryOfKey (tupleKind (kR P w)))/\(xs.map (·.1)).Nodup
 |.set S n=>h.SetOf (intKind P w) a S n
 |.ins C dx fs=>H dx=some (.own a)/\fs.length<=1000/\dx≠a/\h.get? a=some (PySem.W.instObj C dx) /\
   ∃ mA,h.Ns1 dx mA/\(∀ f,sQ (fs.lookup f) (mA f))/\PySem.Within mA (fs.map (·.1))
 |.own _=>∃ o,h.get? a=some o
 |.xd fs=>∃ mA,h.Ns1 a mA/\∀ f,sQ (fs.lookup f) (mA f)
 |.QY lo hi=>∃ t u v,h.get? a=some { cls:=.type "range",data:=.fields #[.int lo t,.int hi u,.int 1 v] }
 |.mM o u=>h.get? a=some o/\fI H h a u
 |.B1 ps=>h.get? a=some { cls:=.none,data:=.fields ps }
 |.met f x=>h.get? a=some (PySem.W.methodObj (.ref f) (.ref x))
 |.ext φ=>φ h/\(∃ o,h.get? a=some o)/\∀ h1 h2:Heap,φ h1->(∀ o,h1.get? a=some o->h2.get? a=some o)->φ h2
def gy(H:Hp)(h:Heap):Prop:=∀ a o,H a=some o->fI P w H h a o
end
section
variable {P:Program}{w:World}{H H':Hp}{h h':Heap}{a:Addr}{o:HO}
theorem fI.lt(x:fI P w H h a o):a<h.objs.size:=by
 cases o with
 |lst xs=>obtain⟨_,_,_,_,e⟩:=x;exact dk e
 |tup xs=>obtain⟨_,_,_,p⟩:=x;exact p.lt
 |dK kvs=>obtain⟨_,_,_,_,o,_,_,e,_⟩:=x;exact dk e
 |dT kvs=>obtain⟨_,_,_,_,o,_,_,e,_⟩:=x;exact dk e
 |set S n=>obtain⟨o,_,_,_,e,_⟩:=x;exact dk e
 |ins C dx fs=>obtain⟨_,_,_,e,_⟩:=x;exact dk e
 |own y=>obtain⟨_,e⟩:=x;exact dk e
 |xd fs=>obtain⟨_,⟨_,_,_,e,_⟩,_⟩:=x;exact dk e
 |QY lo hi=>obtain⟨_,_,_,e⟩:=x;exact dk e
 |mM ob u=>obtain⟨e,_⟩:=x;exact dk e
 |B1 ps=>exact dk (show h.get? a=some _ from x)
 |met f y=>exact dk (show h.get? a=some _ from x)
 |ext φ=>obtain⟨_,⟨_,e⟩,_⟩:=x;exact dk e
theorem Paired.Ts{α β:Type}{F G:α->β->Prop}:∀ {X5:List α} {X6:List β},Paired F X5 X6->(∀ a b,F a b->G a b)->Paired G X5 X6
 |_,_,.nil,_=>.nil
 |_,_,.cons r t,f=>.cons (f _ _ r) (Paired.Ts t f)
theorem fI.gi(x:fI P w H h a o)(k:∀ b u,(b=a\/H b=some (.own a))->h.get? b=some u->h'.get? b=some u)
  (ho:∀ b,H b=some (.own a)->H' b=some (.own a)) (ht:∀ b xs,H b=some (.tup xs)->H' b=some (.tup xs)):fI P w H' h' a o:=by
 induction o with
 |lst xs=>obtain⟨z,its,n,r,e⟩:=x;exact⟨z,its,n,r,k _ _ (.inl rfl) e⟩
 |tup xs=>obtain⟨z,its,r,ob,e,c⟩:=x;exact⟨z,its,r,ob,k _ _ (.inl rfl) e,c⟩
 |dK kvs=>obtain⟨z,y,vs,r,ob,es,ep,e,c⟩:=x;exact⟨z,y,vs,r,ob,es,ep,k _ _ (.inl rfl) e,c⟩
 |dT kvs =>
  obtain⟨z,y,xs,r,ob,es,ep,e,c⟩:=x
  exact⟨z,y,xs,Paired.Ts r fun p q z=>⟨z.1,ht _ _ z.2.1,z.2.2⟩,ob,es,ep,k _ _ (.inl rfl) e,c⟩
 |set S n=>obtain⟨ob,es,ep,t,e,c⟩:=x;exact⟨ob,es,ep,t,k _ _ (.inl rfl) e,c⟩
 |ins C dx fs =>
  obtain⟨d,z,ne,e,mA,⟨od,es,ep,e2,c⟩,r⟩:=x
  exact⟨ho _ d,z,ne,k _ _ (.inl rfl) e,mA,⟨od,es,ep,k _ _ (.inr d) e2,c⟩,r⟩
 |own y=>obtain⟨ob,e⟩:=x;exact⟨ob,k _ _ (.inl rfl) e⟩
 |xd fs=>obtain⟨mA,⟨od,es,ep,e,c⟩,r⟩:=x;exact⟨mA,⟨od,es,ep,k _ _ (.inl rfl) e,c⟩,r⟩
 |QY lo hi=>obtain⟨t,u,v,e⟩:=x;exact⟨t,u,v,k _ _ (.inl rfl) e⟩
 |mM ob u ih=>obtain⟨e,q⟩:=x;exact⟨k _ _ (.inl rfl) e,ih q⟩
 |B1 ps =>
  have e:h.get? a=some { cls:=.none,data:=.fields ps }:=x
  show h'.get? a=some { cls:=.none,data:=.fields ps }
  exact k a _ (.inl rfl) e
 |met f y =>
  have e:h.get? a=some (PySem.W.methodObj (.ref f) (.ref y)):=x
  show h'.get? a=some (PySem.W.methodObj (.ref f) (.ref y))
  exact k a _ (.inl rfl) e
 |ext φ=>obtain⟨p,⟨o,e⟩,st⟩:=x;exact⟨st _ _ p fun o q=>k _ _ (.inl rfl) q,⟨o,k _ _ (.inl rfl) e⟩,st⟩
theorem gy.lt(x:gy P w H h)(e:H a=some o):a<h.objs.size:=(x a o e).lt
theorem gy.fresh(x:gy P w H h)(e:h.objs.size<=a):H a=none:=by
 cases q:H a with
 |none=>rfl
 |some u=>exact absurd (mI (x.lt q) e) (rV _)
theorem gy.kept(x:gy P w H h)(k:∀ b u,h.get? b=some u->h'.get? b=some u):gy P w H h':=fun a o e =>
 (x a o e).gi (fun b u _ q=>k b u q) (fun _ q=>q) fun _ _ q=>q
theorem gy.laid(x:gy P w H h)(k:∀ b u,h.get? b=some u->h'.get? b=some u)(hp:h.objs.size<=a)(new:fI P w (upd H a o) h' a o):gy P w (upd H a o) h':=fun b u e=>by
 have hn:=x.fresh hp
 by_cases hb:b=a
 ·subst hb;rw[iN] at e;cases e;exact new
 ·rw[fh hb] at e
  exact(x b u e).gi (fun c v _ q=>k c v q) (fun c q=>by rw[fh (vT q hn)];exact q) fun c xs q=>by rw[fh (vT q hn)];exact q
end
def Rd(H:Hp)(a:Addr)(u:HO):Prop:=H a=some u\/∃ o,H a=some (.mM o u)
theorem Rd.ok{P:Program}(r:Rd H a u)(x:gy P w H h):fI P w H h a u:=by
 rcases r with r|⟨o,r⟩
 ·exact x a u r
 ·obtain⟨_,q⟩:=x a _ r
  exact q
def Lc:Option HO->Prop
 |some (.lst _)=>True
 |some (.dK _)=>True
 |some (.dT _)=>True
 |some (.set _ _)=>True
 |some (.ins _ _ _)=>True
 |some (.ext _)=>True
 |_=>False
section
variable {P:Program}{w:World}{H:Hp}{h h':Heap}{x e:Addr}{o':HO}
theorem gy.write(ok:gy P w H h)(mu:Lc (H x))(he:e=x\/H e=some (.own x))(k:∀ b u,b≠e->h.get? b=some u->h'.get? b=some u)(FT:∃ u,h'.get? e=some u)
  (new:fI P w (upd H x o') h' x o'):gy P w (upd H x o') h':=fun b u q=>by
 have X7:∀ c y,H c=some (.own y)->c≠x:=fun c y r z=>by subst z;rw[r] at mu;exact mu
 have ca':∀ c xs,H c=some (.tup xs)->c≠x:=fun c xs r z=>by subst z;rw[r] at mu;exact mu
 by_cases hb:b=x
 ·subst hb;rw[iN] at q;cases q;exact new
 ·rw[fh hb] at q
  by_cases D4:b=e
  ·have q':H b=some (.own x):=by
    rcases he with z|z
    ·exact absurd (D4.trans z) hb
    ·rw[D4];exact z
   rw[q] at q';cases q'
   obtain⟨v,hv⟩:=FT
   exact⟨v,by rw[D4];exact hv⟩
  ·refine(ok b u q).gi (fun c v hc r=>k c v ?_ r) (fun c r=>by rw[fh (X7 c b r)];exact r) fun c xs r=>by rw[fh (ca' c xs r)];exact r
   rcases hc with rfl|hc
   ·exact D4
   ·rintro rfl
    rcases he with z|z
    ·exact X7 c b hc z
    ·rw[hc] at z;cases z;exact hb rfl
end
structure Un(fs ex:List Addr)(H H':Hp)(h h':Heap):Prop where
 keep:∀ b o,h.get? b=some o->H b=none->b∉fs->b∉ex->h'.get? b=some o
 slot:∀ b o,h.get? b=some o->H b=none->b∈fs->b∉ex->∃ sl,h'.get? b=some { o with slots:=sl }
 free:∀ b o,h.get? b=some o->H b=none->b∉ex->H' b=none
 there:∀ b o,h.get? b=some o->b∉ex->∃ o',h'.get? b=some o'
 kB:∀ b xs,H b=some (.tup xs)->H' b=some (.tup xs)
 sd:∀ b o u,H b=some (.mM o u)->H' b=some (.mM o u)
 sR:∀ b ps,H b=some (.B1 ps)->∃ more,H' b=some (.B1 (ps++more))
section
variable {fs ex:List Addr}{H H1:Hp}{h h1 h':Heap}{a x e:Addr}{o:HO}
theorem Un.any(u:Un fs ex H H1 h h1)(q:h.get? b=some ob)(n:H b=none)(hx:b∉ex):∃ sl,h1.get? b=some { ob with slots:=sl }:=by
 by_cases hb:b∈fs
 ·exact u.slot b ob q n hb hx
 ·exact⟨ob.slots,u.keep b ob q n hb hx⟩
theorem Un.kept(k:∀ b u,h.get? b=some u->h'.get? b=some u):Un fs ex H H h h' :=
 ⟨fun b ob q _ _ _=>k b ob q,fun b ob q _ _ _=>⟨ob.slots,k b ob q⟩,fun _ _ _ n _=>n,fun b ob q _=>⟨ob,k b ob q⟩,fun _ _ q=>q,fun _ _ _ q=>q,fun _ ps q=>⟨#[],by rw[q];simp⟩⟩
theorem Un.refl:Un fs ex H H h h:=Un.kept fun _ _ q=>q
theorem Un.laid(k:∀ b u,h.get? b=some u->h'.get? b=some u)(hp:h.objs.size<=a)(hn:H a=none):Un fs ex H (upd H a o) h h' where
 keep:=fun b u q _ _ _=>k b u q
 slot:=fun b u q _ _ _=>⟨u.slots,k b u q⟩
 free:=fun b u q n _=>by rw[fh (eM (mI (dk q) hp))];exact n
 there:=fun b u q _=>⟨u,k b u q⟩
 kB:=fun b xs q=>by rw[fh (vT q hn)];exact q
 sd:=fun b u xs q=>by rw[fh (vT q hn)];exact q
 sR:=fun b ps q=>⟨#[],by rw[fh (vT q hn),q];simp⟩
theorem Un.write(mu:Lc (H x))(he:e=x\/H e=some (.own x))(k:∀ b u,b≠e->h.get? b=some u->h'.get? b=some u)(FT:∃ u,h'.get? e=some u):Un fs ex H (upd H x o) h h':=by
 have hx:∀ b,H b=none->b≠x:=fun b n z=>by subst z;rw[n] at mu;exact mu
 have hb:∀ b,H b=none->b≠e:=fun b n z=>by
  subst z
  rcases he with r|r
  ·exact hx b n r
  ·rw[n] at r;cases r
 have hm:∀ b u,H b=some u->¬ Lc (some u)->b≠x:=fun b u q nm z=>by subst z;rw[q] at mu;exact nm mu
 refine⟨fun b u q n _ _=>k b u (hb b n) q,fun b u q n _ _=>⟨u.slots,k b u (hb b n) q⟩,fun b u q n _=>by rw[fh (hx b n)];exact n,fun b u q _=>?_,
  fun b xs q=>by rw[fh (hm b _ q fun z=>z)];exact q,fun b u xs q=>by rw[fh (hm b _ q fun z=>z)];exact q,fun b ps q=>⟨#[],by rw[fh (hm b _ q fun z=>z),q];simp⟩⟩
 by_cases D4:b=e
 ·subst D4;exact FT
 ·exact⟨u,k b u D4 q⟩
end
def QZ(h:Heap)(H:Hp):List Addr:=(List.range h.objs.size).filter fun a=>(H a).isSome
def Au(h:Heap)(H:Hp):Heap:=PySem.W.hideAll h (QZ h H)
theorem cb'(h:Heap)(H:Hp):(Au h H).objs.size=h.objs.size:=PySem.W.hideAll_size _ _
theorem cc'(e:h.get? b=some o)(n:H b=none):(Au h H).get? b=some o :=
 PySem.W.hideAll_get _ e fun hm=>by
  have q:(H b).isSome=true:=(xI.mp hm).2
  rw[n] at q;simp at q
theorem cd'(e:(Au h H).get? b=some o):h.get? b=some o/\H b=none:=by
 have e':h.get? b=some o:=PySem.W.of_hideAll (QZ h H) e
 refine⟨e',?_⟩
 cases q:H b with
 |none=>rfl
 |some x =>
  have hm:b∈QZ h H:=xI.mpr ⟨nI.mpr (dk e'),by simp[q]⟩
  have z:(Au h H).get? b=none:=PySem.W.hideAll_none (QZ h H) hm
  rw[z] at e;cases e
def ce'(g h:Heap)(L:Addr):List (Addr × Obj):=(List.range h.objs.size).filterMap fun a=>if a=L\/(g.get? a).isSome=true then none else (h.get? a).map fun o=>(a,o)
def rest(g h:Heap)(L d:Addr):List (Addr × Obj):=(ce' g h L).filter fun p=>decide (p.1≠d)
structure Mod(K:PySem.W.Frag)(mg:Str->Option Value)(base:Heap):Prop where
 Q0:K.In base
 glob:base.Ns mainGlobals mg
 blt:∃ mb,base.Ns builtinsNs mb/\∀ x:Str,x ≠ "__name__"->mb x=bootBuiltins x
 nolimit:base.NoLimit
structure Cx where
 prog:Program
 w:World
 K:PySem.W.Frag
 mg:Str->Option Value
 base:Heap
 A:Around
 N:List Str
 eP:Shared
 wa:Hp
 env:Env
 outer:List Env
 stack:List Env
 ex:List Addr
 fn:Str->Bool
 calm:Bool
 pn:List (Addr × Obj)
 xe:Value->Shared->Prop
def fz(l:List Env):List Addr:=l.filterMap (·.frame)
abbrev Cx.fs(X:Cx):List Addr:=fz X.outer
def Lv(sc:Scope)(x:Str):Prop:=sc.names.lookup x=some .local\/sc.names.lookup x=some .cell\/sc.names.lookup x=some .free
def Loc(sc:Scope)(x:Str):Prop:=sc.names.lookup x=some .local\/sc.names.lookup x=some .cell
def Look(env:Env)(h:Heap)(m:Str->Option Value)(x:Str)(u:Value):Prop :=
 (env.kindOf x=some .local/\m x=some u)\/((env.kindOf x=some .cell\/env.kindOf x=some .free)/\∃ c,env.cells.lookup x=some c/\h.IsCell c (some u))
structure Cx.Ok(X:Cx):Prop where
 mod:Mod X.K X.mg X.base
 kind:X.env.scope.kind=.function
 glob:X.env.globals=mainGlobals
 blt:X.env.builtins=builtinsNs
 above:X.eP.heap.objs.size<=X.env.locals
 inj:∀ x y c,X.env.cells.lookup x=some c->X.env.cells.lookup y=some c->x=y
 has:∀ x,(X.env.kindOf x=some .cell\/X.env.kindOf x=some .free)->∃ c,X.env.cells.lookup x=some c
 x6:∀ x c,X.fn x=true->X.env.cells.lookup x=some c->X.eP.heap.objs.size<=c
 hd:X.calm=true->X.A.handled=none
 frames:X.A.frames=some X.stack
 AA:X.stack=X.outer\/(X.stack=X.env :: X.outer/\X.env.frame=some X.env.locals)
 AB:∀ b∈X.ex,b≠X.env.locals/\∀ x c,X.env.cells.lookup x=some c->c≠b
 bs:∀ b o,X.base.get? b=some o->X.eP.heap.get? b=some o/\X.wa b=none
 sT:X.base.objs.size<=X.eP.heap.objs.size
 x8:∀ b o,X.base.get? b=some o->b∉X.ex
 ya:∀ b∈X.ex,b∉X.fs
 pV:X.eP.heap.FunFrames X.base X.outer
 wc:∀ b∈X.fs,X.wa b=none
structure Inv(X:Cx)(pins:List (Addr × Obj))(σ:List (Option V))(H:Hp)(s:Shared):Prop where
 ok:X.Ok
 os:s.os=X.eP.os
 bare:AllBare s.gens
 base:Un X.fs X.ex X.wa H X.eP.heap s.heap
 loc:∃ m,s.heap.Ns X.env.locals m/\∀ (i:Nat) (x:Str) (v:V),X.N[i]? = some x->σ[i]? = some (some v)->Lv X.env.scope x->∃ u,RelV v u/\Look X.env s.heap m x u
 cell:∀ x c,X.env.cells.lookup x=some c->∃ v,s.heap.IsCell c v
 free:H X.env.locals=none
 om:∀ x c,X.env.cells.lookup x=some c->H c=none
 pin:∀ p∈X.pn++pins,s.heap.get? p.1=some p.2/\H p.1=none/\p.1≠X.env.locals/\p.1∉X.fs/\∀ v,p.2.data≠.cell v
 aI:gy X.prog X.w H s.heap
 len:σ.length=X.N.length
section
variable {X:Cx}{pins:List (Addr × Obj)}{σ:List (Option V)}{H H':Hp}{s:Shared}{h':Heap}
theorem Cx.Ok.cf'(ok:X.Ok)(e:X.base.get? b=some o):b∉X.fs:=fun hb=>by
 have:=(ok.pV.mem hb).1
 rw[e] at this;cases this
theorem Inv.bs(I:Inv X pins σ H s):∀ b o,X.base.get? b=some o->s.heap.get? b=some o/\H b=none:=fun b o e =>
 ⟨I.base.keep b o (I.ok.bs b o e).1 (I.ok.bs b o e).2 (I.ok.cf' e) (I.ok.x8 b o e),I.base.free b o (I.ok.bs b o e).1 (I.ok.bs b o e).2 (I.ok.x8 b o e)⟩
theorem Inv.bk(I:Inv X pins σ H s):∀ b o,X.base.get? b=some o->s.heap.get? b=some o:=fun b o e=>(I.bs b o e).1
theorem Inv.mod(I:Inv X pins σ H s):Mod X.K X.mg X.base:=I.ok.mod
theorem Inv.i9(I:Inv X pins σ H s):X.K.In s.heap:=I.ok.mod.Q0.keeps I.bk
theorem Inv.lt(I:Inv X pins σ H s):X.env.locals<s.heap.objs.size:=let ⟨_,hn,_⟩:=I.loc;hn.lt
theorem Inv.sz(I:Inv X pins σ H s):X.eP.heap.objs.size<=s.heap.objs.size:=kg I.ok.above (ll I.lt)
theorem Inv.cg'(I:Inv X pins σ H s)(h:s.heap.objs.size<=a):a∉X.fs:=fun hb=>by
 obtain⟨_,o,ho,_⟩:=I.ok.pV.mem hb
 exact absurd (mI (dk ho) (kg I.sz h)) (rV _)
theorem Inv.AF(I:Inv X pins σ H s):∀ x c,X.env.cells.lookup x=some c->c≠X.env.locals:=fun x c e z=>by
 obtain⟨v,o,ho,hd⟩:=I.cell x c e
 obtain⟨m,⟨o',es,ep,kL,hd',_⟩,_⟩:=I.loc
 rw[z,kL] at ho;cases ho;rw[hd'] at hd;cases hd
theorem Inv.pV(I:Inv X pins σ H s):s.heap.FunFrames X.base X.outer:=by
 have all:∀ (l:List Env),(∀ b∈fz l,b∈X.fs)->X.eP.heap.FunFrames X.base l->s.heap.FunFrames X.base l:=by
  intro l
  induction l with
  |nil=>intro _ _;trivial
  |cons env r ih =>
   intro hs hl
   obtain⟨hk,⟨L,o,hf,hn,ho,hd⟩,hr⟩:=hl
   have hL:L∈X.fs:=hs L (by unfold fz;rw[xD,hf];exact dQ)
   obtain⟨sl,e⟩:=I.base.slot L o ho (I.ok.wc L hL) hL fun z=>I.ok.ya L z hL
   exact⟨hk,⟨L,_,hf,hn,e,hd⟩,ih (fun b hb=>hs b (by unfold fz;rw[xD,hf];exact dz _ hb)) hr⟩
 exact all X.outer (fun _ hb=>hb) I.ok.pV
theorem Inv.stack(I:Inv X pins σ H s):s.heap.FunFrames X.base X.stack:=by
 rcases I.ok.AA with e|⟨e,hf⟩
 ·rw[e];exact I.pV
 ·rw[e]
  obtain⟨m,hn,_⟩:=I.loc
  refine .cons (by rw[I.ok.kind];decide) hf hn ?_ I.pV
  exact Heap.get?_none_of_le (kg I.ok.sT I.ok.above)
theorem Inv.Tt(I:Inv X pins σ H s):∀ b∈fz X.stack,b∈X.env.locals :: X.fs:=fun b hb=>by
 rcases I.ok.AA with e|⟨e,hf⟩
 ·rw[e] at hb;exact dz _ hb
 ·rw[e] at hb
  unfold fz at hb
  rw[xD,hf] at hb
  exact hb
theorem Inv.Tv(I:Inv X pins σ H s):∀ b∈fz X.stack,H b=none:=fun b hb=>by
 rcases dA.mp (I.Tt b hb) with e|hb
 ·rw[e];exact I.free
 ·obtain⟨_,o,ho,_⟩:=I.ok.pV.mem hb
  exact I.base.free b o ho (I.ok.wc b hb) fun z=>I.ok.ya b z hb
theorem Inv.step{g':Array GenState}{t':Nat}{d':Drawn}{ch:List Addr}(I:Inv X pins σ H s)
  (yb:∀ b∈ch,(b∈X.ex\/X.eP.heap.objs.size<=b)/\b≠X.env.locals/\(∀ x c,X.env.cells.lookup x=some c->c≠b)/\∀ p∈X.pn++pins,p.1≠b)
  (keep:∀ b o,b≠X.env.locals->b∉X.fs->b∉ch->s.heap.get? b=some o->H b=none->h'.get? b=some o)
  (slot:∀ b o,b≠X.env.locals->b∈X.fs->b∉ch->s.heap.get? b=some o->H b=none->∃ sl,h'.get? b=some { o with slots:=sl }) (free:∀ b o,b∉ch->s.heap.get? b=some o->H b=none->H' b=none)
  (there:∀ b o,b∉ch->s.heap.get? b=some o->∃ o',h'.get? b=some o')
  (kB:∀ b xs,H b=some (.tup xs)->H' b=some (.tup xs)) (sd:∀ b o u,H b=some (.mM o u)->H' b=some (.mM o u)) (sR:∀ b ps,H b=some (.B1 ps)->∃ more,H' b=some (.B1 (ps++more)))
  (ns:∀ m,s.heap.Ns X.env.locals m->h'.Ns X.env.locals m) (aI:gy X.prog X.w H' h') (hg:AllBare g') :
  Inv X pins σ H' { s with heap:=h',gens:=g',drawn:=d',toks:=t' }:=by
 have LB:∀ b o,X.eP.heap.get? b=some o->b≠X.env.locals:=fun b o e=>eM (mI (dk e) I.ok.above)
 have Q5:∀ b o,X.eP.heap.get? b=some o->b∉X.ex->b∉ch:=fun b o e hx hb=>by
  rcases (yb b hb).1 with z|z
  ·exact hx z
  ·exact absurd (mI (dk e) z) (rV _)
 have cellK:∀ x c,X.env.cells.lookup x=some c->∀ v,s.heap.IsCell c v->h'.IsCell c v:=fun x c e v da=>by
  obtain⟨o,ho,hd⟩:=da
  have LD:c∉ch:=fun z=>(yb c z).2.2.1 x c e rfl
  by_cases hc:c∈X.fs
  ·obtain⟨sl,q⟩:=slot c o (I.AF x c e) hc LD ho (I.om x c e)
   exact⟨_,q,hd⟩
  ·exact⟨o,keep c o (I.AF x c e) hc LD ho (I.om x c e),hd⟩
 refine⟨I.ok,I.os,hg,⟨fun b o e n hb hx=>?_,fun b o e n hb hx=>?_,fun b o e n hx=>?_,fun b o e hx=>?_,fun b xs e=>kB b xs (I.base.kB b xs e),fun b o xs e=>sd b o xs (I.base.sd b o xs e),fun b ps e=>?_⟩,?_,fun x c e=>?_,?_,fun x c e=>?_,fun p hp=>?_,aI,I.len⟩
 ·exact keep b o (LB b o e) hb (Q5 b o e hx) (I.base.keep b o e n hb hx) (I.base.free b o e n hx)
 ·obtain⟨sl,e1⟩:=I.base.slot b o e n hb hx
  obtain⟨sl',e2⟩:=slot b _ (LB b o e) hb (Q5 b o e hx) e1 (I.base.free b o e n hx)
  exact⟨sl',e2⟩
 ·obtain⟨o',e1⟩:=I.base.there b o e hx
  exact free b o' (Q5 b o e hx) e1 (I.base.free b o e n hx)
 ·obtain⟨o',e1⟩:=I.base.there b o e hx
  exact there b o' (Q5 b o e hx) e1
 ·obtain⟨m1,e1⟩:=I.base.sR b ps e
  obtain⟨m2,e2⟩:=sR b _ e1
  exact⟨m1++m2,by rw[e2,KW]⟩
 ·obtain⟨m,hn,hl⟩:=I.loc
  refine⟨m,ns m hn,fun i x v e1 e2 e3=>?_⟩
  obtain⟨u,r,l⟩:=hl i x v e1 e2 e3
  refine⟨u,r,?_⟩
  rcases l with l|⟨k,c,e,z⟩
  ·exact .inl l
  ·exact .inr ⟨k,c,e,cellK x c e _ z⟩
 ·obtain⟨v,z⟩:=I.cell x c e
  exact⟨v,cellK x c e v z⟩
 ·obtain⟨m,⟨o,_,_,ho,_⟩,_⟩:=I.loc
  exact free _ o (fun z=>(yb _ z).2.1 rfl) ho I.free
 ·obtain⟨v,o,ho,hd⟩:=I.cell x c e
  exact free c o (fun z=>(yb c z).2.2.1 x c e rfl) ho (I.om x c e)
 ·obtain⟨e,n,ne,nf,d⟩:=I.pin p hp
  have LD:p.1∉ch:=fun z=>(yb p.1 z).2.2.2 p hp rfl
  exact⟨keep p.1 p.2 ne nf LD e n,free p.1 p.2 LD e n,ne,nf,d⟩
theorem Inv.un{t':Nat}(I:Inv X pins σ H s)(u:Un X.fs [] H H' s.heap h')(aI:gy X.prog X.w H' h'):Inv X pins σ H' { s with heap:=h',toks:=t' }:=by
 obtain⟨m,⟨o,es,ep,ho,r⟩,_⟩:=id I.loc
 obtain⟨sl,hL⟩:=u.any ho I.free (by simp)
 exact I.step (g':=s.gens) (d':=s.drawn) (ch:=[]) (fun _ z=>nomatch z) (fun b o _ hb _ e n=>u.keep b o e n hb (by simp)) (fun b o _ hb _ e n=>u.slot b o e n hb (by simp)) (fun b o _ e n=>u.free b o e n (by simp)) (fun b o _ e=>u.there b o e (by simp)) u.kB u.sd u.sR (fun m' hm=>by
  obtain⟨o',Tw,LG,kL,r'⟩:=hm
  rw[ho] at kL;cases kL
  exact⟨_,Tw,LG,hL,r'⟩) aI I.bare
theorem Inv.call{g':Array GenState}{t':Nat}{d':Drawn}{ch:List Addr}(I:Inv X pins σ H s)(u:Un (fz X.stack) ch H H' s.heap h')(aI:gy X.prog X.w H' h')(hg:AllBare g')
  (yb:∀ b∈ch,(b∈X.ex\/X.eP.heap.objs.size<=b)/\b≠X.env.locals/\(∀ x c,X.env.cells.lookup x=some c->c≠b)/\∀ p∈X.pn++pins,p.1≠b) :
  Inv X pins σ H' { s with heap:=h',gens:=g',drawn:=d',toks:=t' }:=by
 obtain⟨m,⟨o,es,ep,ho,r⟩,_⟩:=id I.loc
 obtain⟨sl,hL⟩:=u.any ho I.free fun z=>(yb _ z).2.1 rfl
 exact I.step (ch:=ch) yb (fun b o hL hb hc e n=>u.keep b o e n (fun z=>(dA.mp (I.Tt b z)).elim hL hb) hc) (fun b o _ _ hc e n=>u.any e n hc) (fun b o hc e n=>u.free b o e n hc) (fun b o hc e=>u.there b o e hc) u.kB u.sd u.sR (fun m' hm=>by
  obtain⟨o',Tw,LG,kL,r'⟩:=hm
  rw[ho] at kL;cases kL
  exact⟨_,Tw,LG,hL,r'⟩) aI hg
theorem Inv.turned{t':Nat}{it:Addr}(I:Inv X pins σ H s)(k:∀ b o,b≠it->s.heap.get? b=some o->h'.get? b=some o)(hn:H it=none)(hL:it≠X.env.locals)
  (h1:it∈X.ex\/X.eP.heap.objs.size<=it) (h2:∀ x c,X.env.cells.lookup x=some c->c≠it) (h3:∀ p∈X.pn++pins,p.1≠it):Inv X pins σ H { s with heap:=h',toks:=t' }:=by
 have B3:∀ b u,H b=some u->b≠it:=fun b u e z=>by rw[z,hn] at e;cases e
 refine I.step (g':=s.gens) (d':=s.drawn) (ch:=[it]) (fun b hb=>?_) (fun b o _ _ hc e _=>k b o (fun z=>hc (by simp[z])) e) (fun b o _ _ hc e _=>⟨o.slots,k b o (fun z=>hc (by simp[z])) e⟩) (fun _ _ _ _ n=>n)
  (fun b o hc e=>⟨o,k b o (fun z=>hc (by simp[z])) e⟩) (fun _ _ e=>e) (fun _ _ _ e=>e) (fun b ps e=>⟨#[],by rw[e];simp⟩) (fun m hm=>?_) (fun b u e=>?_) I.bare
 ·have e:b=it:=by simpa using hb
  subst e
  exact⟨h1,hL,h2,h3⟩
 ·obtain⟨o,es,ep,ho,r⟩:=hm
  exact⟨o,es,ep,k _ o (Ne.symm hL) ho,r⟩
 ·refine(I.aI b u e).gi (fun c v hc q=>k c v ?_ q) (fun _ q=>q) fun _ _ q=>q
  rcases hc with z|z
  ·rw[z];exact B3 b u e
  ·exact B3 c _ z
theorem Inv.tok(I:Inv X pins σ H s)(t:Nat):Inv X pins σ H { s with toks:=t }:=I.un (h':=s.heap) (t':=t) Un.refl I.aI
theorem Inv.kept(I:Inv X pins σ H s)(k:∀ b u,s.heap.get? b=some u->h'.get? b=some u):Inv X pins σ H { s with heap:=h',toks:=t' }:=I.un (Un.kept k) (I.aI.kept k)
theorem Inv.laid(I:Inv X pins σ H s)(k:∀ b u,s.heap.get? b=some u->h'.get? b=some u)(hp:s.heap.objs.size<=a)(new:fI X.prog X.w (upd H a o) h' a o) :
  Inv X pins σ (upd H a o) { s with heap:=h',toks:=t' }:=I.un (Un.laid k hp (I.aI.fresh hp)) (I.aI.laid k hp new)
theorem Inv.write(I:Inv X pins σ H s)(mu:Lc (H x))(he:e=x\/H e=some (.own x))(k:∀ b u,b≠e->s.heap.get? b=some u->h'.get? b=some u)(FT:∃ u,h'.get? e=some u)
  (new:fI X.prog X.w (upd H x o) h' x o):Inv X pins σ (upd H x o) { s with heap:=h',toks:=t' }:=I.un (Un.write mu he k FT) (I.aI.write mu he k FT new)
theorem Inv.X8(I:Inv X pins σ H s)(h:∀ p∈nL,s.heap.get? p.1=some p.2/\H p.1=none/\p.1≠X.env.locals/\p.1∉X.fs/\∀ v,p.2.data≠.cell v):Inv X nL σ H s :=
 ⟨I.ok,I.os,I.bare,I.base,I.loc,I.cell,I.free,I.om,fun p hp=>(eJ.mp hp).elim (fun z=>I.pin p (kK _ z)) (h p),I.aI,I.len⟩
theorem X_{N:List Str}(hN:N.Nodup){i j:Nat}{x:Str}(a:N[i]? = some x)(b:N[j]? = some x):i=j:=by
 obtain⟨h1,e1⟩:=lh.mp a
 obtain⟨h2,e2⟩:=lh.mp b
 exact(List.getElem_inj hN).mp (e1.trans e2.symm)
theorem Tx{M:Model}{A:Around}{E:Value->Shared->Prop}{i:Nat}{x:Str}{v:V}{u:Value}{Q:Unit->Shared->Prop}(I:Inv X pins σ H s)(hN:X.N.Nodup)(hi:X.N[i]? = some x)(hx:Loc X.env.scope x)(r:RelV v u)
  (h:∀ s',Inv X pins (σ.set i (some v)) H s'->(∃ a,Heap.SameBut a s.heap s'.heap/\(a=X.env.locals\/X.env.cells.lookup x=some a))->Q () s') (hf:X.fn x=true\/X.env.scope.names.lookup x=some .local:=by first|exact .inl rfl|exact .inr rfl|assumption):wpAny M A (storeName X.env x u) Q E s:=by
 obtain⟨m,hn,hl⟩:=id I.loc
 have Tz:(X.env.scope.kind == .class || (X.env.scope.kind == .module && X.env.locals != X.env.globals))=false:=by rw[I.ok.kind];rfl
 have Ya:i<σ.length:=by rw[I.len];exact(lh.mp hi).1
 have AF:=I.AF
 have tracked:∀ {a:Addr} {h':Heap},(∃ o,s.heap.get? a=some o/\H a=none)->Heap.SameBut a s.heap h'->gy X.prog X.w H h':=fun {a h'} ha hs b ob e=>by
  obtain⟨_,_,Yb⟩:=ha
  refine(I.aI b ob e).gi (fun c w' hc q=>(hs.2 c ?_).trans q) (fun _ q=>q) fun _ _ q=>q
  rintro rfl
  rcases hc with rfl|hc
  ·rw[Yb] at e;cases e
  ·rw[Yb] at hc;cases hc
 rcases hx with hk|hk
 ·refine wpAny_storeName_local hk hn (fun h' FU hs=>?_) Tz
  obtain⟨oL,_,_,LH,_⟩:=id hn
  refine h _ ⟨I.ok,I.os,I.bare,⟨fun b o e n hb hx=>?_,fun b o e n hb hx=>?_,I.base.free,fun b o e hx=>?_,I.base.kB,I.base.sd,I.base.sR⟩,⟨_,FU,fun j y v' e1 e2 e3=>?_⟩,fun y c e=>?_,I.free,I.om,fun p hp=>?_,tracked ⟨oL,LH,I.free⟩ hs,by simpa using I.len⟩ ⟨_,hs,.inl rfl⟩
  ·exact(hs.2 b (eM (mI (dk e) I.ok.above))).trans (I.base.keep b o e n hb hx)
  ·obtain⟨sl,e1⟩:=I.base.slot b o e n hb hx
   exact⟨sl,(hs.2 b (eM (mI (dk e) I.ok.above))).trans e1⟩
  ·obtain⟨o',e1⟩:=I.base.there b o e hx
   exact⟨o',(hs.2 b (eM (mI (dk e) I.ok.above))).trans e1⟩
  ·by_cases hj:j=i
   ·subst hj
    rw[hi] at e1;cases e1
    rw[List.getElem?_set_self Ya] at e2
    cases e2
    exact⟨u,r,.inl ⟨hk,by simp⟩⟩
   ·rw[P8 (Ne.symm hj)] at e2
    obtain⟨u',r',q⟩:=hl j y v' e1 e2 e3
    refine⟨u',r',?_⟩
    rcases q with⟨k,e⟩|⟨k,c,e,z⟩
    ·refine .inl ⟨k,?_⟩
     have:y≠x:=fun e=>hj (X_ hN e1 (e ▸ hi))
     simp[this,e]
    ·exact .inr ⟨k,c,e,z.sameBut hs (AF y c e)⟩
  ·obtain⟨w',z⟩:=I.cell y c e
   exact⟨w',z.sameBut hs (AF y c e)⟩
  ·obtain⟨e,n,ne,nf,d⟩:=I.pin p hp
   exact⟨(hs.2 p.1 ne).trans e,n,ne,nf,d⟩
 ·have TB:X.fn x=true:=by
   rcases hf with z|z
   ·exact z
   ·rw[z] at hk;cases hk
  obtain⟨c,hc⟩:=I.ok.has x (.inl hk)
  obtain⟨w',z⟩:=I.cell x c hc
  refine wpAny_storeName_cell I.ok.kind hk hc z (fun h' D5 hs=>?_)
  obtain⟨oc,FV,cj'⟩:=id z
  refine h { s with heap:=h' } ⟨I.ok,I.os,I.bare,⟨fun b o e n hb hx=>?_,fun b o e n hb hx=>?_,I.base.free,fun b o e hx=>?_,I.base.kB,I.base.sd,I.base.sR⟩,⟨m,hn.sameBut hs (Ne.symm (AF x c hc)),fun j y v' e1 e2 e3=>?_⟩,fun y c' e=>?_,I.free,I.om,fun p hp=>?_,tracked ⟨oc,FV,I.om x c hc⟩ hs,by simpa using I.len⟩ ⟨c,hs,.inr hc⟩
  ·exact(hs.2 b (eM (mI (dk e) (I.ok.x6 x c TB hc)))).trans (I.base.keep b o e n hb hx)
  ·obtain⟨sl,e1⟩:=I.base.slot b o e n hb hx
   exact⟨sl,(hs.2 b (eM (mI (dk e) (I.ok.x6 x c TB hc)))).trans e1⟩
  ·obtain⟨o',e1⟩:=I.base.there b o e hx
   exact⟨o',(hs.2 b (eM (mI (dk e) (I.ok.x6 x c TB hc)))).trans e1⟩
  ·by_cases hj:j=i
   ·subst hj
    rw[hi] at e1;cases e1
    rw[List.getElem?_set_self Ya] at e2
    cases e2
    exact⟨u,r,.inr ⟨.inl hk,c,hc,D5⟩⟩
   ·rw[P8 (Ne.symm hj)] at e2
    obtain⟨u',r',q⟩:=hl j y v' e1 e2 e3
    refine⟨u',r',?_⟩
    rcases q with q|⟨k,c',e,z'⟩
    ·exact .inl q
    ·refine .inr ⟨k,c',e,z'.sameBut hs ?_⟩
     rintro rfl
     exact hj (X_ hN e1 (I.ok.inj _ _ _ e hc ▸ hi))
  ·by_cases Q6:c'=c
   ·subst Q6;exact⟨_,D5⟩
   ·obtain⟨w2,z2⟩:=I.cell y c' e
    exact⟨w2,z2.sameBut hs Q6⟩
  ·obtain⟨e,n,ne,nf,d⟩:=I.pin p hp
   refine⟨(hs.2 p.1 ?_).trans e,n,ne,nf,d⟩
   intro q
   rw[q,FV] at e
   have q':oc=p.2:=Option.some.inj e
   exact d w' (by rw[<- q'];exact cj')
theorem Yc(I:Inv X pins σ H s)(hN:X.N.Nodup)(hi:X.N[i]? = some x)(hx:Loc X.env.scope x)(r:RelV v u)
  (h:∀ s',Inv X pins (σ.set i (some v)) H s'->Q () s') (hf:X.fn x=true\/X.env.scope.names.lookup x=some .local:=by first|exact .inl rfl|exact .inr rfl|assumption):wpAny M A (storeName X.env x u) Q E s :=
 Tx I hN hi hx r (fun s' I' _=>h s' I') hf
theorem Inv.ck'(I:Inv X pins σ H s)(ho:s'.os=s.os)(u:Un (fz X.stack) ch H H' s.heap s'.heap)(aI:gy X.prog X.w H' s'.heap)(hg:AllBare s'.gens)
  (yb:∀ b∈ch,(b∈X.ex\/X.eP.heap.objs.size<=b)/\b≠X.env.locals/\(∀ x c,X.env.cells.lookup x=some c->c≠b)/\∀ p∈X.pn++pins,p.1≠b):Inv X pins σ H' s':=by
 obtain⟨h',g',d',t',o'⟩:=s'
 have e:o'=s.os:=ho
 subst e
 exact I.call (g':=g') (t':=t') (d':=d') u aI hg yb
end
abbrev XK:=Value->Option Addr->Hp->Prop
abbrev St:=List (Option V)
abbrev VK:=V->Hp->Prop
abbrev TE:=St->Hp->VK->Prop
abbrev TT:=St->Hp->(Bool->Hp->Prop)->Prop
abbrev TA:=St->Hp->(List V->Hp->Prop)->Prop
structure Ends where
 nx:St->Hp->Prop
 rt:VK
 bk:St->Hp->Prop:=fun _ _=>False
 ct:St->Hp->Prop:=fun _ _=>False
abbrev TS:=Ends->St->Hp->Prop
def EP(X:Cx)(pins:List (Addr × Obj))(σ:St)(Q:VK)(u:Value)(s':Shared):Prop:=∃ v H',Inv X pins σ H' s'/\RelV v u/\Q v H'
def TP(X:Cx)(pins:List (Addr × Obj))(σ:St)(Q:Bool->Hp->Prop)(b:Bool)(s':Shared):Prop:=∃ H',Inv X pins σ H' s'/\Q b H'
def AP(X:Cx)(pins:List (Addr × Obj))(σ:St)(Q:List V->Hp->Prop)(us:List Value)(s':Shared):Prop:=∃ vs H',Inv X pins σ H' s'/\Vals vs us/\Q vs H'
def SP(X:Cx)(pins:List (Addr × Obj))(D:Ends)(f:Flow)(s':Shared):Prop :=
 match f with
 |.next=>∃ aT H',Inv X pins aT H' s'/\D.nx aT H'
 |.brk=>∃ aT H',Inv X pins aT H' s'/\D.bk aT H'
 |.cont=>∃ aT H',Inv X pins aT H' s'/\D.ct aT H'
 |.ret u=>∃ v aT H',Inv X pins aT H' s'/\RelV v u/\D.rt v H'
def PE(X:Cx)(e:Expr)(t:TE):Prop :=
 ∀ (pins:List (Addr × Obj)) (s:Shared) (σ:St) (H:Hp) (Q:VK),Inv X pins σ H s->t σ H Q->wpAny (model X.prog X.w) X.A (eval e X.env) (EP X pins σ Q) X.xe s
def PT(X:Cx)(e:Expr)(t:TT):Prop :=
 ∀ (pins:List (Addr × Obj)) (s:Shared) (σ:St) (H:Hp) (Q:Bool->Hp->Prop),Inv X pins σ H s->t σ H Q->wpAny (model X.prog X.w) X.A (isTrue e X.env (eval e X.env)) (TP X pins σ Q) X.xe s
def PW(X:Cx)(e:Expr)(t:TT):Prop :=
 ∀ (whole:Sem Value) (pins:List (Addr × Obj)) (s:Shared) (σ:St) (H:Hp) (Q:Bool->Hp->Prop),Inv X pins σ H s->t σ H Q->wpAny (model X.prog X.w) X.A (isTrue e X.env whole) (TP X pins σ Q) X.xe s
def PA(X:Cx)(es:List Expr)(t:TA):Prop :=
 ∀ (pos:Pos) (pins:List (Addr × Obj)) (s:Shared) (σ:St) (H:Hp) (Q:List V->Hp->Prop),Inv X pins σ H s->t σ H Q->wpAny (model X.prog X.w) X.A (spliced (backTo pos (starEach es X.env))) (AP X pins σ Q) X.xe s
def PS(X:Cx)(st:Stmt)(t:TS):Prop :=
 ∀ (pins:List (Addr × Obj)) (s:Shared) (σ:St) (H:Hp) (D:Ends),Inv X pins σ H s->t D σ H->wpAny (model X.prog X.w) X.A (exec st X.env) (SP X pins D) X.xe s
def mP(X:Cx)(st:List Stmt)(t:TS):Prop :=
 ∀ (pins:List (Addr × Obj)) (s:Shared) (σ:St) (H:Hp) (D:Ends),Inv X pins σ H s->t D σ H->wpAny (model X.prog X.w) X.A (execs st X.env) (SP X pins D) X.xe s
theorem cf{α:Type}{t:Sem α}{Q Q':α->Shared->Prop}{M:Model}{A:Around}{E:Value->Shared->Prop}{s:Shared}(h:wpAny M A t Q E s)(hQ:∀ a s,Q a s->Q' a s):wpAny M A t Q' E s:=pS h hQ fun _ _ x=>x
section
variable {X:Cx}
def AG(i:Nat):TE:=fun σ H Q=>∃ v,σ[i]? = some (some v)/\Q v H
def tC(v:V):TE:=fun _ H Q=>Q v H
theorem Yd (hN:X.N[i]? = some x) (hv:Lv X.env.scope x) (hd:(x == ("__debug__" : Str))=false:=by decide) (oP:(x == ("__classdict__" : Str))=false:=by decide):PE X (.Name x pos) (AG i):=by
 intro pins s σ H Q I h
 obtain⟨v,e,h⟩:=h
 obtain⟨m,hn,hl⟩:=I.loc
 obtain⟨u,r,l⟩:=hl i x v hN e hv
 have fin:EP X pins σ Q u s:=⟨v,H,I,r,h⟩
 rcases l with⟨hk,hm⟩|⟨hk,c,hc,Ye⟩
 ·exact wpAny_Name (wpAny_loadName_local I.ok.kind hk hn hm fin) hd
 ·rcases hk with hk|hk
  ·exact wpAny_Name (wpAny_loadName_cell I.ok.kind hk hc Ye fin) hd
  ·exact wpAny_Name (wpAny_loadName_free I.ok.kind hk hc Ye fin oP) hd
theorem cl'{i j pos}:PE X (.Constant (.int i) j pos) (tC (.int i)):=fun _ _ _ H _ I h=>wpAny_Constant_int ⟨.int i,H,I.tok _,⟨_,rfl⟩,h⟩
theorem cm'{b j pos}:PE X (.Constant (.bool b) j pos) (tC (.bl b)):=fun _ _ _ H _ I h=>Constant_bool ⟨.bl b,H,I,rfl,h⟩
theorem cn'{j pos}:PE X (.Constant .none j pos) (tC .non):=fun _ _ _ H _ I h=>Constant_none ⟨.non,H,I,rfl,h⟩
theorem co'{x j pos}:PE X (.Constant (.str x) j pos) (tC (.str x)):=fun _ _ _ H _ I h=>Calls.Constant_str ⟨.str x,H,I.tok _,⟨_,rfl⟩,h⟩
def Gl(X:Cx)(x:Str):Prop:=X.env.kindOf x=some .globalImplicit
theorem Q7(I:Inv X pins σ H s)(hg:Gl X x)(hm:X.mg x=some u)(h:Q u s)
  (hd:(x == ("__debug__" : Str))=false:=by decide):wpAny (model X.prog X.w) X.A (eval (.Name x pos) X.env) Q E s :=
 Calls.Name_function_global I.ok.kind hg (Calls.loadGlobal_global (by rw[I.ok.glob];exact I.mod.glob.keeps I.bk) hm h) hd
theorem wd(I:Inv X pins σ H s)(hg:Gl X x)(hm:X.mg x=none)(hv:bootBuiltins x=some u)(h:Q u s)
  (hn:x ≠ "__name__" := by decide) (hd:(x == ("__debug__" : Str))=false:=by decide):wpAny (model X.prog X.w) X.A (eval (.Name x pos) X.env) Q E s:=by
 obtain⟨mb,h1,h2⟩:=I.mod.blt
 exact Calls.Name_function_global I.ok.kind hg (Calls.loadGlobal_builtin (by rw[I.ok.glob];exact I.mod.glob.keeps I.bk) hm (by rw[I.ok.blt];exact h1.keeps I.bk) ((h2 x hn).trans hv) h) hd
theorem D6 (hg:Gl X x) (hm:X.mg x=some u) (r:RelV v u) (hd:(x == ("__debug__" : Str))=false:=by decide):PE X (.Name x pos) (tC v) :=
 fun _ _ _ H _ I h=>Q7 I hg hm ⟨v,H,I,r,h⟩ hd
theorem cp' (hg:Gl X x) (hm:X.mg x=none) (hv:bootBuiltins x=some u) (r:RelV v u) (hn:x ≠ "__name__" := by decide) (hd:(x == ("__debug__" : Str))=false:=by decide):PE X (.Name x pos) (tC v) :=
 fun _ _ _ H _ I h=>wd I hg hm hv ⟨v,H,I,r,h⟩ hn hd
variable {a b:Expr}{ta tb:TE}{pos:Pos}
def tB(t:TE):TT:=fun σ H Q=>t σ H fun x H1=>∃ c,x=.bl c/\Q c H1
theorem cq'(h:PE X e t)(he:∀ whole,isTrue e X.env whole=(do let v <- whole;standAt e.pos;holding [v] (truthy v)):=by intro _;rfl):PT X e (tB t):=by
 intro pins s σ H Q I hw
 refine isTrue_plain (cf (h pins s σ H _ I hw) fun v s1 b9=>L2.fw b9 fun x H1 I1 r1 q1=>?_) (he _)
 obtain⟨d,rfl,q⟩:=q1
 cases r1
 exact wpAny_truthy_bool ⟨H1,I1,q⟩
variable {tA Q8:TT}{rest:List Expr}
def cr'(t u:TT):TT:=fun σ H Q=>t σ H fun c H1=>if c=true then u σ H1 Q else Q false H1
def tOr(t u:TT):TT:=fun σ H Q=>t σ H fun c H1=>if c=true then Q true H1 else u σ H1 Q
def ct'(t:TT):TT:=fun σ H Q=>t σ H fun c H1=>Q (!c) H1
theorem pw_and1(ha:PT X a tA):PW X (.BoolOp .And [a] pos) tA:=by
 intro wh pins s σ H Q I h
 refine isTrue_and (cf (ha pins s σ H Q I h) fun c s1 e=>?_)
 cases c with
 |true=>exact isTrue_and_nil e
 |false=>exact e
theorem pw_or1(ha:PT X a tA):PW X (.BoolOp .Or [a] pos) tA:=by
 intro wh pins s σ H Q I h
 refine isTrue_or (cf (ha pins s σ H Q I h) fun c s1 e=>?_)
 cases c with
 |false=>exact isTrue_or_nil e
 |true=>exact e
theorem pw_and(ha:PT X a tA)(hb:PW X (.BoolOp .And (b :: rest) pos) Q8):PW X (.BoolOp .And (a :: b :: rest) pos) (cr' tA Q8):=by
 intro wh pins s σ H Q I h
 refine isTrue_and (cf (ha pins s σ H _ I h) fun c s1 da=>?_)
 obtain⟨H1,I1,q1⟩:=da
 cases c with
 |true=>exact hb wh pins s1 σ H1 Q I1 q1
 |false=>exact⟨H1,I1,q1⟩
theorem pw_or(ha:PT X a tA)(hb:PW X (.BoolOp .Or (b :: rest) pos) Q8):PW X (.BoolOp .Or (a :: b :: rest) pos) (tOr tA Q8):=by
 intro wh pins s σ H Q I h
 refine isTrue_or (cf (ha pins s σ H _ I h) fun c s1 da=>?_)
 obtain⟨H1,I1,q1⟩:=da
 cases c with
 |true=>exact⟨H1,I1,q1⟩
 |false=>exact hb wh pins s1 σ H1 Q I1 q1
theorem cu'(ha:PT X a tA):PT X (.UnaryOp .Not a pos) (ct' tA):=by
 intro pins s σ H Q I h
 exact isTrue_not (ha pins s σ H (fun c H1=>Q (!c) H1) I h)
def cv'(ta tb:TE):TE:=fun σ H Q=>ta σ H fun x H1=>∃ c,x=.bl c/\if c=true then tb σ H1 Q else Q (.bl false) H1
def cw'(ta tb:TE):TE:=fun σ H Q=>ta σ H fun x H1=>∃ c,x=.bl c/\if c=true then Q (.bl true) H1 else tb σ H1 Q
def cx'(ta:TE):TE:=fun σ H Q=>ta σ H fun x H1=>∃ c,x=.bl c/\Q (.bl (!c)) H1
theorem cy'{op}(h:PE X a t):PE X (.BoolOp op [a] pos) t:=fun pins s σ H Q I hw=>BoolOp_one (h pins s σ H Q I hw)
theorem cz'(ha:PE X a ta)(hb:PE X (.BoolOp .And (b :: rest) pos) tb):PE X (.BoolOp .And (a :: b :: rest) pos) (cv' ta tb):=by
 intro pins s σ H Q I h
 refine BoolOp_and (cf (ha pins s σ H _ I h) fun v s1 b9=>L2.fw b9 fun x H1 I1 r1 q1=>?_)
 obtain⟨c,rfl,q1⟩:=q1
 cases r1
 refine wpAny_truthy_bool ?_
 cases c with
 |true=>exact hb pins s1 σ H1 Q I1 q1
 |false=>exact⟨.bl false,H1,I1,rfl,q1⟩
theorem cA'(ha:PE X a ta)(hb:PE X (.BoolOp .Or (b :: rest) pos) tb):PE X (.BoolOp .Or (a :: b :: rest) pos) (cw' ta tb):=by
 intro pins s σ H Q I h
 refine BoolOp_or (cf (ha pins s σ H _ I h) fun v s1 b9=>L2.fw b9 fun x H1 I1 r1 q1=>?_)
 obtain⟨c,rfl,q1⟩:=q1
 cases r1
 refine wpAny_truthy_bool ?_
 cases c with
 |false=>exact hb pins s1 σ H1 Q I1 q1
 |true=>exact⟨.bl true,H1,I1,rfl,q1⟩
theorem cB'(ha:PE X a ta):PE X (.UnaryOp .Not a pos) (cx' ta):=by
 intro pins s σ H Q I h
 refine UnaryOp_ (cf (ha pins s σ H _ I h) fun v s1 b9=>L2.fw b9 fun x H1 I1 r1 q1=>?_)
 obtain⟨c,rfl,q1⟩:=q1
 cases r1
 exact not_of (wpAny_truthy_bool ⟨.bl (!c),H1,I1,rfl,q1⟩)
def tIf(t:TT)(ta tb:TE):TE:=fun σ H Q=>t σ H fun c H1=>if c=true then ta σ H1 Q else tb σ H1 Q
theorem cD'(hc:PT X c tA)(ha:PE X a ta)(hb:PE X b tb):PE X (.IfExp c a b pos) (tIf tA ta tb):=by
 intro pins s σ H Q I h
 refine wpAny_IfExp (cf (hc pins s σ H _ I h) fun d s1 da=>?_)
 obtain⟨H1,I1,q1⟩:=da
 cases d with
 |true=>exact ha pins s1 σ H1 Q I1 q1
 |false=>exact hb pins s1 σ H1 Q I1 q1
end
def dn(K:PySem.W.Frag)(H:Hp)(a:Addr)(xs:List V):Prop :=
 Rd H a (.lst xs) \/
  ∃ (o:Obj) (its:Array Value) (n:Nat),K.lookup a=some o/\o.cls=.type "list"/\o.dict=none/\o.data=.seq its n/\its.size<=sizeLine/\Vals xs its.toList
def iS(K:PySem.W.Frag)(H:Hp)(a:Addr)(xs:List V):Prop :=
 Rd H a (.tup xs) \/
  ∃ (o:Obj) (its:Array Value) (n:Nat),K.lookup a=some o/\o.cls=.type "tuple"/\o.data=.seq its n/\its.size<=sizeLine/\Vals xs its.toList
def cE':Value->Option V
 |.none=>some .non
 |.bool b=>some (.bl b)
 |.int i _=>some (.int i)
 |.str x _=>some (.str x)
 |.bytes b _=>some (.qS b)
 |.float b _=>some (.Ap b)
 |.ref a=>some (.ref a)
 |.type n=>some (.ty n)
 |_=>none
theorem RelV.abs(r:RelV x u):cE' u=some x:=by
 cases x with
 |non=>cases r;rfl
 |bl _=>cases r;rfl
 |int _=>obtain⟨t,rfl⟩:=r;rfl
 |str _=>obtain⟨t,rfl⟩:=r;rfl
 |qS _=>obtain⟨t,rfl⟩:=r;rfl
 |Ap _=>obtain⟨t,rfl⟩:=r;rfl
 |ref _=>cases r;rfl
 |ty _=>cases r;rfl
theorem RelV.inj(r:RelV x u)(q:RelV y u):x=y:=Option.some.inj (r.abs.symm.trans q.abs)
theorem Vals.inj:∀ {xs ys:List V} {us:List Value},Vals xs us->Vals ys us->xs=ys
 |_,_,_,.nil,.nil=>rfl
 |_,_,_,.cons r t,.cons r' t'=>by rw[r.inj r',Vals.inj t t']
section
variable {X:Cx}{pins:List (Addr × Obj)}{σ:St}{H:Hp}{s:Shared}{a:Addr}{xs ys:List V}
theorem Inv.list(I:Inv X pins σ H s)(h:dn X.K H a xs):∃ its:List Value,Vals xs its/\PlainL s.heap a its.toArray/\xs.length<=sizeLine:=by
 rcases h with h|⟨o,its,n,hk,hc,hd,hs,hz,r⟩
 ·obtain⟨z,its,n,r,e⟩:=h.ok I.aI
  exact⟨its,r,⟨_,n,e,rfl,rfl,rfl⟩,z⟩
 ·refine⟨its.toList,r,⟨o,n,I.i9 a o hk,hc,hd,by simpa using hs⟩,?_⟩
  have e:=r.length
  simp only[uk] at e
  lia
theorem Inv.tuple(I:Inv X pins σ H s)(h:iS X.K H a xs):∃ its:List Value,Vals xs its/\IsTup s.heap a its.toArray/\xs.length<=sizeLine:=by
 rcases h with h|⟨o,its,n,hk,hc,hs,hz,r⟩
 ·obtain⟨z,its,r,p⟩:=h.ok I.aI
  exact⟨its,r,p,z⟩
 ·refine⟨its.toList,r,⟨o,I.i9 a o hk,hc,n,by simpa using hs⟩,?_⟩
  have e:=r.length
  simp only[uk] at e
  lia
theorem Inv.Q9(I:Inv X pins σ H s)(h:dn X.K H a xs)(h':dn X.K H a ys):xs=ys:=by
 obtain⟨its,r,⟨o,n,e,_,_,d⟩,_⟩:=I.list h
 obtain⟨its',r',⟨o',n',e',_,_,d'⟩,_⟩:=I.list h'
 rw[e] at e';cases e'
 rw[d] at d'
 injection d' with d1 _
 have:its=its':=by simpa using congrArg Array.toList d1
 subst this
 exact r.inj r'
theorem Inv.cF'(I:Inv X pins σ H s)(h:iS X.K H a xs)(h':iS X.K H a ys):xs=ys:=by
 obtain⟨its,r,⟨o,e,_,n,d⟩,_⟩:=I.tuple h
 obtain⟨its',r',⟨o',e',_,n',d'⟩,_⟩:=I.tuple h'
 rw[e] at e';cases e'
 rw[d] at d'
 injection d' with d1 _
 have:its=its':=by simpa using congrArg Array.toList d1
 subst this
 exact r.inj r'
end
abbrev Cx.wish(X:Cx)(E:Value->Shared->Prop):Cx:={ X with xe:=E }
abbrev Cx.LJ(X:Cx):Cx:=X.wish fun _ _=>False
theorem Cx.Ok.wish{X:Cx}(ok:X.Ok)(E:Value->Shared->Prop):(X.wish E).Ok :=
 ⟨ok.mod,ok.kind,ok.glob,ok.blt,ok.above,ok.inj,ok.has,ok.x6,ok.hd,ok.frames,ok.AA,ok.AB,ok.bs,ok.sT,ok.x8,ok.ya,ok.pV,ok.wc⟩
theorem Cx.Ok.B4{X:Cx}(ok:(X.wish E).Ok):X.Ok :=
 ⟨ok.mod,ok.kind,ok.glob,ok.blt,ok.above,ok.inj,ok.has,ok.x6,ok.hd,ok.frames,ok.AA,ok.AB,ok.bs,ok.sT,ok.x8,ok.ya,ok.pV,ok.wc⟩
section
variable {X:Cx}{pins:List (Addr × Obj)}{σ:St}{H:Hp}{s:Shared}{E:Value->Shared->Prop}
theorem Inv.wish(I:Inv X pins σ H s)(E:Value->Shared->Prop):Inv (X.wish E) pins σ H s:=⟨I.ok.wish E,I.os,I.bare,I.base,I.loc,I.cell,I.free,I.om,I.pin,I.aI,I.len⟩
theorem Inv.B4(I:Inv (X.wish E) pins σ H s):Inv X pins σ H s:=⟨I.ok.B4,I.os,I.bare,I.base,I.loc,I.cell,I.free,I.om,I.pin,I.aI,I.len⟩
theorem SP.B4{D:Ends}(h:SP (X.wish E) pins D f s'):SP X pins D f s':=by
 cases f with
 |next=>obtain⟨aT,H',I,q⟩:=h;exact⟨aT,H',I.B4,q⟩
 |brk=>obtain⟨aT,H',I,q⟩:=h;exact⟨aT,H',I.B4,q⟩
 |cont=>obtain⟨aT,H',I,q⟩:=h;exact⟨aT,H',I.B4,q⟩
 |ret u=>obtain⟨v,aT,H',I,r,q⟩:=h;exact⟨v,aT,H',I.B4,r,q⟩
theorem mP.LJ{st:List Stmt}(h:mP X.LJ st t):mP X st t:=fun pins s σ H D I hw =>
 pS (h pins s σ H D (I.wish _) hw) (fun _ _ q=>q.B4) fun _ _ z=>False.elim z
end
section
variable {X:Cx}{st:Stmt}{rest:List Stmt}{t u:TS}{e:Expr}{te:TE}{pos:Pos}
def cG':TS:=fun D σ H=>D.nx σ H
def Yf(t u:TS):TS:=fun D σ H=>t { D with nx:=u D } σ H
theorem Yg:mP X [] cG':=fun _ _ σ H _ I h=>wpAny_execs_nil ⟨σ,H,I,h⟩
theorem cH'(h1:PS X st t)(h2:mP X rest u):mP X (st :: rest) (Yf t u):=by
 intro pins s σ H D I h
 refine wpAny_execs_cons (cf (h1 pins s σ H { D with nx:=u D } I h) fun f s1 q=>?_)
 cases f with
 |next =>
  obtain⟨aT,H',I',q⟩:=q
  exact h2 pins s1 aT H' D I' q
 |ret v=>exact q
 |brk=>exact q
 |cont=>exact q
theorem cI'(h1:PS X st t):mP X [st] t:=by
 intro pins s σ H D I h
 refine wpAny_execs_cons (cf (h1 pins s σ H D I h) fun f s1 q=>?_)
 cases f with
 |next=>exact wpAny_execs_nil q
 |ret v=>exact q
 |brk=>exact q
 |cont=>exact q
theorem Inv.quiet(I:Inv X pins σ H s):interactive X.env=false:=by simp[interactive,I.ok.kind]
def cJ'(te:TE):TS:=fun D σ H=>te σ H fun _ H1=>D.nx σ H1
theorem LM(he:PE X e te)(hs:swapsWith e none pos.line X.env=pure false:=by rfl):PS X (.Expr e pos) (cJ' te):=by
 intro pins s σ H D I h
 exact wpAny_Expr_any (cf (he pins s σ H _ I h) fun v s1 b9=>L2.fw b9 fun x H1 I1 r1 q1=>⟨σ,H1,I1,q1⟩) I.quiet hs
def cK'(te:TE):TS:=fun D σ H=>te σ H D.rt
theorem TC(he:PE X e te):PS X (.Return (some e) pos) (cK' te):=by
 intro pins s σ H D I h
 exact wpAny_Return_some (cf (he pins s σ H _ I h) fun v s1 b9=>L2.fw b9 fun x H1 I1 r1 q1=>⟨x,σ,H1,I1,r1,q1⟩)
def cL'(c:TT)(t u:TS):TS:=fun D σ H=>c σ H fun b H1=>if b=true then t D σ H1 else u D σ H1
theorem cM'(hc:PT X c tc)(ha:mP X a t)(hb:mP X b u):PS X (.If c a b pos) (cL' tc t u):=by
 intro pins s σ H D I h
 refine wpAny_If (cf (hc pins s σ H _ I h) fun d s1 da=>?_)
 obtain⟨H1,I1,q1⟩:=da
 cases d with
 |true=>exact ha pins s1 σ H1 D I1 q1
 |false=>exact hb pins s1 σ H1 D I1 q1
def cN':TS:=fun _ _ _=>False
theorem cO':mP X sts cN':=fun _ _ _ _ _ _ h=>h.elim
end
abbrev TG:=V->St->Hp->(St->Hp->Prop)->Prop
abbrev FX:=List V->St->Hp->(St->Hp->Prop)->Prop
def PG(X:Cx)(target:Expr)(t:TG):Prop :=
 ∀ (pins:List (Addr × Obj)) (s:Shared) (σ:St) (H:Hp) (v:V) (u:Value) (Q:St->Hp->Prop),Inv X pins σ H s->RelV v u->t v σ H Q ->
  wpAny (model X.prog X.w) X.A (assign target X.env u) (fun _ s'=>∃ aT H',Inv X pins aT H' s'/\Q aT H') X.xe s
def yi(X:Cx)(ts:List Expr)(t:FX):Prop :=
 ∀ (pins:List (Addr × Obj)) (s:Shared) (σ:St) (H:Hp) (vs:List V) (us:List Value) (Q:St->Hp->Prop),Inv X pins σ H s->Vals vs us->t vs σ H Q ->
  wpAny (model X.prog X.w) X.A (assignInOrder ((assignEach ts X.env).map (·.2)) us) (fun _ s'=>∃ aT H',Inv X pins aT H' s'/\Q aT H') X.xe s
section
variable {X:Cx}{pos:Pos}
def TF(i:Nat):TG:=fun v σ H Q=>Q (σ.set i (some v)) H
theorem TH(hN:X.N.Nodup)(hi:X.N[i]? = some x)(hx:Loc X.env.scope x)(hf:X.fn x=true\/X.env.scope.names.lookup x=some .local:=by first|exact .inl rfl|exact .inr rfl|assumption):PG X (.Name x pos) (TF i):=by
 intro pins s σ H v u Q I r h
 exact wpAny_assign_Name (Yc I hN hi hx r (fun s' I'=>⟨_,H,I',h⟩) hf)
def cP':FX:=fun vs σ H Q=>vs=[]/\Q σ H
def cQ'(t:TG)(u:FX):FX:=fun vs σ H Q=>∃ v r,vs=v :: r/\t v σ H fun aT H'=>u r aT H' Q
theorem Yh:yi X [] cP':=by
 intro pins s σ H vs us Q I r h
 obtain⟨e,h⟩:=h
 subst e
 cases r
 exact assignInOrder_nil ⟨σ,H,I,h⟩
theorem TJ(h1:PG X e t)(h2:yi X es u)
  (hs:(assignEach (e :: es) X.env).map (·.2)=assign e X.env :: (assignEach es X.env).map (·.2):=by rfl):yi X (e :: es) (cQ' t u):=by
 intro pins s σ H vs us Q I r h
 obtain⟨v,vr,e1,h⟩:=h
 subst e1
 cases r with
 |cons r rr =>
  rw[hs]
  refine assignInOrder_cons (cf (h1 pins s σ H _ _ _ I r h) fun _ s1 da=>?_)
  obtain⟨σ1,H1,I1,q1⟩:=da
  exact h2 pins s1 σ1 H1 _ _ Q I1 rr q1
def cS'(K:PySem.W.Frag)(n:Nat)(t:FX):TG:=fun v σ H Q=>∃ a xs,v=.ref a/\iS K H a xs/\xs.length=n/\t xs σ H Q
theorem Yi(hc:X.calm=true)(h:yi X es t)
  (hn:(assignEach es X.env).length=n:=by rfl) (lI:(assignEach es X.env).findIdx? (·.1)=none:=by rfl):PG X (.Tuple es k pos) (cS' X.K n t):=by
 intro pins s σ H v u Q I r hw
 obtain⟨a,xs,e1,hq,hl,hw⟩:=hw
 subst e1
 cases r
 obtain⟨its,rv,ht,hz⟩:=I.tuple hq
 refine assign_Tuple_tuple (I.ok.hd hc) ht (by simp[hn,<- hl,rv.length]) lI fun h' hx=>?_
 have I1:Inv X pins σ H { s with heap:=h' }:=I.kept (t':=s.toks) fun b o e=>hx b o (eM (dk e)) e
 exact h pins _ σ H xs _ Q I1 (by simpa using rv) hw
def TK(te:TE)(g:TG):TS:=fun D σ H=>te σ H fun x H1=>g x σ H1 D.nx
theorem cT'(he:PE X e te)(hg:PG X tg g)(hs:swapsWithSole [tg] e pos.line X.env=pure false:=by rfl)(hw:swappedStores [tg] e X.env=pure none:=by rfl)
  (h1:(assignEach [tg] X.env).map (·.2)=[assign tg X.env]:=by rfl):PS X (.Assign [tg] e pos) (TK te g):=by
 intro pins s σ H D I h
 refine wpAny_Assign_stores (cf (he pins s σ H _ I h) fun v s1 b9=>L2.fw b9 fun x H1 I1 r1 q1=>?_) hs hw
 rw[h1]
 exact cf (hg pins s1 σ H1 x v _ I1 r1 q1) fun _ s2 q=>q
theorem cU'(hN:X.N.Nodup)(hi:X.N[i]? = some x)(hx:Loc X.env.scope x)(he:PE X e te)(hs:swapsWith e (some (.Name x pos')) pos.line X.env=pure false:=by rfl)(hf:X.fn x=true\/X.env.scope.names.lookup x=some .local:=by first|exact .inl rfl|exact .inr rfl|assumption) :
  PS X (.Assign [.Name x pos'] e pos) (TK te (TF i)):=by
 intro pins s σ H D I h
 refine wpAny_Assign_Name (cf (he pins s σ H _ I h) fun v s1 b9=>L2.fw b9 fun y H1 I1 r1 q1=>?_) hs
 exact Yc I1 hN hi hx r1 (fun s2 I2=>⟨_,H1,I2,q1⟩) hf
end
structure It where
 go:Nat->Hp->Prop
 lP:Nat->Hp->V->Hp->Prop
 stop:Nat->Hp->Prop
def tf(X:Cx)(pins:List (Addr × Obj))(H:Hp)(b:Addr):Prop :=
 H b=none/\b≠X.env.locals/\b∉X.fs/\(b∈X.ex\/X.eP.heap.objs.size<=b)/\(∀ x c,X.env.cells.lookup x=some c->c≠b)/\∀ p∈X.pn++pins,p.1≠b
theorem Inv.D7{X:Cx}(I:Inv X pins σ H s)(hb:s.heap.objs.size<=b)(hn:H' b=none):tf X pins H' b:=by
 refine⟨hn,Kx (mI I.lt hb),I.cg' hb,.inr (kg I.sz hb),fun x c e z=>?_,fun p hp z=>?_⟩
 ·obtain⟨v,q⟩:=I.cell x c e
  exact absurd (mI q.lt (by rw[z];exact hb)) (rV _)
 ·exact absurd (mI (dk (I.pin p hp).1) (by rw[z];exact hb)) (rV _)
structure Turn(P:Program)(w:World)(K:PySem.W.Frag)(tg:Expr)(J:It)(fp:List Addr)(it:Addr)(tn:Nat->Heap->Prop):Prop where
 mem:it∈fp
 obj:∀ i h,tn i h->∀ b∈fp,∃ o,h.get? b=some o/\∀ v,o.data≠.cell v
 keep:∀ i h h',tn i h->(∀ b∈fp,∀ o,h.get? b=some o->h'.get? b=some o)->tn i h'
 item:∀ (X:Cx),X.prog=P->X.w=w->X.K=K->X.calm=true->∀ (i:Nat) (pins:List (Addr × Obj)) (s:Shared) (σ:St) (H:Hp) (E:Value->Shared->Prop),Inv X pins σ H s->(∀ b∈fp,tf X pins H b)->tn i s.heap->J.go i H ->
  wpAny (model P w) X.A (pyNext (.ref it)) (fun r s1=>∃ u,r=some u /\
   wpAny (model P w) X.A (letOwnedTupleGo tg (.ref it) u) (fun _ s2=>∃ x H',Inv X pins σ H' s2/\RelV x u/\J.lP i H x H'/\tn (i+1) s2.heap/\∀ b∈fp,H' b=none) E s1) E s
 done:∀ (X:Cx),X.prog=P->X.w=w->X.K=K->X.calm=true->∀ (i:Nat) (pins:List (Addr × Obj)) (s:Shared) (σ:St) (H:Hp) (E:Value->Shared->Prop),Inv X pins σ H s->(∀ b∈fp,tf X pins H b)->tn i s.heap->J.stop i H ->
  wpAny (model P w) X.A (pyNext (.ref it)) (fun r s1=>r=none/\Inv X pins σ H s1) E s
 self:∀ (A:Around) (i:Nat) (s:Shared) (Q:Value->Shared->Prop) (E:Value->Shared->Prop),tn i s.heap->Q (.ref it) s->wpAny (model P w) A (pyIter (.ref it)) Q E s
abbrev TI:=St->Hp->(It->Hp->Prop)->Prop
def Yj(X:Cx)(pins:List (Addr × Obj))(σ:St)(tg:Expr)(R:It->Hp->Prop)(TL:Value)(s2:Shared):Prop :=
 ∃ (it:Addr) (fp:List Addr) (tn:Nat->Heap->Prop) (J:It) (H':Hp),TL=.ref it/\Inv X pins σ H' s2/\Turn X.prog X.w X.K tg J fp it tn/\tn 0 s2.heap/\(∀ b∈fp,tf X pins H' b)/\R J H'
def PI(X:Cx)(tg iter:Expr)(wi:TI):Prop :=
 ∀ (pins:List (Addr × Obj)) (s:Shared) (σ:St) (H:Hp) (R:It->Hp->Prop),Inv X pins σ H s->wi σ H R ->
  wpAny (model X.prog X.w) X.A (eval iter X.env) (fun v s1=>wpAny (model X.prog X.w) X.A (pyIter v) (Yj X pins σ tg R) X.xe s1) X.xe s
theorem Q_(ho:s.heap.get? it=some o)(hc:o.cls=.type n)(hd:o.data=.fields vs)
  (hn:["enumerate", "zip", "dict_itemiterator", "dict_reverseitemiterator", "odict_iterator", "itertools.zip_longest", "itertools.pairwise"].contains n=false) (hQ:Q () s):wpAny M A (letOwnedTupleGo tg (.ref it) u) Q E s:=by
 unfold letOwnedTupleGo
 cases tg<;>first
  |exact ay hQ
  | (cases u<;>first
     |exact ay hQ
     | (refine ai (wpAny_load ho ?_)
        rw[hc,hd]
        show wpAny M A (if (["enumerate", "zip", "dict_itemiterator", "dict_reverseitemiterator", "odict_iterator", "itertools.zip_longest", "itertools.pairwise"].contains n && vs[0]? == some (rawInt _))=true then _ else _) Q E s
        rw[if_neg (by intro h;rw[hn,Bool.false_and] at h;cases h)]
        exact ay hQ))
def Ra(K:PySem.W.Frag)(a:Addr):It :=
 ⟨fun i H=>∃ xs x,dn K H a xs/\xs[i]? = some x,fun i H x H'=>H'=H/\∀ xs,dn K H a xs->xs[i]? = some x,fun i H=>∃ xs,dn K H a xs/\xs.length<=i⟩
def TN(K:PySem.W.Frag)(a:Addr):It :=
 ⟨fun i H=>∃ xs x,iS K H a xs/\xs[i]? = some x,fun i H x H'=>H'=H/\∀ xs,iS K H a xs->xs[i]? = some x,fun i H=>∃ xs,iS K H a xs/\xs.length<=i⟩
def D8(lo:Int)(n:Nat):It:=⟨fun i _=>i<n,fun i H x H'=>H'=H/\x=.int (lo+i),fun i _=>n<=i⟩
theorem cV'{P:Program}{K:PySem.W.Frag}(a it:Addr):Turn P w K tg (Ra K a) [it] it (fun i h=>h.IsListIter it a i) where
 mem:=by simp
 obj:=fun i h st b hb=>by
  have e:b=it:=by simpa using hb
  subst e
  obtain⟨o,e,c,d⟩:=st
  exact⟨o,e,fun v z=>by rw[d] at z;cases z⟩
 keep:=fun i h h' st k=>st.at fun o e=>k it (by simp) o e
 item:=by
  intro X hP hw hK hc i pins s σ H E I hf st hg
  subst hP hw hK
  obtain⟨xs,x,hq,hx⟩:=hg
  obtain⟨its,rv,p,hz⟩:=I.list hq
  obtain⟨u,hu,ru⟩:=rv.get hx
  obtain⟨f0,f1,f2,f3,f4,f5⟩:=hf it (by simp)
  refine wpAny_pyNext_list_item st p.isList (x:=u) (by simpa using hu) fun h' ah sb=>?_
  have I1:Inv X pins σ H { s with heap:=h' }:=I.turned (t':=s.toks) (fun b o hb e=>(sb.2 b hb).trans e) f0 f1 f3 f4 f5
  obtain⟨o,e,c,d⟩:=id ah
  exact⟨u,rfl,Q_ (s:={ s with heap:=h' }) e c d (by decide) ⟨x,H,I1,ru,⟨rfl,fun ys hy=>by rw[I.Q9 hy hq];exact hx⟩,ah,fun b hb=>(hf b hb).1⟩⟩
 done:=by
  intro X hP hw hK hc i pins s σ H E I hf st hg
  subst hP hw hK
  obtain⟨xs,hq,hx⟩:=hg
  obtain⟨its,rv,p,hz⟩:=I.list hq
  obtain⟨f0,f1,f2,f3,f4,f5⟩:=hf it (by simp)
  have hl:=rv.length
  exact wpAny_pyNext_list_end (I.ok.hd hc) st p.isList (by simp;lia) fun h' eb=>⟨rfl,I.turned (t':=s.toks) (fun b o hb e=>eb b o hb e) f0 f1 f3 f4 f5⟩
 self:=fun _ _ _ _ _ st h=>wpAny_pyIter_listiter st h
theorem cW'{P:Program}{K:PySem.W.Frag}(a it:Addr):Turn P w K tg (TN K a) [it] it (fun i h=>h.IsTupleIter it a i) where
 mem:=by simp
 obj:=fun i h st b hb=>by
  have e:b=it:=by simpa using hb
  subst e
  obtain⟨o,e,c,d⟩:=st
  exact⟨o,e,fun v z=>by rw[d] at z;cases z⟩
 keep:=fun i h h' st k=>st.at fun o e=>k it (by simp) o e
 item:=by
  intro X hP hw hK hc i pins s σ H E I hf st hg
  subst hP hw hK
  obtain⟨xs,x,hq,hx⟩:=hg
  obtain⟨its,rv,p,hz⟩:=I.tuple hq
  obtain⟨u,hu,ru⟩:=rv.get hx
  obtain⟨f0,f1,f2,f3,f4,f5⟩:=hf it (by simp)
  refine wpAny_pyNext_tuple_item st (show s.heap.IsTuple a its.toArray from p) (x:=u) (by simpa using hu) fun h' ah sb=>?_
  have I1:Inv X pins σ H { s with heap:=h' }:=I.turned (t':=s.toks) (fun b o hb e=>(sb.2 b hb).trans e) f0 f1 f3 f4 f5
  obtain⟨o,e,c,d⟩:=id ah
  exact⟨u,rfl,Q_ (s:={ s with heap:=h' }) e c d (by decide) ⟨x,H,I1,ru,⟨rfl,fun ys hy=>by rw[I.cF' hy hq];exact hx⟩,ah,fun b hb=>(hf b hb).1⟩⟩
 done:=by
  intro X hP hw hK hc i pins s σ H E I hf st hg
  subst hP hw hK
  obtain⟨xs,hq,hx⟩:=hg
  obtain⟨its,rv,p,hz⟩:=I.tuple hq
  obtain⟨f0,f1,f2,f3,f4,f5⟩:=hf it (by simp)
  have hl:=rv.length
  exact wpAny_pyNext_tuple_end (I.ok.hd hc) st (show s.heap.IsTuple a its.toArray from p) (by simp;lia) fun h' eb=>⟨rfl,I.turned (t':=s.toks) (fun b o hb e=>eb b o hb e) f0 f1 f3 f4 f5⟩
 self:=fun _ _ _ _ _ st h=>wpAny_pyIter_tupleiter st h
theorem cX'{P:Program}{K:PySem.W.Frag}(it:Addr)(lo:Int)(n:Nat):Turn P w K tg (D8 lo n) [it] it (fun i h=>IsRangeIter h it (lo+(i:Nat)*1) ((n:Int)-(i:Nat)) 1) where
 mem:=by simp
 obj:=fun i h st b hb=>by
  have e:b=it:=by simpa using hb
  subst e
  exact⟨_,st,fun v z=>by
   have z':Data.fields _=Data.cell v:=z
   cases z'⟩
 keep:=fun i h h' st k=>k it (by simp) _ st
 item:=by
  intro X hP hw hK hc i pins s σ H E I hf st hg
  subst hP hw hK
  obtain⟨f0,f1,f2,f3,f4,f5⟩:=hf it (by simp)
  have W:=Walks.range (prog:=X.prog) (w:=X.w) (I.ok.hd hc) it lo 1 n
  refine W.item i s _ _ hg st fun v h' tk hv ah kk=>?_
  obtain⟨t,rfl⟩:=hv
  have I1:Inv X pins σ H { s with heap:=h',toks:=tk }:=I.turned (fun b o hb e=>kk b o (by simpa using hb) e) f0 f1 f3 f4 f5
  refine⟨_,rfl,Q_ (s:={ s with heap:=h',toks:=tk }) (n := "range_iterator") ah rfl rfl (by decide) ⟨.int (lo+i),H,I1,⟨t,?_⟩,⟨rfl,rfl⟩,ah,fun b hb=>(hf b hb).1⟩⟩
  rw[Int.mul_one]
 done:=by
  intro X hP hw hK hc i pins s σ H E I hf st hg
  subst hP hw hK
  obtain⟨f0,f1,f2,f3,f4,f5⟩:=hf it (by simp)
  exact wpAny_pyNext_range_end (I.ok.hd hc) st (by have:n<=i:=hg;lia) fun h' eb=>⟨rfl,I.turned (t':=s.toks) (fun b o hb e=>eb b o hb e) f0 f1 f3 f4 f5⟩
 self:=fun _ _ _ _ _ st h=>wpAny_pyIter_rangeiter st h
section
variable {X:Cx}{tg:Expr}
def cY'(K:PySem.W.Frag)(tl:TE):TI:=fun σ H R=>tl σ H fun x H1=>∃ a,x=.ref a/\(∃ xs,dn K H1 a xs)/\R (Ra K a) H1
def cZ'(K:PySem.W.Frag)(tl:TE):TI:=fun σ H R=>tl σ H fun x H1=>∃ a,x=.ref a/\(∃ xs,iS K H1 a xs)/\R (TN K a) H1
theorem Yk(hl:PE X l tl):PI X tg l (cY' X.K tl):=by
 intro pins s σ H R I h
 refine cf (hl pins s σ H _ I h) fun v s1 b9=>L2.fw b9 fun x H1 I1 r1 q1=>?_
 obtain⟨a,e,⟨xs,hq⟩,q⟩:=q1
 subst e
 cases r1
 obtain⟨its,rv,p,hz⟩:=I1.list hq
 refine wpAny_pyIter_list p.isList ?_
 refine⟨s1.heap.objs.size,[s1.heap.objs.size],_,_,H1,rfl,I1.kept (t':=s1.toks) fun b o e=>fe _ e,cV' a _,⟨_,jv _ rfl,rfl,rfl⟩,fun b hb=>?_,q⟩
 have e:b=s1.heap.objs.size:=by simpa using hb
 subst e
 exact I1.D7 (bP _) (I1.aI.fresh (bP _))
theorem da'(hl:PE X l tl):PI X tg l (cZ' X.K tl):=by
 intro pins s σ H R I h
 refine cf (hl pins s σ H _ I h) fun v s1 b9=>L2.fw b9 fun x H1 I1 r1 q1=>?_
 obtain⟨a,e,⟨xs,hq⟩,q⟩:=q1
 subst e
 cases r1
 obtain⟨its,rv,p,hz⟩:=I1.tuple hq
 refine wpAny_pyIter_tuple (show s1.heap.IsTuple a its.toArray from p) ?_
 refine⟨s1.heap.objs.size,[s1.heap.objs.size],_,_,H1,rfl,I1.kept (t':=s1.toks) fun b o e=>fe _ e,cW' a _,⟨_,jv _ rfl,rfl,rfl⟩,fun b hb=>?_,q⟩
 have e:b=s1.heap.objs.size:=by simpa using hb
 subst e
 exact I1.D7 (bP _) (I1.aI.fresh (bP _))
theorem Yl{R:It->Hp->Prop}{lo hi:Int}(I:Inv X pins σ H s)(h1:-(2 ^ 62)<=lo)(h2:lo<2 ^ 62)(h3:-(2 ^ 62)<=hi)(h4:hi<2 ^ 62)
  (q:R (D8 lo (hi-lo).toNat) H):wpAny (model X.prog X.w) X.A (pyIter (.ref s.heap.objs.size)) (Yj X pins σ tg R) E { s with heap:=s.heap.push { cls:=.type "range",data:=.fields #[.int lo t,.int hi u,.int 1 v] },toks:=tk }:=by
 refine wpAny_pyIter_range (IsRange.new ..) (small_one h1 h2 h3 h4) ?_
 have I1:Inv X pins σ H { s with heap:=s.heap.push { cls:=.type "range",data:=.fields #[.int lo t,.int hi u,.int 1 v] },toks:=tk }:=I.kept fun b o e=>fe _ e
 refine⟨(s.heap.push { cls:=.type "range",data:=.fields #[.int lo t,.int hi u,.int 1 v] }).objs.size,[(s.heap.push { cls:=.type "range",data:=.fields #[.int lo t,.int hi u,.int 1 v] }).objs.size],_,_,H,rfl,
  I1.kept (t':=tk) fun b o e=>fe _ e,cX' _ lo (hi-lo).toNat,?_,fun b hb=>?_,q⟩
 ·have e1:lo+((0:Nat):Int)*1=lo:=by simp
  have e2:(((hi-lo).toNat:Nat):Int)-((0:Nat):Int)=Builtin.Range.rangeSize lo hi 1:=by rw[rangeSize_one];split<;>lia
  show IsRangeIter _ _ (lo+((0:Nat):Int)*1) ((((hi-lo).toNat:Nat):Int)-((0:Nat):Int)) 1
  rw[e1,e2]
  exact jv _ rfl
 ·have e:b=(s.heap.push { cls:=.type "range",data:=.fields #[.int lo t,.int hi u,.int 1 v] }).objs.size:=by simpa using hb
  subst e
  exact I1.D7 (bP _) (I1.aI.fresh (bP _))
def db'(ta:TA):TI:=fun σ H R=>ta σ H fun vs H1=>∃ j:Int,vs=[.int j]/\-(2 ^ 62)<=j/\j<2 ^ 62/\R (D8 0 j.toNat) H1
def dc'(ta:TA):TI:=fun σ H R=>ta σ H fun vs H1=>∃ i j:Int,vs=[.int i,.int j]/\(-(2 ^ 62)<=i/\i<2 ^ 62/\-(2 ^ 62)<=j/\j<2 ^ 62)/\R (D8 i (j-i).toNat) H1
theorem de' (hg:Gl X "range") (hm:X.mg "range" = none) (ha:PA X [a] ta) (hs:starEach [a] X.env=[(false,eval a X.env)]:=by rfl):PI X tg (.Call (.Name "range" p) [a] [] pos) (db' ta):=by
 intro pins s σ H R I h
 refine Call_ (wd I hg hm boot_range (PyProof.Rows.callWith_type1 (cf (ha pos pins s σ H _ I h) fun us s1 b9=>L2.fw b9 fun vs H1 I1 r1 q1=>?_) hs rfl))
 obtain⟨j,e,q1,q2,q⟩:=q1
 subst e
 cases r1 with
 |cons r rr =>
  cases rr
  obtain⟨t,rfl⟩:=r
  exact call_range_1 (Yl I1 (by lia) (by lia) q1 q2 (by simpa using q))
theorem df' (hg:Gl X "range") (hm:X.mg "range" = none) (ha:PA X [a,b] ta) (hs:starEach [a,b] X.env=[(false,eval a X.env),(false,eval b X.env)]:=by rfl) (g0:starEach [b] X.env=[(false,eval b X.env)]:=by rfl) :
  PI X tg (.Call (.Name "range" p) [a,b] [] pos) (dc' ta):=by
 intro pins s σ H R I h
 refine Call_ (wd I hg hm boot_range (PyProof.Rows.callWith_type1 (cf (ha pos pins s σ H _ I h) fun us s1 b9=>L2.fw b9 fun vs H1 I1 r1 q1=>?_) (by rw[hs,g0]) (by rw[g0];rfl)))
 obtain⟨i,j,e,⟨q1,q2,q3,q4⟩,q⟩:=q1
 subst e
 cases r1 with
 |cons r rr =>
  cases rr with
  |cons r' rr =>
   cases rr
   obtain⟨t,rfl⟩:=r
   obtain⟨t',rfl⟩:=r'
   exact call_range_2 (Yl I1 q1 q2 q3 q4 q)
def Ym(wi:TI)(g:TG)(tb:TS):TS:=fun D σ H=>wi σ H fun J H1=>∃ W:Nat->Nat->St->Hp->Prop,(∃ m,W 0 m σ H1)/\∀ i m σ H,W i m σ H ->
 (J.stop i H/\D.nx σ H)\/(J.go i H/\∃ N:St->Hp->Prop,(∀ aT H',N aT H'->∃ m',m'<m/\W (i+1) m' aT H')/\∀ x H',J.lP i H x H'->g x σ H' fun kM H2=>tb { D with nx:=N,ct:=N,bk:=D.nx } kM H2)
def LN(fp:List Addr)(h:Heap):List (Addr × Obj):=fp.filterMap fun b=>(h.get? b).map fun o=>(b,o)
theorem Rb(hb:b∈fp)(e:h.get? b=some o):(b,o)∈LN fp h:=S9.mpr ⟨b,hb,by rw[e];rfl⟩
theorem dg'(hp:p∈LN fp h):p.1∈fp/\h.get? p.1=some p.2:=by
 obtain⟨b,hb,e⟩:=S9.mp hp
 cases q:h.get? b with
 |none=>rw[q] at e;cases e
 |some o =>
  rw[q] at e
  have e':(b,o)=p:=Option.some.inj e
  subst e'
  exact⟨hb,q⟩
theorem Inv.pinned(I:Inv X pins σ H s)(hf:∀ b∈fp,tf X pins H b)(ho:∀ b∈fp,∃ o,s.heap.get? b=some o/\∀ v,o.data≠.cell v):Inv X (pins++LN fp s.heap) σ H s :=
 I.X8 fun p hp=>(eJ.mp hp).elim (fun z=>I.pin p (fT _ z)) fun z=>by
  obtain⟨hb,e⟩:=dg' z
  obtain⟨f0,f1,f2,_⟩:=hf p.1 hb
  obtain⟨o,e',d⟩:=ho p.1 hb
  rw[e] at e';cases e'
  exact⟨e,f0,f1,f2,d⟩
theorem Inv.Rc(I:Inv X (pins++pl) σ H s):Inv X pins σ H s:=I.X8 fun p hp=>I.pin p (fT _ (kK _ hp))
theorem dh'(hp:PassesOwn (model X.prog X.w) X.A X.env X.xe)(hc:X.calm=true)(hi:PI X tg iter wi)(hg:PG X tg g)(hb:mP X body tb)
  (hs:∀ x,foldedSetIterable iter X.env x=pure x:=by intro _;rfl):PS X (.For tg iter body [] pos) (Ym wi g tb):=by
 intro pins s σ H D I h
 refine wpAny_For (cf (hi pins s σ H _ I h) fun v s1 h1=>cf h1 fun TL s2 h2=>?_) hs
 obtain⟨it,fp,tn,J,H2,e,I2,T,ve,f2,W,⟨m0,w0⟩,turn⟩:=h2
 subst e
 -- what stays true of the iterator's objects through the loop
 have stat:∀ {H':Hp},(∀ b∈fp,H' b=none)->∀ b∈fp,tf X pins H' b:=fun hn b hb=>⟨hn b hb,(f2 b hb).2⟩
 refine codeAny_forLoop_any (fun n s'=>∃ i aT H',Inv X pins aT H' s'/\tn i s'.heap/\(∀ b∈fp,H' b=none)/\W i n aT H') ?_ m0 ⟨0,σ,H2,I2,ve,fun b hb=>(f2 b hb).1,w0⟩
 rintro n s3 ⟨i,yk,H3,I3,vi,Yn,w3⟩
 rcases turn i n yk H3 w3 with⟨stop,qn⟩|⟨go,N,hN,step⟩
 ·refine wpAny_passesOwn hp (cf (T.done X rfl rfl rfl hc i pins s3 yk H3 X.xe I3 (stat Yn) vi stop) fun r s4 da=>?_)
  obtain⟨hr,I4⟩:=da
  subst hr
  exact wpAny_execs_nil ⟨yk,H3,I4,qn⟩
 ·refine wpAny_passesOwn hp (cf (T.item X rfl rfl rfl hc i pins s3 yk H3 X.xe I3 (stat Yn) vi go) fun r s4 da=>?_)
  obtain⟨u,hr,h4⟩:=da
  subst hr
  refine wpAny_passesOwn hp (cf h4 fun _ s5 da=>?_)
  obtain⟨x,H5,I5,r5,y5,D9,Rf⟩:=da
  have I5':=I5.pinned (stat Rf) (T.obj _ _ D9)
  refine wpAny_passesOwn hp (cf (hg _ s5 yk H5 x u _ I5' r5 (step x H5 y5)) fun _ s6 da=>?_)
  obtain⟨σ6,H6,I6,q6⟩:=da
  refine wpAny_passesOwn hp (cf (hb _ s6 σ6 H6 _ I6 q6) fun f s7 q7=>?_)
  have again:∀ {wm:St} {H7:Hp},Inv X (pins++LN fp s5.heap) wm H7 s7->N wm H7->∃ m,m<n/\∃ i aT H',Inv X pins aT H' s7/\tn i s7.heap/\(∀ b∈fp,H' b=none)/\W i m aT H':=fun {wm H7} I7 n7=>by
   obtain⟨m',hm,w7⟩:=hN wm H7 n7
   refine⟨m',hm,i+1,wm,H7,I7.Rc,T.keep _ _ _ D9 fun b hb o e=>(I7.pin (b,o) (fT _ (fT _ (Rb hb e)))).1,fun b hb=>?_,w7⟩
   obtain⟨o,e,d⟩:=T.obj _ _ D9 b hb
   exact(I7.pin (b,o) (fT _ (fT _ (Rb hb e)))).2.1
  cases f with
  |next=>obtain⟨wm,H7,I7,n7⟩:=q7;exact again I7 n7
  |cont=>obtain⟨wm,H7,I7,n7⟩:=q7;exact again I7 n7
  |brk=>obtain⟨wm,H7,I7,q7⟩:=q7;exact⟨wm,H7,I7.Rc,q7⟩
  |ret v=>obtain⟨x7,wm,H7,I7,r7,q7⟩:=q7;exact⟨x7,wm,H7,I7.Rc,r7,q7⟩
end
abbrev R2:=V->V->Hp->VK->Prop
def dc(X:Cx)(f:Value->Value->Sem Value)(r:R2):Prop :=
 ∀ (pins:List (Addr × Obj)) (s:Shared) (σ:St) (H:Hp) (x y:V) (v u:Value) (Q:VK),Inv X pins σ H s->RelV x v->RelV y u->r x y H Q ->
  wpAny (model X.prog X.w) X.A (f v u) (EP X pins σ Q) X.xe s
def Rg(X:Cx)(f:Value->Sem Value)(r:V->Hp->VK->Prop):Prop :=
 ∀ (pins:List (Addr × Obj)) (s:Shared) (σ:St) (H:Hp) (x:V) (v:Value) (Q:VK),Inv X pins σ H s->RelV x v->r x H Q ->
  wpAny (model X.prog X.w) X.A (f v) (EP X pins σ Q) X.xe s
def ki(X:Cx)(f:Value)(r:List V->Hp->VK->Prop):Prop :=
 ∀ (pins:List (Addr × Obj)) (s:Shared) (σ:St) (H:Hp) (xs:List V) (us:List Value) (Q:VK),Inv X pins σ H s->Vals xs us->r xs H Q ->
  wpAny (model X.prog X.w) X.A (call f us) (EP X pins σ Q) X.xe s
def dl'(X:Cx)(r:V->Hp->(Bool->Hp->Prop)->Prop):Prop :=
 ∀ (pins:List (Addr × Obj)) (s:Shared) (σ:St) (H:Hp) (x:V) (v:Value) (Q:Bool->Hp->Prop),Inv X pins σ H s->RelV x v->r x H Q ->
  wpAny (model X.prog X.w) X.A (truthy v) (TP X pins σ Q) X.xe s
def LP(r:R2)(ta tb:TE):TE:=fun σ H Q=>ta σ H fun x H1=>tb σ H1 fun y H2=>r x y H2 Q
def TQ(r:V->Hp->VK->Prop)(ta:TE):TE:=fun σ H Q=>ta σ H fun x H1=>r x H1 Q
def rI(C:Int->Int->Prop)(g:Int->Int->V):R2:=fun x y H Q=>∃ i j,x=.int i/\y=.int j/\C i j/\Q (g i j) H
def Ee(g:Int->Int->V):R2:=fun x y H Q=>∃ i j,x=.int i/\y=.int j/\Q (g i j) H
def rU(g:Int->V):V->Hp->VK->Prop:=fun x H Q=>∃ i,x=.int i/\Q (g i) H
section
variable {X:Cx}{a b:Expr}{ta tb:TE}{pos:Pos}
theorem TR(ha:PE X a ta)(hb:PE X b tb){pins:List (Addr × Obj)}{s:Shared}{σ:St}{H:Hp}{R:V->V->Hp->Prop}(I:Inv X pins σ H s)
  (h:ta σ H fun x H1=>tb σ H1 fun y H2=>R x y H2) {Q:Value->Shared->Prop} {f:Value->Value->Sem Value}
  (hf:∀ v u s2 x y H2,Inv X pins σ H2 s2->RelV x v->RelV y u->R x y H2->wpAny (model X.prog X.w) X.A (f v u) Q X.xe s2) :
  wpAny (model X.prog X.w) X.A (eval a X.env) (fun v eB=>wpAny (model X.prog X.w) X.A (eval b X.env) (fun u EA=>wpAny (model X.prog X.w) X.A (f v u) Q X.xe EA) X.xe eB) X.xe s:=by
 refine cf (ha pins s σ H _ I h) fun v s1 b9=>L2.fw b9 fun x H1 I1 r1 q1=>?_
 refine cf (hb pins s1 σ H1 _ I1 q1) fun u s2 b9=>L2.fw b9 fun y H2 I2 r2 q2=>?_
 exact hf v u s2 x y H2 I2 r1 r2 q2
theorem dm'{op:Operator}{r:R2}(ho:dc X (binaryOp op) r)(ha:PE X a ta)(hb:PE X b tb):PE X (.BinOp a op b pos) (LP r ta tb):=by
 intro pins s σ H Q I h
 exact wpAny_BinOp (TR ha hb I h fun v u s2 x y H2 I2 rx ry q=>ho pins s2 σ H2 x y v u Q I2 rx ry q)
theorem dn'(ho:Rg X (unaryOp op) r)(ha:PE X a ta):PE X (.UnaryOp op a pos) (TQ r ta):=by
 intro pins s σ H Q I h
 exact UnaryOp_ (cf (ha pins s σ H _ I h) fun v s1 b9=>L2.fw b9 fun x H1 I1 r1 q1=>ho pins s1 σ H1 x v Q I1 r1 q1)
theorem Rh{f:Value->Value->Sem Value}{C:Int->Int->Prop}{g:Int->Int->Int}
  (rule:∀ (i j:Int) (t u:Tok) (s:Shared) (Q:Value->Shared->Prop) (E:Value->Shared->Prop),C i j->Q (.int (g i j) s.toks) { s with toks:=s.toks+1 }->wpAny (model X.prog X.w) X.A (f (.int i t) (.int j u)) Q E s) :
  dc X f (rI C fun i j=>.int (g i j)):=by
 intro pins s σ H x y v u Q I rx ry h
 obtain⟨i,j,rfl,rfl,hc,q⟩:=h
 obtain⟨t,rfl⟩:=rx
 obtain⟨t',rfl⟩:=ry
 exact rule i j t t' s _ _ hc ⟨.int (g i j),H,I.tok _,⟨_,rfl⟩,q⟩
theorem Yo{f:Value->Value->Sem Value}{g:Int->Int->Int}
  (rule:∀ (i j:Int) (t u:Tok) (s:Shared) (Q:Value->Shared->Prop) (E:Value->Shared->Prop),Q (.int (g i j) s.toks) { s with toks:=s.toks+1 }->wpAny (model X.prog X.w) X.A (f (.int i t) (.int j u)) Q E s) :
  dc X f (Ee fun i j=>.int (g i j)):=by
 intro pins s σ H x y v u Q I rx ry h
 obtain⟨i,j,rfl,rfl,q⟩:=h
 obtain⟨t,rfl⟩:=rx
 obtain⟨t',rfl⟩:=ry
 exact rule i j t t' s _ _ ⟨.int (g i j),H,I.tok _,⟨_,rfl⟩,q⟩
theorem TV{f:Value->Value->Sem Value}{g:Int->Int->Bool}
  (rule:∀ (i j:Int) (t u:Tok) (s:Shared) (Q:Value->Shared->Prop) (E:Value->Shared->Prop),Q (.bool (g i j)) s->wpAny (model X.prog X.w) X.A (f (.int i t) (.int j u)) Q E s) :
  dc X f (Ee fun i j=>.bl (g i j)):=by
 intro pins s σ H x y v u Q I rx ry h
 obtain⟨i,j,rfl,rfl,q⟩:=h
 obtain⟨t,rfl⟩:=rx
 obtain⟨t',rfl⟩:=ry
 exact rule i j t t' s _ _ ⟨.bl (g i j),H,I,rfl,q⟩
def dp'(i j:Int):Prop:=0<j/\j<1073741824
def FY(i j:Int):Prop:=0<=j/\j<=1000000/\i.natAbs<2 ^ 64
def EB(i j:Int):Prop:=(-(2 ^ 64)<i/\i<2 ^ 64)\/(-(2 ^ 64)<j/\j<2 ^ 64)
theorem EB.ok(h:EB i j):IntMulOk i j:=by
 rcases h with⟨h1,h2⟩|⟨h1,h2⟩
 ·exact .of_left (intBits_le_64 h1 h2)
 ·exact .of_right (intBits_le_64 h1 h2)
theorem dq':dc X (binaryOp .Add) (Ee fun i j=>.int (i+j)):=Yo fun _ _ _ _ _ _ _ q=>add_int q
theorem dr':dc X (binaryOp .Sub) (Ee fun i j=>.int (i-j)):=Yo fun _ _ _ _ _ _ _ q=>sub_int q
theorem ds':dc X (binaryOp .Mult) (rI EB fun i j=>.int (i*j)):=Rh fun _ _ _ _ _ _ _ hc q=>mul_int q hc.ok
theorem dt':dc X (binaryOp .FloorDiv) (rI dp' fun i j=>.int (i / j)):=Rh fun i j _ _ _ _ _ hc q=>by
 have h1:(0:Int)<j:=hc.1
 have h2:j<1073741824:=hc.2
 exact floordiv_int (by lia) (by rw[Int.fdiv_eq_ediv_of_nonneg i (by exact An ‹_›)];exact q) (.inl (PyProof.noPylong_small (by lia)))
theorem du':dc X (binaryOp .Mod) (rI (fun _ j=>0<j) fun i j=>.int (i % j)):=Rh fun i j _ _ _ _ _ hc q=>by
 have h1:(0:Int)<j:=hc
 exact mod_int' (by lia) (by rw[Int.fmod_eq_emod_of_nonneg i (by exact An ‹_›)];exact q)
theorem dv':dc X (binaryOp .Pow) (rI FY fun i j=>.int (i ^ j.toNat)):=Rh fun _ _ _ _ _ _ _ hc q=>pow_int_small hc.1 hc.2.1 hc.2.2 q
theorem unI{f:Value->Sem Value}{g:Int->Int}
  (rule:∀ (i:Int) (t:Tok) (s:Shared) (Q:Value->Shared->Prop) (E:Value->Shared->Prop),Q (.int (g i) s.toks) { s with toks:=s.toks+1 }->wpAny (model X.prog X.w) X.A (f (.int i t)) Q E s) :
  Rg X f (rU fun i=>.int (g i)):=by
 intro pins s σ H x v Q I rx h
 obtain⟨i,rfl,q⟩:=h
 obtain⟨t,rfl⟩:=rx
 exact rule i t s _ _ ⟨.int (g i),H,I.tok _,⟨_,rfl⟩,q⟩
theorem dx':Rg X (unaryOp .USub) (rU fun i=>.int (-i)):=unI fun _ _ _ _ _ q=>neg_int q
end
def Yp:V->V->Bool
 |.non,.non=>true|.non,.int _=>true|.int _,.non=>true|.non,.bl _=>true|.bl _,.non=>true|.non,.str _=>true|.str _,.non=>true
 |.int _,.int _=>true|.bl _,.bl _=>true|.str _,.str _=>true|.qS _,.qS _=>true
 |.int _,.str _=>true|.str _,.int _=>true|.bl _,.str _=>true|.str _,.bl _=>true
 |_,_=>false
def rEq:R2:=fun x y H Q=>Yp x y=true/\Q (.bl (decide (x=y))) H
def rNe:R2:=fun x y H Q=>Yp x y=true/\Q (.bl (!decide (x=y))) H
theorem Yq:decide (V.int i=V.int j)=(i == j):=by
 rw[sP]
 simp
theorem Yr:decide (V.bl i=V.bl j)=(i == j):=by
 rw[sP]
 simp
theorem Ys:decide (V.str i=V.str j)=(i == j):=by
 rw[sP]
 simp
theorem Yt:decide (V.qS i=V.qS j)=(i.toList == j.toList):=by
 rw[sP]
 cases i
 cases j
 simp
section
variable {X:Cx}{a b c:Expr}{ta tb tc:TE}{pos:Pos}
theorem g7(I:Inv X pins σ H s)(q:Q (.bl k) H)(e:k=k'):EP X pins σ Q (.bool k') s:=by
 subst e
 exact⟨.bl k,H,I,rfl,q⟩
theorem dA':dc X (compareOp .Eq) rEq:=by
 intro pins s σ H x y v u Q I rx ry h
 obtain⟨hs,q⟩:=h
 cases x with
 |non =>
  cases rx
  cases y with
  |non=>cases ry;exact PySem.EqNone.eq_none_none (g7 I q (by simp))
  |bl j=>cases ry;exact PySem.EqNone.eq_none_bool (g7 I q (by simp))
  |int j=>obtain⟨t',rfl⟩:=ry;exact PySem.EqNone.eq_none_int (g7 I q (by simp))
  |str j=>obtain⟨t',rfl⟩:=ry;exact PySem.EqNone.eq_none_str (g7 I q (by simp))
  |_=>exact absurd (show false=true from hs) kA
 |bl i =>
  cases rx
  cases y with
  |non=>cases ry;exact PySem.EqNone.eq_bool_none (g7 I q (by simp))
  |bl j=>cases ry;exact eq_bool (g7 I q Yr)
  |str j=>obtain⟨t',rfl⟩:=ry;exact PySem.EqMixed.eq_bool_str (g7 I q (by simp))
  |_=>exact absurd (show false=true from hs) kA
 |int i =>
  obtain⟨t,rfl⟩:=rx
  cases y with
  |non=>cases ry;exact PySem.EqNone.eq_int_none (g7 I q (by simp))
  |int j=>obtain⟨t',rfl⟩:=ry;exact eq_int (g7 I q Yq)
  |str j=>obtain⟨t',rfl⟩:=ry;exact PySem.EqMixed.eq_int_str (g7 I q (by simp))
  |_=>exact absurd (show false=true from hs) kA
 |str i =>
  obtain⟨t,rfl⟩:=rx
  cases y with
  |non=>cases ry;exact PySem.EqNone.eq_str_none (g7 I q (by simp))
  |bl j=>cases ry;exact PySem.EqMixed.eq_str_bool (g7 I q (by simp))
  |int j=>obtain⟨t',rfl⟩:=ry;exact PySem.EqMixed.eq_str_int (g7 I q (by simp))
  |str j=>obtain⟨t',rfl⟩:=ry;exact eq_str (g7 I q Ys)
  |_=>exact absurd (show false=true from hs) kA
 |qS i =>
  obtain⟨t,rfl⟩:=rx
  cases y with
  |qS j=>obtain⟨t',rfl⟩:=ry;exact PySem.W.eq_bytes (g7 I q Yt)
  |_=>exact absurd (show false=true from hs) kA
 |_=>cases y<;>exact absurd (show false=true from hs) kA
theorem dB':dc X (compareOp .NotEq) rNe:=by
 intro pins s σ H x y v u Q I rx ry h
 obtain⟨hs,q⟩:=h
 cases x with
 |non =>
  cases rx
  cases y with
  |non=>cases ry;exact PySem.EqNone.ne_none_none (g7 I q (by simp))
  |bl j=>cases ry;exact PySem.EqNone.ne_none_bool (g7 I q (by simp))
  |int j=>obtain⟨t',rfl⟩:=ry;exact PySem.EqNone.ne_none_int (g7 I q (by simp))
  |str j=>obtain⟨t',rfl⟩:=ry;exact PySem.EqNone.ne_none_str (g7 I q (by simp))
  |_=>exact absurd (show false=true from hs) kA
 |bl i =>
  cases rx
  cases y with
  |non=>cases ry;exact PySem.EqNone.ne_bool_none (g7 I q (by simp))
  |bl j=>cases ry;exact ne_bool (g7 I q (congrArg not Yr))
  |str j=>obtain⟨t',rfl⟩:=ry;exact PySem.EqMixed.ne_bool_str (g7 I q (by simp))
  |_=>exact absurd (show false=true from hs) kA
 |int i =>
  obtain⟨t,rfl⟩:=rx
  cases y with
  |non=>cases ry;exact PySem.EqNone.ne_int_none (g7 I q (by simp))
  |int j=>obtain⟨t',rfl⟩:=ry;exact ne_int (g7 I q (congrArg not Yq))
  |str j=>obtain⟨t',rfl⟩:=ry;exact PySem.EqMixed.ne_int_str (g7 I q (by simp))
  |_=>exact absurd (show false=true from hs) kA
 |str i =>
  obtain⟨t,rfl⟩:=rx
  cases y with
  |non=>cases ry;exact PySem.EqNone.ne_str_none (g7 I q (by simp))
  |bl j=>cases ry;exact PySem.EqMixed.ne_str_bool (g7 I q (by simp))
  |int j=>obtain⟨t',rfl⟩:=ry;exact PySem.EqMixed.ne_str_int (g7 I q (by simp))
  |str j=>obtain⟨t',rfl⟩:=ry;exact ne_str (g7 I q (congrArg not Ys))
  |_=>exact absurd (show false=true from hs) kA
 |qS i =>
  obtain⟨t,rfl⟩:=rx
  cases y with
  |qS j=>obtain⟨t',rfl⟩:=ry;exact PySem.W.ne_bytes (g7 I q (congrArg not Yt))
  |_=>exact absurd (show false=true from hs) kA
 |_=>cases y<;>exact absurd (show false=true from hs) kA
theorem dC':dc X (compareOp .Lt) (Ee fun i j=>.bl (decide (i<j))):=TV fun _ _ _ _ _ _ _ q=>lt_int q
theorem dD':dc X (compareOp .LtE) (Ee fun i j=>.bl (decide (i<=j))):=TV fun _ _ _ _ _ _ _ q=>le_int q
theorem dE':dc X (compareOp .Gt) (Ee fun i j=>.bl (decide (j<i))):=TV fun _ _ _ _ _ _ _ q=>gt_int q
theorem dF':dc X (compareOp .Lt) (fun x y H Q=>∃ i j,x=.str i/\y=.str j/\Q (.bl (decide (i.cps.toList<j.cps.toList))) H):=by
 intro pins s σ H x y v u Q I rx ry h
 obtain⟨i,j,rfl,rfl,q⟩:=h
 obtain⟨t,rfl⟩:=rx
 obtain⟨t',rfl⟩:=ry
 exact lt_str (g7 I q rfl)
theorem dG':dc X (compareOp .In) (fun x y H Q=>∃ i j,x=.str i/\y=.str j/\Q (.bl (!(Builtin.Str.occurrences j i 0 j.length 1).isEmpty)) H):=by
 intro pins s σ H x y v u Q I rx ry h
 obtain⟨i,j,rfl,rfl,q⟩:=h
 obtain⟨t,rfl⟩:=rx
 obtain⟨t',rfl⟩:=ry
 exact in_str (g7 I q rfl)
theorem dH':dc X (compareOp .NotIn) (fun x y H Q=>∃ i j,x=.str i/\y=.str j/\Q (.bl (!(!(Builtin.Str.occurrences j i 0 j.length 1).isEmpty))) H):=by
 intro pins s σ H x y v u Q I rx ry h
 obtain⟨i,j,rfl,rfl,q⟩:=h
 obtain⟨t,rfl⟩:=rx
 obtain⟨t',rfl⟩:=ry
 exact notIn_str (g7 I q rfl)
theorem dc.or(h:dc X f r)(h':dc X f r'):dc X f (fun x y H Q=>r x y H Q\/r' x y H Q):=by
 intro pins s σ H x y v u Q I rx ry q
 rcases q with q|q
 ·exact h pins s σ H x y v u Q I rx ry q
 ·exact h' pins s σ H x y v u Q I rx ry q
theorem eR(b:Expr)(h:op≠.In:=by decide)(h2:op≠.NotIn:=by decide):behindInMarks op b=false:=by
 have e1:(op == CmpOp.In)=false:=by cases op<;>first|rfl|exact absurd rfl h
 have e2:(op == CmpOp.NotIn)=false:=by cases op<;>first|rfl|exact absurd rfl h2
 cases b<;>simp[behindInMarks,e1,e2]
theorem dI'{op:CmpOp}{r:R2}(ho:dc X (compareOp op) r)(ha:PE X a ta)(hb:PE X b tb)(hm:behindInMarks op b=false):PE X (.Compare a [op] [b] pos) (LP r ta tb):=by
 intro pins s σ H Q I h
 exact wpAny_Compare1 (TR ha hb I h fun v u s2 x y H2 I2 rx ry q=>ho pins s2 σ H2 x y v u Q I2 rx ry q) hm
def TX(t:TE):TT:=fun σ H Q=>t σ H fun x H'=>∃ k,x=.bl k/\Q k H'
theorem dJ'(ho:dc X (compareOp op) r)(ha:PE X a ta)(hb:PE X b tb)(hm:behindInMarks op b=false):PT X (.Compare a [op] [b] pos) (TX (LP r ta tb)):=by
 intro pins s σ H Q I h
 refine wpAny_isTrue_Compare1 (cf (ha pins s σ H _ I h) fun v s1 b9=>L2.fw b9 fun x H1 I1 r1 q1=>cf (hb pins s1 σ H1 _ I1 q1) fun u s2 b9=>L2.fw b9 fun y H2 I2 r2 q2 =>
  cf (ho pins s2 σ H2 x y v u _ I2 r1 r2 q2) fun c s3 ⟨z,H3,I3,r3,k,e,q3⟩=>?_) hm
 subst e
 cases r3
 exact wpAny_truthy_bool ⟨H3,I3,q3⟩
def TY(r r':R2)(ta tb tc:TE):TE:=fun σ H Q=>ta σ H fun x H1=>tb σ H1 fun y H2=>r x y H2 fun z H3=>∃ k,z=.bl k /\
 (if k=true then tc σ H3 fun w' H4=>r' y w' H4 Q else Q (.bl false) H3)
theorem dK'(ho:dc X (compareOp op) r)(kL:dc X (compareOp op') r')(ha:PE X a ta)(hb:PE X b tb)(hc:PE X c tc)
  (hm:lastMarks [op,op'] [b,c]=false:=by with_unfolding_all rfl):PE X (.Compare a [op,op'] [b,c] pos) (TY r r' ta tb tc):=by
 intro pins s σ H Q I h
 refine Compare_chain (cf (ha pins s σ H _ I h) fun v s1 b9=>L2.fw b9 fun x H1 I1 r1 q1=>chain_link (cf (hb pins s1 σ H1 _ I1 q1) fun u s2 b9=>L2.fw b9 fun y H2 I2 r2 q2 =>
  cf (ho pins s2 σ H2 x y v u _ I2 r1 r2 q2) fun d s3 ⟨z,H3,I3,r3,k,e,q3⟩=>?_)) hm
 subst e
 cases r3
 refine wpAny_truthy_bool ?_
 cases k with
 |false=>exact ite_ff ⟨.bl false,H3,I3,rfl,q3⟩
 |true=>exact ite_tt (chain_last (cf (hc pins s3 σ H3 _ I3 q3) fun w' s4 ⟨z',H4,I4,r4,q4⟩=>kL pins s4 σ H4 y z' u w' Q I4 r2 r4 q4))
theorem dL'(ho:dc X (compareOp op) r)(kL:dc X (compareOp op') r')(ha:PE X a ta)(hb:PE X b tb)(hc:PE X c tc)
  (hm:lastMarks [op,op'] [b,c]=false:=by with_unfolding_all rfl):PT X (.Compare a [op,op'] [b,c] pos) (TX (TY r r' ta tb tc)):=by
 intro pins s σ H Q I h
 refine isTrue_chain (cf (ha pins s σ H _ I h) fun v s1 b9=>L2.fw b9 fun x H1 I1 r1 q1=>test_link (cf (hb pins s1 σ H1 _ I1 q1) fun u s2 b9=>L2.fw b9 fun y H2 I2 r2 q2 =>
  cf (ho pins s2 σ H2 x y v u _ I2 r1 r2 q2) fun d s3 ⟨z,H3,I3,r3,k,e,q3⟩=>?_)) hm
 subst e
 cases r3
 refine wpAny_truthy_bool ?_
 cases k with
 |false =>
  obtain⟨k',e',q'⟩:=q3
  cases e'
  exact ite_ff ⟨H3,I3,q'⟩
 |true =>
  refine ite_tt (test_last (cf (hc pins s3 σ H3 _ I3 q3) fun w' s4 ⟨z',H4,I4,r4,q4⟩=>cf (kL pins s4 σ H4 y z' u w' _ I4 r2 r4 q4) fun d' s5 da=>?_))
  obtain⟨z2,H5,I5,r5,k2,e2,q5⟩:=da
  subst e2
  cases r5
  exact wpAny_truthy_bool ⟨H5,I5,q5⟩
def T1(K:PySem.W.Frag)(x:V)(H:Hp)(k:Bool):Prop :=
 match x with
 |.non=>k=false
 |.bl b=>k=b
 |.int i=>k=(i != 0)
 |.str y=>y.length<=sizeLine/\k=((y.length:Int) != 0)
 |.qS y=>y.size<=sizeLine/\k=((y.size:Int) != 0)
 |.ref p=>(∃ xs,dn K H p xs/\k = !xs.isEmpty)\/(∃ xs,iS K H p xs/\k = !xs.isEmpty)\/∃ kvs,H p=some (.dK kvs)/\k = !kvs.isEmpty
 |_=>False
theorem dM'{κ:Type}{kvs:List (κ × V)}{vs:List (κ × Value)}(r:KV kvs vs):(!vs.isEmpty) = !kvs.isEmpty:=by
 cases r<;>rfl
theorem Yu(r:Vals xs its):(!its.toArray.isEmpty) = !xs.isEmpty:=by
 cases r<;>simp
theorem LS:(sizeLine:Nat)<2 ^ 63:=by rw[sizeLine_eq];decide
theorem dN':dl' X (fun x H Q=>∃ k,T1 X.K x H k/\Q k H):=by
 intro pins s σ H x v Q I rx h
 obtain⟨k,e,q⟩:=h
 have hl:=LS
 have hs:sizeLine=16777216:=sizeLine_eq
 cases x with
 |non =>
  cases rx
  have e':k=false:=e
  subst e'
  exact truthy_none ⟨H,I,q⟩
 |bl b =>
  cases rx
  have e':k=b:=e
  subst e'
  exact wpAny_truthy_bool ⟨H,I,q⟩
 |int i =>
  obtain⟨t,rfl⟩:=rx
  have e':k=(i != 0):=e
  subst e'
  exact PySem.P.truthy_int ⟨H,I,q⟩
 |str y =>
  obtain⟨t,rfl⟩:=rx
  obtain⟨hy,e'⟩:y.length<=sizeLine/\k=((y.length:Int) != 0):=e
  subst e'
  exact PySem.P.truthy_str (by lia) ⟨H,I.tok _,q⟩
 |qS y =>
  obtain⟨t,rfl⟩:=rx
  obtain⟨hy,e'⟩:y.size<=sizeLine/\k=((y.size:Int) != 0):=e
  subst e'
  exact PySem.W.truthy_bytes (by lia) ⟨H,I.tok _,q⟩
 |ref p =>
  cases rx
  have e':(∃ xs,dn X.K H p xs/\k = !xs.isEmpty)\/(∃ xs,iS X.K H p xs/\k = !xs.isEmpty)\/∃ kvs,H p=some (.dK kvs)/\k = !kvs.isEmpty:=e
  rcases e' with⟨xs,hx,e'⟩|⟨xs,hx,e'⟩|⟨kvs,hx,e'⟩
  ·subst e'
   obtain⟨its,r,pl,hz⟩:=I.list hx
   have hlen:=r.length
   exact wpAny_truthy_list pl.isList (by simp only[hX];lia) ⟨H,I.tok _,by rw[Yu r];exact q⟩
  ·subst e'
   obtain⟨its,r,pl,hz⟩:=I.tuple hx
   have hlen:=r.length
   exact truthy_tuple pl (by simp only[hX];lia) ⟨H,I.tok _,by rw[Yu r];exact q⟩
  ·subst e'
   obtain⟨hz,hS,vs,r,m⟩:kvs.length<=sizeLine/\(p == sysModules)=false/\∃ vs,KV kvs vs/\s.heap.DictOf (kR X.prog X.w) p vs:=I.aI p _ hx
   have hlen:kvs.length=vs.length:=Paired.length r
   exact wpAny_truthy_dict hS m (by lia) ⟨H,I.tok _,by rw[dM' r];exact q⟩
 |_=>exact(show False from e).elim
theorem dO'(ha:PE X a ta)(he:∀ whole,isTrue a X.env whole=(do let v <- whole;standAt a.pos;holding [v] (truthy v))) :
  PT X a (fun σ H Q=>ta σ H fun x H'=>∃ k,T1 X.K x H' k/\Q k H'):=by
 intro pins s σ H Q I h
 exact isTrue_plain (cf (ha pins s σ H _ I h) fun v s1 b9=>L2.fw b9 fun x H1 I1 r1 q1=>dN' pins s1 σ H1 x v Q I1 r1 q1) (he _)
theorem dP':dc X (binaryOp .Add) (fun x y H Q=>∃ i j,x=.str i/\y=.str j/\i.length+j.length<=sizeLine/\Q (.str (i++j)) H):=by
 intro pins s σ H x y v u Q I rx ry h
 obtain⟨i,j,rfl,rfl,hz,q⟩:=h
 obtain⟨t,rfl⟩:=rx
 obtain⟨t',rfl⟩:=ry
 exact add_str (fun t' tk=>⟨.str (i++j),H,I.tok _,⟨_,rfl⟩,q⟩) hz
theorem vals1(r:Vals [x] us):∃ u,us=[u]/\RelV x u:=by
 cases r with
 |cons r1 r2=>cases r2;exact⟨_,rfl,r1⟩
theorem vals2(r:Vals [x,y] us):∃ u w',us=[u,w']/\RelV x u/\RelV y w':=by
 cases r with
 |cons r1 r2 =>
  cases r2 with
  |cons r3 r4=>cases r4;exact⟨_,_,rfl,r1,r3⟩
theorem dQ' (hc:X.calm=true):ki X (.builtin "min") (fun xs H Q=>∃ i j,xs=[.int i,.int j]/\Q (.int (if j<i then j else i)) H):=by
 intro pins s σ H xs us Q I r h
 obtain⟨i,j,rfl,q⟩:=h
 obtain⟨u,w',rfl,⟨t,rfl⟩,⟨t',rfl⟩⟩:=vals2 r
 refine min_two_ints (I.ok.hd hc) fun h' tk k=>⟨_,H,I.kept k,?_,q⟩
 by_cases hj:j<i
 ·rw[if_pos hj,if_pos hj];exact⟨_,rfl⟩
 ·rw[if_neg hj,if_neg hj];exact⟨_,rfl⟩
def dR'(K:PySem.W.Frag)(x:V)(H:Hp)(n:Nat):Prop :=
 match x with
 |.str y=>y.length<=sizeLine/\n=y.length
 |.qS y=>y.size<=sizeLine/\n=y.size
 |.ref p=>(∃ xs,dn K H p xs/\n=xs.length)\/∃ xs,iS K H p xs/\n=xs.length
 |_=>False
theorem T2:ki X (.builtin "len") (fun xs H Q=>∃ x n,xs=[x]/\dR' X.K x H n/\Q (.int n) H):=by
 intro pins s σ H xs us Q I r h
 obtain⟨x,n,rfl,e,q⟩:=h
 obtain⟨u,rfl,rx⟩:=vals1 r
 have hl:=LS
 have hs:sizeLine=16777216:=sizeLine_eq
 cases x with
 |str y =>
  obtain⟨t,rfl⟩:=rx
  obtain⟨hy,e'⟩:y.length<=sizeLine/\n=y.length:=e
  subst e'
  exact len_str (by lia) ⟨.int _,H,I.tok _,⟨_,rfl⟩,q⟩
 |qS y =>
  obtain⟨t,rfl⟩:=rx
  obtain⟨hy,e'⟩:y.size<=sizeLine/\n=y.size:=e
  subst e'
  exact PySem.W.len_bytes (by walk_at "s4") ⟨.int _,H,I.tok _,⟨_,rfl⟩,q⟩
 |ref p =>
  cases rx
  have e':(∃ xs,dn X.K H p xs/\n=xs.length)\/∃ xs,iS X.K H p xs/\n=xs.length:=e
  rcases e' with⟨xs,hx,e'⟩|⟨xs,hx,e'⟩
  ·subst e'
   obtain⟨its,r',pl,hz⟩:=I.list hx
   have hlen:=r'.length
   exact Calls.call_len_list pl.isList (by simp only[hX];lia) ⟨.int xs.length,H,I.tok _,⟨_,by simp only[hX];rw[hlen]⟩,q⟩
  ·subst e'
   obtain⟨its,r',pl,hz⟩:=I.tuple hx
   have hlen:=r'.length
   exact len_tuple pl (by simp only[hX];lia) ⟨.int xs.length,H,I.tok _,⟨_,by simp only[hX];rw[hlen]⟩,q⟩
 |_=>exact(show False from e).elim
end
structure T3(h:Heap)(x dx C:Addr)(mA:Str->Option Value):Prop where
 obj:h.get? x=some (PySem.W.instObj C dx)
 ns:h.Ns1 dx mA
 ne:dx≠x
theorem lookIn_ns{h:Heap}{dx:Addr}{mA:Str->Option Value}(n:h.Ns1 dx mA):∃ od,h.get? dx=some od/\∀ name,PySem.W.lookIn name od=some (mA name):=by
 obtain⟨o,es,ep,ho,hd,hk,_,hm⟩:=n
 refine⟨o,ho,fun name=>?_⟩
 have e:=hm name
 unfold nsFind findBy at e
 rw[<- Array.find?_toList] at e
 unfold PySem.W.lookIn
 rw[hd]
 dsimp only
 split
 ·rename_i y q
  rw[q] at e
  exact congrArg some e
 ·rename_i q
  rw[q] at e
  have a:es.toList.any (·.refKey)=false:=by
   rw[List.any_eq_false]
   intro y hy
   obtain⟨z,t,dS'⟩:=hk y (Array.mem_toList_iff.mp hy)
   simp[DictEntry.refKey,dS']
  have a':¬ es.toList.any (·.refKey)=true:=by rw[a];exact kA
  rw[if_neg a']
  exact congrArg some e
theorem T3.look(I:T3 h x dx C mA):∃ od,PySem.W.InstAt h x (PySem.W.instObj C dx) C (some od)/\∀ name,PySem.W.lookIn name od=some (mA name) :=
 let ⟨od,ho,hl⟩:=lookIn_ns I.ns
 ⟨od,⟨I.obj,rfl,rfl,ho⟩,hl⟩
theorem sQ.some_of(r:sQ (some v) o):∃ u,o=some u/\RelV v u:=by
 cases o with
 |none=>exact(show False from r).elim
 |some u=>exact⟨u,rfl,r⟩
section
variable {P:Program}{w:World}{H:Hp}{h:Heap}{a C dx:Addr}{fs:List (Str × V)}
theorem Ri(aI:gy P w H h)(e:H a=some (.ins C dx fs)):∃ mA,T3 h a dx C mA/\(∀ f,sQ (fs.lookup f) (mA f))/\PySem.Within mA (fs.map (·.1))/\fs.length<=1000/\H dx=some (.own a):=by
 obtain⟨d,z,ne,ob,mA,n,r,q⟩:=(show fI P w H h a (.ins C dx fs) from aI a _ e)
 exact⟨mA,⟨ob,n,ne⟩,r,q,z,d⟩
end
structure T4(K:PySem.W.Frag)(C:Addr):Prop where
 pg:PySem.W.plainGet K C Str.empty=true
 hd:PySem.W.hasDictIn K C=true
 po:PySem.W.plainOver K C=true
 sa:PySem.W.findIn K (.ref C) "__setattr__" = some (some (.builtin "object.__setattr__"))
theorem T4.get{K:PySem.W.Frag}(c:T4 K C)(f:Str):PySem.W.plainGet K C f=true:=c.pg
section
variable {X:Cx}{pins:List (Addr × Obj)}{σ:St}{H:Hp}{s:Shared}{A:Around}{E:Value->Shared->Prop}{Q:Value->Shared->Prop}{c:Value}{b:Bool}
inductive vj(K:PySem.W.Frag)(H:Hp):V->Value->Prop where
 |non:vj K H .non (.type "NoneType")
 |bl (x:Bool):vj K H (.bl x) (.type "bool")
 |int (i:Int):vj K H (.int i) (.type "int")
 |str (x:Str):vj K H (.str x) (.type "str")
 |Ap (x:UInt64):vj K H (.Ap x) (.type "float")
 |lst {a:Addr} {xs:List V} (e:H a=some (.lst xs)):vj K H (.ref a) (.type "list")
 |mM {a:Addr} {o:Obj} {xs:List V} (e:H a=some (.mM o (.lst xs))):vj K H (.ref a) (.type "list")
 |tup {a:Addr} {xs:List V} (e:H a=some (.tup xs)):vj K H (.ref a) (.type "tuple")
 |dK {a:Addr} {kvs:List (Key × V)} (e:H a=some (.dK kvs)):vj K H (.ref a) (.type "dict")
 |dT {a:Addr} {kvs:List (List Key × V)} (e:H a=some (.dT kvs)):vj K H (.ref a) (.type "dict")
 |ins {a C dx:Addr} {fs:List (Str × V)} (e:H a=some (.ins C dx fs)) (cl:T4 K C) (ha:PySem.W.findIn K (.ref C) "__class__" = some (some (.builtin "object.__class__")))
   (hn:PySem.W.specialIn K (.builtin "object.__class__") "__get__" = some (some (.builtin "getset_descriptor.__get__"))) (Yv:PySem.W.takesIn K (.builtin "object.__class__")=some true)
   (hm:PySem.W.mroIn K C (.type "object")=some true):vj K H (.ref a) (.ref C)
theorem LV(I:Inv X pins σ H s)(rx:RelV x u)(ty:vj X.K H x t)(e:PySem.W.kitOne X.K t c=some b)(h:∀ tk,Q (.bool b) { s with toks:=tk }) :
  wpAny (model X.prog X.w) A (call (.builtin "isinstance") [u,c]) Q E s:=by
 cases ty with
 |non=>cases (show u=Value.none from rx);exact PySem.W.kia_one PySem.W.kitx_none I.i9 True.intro e (fun z=>nomatch z) h
 |bl y=>cases (show u=Value.bool y from rx);exact PySem.W.kia_one PySem.W.kitx_bool I.i9 True.intro e (fun z=>nomatch z) h
 |int i=>obtain⟨t,q⟩:=(show ∃ t,u=Value.int i t from rx);cases q;exact PySem.W.kia_one PySem.W.kitx_int I.i9 True.intro e (fun z=>nomatch z) h
 |str y=>obtain⟨t,q⟩:=(show ∃ t,u=Value.str y t from rx);cases q;exact PySem.W.kia_one PySem.W.kitx_str I.i9 True.intro e (fun z=>nomatch z) h
 |Ap y=>obtain⟨t,q⟩:=(show ∃ t,u=Value.float y t from rx);cases q;exact PySem.W.kia_one PySem.W.kitx_float I.i9 True.intro e (fun z=>nomatch z) h
 |@lst a xs ea =>
  cases (show u=Value.ref a from rx)
  obtain⟨_,_,n,_,h1⟩:=(show fI X.prog X.w H s.heap a (.lst xs) from I.aI a _ ea)
  exact PySem.W.kia_one PySem.W.kitx_list I.i9 ⟨_,h1,rfl⟩ e (fun z=>nomatch z) h
 |@mM a ob xs ea =>
  cases (show u=Value.ref a from rx)
  obtain⟨_,_,_,n,_,h1⟩:=(show fI X.prog X.w H s.heap a (.mM ob (.lst xs)) from I.aI a _ ea)
  exact PySem.W.kia_one PySem.W.kitx_list I.i9 ⟨_,h1,rfl⟩ e (fun z=>nomatch z) h
 |@tup a xs ea =>
  cases (show u=Value.ref a from rx)
  obtain⟨_,_,_,p⟩:=(show fI X.prog X.w H s.heap a (.tup xs) from I.aI a _ ea)
  obtain⟨o,h1,h2,_⟩:=p
  exact PySem.W.kia_one PySem.W.kitx_tuple I.i9 ⟨o,h1,h2⟩ e (fun z=>nomatch z) h
 |@dK a kvs ea =>
  cases (show u=Value.ref a from rx)
  obtain⟨_,_,vs,_,p⟩:=(show fI X.prog X.w H s.heap a (.dK kvs) from I.aI a _ ea)
  obtain⟨o,es,ep,h1,h2,_⟩:=p
  exact PySem.W.kia_one PySem.W.kitx_dict I.i9 ⟨o,h1,h2.1⟩ e (fun z=>nomatch z) h
 |@dT a kvs ea =>
  cases (show u=Value.ref a from rx)
  obtain⟨_,_,xs,_,o,es,ep,h1,h2,_⟩:=(show fI X.prog X.w H s.heap a (.dT kvs) from I.aI a _ ea)
  exact PySem.W.kia_one PySem.W.kitx_dict I.i9 ⟨o,h1,h2.1⟩ e (fun z=>nomatch z) h
 |@ins a C dx fs ea cl ha hn Yv hm =>
  cases (show u=Value.ref a from rx)
  obtain⟨mA,O,_⟩:=Ri I.aI ea
  obtain⟨od,J,_⟩:=O.look
  exact PySem.W.kia_one (PySem.W.kitx_own (cl.get _) cl.hd ha hn Yv hm) I.i9 J e (fun z=>nomatch z) h
end
structure kC(k:Nat)(A:Around):Prop where
 hd:A.handled=none
 dp:A.depth+3*k+5<recursionLimit
 un:A.units+16*k+200<cLine
theorem kC.mono(r:kC k A)(h:j<=k):kC j A:=⟨r.hd,by have:=r.dp;lia,by have:=r.un;lia⟩
theorem kC.deeper(r:kC (k+1) A)(env:Env):kC k (A.deeper env) :=
 ⟨r.hd,by have:=r.dp;show A.depth+1+3*k+5<_;lia,by have:=r.un;show A.units+3+16*k+200<_;lia⟩
theorem kC.depth(r:kC k A):A.depth<recursionLimit:=by have:=r.dp;lia
theorem kC.units(r:kC k A):A.units+64<cLine:=by have:=r.un;lia
def T5:TA:=fun _ H Q=>Q [] H
def T6(ta:TE)(tr:TA):TA:=fun σ H Q=>ta σ H fun x H1=>tr σ H1 fun xs H2=>Q (x :: xs) H2
section
variable {X:Cx}{e:Expr}{es:List Expr}{te:TE}{t:TA}{pos:Pos}
theorem oQ:PA X [] T5:=fun _ _ _ _ H Q I h=>Calls.spliced_nil ⟨[],H,I,.nil,h⟩
theorem kN(ha:PE X e te)(hr:PA X es t)(hs:starEach (e :: es) X.env=(false,eval e X.env) :: starEach es X.env:=by rfl):PA X (e :: es) (T6 te t):=by
 intro pos pins s σ H Q I h
 rw[hs]
 show wpAny _ _ (spliced ((false,eval e X.env) :: backTo pos (starEach es X.env))) _ _ s
 refine Calls.spliced_cons (cf (ha pins s σ H _ I h) fun u s1 b9=>L2.fw b9 fun x H1 I1 r1 q1=>?_)
 exact cf (hr pos pins s1 σ H1 _ I1 q1) fun us s2 b9=>L2.fw b9 fun xs H2 I2 r2 q2=>⟨x :: xs,H2,I2,.cons r1 r2,q2⟩
def dT'(t:TA):TE:=fun σ H Q=>t σ H fun xs H1=>xs.length<=sizeLine/\∀ p,H1 p=none->Q (.ref p) (upd H1 p (.tup xs))
def dU'(t:TA):TE:=fun σ H Q=>t σ H fun xs H1=>xs.length<=sizeLine/\∀ p,H1 p=none->Q (.ref p) (upd H1 p (.lst xs))
theorem T7{x1}(h:PA X es t):PE X (.Tuple es x1 pos) (dT' t):=by
 intro pins s σ H Q I hq
 refine wpAny_Tuple_spliced (cf (h pos pins s σ H _ I hq) fun us s1 ⟨xs,H1,I1,r,z,q⟩=>⟨by rw[<- r.length];exact z,?_⟩)
 have hf:H1 s1.heap.objs.size=none:=I1.aI.fresh (bP _)
 refine⟨.ref s1.heap.objs.size,upd H1 s1.heap.objs.size (.tup xs),I1.laid (t':=s1.toks) (fun b u e=>fe _ e) (bP _) ?_,rfl,q _ hf⟩
 exact⟨z,us,r,⟨_,jv _ rfl,rfl,_,rfl⟩⟩
theorem dV'(h:PA X es t):PE X (.List es pos) (dU' t):=by
 intro pins s σ H Q I hq
 refine wpAny_List_spliced (cf (h pos pins s σ H _ I hq) fun us s1 ⟨xs,H1,I1,r,z,q⟩=>⟨by rw[<- r.length];exact z,?_⟩)
 have hf:H1 s1.heap.objs.size=none:=I1.aI.fresh (bP _)
 refine⟨.ref s1.heap.objs.size,upd H1 s1.heap.objs.size (.lst xs),I1.laid (t':=s1.toks) (fun b u e=>fe _ e) (bP _) ?_,rfl,q _ hf⟩
 exact⟨z,us,0,r,jv _ rfl⟩
end
abbrev Sp:=List V->Hp->VK->XK->Prop
abbrev AH:=List Env->Hp->Shared->XK->Value->Shared->Prop
structure Rj(P:Program)(w:World)(K:PySem.W.Frag)(mg:Str->Option Value)(base:Heap)(A:Around)(outer:List Env)(s:Shared)(H:Hp):Prop where
 frames:A.frames=some outer
 mod:Mod K mg base
 bs:∀ b o,base.get? b=some o->s.heap.get? b=some o/\H b=none
 sT:base.objs.size<=s.heap.objs.size
 pV:s.heap.FunFrames base outer
 wc:∀ b∈fz outer,H b=none
 aI:gy P w H s.heap
 bare:AllBare s.gens
def CE(outer:List Env)(P:Program)(w:World)(H:Hp)(s:Shared)(Q:VK)(u:Value)(s':Shared):Prop :=
 ∃ v H',s'.os=s.os/\AllBare s'.gens/\Un (fz outer) [] H H' s.heap s'.heap/\gy P w H' s'.heap/\RelV v u/\Q v H'
def CR(CX:AH)(outer:List Env)(P:Program)(w:World)(H:Hp)(s:Shared)(Q:VK)(E:XK)(r:Result)(s':Shared):Prop :=
 match r with
 |.ok (.ret u)=>CE outer P w H s Q u s'
 |.ok _=>False
 |.error e=>CX outer H s E e s'
structure ft(P:Program)(w:World)(K:PySem.W.Frag)(mg:Str->Option Value)(base:Heap)(CX:AH)(k:Nat)(f:Addr)(fd:FuncData)(ps:List Str)(sp:Sp):Prop where
 len:∀ vs H Q E,sp vs H Q E->vs.length=ps.length
 run:∀ (A:Around) (outer:List Env) (s:Shared) (H:Hp) (args:Args) (us:List Value) (vs:List V) (Q:VK) (E:XK),kC k A->Rj P w K mg base A outer s H->BindsTo s fd args (ps.zip us)->Vals vs us->sp vs H Q E ->
  codeAny (model P w) A (.call (.ref f) args) (CR CX outer P w H s Q E) s
section
variable {X:Cx}{pins:List (Addr × Obj)}{σ:St}{H:Hp}{s s':Shared}
theorem Inv.dW'(I:Inv X pins σ H s):Rj X.prog X.w X.K X.mg X.base X.A X.stack s H :=
 ⟨I.ok.frames,I.ok.mod,I.bs,kg I.ok.sT I.sz,I.stack,I.Tv,I.aI,I.bare⟩
theorem Inv.after(I:Inv X pins σ H s)(h:CE X.stack X.prog X.w H s Q u s'):EP X pins σ Q u s':=by
 obtain⟨v,H',os,bare,un,aI,r,q⟩:=h
 obtain⟨hh,g,d,t,T8⟩:=s'
 obtain rfl:T8=s.os:=os
 exact⟨v,H',I.call (h':=hh) (g':=g) (d':=d) (t':=t) (ch:=[]) un aI bare (fun b z=>absurd z (by simp)),r,q⟩
end
def LW(sp:Sp)(B5:List V)(E:XK)(t:TA):TE:=fun σ H Q=>t σ H fun vs H1=>sp (vs++B5) H1 Q E
def Binds(K:PySem.W.Frag)(fd:FuncData)(ps:List Str)(ds:List Value):Prop :=
 ∀ (s:Shared) (us:List Value),K.In s.heap->(us++ds).length=ps.length->BindsTo s fd ⟨us,[]⟩ (ps.zip (us++ds))
theorem Binds.all{K:PySem.W.Frag}{ps:List Str}(h:∀ us:List Value,us.length=ps.length->bindArgs fd ⟨us,[]⟩=pure (ps.zip us)):Binds K fd ps []:=fun s us _ hl=>by
 rw[mh] at hl ⊢
 exact .of_eq (h us hl)
def Passes(CX:AH)(X:Cx)(E:XK):Prop:=∀ (pins:List (Addr × Obj)) (σ:St) (H:Hp) (s:Shared) (e:Value) (s':Shared),Inv X pins σ H s->CX X.stack H s E e s'->X.xe e s'
section
variable {X:Cx}{CX:AH}{k:Nat}{f:Addr}{fd:FuncData}{ps:List Str}{sp:Sp}{B5:List V}{ds:List Value}{E:XK}{x:Str}{p pos:Pos}{e:Expr}{es:List Expr}{t:TA}
theorem dX'(F:ft X.prog X.w X.K X.mg X.base CX k f fd ps sp)(hr:kC k X.A)(hb:Binds X.K fd ps ds)(hd:Vals B5 ds)(hx:Passes CX X E)
  (I:Inv X pins σ H s) (r:Vals vs us) (h:sp (vs++B5) H Q E):wpAny (model X.prog X.w) X.A (call (.ref f) us) (EP X pins σ Q) X.xe s:=by
 have r2:Vals (vs++B5) (us++ds):=r.append hd
 have hl:(us++ds).length=ps.length:=by rw[<- r2.length];exact F.len _ _ _ _ h
 refine wpAny_call (codeAny_mono (F.run X.A X.stack s H ⟨us,[]⟩ (us++ds) (vs++B5) Q E hr I.dW' (hb s us I.i9 hl) r2 h) fun r s' hq=>?_)
 cases r with
 |error e=>exact hx pins σ H s e s' I hq
 |ok fl =>
  cases fl with
  |ret u=>exact I.after hq
  |next=>exact False.elim hq
  |brk=>exact False.elim hq
  |cont=>exact False.elim hq
theorem Yw(F:ft X.prog X.w X.K X.mg X.base CX k f fd ps sp)(hr:kC k X.A)(hg:Gl X x)(hm:X.mg x=some (.ref f))(hk:PySem.W.keepIn X.K (.ref f)=true)(hb:Binds X.K fd ps ds)(hd:Vals B5 ds)(hx:Passes CX X E)
  (ha:PA X (e :: es) t) (jI:(x == ("__debug__" : Str))=false:=by decide) (he:starEach (e :: es) X.env=(false,eval e X.env) :: starEach es X.env:=by rfl) (ja:(backTo pos (starEach es X.env)).any (·.1)=false:=by rfl) :
  PE X (.Call (.Name x p) (e :: es) [] pos) (LW sp B5 E t):=by
 intro pins s σ H Q I h
 refine wpAny_Call_Name_kw (Q7 I hg hm ?_ jI)
 refine PySem.W.callWith_K (h₀:=X.base) I.ok.mod.Q0 hk (cf (ha pos pins s σ H _ I h) fun us s1 b9=>L2.fw b9 fun vs H1 I1 r q=>⟨I1.i9,?_⟩) he ja
 exact dX' F hr hb hd hx I1 r q
end
structure g9(N P:List Str)(sc:Scope):Prop where
 kind:sc.kind=.function
 co:sc.isCoroutine=false
 gen:sc.isGenerator=false
 nd:N.Nodup
 pre:N.take P.length=P
 par:∀ x∈P,sc.names.lookup x=some .local\/sc.names.lookup x=some .cell
 dY':∀ y∈sc.names,y.2≠.free
theorem Yx{kindOf:Str->Option NameKind}:∀ {binds:List (Str × Value)} {m:Str->Option Value},(∀ v,(x,v)∉binds)->bindL kindOf binds m x=m x
 |[],_,_=>rfl
 | (n,v) :: r,m,h=>by
  unfold bindL
  rw[Yx fun w hw=>h w (dz _ hw)]
  split
  ·have:x≠n:=by rintro rfl;exact h v dQ
   simp[this]
  ·rfl
theorem Yy{kindOf:Str->Option NameKind}:∀ {binds:List (Str × Value)} {m:Str->Option Value},(∀ v,(x,v)∉binds)->bindC kindOf binds m x=m x
 |[],_,_=>rfl
 | (n,v) :: r,m,h=>by
  unfold bindC
  rw[Yy fun w hw=>h w (dz _ hw)]
  split
  ·rfl
  ·have:x≠n:=by rintro rfl;exact h v dQ
   simp[this]
theorem Yz{kindOf:Str->Option NameKind}:∀ {P:List Str} {vs:List Value} {i:Nat} {m:Str->Option Value},P.Nodup->P[i]? = some x->vs[i]? = some v->kindOf x=some .local ->
  bindL kindOf (P.zip vs) m x=some v
 |[],_,_,_,_,h,_,_=>by simp at h
 |_ :: _,[],_,_,_,_,h,_=>by simp at h
 |p :: P,w :: vs,0,m,nd,h1,h2,hk=>by
  simp at h1 h2;subst h1;subst h2
  show bindL kindOf ((p,w) :: P.zip vs) m p=_
  unfold bindL
  rw[Yx fun v hv=>(nE.mp nd).1 (List.of_mem_zip hv).1,if_pos hk]
  simp
 |p :: P,w :: vs,i+1,m,nd,h1,h2,hk=>by
  show bindL kindOf ((p,w) :: P.zip vs) m x=_
  unfold bindL
  exact Yz (i:=i) (nE.mp nd).2 (by simpa using h1) (by simpa using h2) hk
theorem YB{kindOf:Str->Option NameKind}:∀ {P:List Str} {vs:List Value} {i:Nat} {m:Str->Option Value},P.Nodup->P[i]? = some x->vs[i]? = some v->kindOf x≠some .local ->
  bindC kindOf (P.zip vs) m x=some v
 |[],_,_,_,_,h,_,_=>by simp at h
 |_ :: _,[],_,_,_,_,h,_=>by simp at h
 |p :: P,w :: vs,0,m,nd,h1,h2,hk=>by
  simp at h1 h2;subst h1;subst h2
  show bindC kindOf ((p,w) :: P.zip vs) m p=_
  unfold bindC
  rw[Yy fun v hv=>(nE.mp nd).1 (List.of_mem_zip hv).1,if_neg hk]
  simp
 |p :: P,w :: vs,i+1,m,nd,h1,h2,hk=>by
  show bindC kindOf ((p,w) :: P.zip vs) m x=_
  unfold bindC
  exact YB (i:=i) (nE.mp nd).2 (by simpa using h1) (by simpa using h2) hk
def start(N:List Str)(vs:List V):St:=vs.map some++List.replicate (N.length-vs.length) none
def se(CX:AH)(P:Program)(w:World)(K:PySem.W.Frag)(mg:Str->Option Value)(base:Heap)(N:List Str)(qual:Str)(scope:Scope)(f:Addr)(cd:Value)(A:Around)(outer:List Env)(s:Shared)(H:Hp)(E:XK):Cx where
 prog:=P
 w:=w
 K:=K
 mg:=mg
 base:=base
 A:=A.deeper (envOfC qual scope s.heap.objs.size f cd)
 N:=N
 eP:=s
 wa:=H
 env:=envOfC qual scope s.heap.objs.size f cd
 outer:=outer
 stack:=envOfC qual scope s.heap.objs.size f cd :: outer
 ex:=[]
 calm:=true
 fn:=fun _=>true
 pn:=[]
 xe:=fun e s'=>wpAny (model P w) (A.deeper (envOfC qual scope s.heap.objs.size f cd)) (leaving (envOfC qual scope s.heap.objs.size f cd) e) (fun _ B6=>CX outer H s E e B6) (fun e' B6=>CX outer H s E e' B6) s'
theorem YC{sc:Scope}{n:Nat}{x:Str}(h:sc.names.lookup x=some .cell):∃ c,(cellsFrom n sc.names []).lookup x=some c:=by
 have q:=PySem.W.cellsFrom_some sc.names n [] (.inl h)
 exact Option.isSome_iff_exists.mp q
theorem dZ'{CX:AH}{P:Program}{w:World}{K:PySem.W.Frag}{mg:Str->Option Value}{base:Heap}{N ps:List Str}{qual:Str}{scope:Scope}{f:Addr}{cd:Value}{A:Around}{outer:List Env}{s s1:Shared}{H:Hp}{E:XK}{us:List Value}{vs:List V}
  (S:g9 N ps scope) (hd:A.handled=none) (e0:Rj P w K mg base A outer s H) (hl:vs.length=ps.length) (r:Vals vs us)
  (x:InCallC s s.heap.objs.size (bindL (envOfC qual scope s.heap.objs.size f cd).kindOf (ps.zip us) fun _=>none) (cellsFrom (s.heap.objs.size+1) scope.names []) (bindC (envOfC qual scope s.heap.objs.size f cd).kindOf (ps.zip us) fun _=>none) s1) :
  Inv (se CX P w K mg base N qual scope f cd A outer s H E) [] (start N vs) H s1:=by
 have ja:ps.length<=N.length:=by have:=congrArg List.length S.pre;rw[mG] at this;lia
 obtain⟨h1,tk,rfl,hk⟩:=x.done
 have LZ:∀ b:Addr,b∉(se CX P w K mg base N qual scope f cd A outer s H E).ex:=fun b z=>absurd (show b∈([]:List Addr) from z) (by simp)
 refine⟨⟨e0.mod,S.kind,rfl,rfl,bP _,fun y z c h1 h2=>?_,fun y hy=>?_,fun y c _ h=>?_,fun _=>hd,Around.frames_deeper e0.frames,.inr ⟨rfl,rfl⟩,fun b z=>absurd z (LZ b),e0.bs,e0.sT,fun b _ _=>LZ b,fun b z=>absurd z (LZ b),e0.pV,e0.wc⟩,
  rfl,e0.bare,Un.kept hk,⟨_,x.toInCall.ns,fun i y v h1 h2 h3=>?_⟩,fun y c h=>⟨_,x.cell y c h⟩,e0.aI.fresh (bP _),fun y c h=>?_,fun p hp=>absurd (show p∈([]:List (Addr × Obj)) from hp) (by simp),e0.aI.kept hk,?_⟩
 ·exact name_of_addr x.apart (PySem.mem_of_lookup h1) (PySem.mem_of_lookup h2)
 ·have hy:scope.names.lookup y=some .cell\/scope.names.lookup y=some .free:=hy
  rcases hy with hy|hy
  ·exact YC hy
  ·exact absurd rfl (S.dY' _ (PySem.mem_of_lookup hy))
 ·exact ll (x.above y c (PySem.mem_of_lookup h))
 ·have hi:i<vs.length:=by
   unfold start at h2
   by_cases hi:i<vs.length
   ·exact hi
   ·rw[ub (by simpa using hi)] at h2
    rw[SY] at h2
    split at h2<;>cases h2
  have ha:vs[i]? = some v:=by
   unfold start at h2
   rw[BH (by simpa using hi),kf] at h2
   cases e:vs[i]? with
   |none=>rw[e] at h2;cases h2
   |some a=>rw[e] at h2;cases h2;rfl
  obtain⟨u,hu,rv⟩:=r.get ha
  have hp:ps[i]? = some y:=by
   rw[<- S.pre,List.getElem?_take_of_lt (by lia)];exact h1
  have YD:ps.Nodup:=by rw[<- S.pre];exact S.nd.sublist (List.take_sublist _ _)
  refine⟨u,rv,?_⟩
  rcases S.par y (ui hp) with k|k
  ·exact .inl ⟨k,Yz YD hp hu k⟩
  ·obtain⟨c,e⟩:=YC (n:=s.heap.objs.size+1) k
   refine .inr ⟨.inl k,c,e,?_⟩
   have q:=x.cell y c e
   rw[YB YD hp hu (by show scope.names.lookup y≠_;rw[k];decide)] at q
   exact q
 ·exact e0.aI.fresh (ll (x.above y c (PySem.mem_of_lookup h)))
 ·unfold start
  show _=N.length
  rw[md,cE,S0]
  lia
theorem YF{P:Program}{K:PySem.W.Frag}{dV kV doc pm cq ct oc:Value}
  {N ps:List Str} (lk:K.lookup f=some ⟨oc,od,.func (PySem.W.fnOf name qual params body scope dV kV doc pm an cq ct),EC⟩) (oP:PySem.W.codeIn K cq qual=true) (S:g9 N ps scope)
  (len:∀ vs H Q E,sp vs H Q E->vs.length=ps.length)
  (AI:∀ (A:Around) (outer:List Env) (s:Shared) (H:Hp) (vs:List V) (Q:VK) (E:XK),kC k (A.deeper (envOfC qual scope s.heap.objs.size f cq))->sp vs H Q E ->
   ∃ t,mP (se CX P w K mg base N qual scope f cq A outer s H E) body t/\t { nx:=fun _ H'=>Q .non H',rt:=Q } (start N vs) H) :
  ft P w K mg base CX (k+1) f (PySem.W.fnOf name qual params body scope dV kV doc pm an cq ct) ps sp:=by
 refine⟨len,fun A outer s H args us vs Q E hr e0 hb r yn=>?_⟩
 have hl:=len _ _ _ _ yn
 have KX:K.In s.heap:=e0.mod.Q0.keeps fun b o e=>(e0.bs b o e).1
 have lim:s.heap.NoLimit:=e0.mod.nolimit.keeps fun b o e=>(e0.bs b o e).1
 have ea':∀ y∈ps.zip us,scope.names.lookup y.1=some .local\/(scope.names.lookup y.1=some .cell/\((cellsFrom (s.heap.objs.size+1) scope.names []).lookup y.1).isSome=true):=fun⟨n,v⟩ hy=>by
  rcases S.par n (List.of_mem_zip hy).1 with q|q
  ·exact .inl q
  ·exact .inr ⟨q,PySem.W.cellsFrom_some _ _ _ (.inl q)⟩
 refine codeAny_call_function hr.depth (KX _ _ lk) rfl S.co S.gen rfl (PySem.W.codeRec_of KX oP) (hb _ _ _ _ ?_)
 refine wpAny_newFunctionEnv_cells S.kind ea' fun env he s1 x=>?_
 subst he
 refine⟨lim.keeps x.toInCall.keep,codeAny_func ?_⟩
 obtain⟨t,ht,hq⟩:=AI A outer s H vs Q E (hr.deeper _) yn
 have I:Inv (se CX P w K mg base N qual scope f cq A outer s H E) [] (start N vs) H s1:=dZ' S hr.hd e0 hl r x
 refine pS (ht [] s1 (start N vs) H _ I hq) (fun fl s' hs=>?_) fun e s' hs=>hs
 have fin:∀ {aT:St} {H':Hp} {v:V} {u:Value},Inv (se CX P w K mg base N qual scope f cq A outer s H E) [] aT H' s'->RelV v u->Q v H'->CE outer P w H s Q u s' :=
  fun {aT H' v u} J rv q=>⟨v,H',J.os,J.bare,J.base,J.aI,rv,q⟩
 cases fl with
 |ret u =>
  obtain⟨v,aT,H',J,rv,q⟩:=hs
  exact fin J rv q
 |next =>
  obtain⟨aT,H',J,q⟩:=hs
  exact fin (v:=V.non) (u:=Value.none) J rfl q
 |brk =>
  obtain⟨_,_,_,q⟩:=hs
  exact False.elim q
 |cont =>
  obtain⟨_,_,_,q⟩:=hs
  exact False.elim q
section
variable {X:Cx}{x:Str}{p pos:Pos}{e:Expr}{es:List Expr}{t:TA}{id T:String}{r:List V->Hp->VK->Prop}
def T9(r:List V->Hp->VK->Prop)(t:TA):TE:=fun σ H Q=>t σ H fun vs H1=>r vs H1 Q
theorem L4 (hc:ki X (.builtin id) r) (hg:Gl X x) (hm:X.mg x=none) (hv:bootBuiltins x=some (.builtin id)) (ha:PA X (e :: es) t) (hn:x ≠ "__name__" := by decide) (jI:(x == ("__debug__" : Str))=false:=by decide)
  (he:starEach (e :: es) X.env=(false,eval e X.env) :: starEach es X.env:=by rfl) (ja:(backTo pos (starEach es X.env)).any (·.1)=false:=by rfl):PE X (.Call (.Name x p) (e :: es) [] pos) (T9 r t):=by
 intro pins s σ H Q I h
 refine wpAny_Call_Name_kw (wd I hg hm hv ?_ hn jI)
 exact PyProof.Rows.callWith_builtin1 (cf (ha pos pins s σ H _ I h) fun us s1 b9=>L2.fw b9 fun vs H1 I1 r1 q1=>hc pins s1 σ H1 vs us Q I1 r1 q1) he ja
theorem eb' (hc:ki X (.type T) r) (hg:Gl X x) (hm:X.mg x=none) (hv:bootBuiltins x=some (.type T)) (ha:PA X (e :: es) t) (hn:x ≠ "__name__" := by decide) (jI:(x == ("__debug__" : Str))=false:=by decide)
  (he:starEach (e :: es) X.env=(false,eval e X.env) :: starEach es X.env:=by rfl) (ja:(backTo pos (starEach es X.env)).any (·.1)=false:=by rfl):PE X (.Call (.Name x p) (e :: es) [] pos) (T9 r t):=by
 intro pins s σ H Q I h
 refine wpAny_Call_Name_kw (wd I hg hm hv ?_ hn jI)
 exact PyProof.Rows.callWith_type1 (cf (ha pos pins s σ H _ I h) fun us s1 b9=>L2.fw b9 fun vs H1 I1 r1 q1=>hc pins s1 σ H1 vs us Q I1 r1 q1) he ja
end
end L2
namespace HT
open PySem PyProof.Rows
section
open PySem.SeqAt
open PySem.AutoSeq1 (wpAny_loadPart')
open PySem.MeetsSeq PySem.MeetsSeq2 PySem.MeetsSeq3
end
section
variable {prog:Program}{w:World}{A:Around}{E:Value->Shared->Prop}{s:Shared}
theorem ec'(ht:IsTup s.heap t vs.toArray)(hb:IsTup s.heap b ws.toArray)(hv:vs≠[])
  (h1:ws=[]->Q (.ref t) s) (h2:ws≠[]->Q (.ref s.heap.objs.size) { s with heap:=s.heap.push { cls:=.type "tuple",data:=.seq (vs++ws).toArray } })
  (fN:vs.length+ws.length<=sizeLine):wpAny (model prog w) A (binaryOp .Add (.ref t) (.ref b)) Q E s:=by
 obtain⟨⟨cls,dd,data,sl⟩,ho,hc,n,hd⟩:=id ht
 obtain⟨⟨ed',Rk,data2,Rl⟩,ti,GA,n2,hd2⟩:=id hb
 simp only at hc hd GA hd2
 subst hc hd GA hd2
 have e:vs.toArray++ws.toArray=(vs++ws).toArray:=by simp
 by_cases hw:ws=[]
 ·exact concat_meets ⟨_,ho,rfl⟩ ⟨_,ti,rfl⟩ noFill_tuple_add seq_tuple_add PySem.F.slot_tuple_add PySem.F.entry_tuple_add (PySem.F.args_tuple_add_2 _ _)
   (tuple_addW1 t b vs.toArray ws.toArray n n2 dd Rk sl Rl (by simpa using hv) (by simp[hw])) ⟨ho,ti,h1 hw⟩
 ·refine concat_meets ⟨_,ho,rfl⟩ ⟨_,ti,rfl⟩ noFill_tuple_add seq_tuple_add PySem.F.slot_tuple_add PySem.F.entry_tuple_add (PySem.F.args_tuple_add_2 _ _)
   (tuple_addW2 t b vs.toArray ws.toArray n n2 dd Rk sl Rl (by simpa using hv) (by simpa using hw) (by rw[hX,hX];exact fN)) ⟨ho,ti,?_⟩
  rw[e]
  exact h2 hw
def bE(n d:Nat):Option Int->Nat
 |none=>d
 |some v=>if v<0 then (v+(n:Int)).toNat else min v.toNat n
theorem ee'(n d:Nat)(hd:d<=n)(o:Option Int):bE n d o<=n:=by
 cases o with
 |none=>exact hd
 |some v =>
  show(if v<0 then (v+(n:Int)).toNat else min v.toNat n)<=n
  by_cases hv:v<0
  ·rw[if_pos hv];lia
  ·rw[if_neg hv];exact Nat.min_le_right _ _
theorem YG(v:Int)(n d:Nat):(if v<0 then max (v+(n:Int)) 0 else min v (n:Int))=((bE n d (some v):Nat):Int):=by
 show(if v<0 then max (v+(n:Int)) 0 else min v (n:Int))=(((if v<0 then (v+(n:Int)).toNat else min v.toNat n):Nat):Int)
 by_cases hv:v<0
 ·simp only[if_pos hv];lia
 ·simp only[if_neg hv];lia
theorem ef'(lo hi:Option Int)(n:Nat):Builtin.Slice.sliceAdjust lo hi 1 (n:Int)=(((bE n 0 lo:Nat):Int),((bE n n hi:Nat):Int)):=by
 have h1:¬ ((1:Int)<0):=by decide
 unfold Builtin.Slice.sliceAdjust
 simp only[h1,if_false]
 refine Prod.ext ?_ ?_
 ·cases lo with
  |none=>rfl
  |some v=>exact YG v n 0
 ·cases hi with
  |none=>rfl
  |some v=>exact YG v n n
theorem eg'(i j:Nat):Builtin.Slice.slicePlaces (i:Int) (j:Int) 1=j-i:=by
 unfold Builtin.Slice.slicePlaces
 have h1:(1:Int)>0:=by exact rX _
 simp only[h1,if_true,Int.ediv_one]
 split<;>lia
theorem YH(p:IsPart v o)(h:Q o s):wpAny (model prog w) A (Builtin.Slice.slicePartIndex v) Q E s:=by
 cases p with
 |none=>exact slicePart_none h
 |int i t=>exact slicePart_int h
theorem eh'{sl:Addr}{vl vu:Value}{lo hi:Option Int}{n:Nat}{Q:Int × Int × Nat->Shared->Prop}(hs:s.heap.IsSliceOf sl vl vu .none)(pl:IsPart vl lo)(pu:IsPart vu hi)
  (h:Q (((bE n 0 lo:Nat):Int),1,bE n n hi-bE n 0 lo) s):wpAny (model prog w) A (Builtin.Slice.sliceApplied (.ref sl) (pure (n:Int))) Q E s:=by
 obtain⟨os,L5,sf,Rm⟩:=id hs
 unfold Builtin.Slice.sliceApplied Builtin.Slice.sliceFields
 refine ai (ai (wpAny_field L5 Rm (x:=vl) rfl (ai (wpAny_field L5 Rm (x:=vu) rfl (ai (wpAny_field L5 Rm (x:=.none) rfl (ay ?_)))))))
 refine ai (slicePart_none ?_)
 show wpAny _ _ (if ((1:Int) == 0)=true then _ else _) _ _ s
 rw[if_neg (by decide)]
 refine ai (YH pl (ai (YH pu (ai (ay ?_)))))
 show wpAny _ _ (match Builtin.Slice.sliceAdjust lo hi 1 (n:Int) with|(lo,hi)=>pure (lo,(1:Int),Builtin.Slice.slicePlaces lo hi 1)) _ _ s
 rw[ef' lo hi n]
 show wpAny _ _ (pure (((bE n 0 lo:Nat):Int),(1:Int),Builtin.Slice.slicePlaces ((bE n 0 lo:Nat):Int) ((bE n n hi:Nat):Int) 1)) _ _ s
 rw[eg']
 exact ay h
theorem ei'(xs:Array Value)(i k:Nat):((List.range k).filterMap fun(m:Nat)=>xs[((i:Int)+(m:Int)*1).toNat]?).toArray=((xs.toList.drop i).take k).toArray:=by
 have e:(fun(m:Nat)=>xs[((i:Int)+(m:Int)*1).toNat]?)=fun m=>xs[i+m]? := by
  funext m
  have:((i:Int)+(m:Int)*1).toNat=i+m:=by exact(Nat.add_assoc ..).symm
  rw[this]
 rw[e]
 have:=pick_run xs i k
 rw[S_] at this
 have e2:((fun x=>xs[x]?) ∘ fun x=>i+x)=fun m=>xs[i+m]? := rfl
 rw[e2] at this
 rw[this]
theorem ej'{lo hi:Option Int}(ht:IsTup s.heap t items)(hs:s.heap.IsSliceOf sl vl vu .none)(pl:IsPart vl lo)(pu:IsPart vu hi)
  (hw:¬ (bE items.size 0 lo=0/\bE items.size items.size hi=items.size))
  (h:Q (.ref s.heap.objs.size) { s with heap:=s.heap.push { cls:=.type "tuple",data:=.seq ((items.toList.drop (bE items.size 0 lo)).take (bE items.size items.size hi-bE items.size 0 lo)).toArray } })
  (fN:items.size<=sizeLine):wpAny (model prog w) A (getItem (.ref t) (.ref sl)) Q E s:=by
 have Rn:sizeOk (.seq ((items.toList.drop (bE items.size 0 lo)).take (bE items.size items.size hi-bE items.size 0 lo)).toArray):=by
  show((items.toList.drop (bE items.size 0 lo)).take (bE items.size items.size hi-bE items.size 0 lo)).toArray.size<=sizeLine
  rw[hX,mG,zI,uk]
  lia
 have hj:bE items.size items.size hi<=items.size:=ee' _ _ (bP _) hi
 obtain⟨os,L5,sf,Rm⟩:=id hs
 have hTs:s.TypeIs (.ref sl) "slice" := ⟨os,L5,sf⟩
 unfold getItem
 try with_reducible refine wpAny_holding ?_
 first|refine ai (ay ?_)|skip
 refine ai (wpAny_sequenceKey ht.typeIs (by decide) ?_)
 refine ai (wpAny_callSpecial?_slot (name:=Str.ofString "__getitem__") ht.typeIs PyProof.Rows.slot_tuple_getitem
  (wpAny_call_entry PyProof.Rows.slot_tuple_getitem ht.typeIs entry_tuple_getitem ?_ (args_tuple_getitem _ _)))
 show wpAny _ _ (Builtin.Tuple.tupleItemsOf (.ref t) >>= _) _ _ s
 refine ai (tupleItemsOf_ ht ?_)
 refine ai (wpAny_typeOf hTs ?_)
 rw[if_pos (by decide)]
 refine ai (eh' hs pl pu ?_)
 have Ro:¬ ((((bE items.size 0 lo:Nat):Int) == 0 && (1:Int) == 1 && (bE items.size items.size hi-bE items.size 0 lo) == items.size)=true):=by
  intro q
  rw[ly,ly] at q
  have q1:((bE items.size 0 lo:Nat):Int)=0:=eq_of_beq q.1.1
  have q2:bE items.size items.size hi-bE items.size 0 lo=items.size:=eq_of_beq q.2
  exact hw ⟨by lia,by lia⟩
 show wpAny _ _ (if (((bE items.size 0 lo:Nat):Int) == 0 && (1:Int) == 1 && (bE items.size items.size hi-bE items.size 0 lo) == items.size)=true then _ else _) _ _ s
 rw[if_neg Ro,ei']
 first
  |exact ai (m:=Builtin.Tuple.tupleExact _) (wpAny_newObj_type (ay ⟨_,rfl,ay h⟩) Rn)
  |exact ai (m:=Builtin.Tuple.tupleExact _) (wpAny_newObj_type (ai (ay (ay ⟨_,rfl,ay h⟩))) Rn)
  |exact ai (ai (m:=Builtin.Tuple.tupleExact _) (wpAny_newObj_type (ay (ay ⟨_,rfl,ay h⟩)) Rn))
  |exact ai (ai (m:=Builtin.Tuple.tupleExact _) (wpAny_newObj_type (ay ⟨_,rfl,ay h⟩) Rn))
end
end HT
namespace L2
open PySem PySem.Spec PyProof.Rows
abbrev TO:=St->Hp->(Option Int->Hp->Prop)->Prop
def PO(X:Cx)(e:Option Expr)(t:TO):Prop :=
 ∀ (pins:List (Addr × Obj)) (s:Shared) (σ:St) (H:Hp) (Q:Option Int->Hp->Prop),Inv X pins σ H s->t σ H Q ->
  wpAny (model X.prog X.w) X.A (evalPart e X.env) (fun u s'=>∃ o H',Inv X pins σ H' s'/\IsPart u o/\Q o H') X.xe s
def el':TO:=fun _ H Q=>Q none H
def em'(t:TE):TO:=fun σ H Q=>t σ H fun x H1=>∃ i,x=.int i/\Q (some i) H1
section
variable {X:Cx}{e:Expr}{te:TE}{lo hi:Option Expr}{tl th:TO}{pos p2:Pos}
theorem en':PO X none el':=by
 intro pins s σ H Q I h
 rw[evalPart_none]
 exact ay ⟨none,H,I,.none,h⟩
theorem eo'(h:PE X e te):PO X (some e) (em' te):=by
 intro pins s σ H Q I hw
 rw[evalPart_some]
 refine cf (h pins s σ H _ I hw) fun u s1 b9=>L2.fw b9 fun x H1 I1 r1 q1=>?_
 obtain⟨i,rfl,q⟩:=q1
 obtain⟨t,rfl⟩:=r1
 exact⟨some i,H1,I1,.int i t,q⟩
def GB(X:Cx)(r:V->Option Int->Option Int->Hp->VK->Prop):Prop :=
 ∀ (pins:List (Addr × Obj)) (s:Shared) (σ:St) (H:Hp) (x:V) (v vl vu:Value) (lo hi:Option Int) (sl:Addr) (Q:VK),Inv X pins σ H s->RelV x v->s.heap.IsSliceOf sl vl vu .none->IsPart vl lo->IsPart vu hi->r x lo hi H Q ->
  ∃ T id,typeLookup (.type T) "__getitem__" = pure (some (.builtin id))/\s.TypeIs v T/\wpAny (model X.prog X.w) X.A (getItem v (.ref sl)) (EP X pins σ Q) X.xe s
def tSl(r:V->Option Int->Option Int->Hp->VK->Prop)(te:TE)(tl th:TO):TE:=fun σ H Q=>te σ H fun x H1=>tl σ H1 fun l H2=>th σ H2 fun u H3=>r x l u H3 Q
theorem YJ(hr:GB X r)(he:PE X e te)(hl:PO X lo tl)(hu:PO X hi th):PE X (.Subscript e (.Slice lo hi none p2) pos) (tSl r te tl th):=by
 intro pins s σ H Q I h
 refine Subscript_ (cf (he pins s σ H _ I h) fun v s1 b9=>L2.fw b9 fun x H1 I1 r1 q1=>?_)
 refine wpAny_Slice (cf (hl pins s1 σ H1 _ I1 q1) fun vl s2 b9=>L2.fw b9 fun l H2 I2 pl q2=>cf (hu pins s2 σ H2 _ I2 q2) fun vu s3 b9=>L2.fw b9 fun u H3 I3 pu q3=>?_)
 rw[evalPart_none]
 refine ay ?_
 have I4:Inv X pins σ H3 { s3 with heap:=s3.heap.push { cls:=.type "slice",data:=.fields #[vl,vu,.none] } }:=I3.kept (t':=s3.toks) fun b ob q=>fe _ q
 obtain⟨T,id,hT,ht,hg⟩:=hr pins { s3 with heap:=s3.heap.push { cls:=.type "slice",data:=.fields #[vl,vu,.none] } } σ H3 x v vl vu l u s3.heap.objs.size Q I4 r1 (Heap.IsSliceOf.new ..) pl pu q3
 show wpAny (model X.prog X.w) X.A (subscriptTail e (.Slice lo hi none p2) v (.ref s3.heap.objs.size)) (EP X pins σ Q) X.xe { s3 with heap:=s3.heap.push { cls:=.type "slice",data:=.fields #[vl,vu,.none] } }
 exact tail_any (ops:=[.ref s3.heap.objs.size,v]) ht hT hg (by with_unfolding_all rfl)
def AJ(xs:List V)(lo hi:Option Int):List V:=(xs.drop (HT.bE xs.length 0 lo)).take (HT.bE xs.length xs.length hi-HT.bE xs.length 0 lo)
theorem YK(xs:List V)(lo hi:Option Int):(AJ xs lo hi).length<=xs.length:=by
 unfold AJ
 rw[mG,zI]
 lia
def YL(K:PySem.W.Frag):V->Option Int->Option Int->Hp->VK->Prop:=fun x lo hi H Q=>∃ a xs,x=.ref a/\iS K H a xs /\
 ¬ (HT.bE xs.length 0 lo=0/\HT.bE xs.length xs.length hi=xs.length)/\∀ p,H p=none->Q (.ref p) (upd H p (.tup (AJ xs lo hi)))
theorem er':GB X (YL X.K):=by
 intro pins s σ H x v vl vu lo hi sl Q I rx hs pl pu h
 obtain⟨a,xs,rfl,hx,hw,q⟩:=h
 cases rx
 obtain⟨its,r,ht,hz⟩:=I.tuple hx
 have hlen:its.toArray.size=xs.length:=by rw[hX];exact r.length.symm
 refine⟨"tuple",_,PyProof.Rows.slot_tuple_getitem.lookup,ht.typeIs,?_⟩
 refine HT.ej' ht hs pl pu (by rw[hlen];exact hw) ?_ (by rw[hlen];exact hz)
 rw[hlen]
 refine⟨.ref s.heap.objs.size,_,I.laid (t':=s.toks) (o:=.tup (AJ xs lo hi)) (fun b ob q=>fe _ q) (bP _) ?_,rfl,q _ (I.aI.fresh (bP _))⟩
 exact⟨kg (YK xs lo hi) hz,_,(r.drop (HT.bE xs.length 0 lo)).take (HT.bE xs.length xs.length hi-HT.bE xs.length 0 lo),IsTup.new _ _⟩
def T_(K:PySem.W.Frag):R2:=fun x y H Q=>∃ a b xs ys,x=.ref a/\y=.ref b/\iS K H a xs/\iS K H b ys/\xs≠[]/\xs.length+ys.length<=sizeLine /\
 (ys=[]->Q (.ref a) H)/\(ys≠[]->∀ p,H p=none->Q (.ref p) (upd H p (.tup (xs++ys))))
theorem Vals.Ua(r:Vals xs us):us=[]↔xs=[]:=by
 cases r with
 |nil=>simp
 |cons _ _=>simp
theorem et':dc X (binaryOp .Add) (T_ X.K):=by
 intro pins s σ H x y v u Q I rx ry h
 obtain⟨a,b,xs,ys,rfl,rfl,ha,hb,hx,hz,q1,q2⟩:=h
 cases rx
 cases ry
 obtain⟨its,r1,p1,_⟩:=I.tuple ha
 obtain⟨ED,r2,p2,_⟩:=I.tuple hb
 refine HT.ec' p1 p2 (fun z=>hx (r1.Ua.mp z)) (fun z=>⟨.ref a,H,I,rfl,q1 (r2.Ua.mp z)⟩) (fun z=>?_) (by rw[<- r1.length,<- r2.length];exact hz)
 refine⟨.ref s.heap.objs.size,_,I.laid (t':=s.toks) (o:=.tup (xs++ys)) (fun b ob q=>fe _ q) (bP _) ?_,rfl,q2 (fun w=>z (r2.Ua.mpr w)) _ (I.aI.fresh (bP _))⟩
 exact⟨by rw[md];exact hz,_,r1.append r2,IsTup.new _ _⟩
end
def mn(n:Nat)(i:Int):Option Nat:=if 0<=i then (if i<n then some i.toNat else none) else if -(n:Int)<=i then some (i+n).toNat else none
def eK{α:Type}(xs:List α)(i:Int):Option α:=(mn xs.length i).bind fun j=>xs[j]?
theorem eu'(h:mn n i=some j):seqIndex? i n=some j/\j<n/\-(n:Int)<=i/\i<n:=by
 unfold mn at h
 by_cases h0:0<=i
 ·rw[if_pos h0] at h
  by_cases h1:i<n
  ·rw[if_pos h1] at h
   have e:i.toNat=j:=Option.some.inj h
   exact⟨by rw[seqIndex_of h0 h1,e],by lia,by lia,h1⟩
  ·rw[if_neg h1] at h;cases h
 ·rw[if_neg h0] at h
  by_cases h1:-(n:Int)<=i
  ·rw[if_pos h1] at h
   have e:(i+n).toNat=j:=Option.some.inj h
   exact⟨by rw[seqIndex_neg (by lia) h1,e],by lia,h1,by lia⟩
  ·rw[if_neg h1] at h;cases h
theorem Ub{α:Type}{xs:List α}{i:Int}{v:α}(h:eK xs i=some v):∃ j,seqIndex? i xs.length=some j/\xs[j]? = some v/\j<xs.length/\-(xs.length:Int)<=i/\i<xs.length:=by
 unfold eK at h
 cases e:mn xs.length i with
 |none=>rw[e] at h;cases h
 |some j =>
  rw[e] at h
  obtain⟨h1,h2,h3,h4⟩:=eu' e
  exact⟨j,h1,h,h2,h3,h4⟩
theorem vk{α:Type}{xs:List α}{j:Nat}{v:α}(h:xs[j]? = some v):eK xs (j:Int)=some v:=by
 have hj:j<xs.length:=(lh.mp h).1
 have e:mn xs.length (j:Int)=some j:=by
  unfold mn
  rw[if_pos (by walk_at "s1"),if_pos (by lia)];simp
 unfold eK;rw[e];exact h
theorem YM{α:Type}(xs:List α)(v:α):eK (xs++[v]) (-1)=some v:=by
 have hl:(xs++[v]).length=xs.length+1:=by simp
 have e:mn (xs++[v]).length (-1)=some xs.length:=by
  unfold mn
  rw[hl,if_neg (by decide),if_pos (by lia)]
  congr 1
  lia
 unfold eK
 rw[e]
 show(xs++[v])[xs.length]? = some v
 simp
def Uc(b:Expr):Prop:=∀ o i,subscripted b false o i=operate [o,i] (getItem o i)
def vn(X:Cx)(r:R2):Prop :=
 ∀ (value slice:Expr) (pins:List (Addr × Obj)) (s:Shared) (σ:St) (H:Hp) (x y:V) (v u:Value) (Q:VK),Inv X pins σ H s->RelV x v->RelV y u->r x y H Q ->
  subscripted slice false v u=operate [v,u] (getItem v u)->wpAny (model X.prog X.w) X.A (subscriptTail value slice v u) (EP X pins σ Q) X.xe s
def Ud(X:Cx)(id:String)(r:V->List V->Hp->VK->Prop):Prop :=
 ∀ (pins:List (Addr × Obj)) (s:Shared) (σ:St) (H:Hp) (x:V) (xs:List V) (v:Value) (us:List Value) (Q:VK),Inv X pins σ H s->RelV x v->Vals xs us->r x xs H Q ->
  wpAny (model X.prog X.w) X.A (call (.builtin id) (v :: us)) (EP X pins σ Q) X.xe s
section
variable {X:Cx}{a b:Expr}{ta tb:TE}{pos:Pos}
theorem vn.or(h:vn X r)(h':vn X r'):vn X (fun x y H Q=>r x y H Q\/r' x y H Q):=by
 intro value slice pins s σ H x y v u Q I rx ry q hs
 rcases q with q|q
 ·exact h value slice pins s σ H x y v u Q I rx ry q hs
 ·exact h' value slice pins s σ H x y v u Q I rx ry q hs
theorem YN{r:R2}(hr:vn X r)(ha:PE X a ta)(hb:PE X b tb)(hs:Uc b):PE X (.Subscript a b pos) (LP r ta tb):=by
 intro pins s σ H Q I h
 exact Subscript_ (TR ha hb I h fun v u s2 x y H2 I2 rx ry q=>hr a b pins s2 σ H2 x y v u Q I2 rx ry q (hs _ _))
def YQ(K:PySem.W.Frag):R2:=fun x y H Q=>∃ p xs i v,x=.ref p/\y=.int i/\dn K H p xs/\eK xs i=some v/\Q v H
def YR(K:PySem.W.Frag):R2:=fun x y H Q=>∃ p xs i v,x=.ref p/\y=.int i/\iS K H p xs/\eK xs i=some v/\Q v H
def YS:R2:=fun x y H Q=>∃ z i c,x=.str z/\y=.int i/\z.length<=sizeLine/\eK z.cps.toList i=some c/\Q (.str ⟨#[c]⟩) H
theorem ev':vn X (YQ X.K):=by
 intro value slice pins s σ H x y v u Q I rx ry h hs
 obtain⟨p,xs,i,z,rfl,rfl,hq,he,q⟩:=h
 cases rx
 obtain⟨t,rfl⟩:=ry
 obtain⟨its,r,pl,hz⟩:=I.list hq
 obtain⟨j,h1,h2,h3,h4,h5⟩:=Ub he
 obtain⟨w,ew,tj⟩:=r.get h2
 have hl:=r.length
 have hn:=LS
 have fin:EP X pins σ Q w s:=⟨z,H,I,tj,q⟩
 by_cases h0:0<=i
 ·have hj:i.toNat=j:=by
   rw[seqIndex_of h0 h5] at h1
   exact Option.some.inj h1
  exact item_listR pl.isList h0 (by lia) (by rw[hj];simpa using ew) fin hs
 ·have hj:(i+(its.toArray.size:Int)).toNat=j:=by
   rw[seqIndex_neg (by exact Int.not_le.mp ‹_›) h4] at h1
   rw[hX,<- hl]
   exact Option.some.inj h1
  exact subscriptTail_builtinR (x:=w) pl.isList.typeIs slot_list_getitem.lookup
   (wpAny_getItem_list_neg (Q:=fun r s'=>r=w/\EP X pins σ Q r s') pl.isList (by exact Int.not_le.mp ‹_›) (by rw[hX]<;>lia) (by lia) (by rw[hj];simpa using ew) ⟨rfl,fin⟩) hs
theorem ew':vn X (YR X.K):=by
 intro value slice pins s σ H x y v u Q I rx ry h hs
 obtain⟨p,xs,i,z,rfl,rfl,hq,he,q⟩:=h
 cases rx
 obtain⟨t,rfl⟩:=ry
 obtain⟨its,r,pl,hz⟩:=I.tuple hq
 obtain⟨j,h1,h2,h3,h4,h5⟩:=Ub he
 obtain⟨w,ew,tj⟩:=r.get h2
 have hl:=r.length
 have hn:=LS
 have fin:EP X pins σ Q w s:=⟨z,H,I,tj,q⟩
 exact subscriptTail_builtinR (x:=w) pl.typeIs slot_tuple_getitem.lookup
  (getItem_tuple (j:=j) (Q:=fun r s'=>r=w/\EP X pins σ Q r s') pl (by lia) (by lia) (by rw[hX,<- hl];exact h1) (by simpa using ew) ⟨rfl,fin⟩) hs
theorem ex':vn X YS:=by
 intro value slice pins s σ H x y v u Q I rx ry h hs
 obtain⟨z,i,c,rfl,rfl,hz,he,q⟩:=h
 obtain⟨t,rfl⟩:=rx
 obtain⟨t',rfl⟩:=ry
 obtain⟨j,h1,h2,h3,h4,h5⟩:=Ub he
 have hl:z.cps.toList.length=z.length:=by simp[Str.length]
 rw[hl] at h1 h4 h5
 have hn:=LS
 exact tail_any (typeIs_str s z t) slot_str_getitem.lookup (getItem_str (c:=c) (by
  have e1:decide (i < -(2 ^ 63:Int))=false:=decide_eq_false (by lia)
  have e2:decide (i >= 2 ^ 63)=false:=decide_eq_false (by lia)
  rw[e1,e2,Bool.or_false]) (by rw[h1];simpa using h2) ⟨.str ⟨#[c]⟩,H,I.tok _,⟨_,rfl⟩,q⟩) hs
def rIx(K:PySem.W.Frag):R2:=fun x y H Q=>YQ K x y H Q\/YR K x y H Q\/YS x y H Q
theorem ez':vn X (rIx X.K):=ev'.or (ew'.or ex')
theorem eA'(lo hi:Option Int)(n:Nat):(sliceBounds lo hi none n).1=((HT.bE n 0 lo:Nat):Int)/\(sliceBounds lo hi none n).2.1=((HT.bE n n hi:Nat):Int)/\(sliceBounds lo hi none n).2.2=1:=by
 refine⟨?_,?_,rfl⟩
 ·cases lo with
  |none=>simp[sliceBounds,HT.bE]
  |some i =>
   simp only[sliceBounds,HT.bE,Option.getD_none,show(1:Int)>0 by decide,if_true]
   by_cases h:i<0
   ·simp only[h,if_true]<;>lia
   ·simp only[h,if_false]<;>lia
 ·cases hi with
  |none=>simp[sliceBounds,HT.bE]
  |some i =>
   simp only[sliceBounds,HT.bE,Option.getD_none,show(1:Int)>0 by decide,if_true]
   by_cases h:i<0
   ·simp only[h,if_true]<;>lia
   ·simp only[h,if_false]<;>lia
theorem eB'(its:List Value)(lo hi:Option Int):slicePick its.toArray lo hi none=((its.drop (HT.bE its.length 0 lo)).take (HT.bE its.length its.length hi-HT.bE its.length 0 lo)).toArray:=by
 obtain⟨h1,h2,h3⟩:=eA' lo hi its.toArray.size
 unfold slicePick
 rw[h1,h2,h3]
 simp only[sliceRange_one,pick_run,hX]<;>rfl
def eC'(K:PySem.W.Frag):V->Option Int->Option Int->Hp->VK->Prop:=fun x lo hi H Q=>∃ a xs,x=.ref a/\dn K H a xs/\∀ p,H p=none->Q (.ref p) (upd H p (.lst (AJ xs lo hi)))
theorem eD':GB X (eC' X.K):=by
 intro pins s σ H x v vl vu lo hi sl Q I rx hs pl pu h
 obtain⟨a,xs,rfl,hx,q⟩:=h
 cases rx
 obtain⟨its,r,ht,hz⟩:=I.list hx
 have hlen:=r.length
 refine⟨"list",_,slot_list_getitem.lookup,ht.isList.typeIs,?_⟩
 refine wpAny_getItem_list_slice ht.isList hs pl pu .none (by simp) ?_ (by rw[hX]<;>lia)
 rw[eB',<- hlen]
 refine⟨.ref s.heap.objs.size,_,I.laid (t':=s.toks) (o:=.lst (AJ xs lo hi)) (fun b ob q=>fe _ q) (bP _) ?_,rfl,q _ (I.aI.fresh (bP _))⟩
 exact⟨kg (YK xs lo hi) hz,_,0,(r.drop (HT.bE xs.length 0 lo)).take (HT.bE xs.length xs.length hi-HT.bE xs.length 0 lo),jv _ rfl⟩
def yv:V->Bool
 |.non=>true
 |.bl _=>true
 |.int _=>true
 |.str _=>true
 |_=>false
def AK:V->V->Bool
 |.non,.non=>true
 |.bl a,.bl b=>a == b
 |.bl a,.int b=>(if a then 1 else 0) == b
 |.int a,.bl b=>a == (if b then 1 else 0)
 |.int a,.int b=>a == b
 |.str a,.str b=>a == b
 |_,_=>false
theorem eE'(ry:RelV y u)(rx:RelV x v)(fy:yv y=true)(fx:yv x=true):SeqAt.EqAt A s u v (AK y x):=by
 cases y with
 |non =>
  cases ry
  cases x with
  |non=>cases rx;exact SeqAt.EqAt.same _
  |bl b=>cases rx;exact SeqAt.EqAt.none_bool b
  |int b=>obtain⟨t,rfl⟩:=rx;exact SeqAt.EqAt.none_int b t
  |str b=>obtain⟨t,rfl⟩:=rx;exact SeqAt.EqAt.none_str b t
  |_=>exact absurd (show false=true from fx) kA
 |bl a =>
  cases ry
  cases x with
  |non=>cases rx;exact SeqAt.EqAt.bool_none a
  |bl b=>cases rx;exact SeqAt.EqAt.bool_bool a b
  |int b=>obtain⟨t,rfl⟩:=rx;exact SeqAt.EqAt.bool_int a b t
  |str b=>obtain⟨t,rfl⟩:=rx;exact SeqAt.EqAt.bool_str a b t
  |_=>exact absurd (show false=true from fx) kA
 |int a =>
  obtain⟨t',rfl⟩:=ry
  cases x with
  |non=>cases rx;exact SeqAt.EqAt.int_none a t'
  |bl b=>cases rx;exact SeqAt.EqAt.int_bool a t' b
  |int b=>obtain⟨t,rfl⟩:=rx;exact SeqAt.EqAt.int_int a t' b t
  |str b=>obtain⟨t,rfl⟩:=rx;exact SeqAt.EqAt.int_str a t' b t
  |_=>exact absurd (show false=true from fx) kA
 |str a =>
  obtain⟨t',rfl⟩:=ry
  cases x with
  |non=>cases rx;exact SeqAt.EqAt.str_none a t'
  |bl b=>cases rx;exact SeqAt.EqAt.str_bool a t' b
  |int b=>obtain⟨t,rfl⟩:=rx;exact SeqAt.EqAt.str_int a t' b t
  |str b=>obtain⟨t,rfl⟩:=rx;exact SeqAt.EqAt.str_str a t' b t
  |_=>exact absurd (show false=true from fx) kA
 |_=>exact absurd (show false=true from fy) kA
def qV(x:V)(u:Value):Bool:=match u with
 |.none=>AK .non x
 |.bool b=>AK (.bl b) x
 |.int i _=>AK (.int i) x
 |.str z _=>AK (.str z) x
 |_=>false
theorem YT(r:RelV y u)(f:yv y=true):qV x u=AK y x:=by
 cases y with
 |non=>cases r;rfl
 |bl b=>cases r;rfl
 |int i=>obtain⟨t,rfl⟩:=r;rfl
 |str z=>obtain⟨t,rfl⟩:=r;rfl
 |_=>exact absurd (show false=true from f) kA
theorem L6:∀ {xs:List V} {us:List Value},Vals xs us->xs.all yv=true->us.any (qV x)=xs.any fun y=>AK y x
 |_,_,.nil,_=>rfl
 |y :: xs,u :: us,.cons r t,f=>by
  rw[BO,ly] at f
  rw[DU,DU,YT r f.1,L6 t f.2]
theorem L7(rx:RelV x v)(fx:yv x=true):∀ {xs:List V} {us:List Value},Vals xs us->xs.all yv=true->∀ u∈us,SeqAt.EqAt A s u v (qV x u)
 |_,_,.nil,_=>fun u hu=>by cases hu
 |y :: xs,u :: us,.cons r t,f=>fun u' hu=>by
  rw[BO,ly] at f
  rcases dA.mp hu with rfl|hu
  ·rw[YT r f.1];exact eE' r rx f.1 fx
  ·exact L7 rx fx t f.2 u' hu
def Rp(x:V)(xs:List V):Bool:=xs.any fun y=>AK y x
def L8(K:PySem.W.Frag)(neg:Bool):R2:=fun x y H Q=>∃ p xs,y=.ref p/\(dn K H p xs\/iS K H p xs)/\yv x=true/\xs.all yv=true/\Q (.bl (if neg then !Rp x xs else Rp x xs)) H
theorem eF':dc X (compareOp .In) (L8 X.K false):=by
 intro pins s σ H x y v u Q I rx ry h
 obtain⟨p,xs,rfl,hq,fx,fs,q⟩:=h
 cases ry
 rcases hq with hq|hq
 ·obtain⟨its,r,pl,hz⟩:=I.list hq
  refine SeqAt.in_listAt (qV x) pl.isList (fun w hw=>L7 rx fx r fs w (by simpa using hw)) ⟨.bl _,H,I,rfl,?_⟩
  rw[show its.toArray.any (qV x)=its.any (qV x) by simp,L6 r fs]
  exact q
 ·obtain⟨its,r,pl,hz⟩:=I.tuple hq
  refine SeqAt.in_tupleAt (qV x) pl (fun w hw=>L7 rx fx r fs w (by simpa using hw)) ⟨.bl _,H,I,rfl,?_⟩
  rw[show its.toArray.any (qV x)=its.any (qV x) by simp,L6 r fs]
  exact q
theorem eG':dc X (compareOp .NotIn) (L8 X.K true):=by
 intro pins s σ H x y v u Q I rx ry h
 obtain⟨p,xs,rfl,hq,fx,fs,q⟩:=h
 cases ry
 rcases hq with hq|hq
 ·obtain⟨its,r,pl,hz⟩:=I.list hq
  refine SeqAt.notIn_listAt (qV x) pl.isList (fun w hw=>L7 rx fx r fs w (by simpa using hw)) ⟨.bl _,H,I,rfl,?_⟩
  rw[show its.toArray.any (qV x)=its.any (qV x) by simp,L6 r fs]
  exact q
 ·obtain⟨its,r,pl,hz⟩:=I.tuple hq
  refine SeqAt.notIn_tupleAt (qV x) pl (fun w hw=>L7 rx fx r fs w (by simpa using hw)) ⟨.bl _,H,I,rfl,?_⟩
  rw[show its.toArray.any (qV x)=its.any (qV x) by simp,L6 r fs]
  exact q
theorem ki.or(h:ki X f r)(h':ki X f r'):ki X f (fun xs H Q=>r xs H Q\/r' xs H Q):=by
 intro pins s σ H xs us Q I rs q
 rcases q with q|q
 ·exact h pins s σ H xs us Q I rs q
 ·exact h' pins s σ H xs us Q I rs q
theorem eH':ki X (.type "list") (fun xs H Q=>∃ p ys,xs=[.ref p]/\(dn X.K H p ys\/iS X.K H p ys)/\∀ l,H l=none->Q (.ref l) (upd H l (.lst ys))):=by
 intro pins s σ H xs us Q I r h
 obtain⟨p,ys,rfl,hq,q⟩:=h
 obtain⟨u,rfl,rx⟩:=vals1 r
 cases rx
 have fin:∀ (its:List Value),Vals ys its->ys.length<=sizeLine->∀ (h':Heap) (c':Nat),(∀ b o',s.heap.get? b=some o'->h'.get? b=some o') ->
   h'.get? s.heap.objs.size=some { cls:=.type "list",dict:=none,data:=.seq its.toArray c',slots:=#[] }->EP X pins σ Q (.ref s.heap.objs.size) { s with heap:=h' }:=fun its r' hz h' c' kp e =>
  ⟨.ref s.heap.objs.size,_,I.laid (t':=s.toks) kp (bP _) (show fI X.prog X.w _ h' _ (.lst ys) from⟨hz,its,c',r',e⟩),rfl,q _ (I.aI.fresh (bP _))⟩
 rcases hq with hq|hq
 ·obtain⟨its,r',pl,hz⟩:=I.list hq
  have hlen:=r'.length
  obtain⟨o,ho,hc,n,hd⟩:=pl.isList
  exact call_list_seq p (.inl rfl) ho hc hd (fun h' c' kp e=>fin its r' hz h' c' kp e) (by simp only[hX]<;>lia)
 ·obtain⟨its,r',pl,hz⟩:=I.tuple hq
  have hlen:=r'.length
  obtain⟨o,ho,hc,n,hd⟩:=pl
  exact call_list_seq p (.inr rfl) ho hc hd (fun h' c' kp e=>fin its r' hz h' c' kp e) (by simp only[hX]<;>lia)
theorem eI':ki X (.type "tuple") (fun xs H Q=>∃ p ys,xs=[.ref p]/\((dn X.K H p ys/\∀ l,H l=none->Q (.ref l) (upd H l (.tup ys)))\/(iS X.K H p ys/\Q (.ref p) H))):=by
 intro pins s σ H xs us Q I r h
 obtain⟨p,ys,rfl,h⟩:=h
 obtain⟨u,rfl,rx⟩:=vals1 r
 cases rx
 rcases h with⟨hq,q⟩|⟨hq,q⟩
 ·obtain⟨its,r',pl,hz⟩:=I.list hq
  have hlen:=r'.length
  refine call_tuple_list pl.isList (fun h' kp=>?_) (by simp only[hX]<;>lia)
  have I1:Inv X pins σ H { s with heap:=h' }:=I.kept (t':=s.toks) kp
  have I2:Inv X pins σ (upd H h'.objs.size (.tup ys)) { s with heap:=h'.push { cls:=.type "tuple",data:=.seq its.toArray } } :=
   I1.laid (t':=s.toks) (fun b o e=>fe _ e) (bP _) (show fI X.prog X.w _ _ _ (.tup ys) from⟨hz,its,r',IsTup.new _ _⟩)
  exact⟨.ref h'.objs.size,_,I2,rfl,q _ (I1.aI.fresh (bP _))⟩
 ·obtain⟨its,r',pl,hz⟩:=I.tuple hq
  exact call_tuple_same pl ⟨.ref p,H,I,rfl,q⟩
def Rq(K:PySem.W.Frag)(T:String)(x:V)(H:Hp):Prop:=match x with
 |.str _=>T = "str"
 |.int _=>T = "int"
 |.ref p=>(T = "list"/\∃ xs,dn K H p xs)\/(T = "tuple"/\∃ o,K.lookup p=some o/\o.cls=.type "tuple"/\o.dict=none) \/
   (T = "dict"/\((∃ kvs,H p=some (.dK kvs))\/∃ kvs,H p=some (.dT kvs)))\/(T = "set"/\∃ S n,H p=some (.set S n))
 |_=>False
theorem YV{T:String}(I:Inv X pins σ H s)(r:RelV x v)(ty:Rq X.K T x H) :
  s.TypeIs v T/\∀ a,v=.ref a->∃ ob,s.heap.get? a=some ob/\ob.dict=none:=by
 cases x with
 |str z =>
  obtain⟨t,rfl⟩:=r
  cases (show T = "str" from ty)
  exact⟨typeIs_str s z t,fun _ e=>nomatch e⟩
 |int i =>
  obtain⟨t,rfl⟩:=r
  cases (show T = "int" from ty)
  exact⟨typeIs_int s i t,fun _ e=>nomatch e⟩
 |ref p =>
  cases r
  rcases ty with⟨rfl,xs,hq⟩|⟨rfl,o,hk,hc,hd⟩|⟨rfl,hk⟩|⟨rfl,S,n,hk⟩
  ·obtain⟨its,_,pl,_⟩:=I.list hq
   refine⟨pl.isList.typeIs,fun a e=>?_⟩
   cases e
   obtain⟨o,n,e,c,hd,_⟩:=pl
   exact⟨o,e,hd⟩
  ·refine⟨⟨o,I.i9 p o hk,hc⟩,fun a e=>?_⟩
   cases e
   exact⟨o,I.i9 _ o hk,hd⟩
  ·have z:∃ o,s.heap.get? p=some o/\o.ExactDict:=by
    rcases hk with⟨kvs,hk⟩|⟨kvs,hk⟩
    ·obtain⟨_,_,_,_,o,_,_,e,ex,_⟩:=I.aI p _ hk
     exact⟨o,e,ex⟩
    ·obtain⟨_,_,_,_,o,_,_,e,ex,_⟩:=I.aI p _ hk
     exact⟨o,e,ex⟩
   obtain⟨o,e,ex⟩:=z
   refine⟨⟨o,e,ex.1⟩,fun a e2=>?_⟩
   cases e2
   exact⟨o,e,ex.2.1⟩
  ·obtain⟨o,_,_,_,e,ex,_⟩:=I.aI p _ hk
   refine⟨⟨o,e,ex.1⟩,fun a e2=>?_⟩
   cases e2
   exact⟨o,e,ex.2.1⟩
 |_=>exact False.elim ty
def eJ'(K:PySem.W.Frag)(T:String)(r:V->List V->Hp->VK->Prop)(to:TE):TE:=fun σ H Q=>to σ H fun x H1=>Rq K T x H1/\r x [] H1 Q
def tBM(K:PySem.W.Frag)(T:String)(r:V->List V->Hp->VK->Prop)(to:TE)(t:TA):TE:=fun σ H Q=>to σ H fun x H1=>Rq K T x H1/\t σ H1 fun xs H2=>r x xs H2 Q
variable {o e:Expr}{es:List Expr}{to:TE}{t:TA}{name:Str}{apos dS:Pos}{T id:String}{r:V->List V->Hp->VK->Prop}
theorem eL' (pa:PlainAttrs T) (slot:Slot T name id) (B7:typeOf (.builtin id)=pure (.type "method_descriptor")) (hm:Ud X id r) (ho:PE X o to)
  (wo:attributeBase o name X.env (eval o X.env)=eval o X.env:=by rfl) (hline:(apos.endLine == dS.line)=true:=by rfl):PE X (.Call (.Attribute o name apos) [] [] dS) (eJ' X.K T r to):=by
 intro pins s σ H Q I h
 refine wpAny_Call_method0_late wo hline (cf (ho pins s σ H _ I h) fun v s1 da=>?_)
 obtain⟨x,H1,I1,r1,ty,q1⟩:=da
 obtain⟨h1,h2⟩:=YV I1 r1 ty
 exact⟨T,id,pa,slot,B7,h1,h2,Calls.callWith_builtin rfl (PySem.evalArgs_none (hm pins s1 σ H1 x [] v [] Q I1 r1 .nil q1))⟩
theorem Ue (pa:PlainAttrs T) (slot:Slot T name id) (B7:typeOf (.builtin id)=pure (.type "method_descriptor")) (hm:Ud X id r) (ho:PE X o to) (ha:PA X (e :: es) t)
  (wo:attributeBase o name X.env (eval o X.env)=eval o X.env:=by rfl)
  (wq:((backTo dS (starEach (e :: es) X.env)).all (fun x=>!x.1) && (backToKw dS (keywordEach [] X.env)).all (fun x=>x.1.isSome)
   && decide ((e :: es).length+([]:List Keyword).length+(if ([]:List Keyword).isEmpty then 0 else 1)<30))=true:=by rfl)
  (hline:(apos.endLine == dS.line)=true:=by rfl) (hs:starEach (e :: es) X.env=(false,eval e X.env) :: starEach es X.env:=by rfl) (EE:(backTo dS (starEach es X.env)).any (·.1)=false:=by rfl) :
  PE X (.Call (.Attribute o name apos) (e :: es) [] dS) (tBM X.K T r to t):=by
 intro pins s σ H Q I h
 refine wpAny_Call_method_late wo wq hline rfl (cf (ho pins s σ H _ I h) fun v s1 da=>?_)
 obtain⟨x,H1,I1,r1,ty,q1⟩:=da
 obtain⟨h1,h2⟩:=YV I1 r1 ty
 refine⟨T,id,pa,slot,B7,h1,h2,?_⟩
 have hA:=ha dS pins s1 σ H1 _ I1 q1
 rw[hs] at hA ⊢
 refine Calls.callWith_builtin (by show(false || (backTo dS (starEach es X.env)).any (·.1))=false;rw[EE]<;>rfl) (Calls.evalArgs_plain ?_)
 exact cf hA fun us s2 b9=>L2.fw b9 fun vs H2 I2 r2 q2=>hm pins s2 σ H2 x vs v us Q I2 r1 r2 q2
end
def YW(X:Cx)(id:String)(r:V->List V->Hp->VK->Prop):Prop :=
 ∀ (pins:List (Addr × Obj)) (s:Shared) (σ:St) (H:Hp) (x:V) (xs:List V) (v:Value) (us:List Value) (Q:VK),Inv X pins σ H s->RelV x v->Vals xs us->r x xs H Q ->
  wpAny (model X.prog X.w) X.A (call (.builtin id) (v :: us)) (EP X pins σ Q) X.xe s
theorem Vals.one{x:V}{us:List Value}(h:Vals [x] us):∃ u,us=[u]/\RelV x u:=by
 cases h
 rename_i r h
 cases h
 exact⟨_,rfl,‹_›⟩
theorem Vals.two{x y:V}{us:List Value}(h:Vals [x,y] us):∃ u v,us=[u,v]/\RelV x u/\RelV y v:=by
 cases h
 rename_i r h
 cases h
 rename_i q h
 cases h
 exact⟨_,_,rfl,‹_›,‹_›⟩
theorem Vals.zero:∀ {us:List Value},Vals [] us->us=[]
 |_,.nil=>rfl
theorem Vals.rep(h:Vals xs us):∀ k:Nat,Vals (List.replicate k xs).flatten (List.replicate k us).flatten
 |0=>.nil
 |k+1=>by
  rw[Kb,Kb,Qr,Qr]
  exact Vals.append h (Vals.rep h k)
section
variable {X:Cx}{pins:List (Addr × Obj)}{σ:St}{H:Hp}{s:Shared}{l:Addr}{xs ys:List V}
theorem Inv.YX{its its':List Value}{n:Nat}{f:Array Value->Array Value}{t':Nat}(I:Inv X pins σ H s)(hH:H l=some (.lst xs))
  (e:s.heap.get? l=some { cls:=.type "list",data:=.seq its.toArray n }) (hf:f its.toArray=its'.toArray) (hv:Vals ys its') (hz:ys.length<=sizeLine) :
  Inv X pins σ (upd H l (.lst ys)) { s with heap:=s.heap.update l (Obj.mapSeq f),toks:=t' }:=by
 have q:=PySem.IsL.update e f
 rw[hf] at q
 refine I.write (x:=l) (e:=l) (by rw[hH];exact trivial) (.inl rfl) (fun b' u hb hu=>(KP s.heap (Obj.mapSeq f) (Ne.symm hb)).trans hu) ⟨_,q⟩ ?_
 exact⟨hz,its',_,hv,q⟩
theorem Inv.YY(I:Inv X pins σ H s)(hv:Vals ys its)(hz:ys.length<=sizeLine) :
  Inv X pins σ (upd H s.heap.objs.size (.lst ys)) { s with heap:=s.heap.push { cls:=.type "list",data:=.seq its.toArray },toks:=t' } :=
 I.laid (fun _ _ q=>fe _ q) (bP _) ⟨hz,its,0,hv,jv _ rfl⟩
theorem Inv.fresh(I:Inv X pins σ H s):H s.heap.objs.size=none:=I.aI.fresh (bP _)
theorem Inv.YZ (I:Inv X pins σ H s) (hH:H l=some (.lst xs)):xs.length<=sizeLine/\∃ (its:List Value) (n:Nat),Vals xs its/\xs.length=its.length/\s.heap.get? l=some { cls:=.type "list",data:=.seq its.toArray n }:=by
 obtain⟨z,its,n,r,e⟩:=I.aI l _ hH
 exact⟨z,its,n,r,r.length,e⟩
end
section
variable {X:Cx}
def Y0:V->List V->Hp->VK->Prop:=fun x vs H Q=>∃ l xs y,x=.ref l/\vs=[y]/\H l=some (.lst xs)/\xs.length<sizeLine/\Q .non (upd H l (.lst (xs++[y])))
theorem Ug:YW X "list.append" Y0:=by
 intro pins s σ H x vs v us Q I rx rv h
 obtain⟨l,xs,y,rfl,rfl,hH,hz,q⟩:=h
 cases rx
 obtain⟨u,rfl,ru⟩:=rv.one
 obtain⟨z,its,n,r,hl,e⟩:=I.YZ hH
 refine call_meets F.slot_list_append ⟨_,e,rfl⟩ F.entry_list_append (F.args_list_append_2 _ _) (PySem.list_append l its.toArray n u (by rw[hX];lia)) ⟨e,?_⟩
 refine⟨.non,_,I.YX (its':=its++[u]) hH e (by simp) (r.append (.cons ru .nil)) ?_,rfl,q⟩
 rw[md,P7]
 assumption
def eM':V->List V->Hp->VK->Prop:=fun x vs H Q=>∃ l xs,x=.ref l/\vs=[]/\H l=some (.lst xs)/\Q .non (upd H l (.lst []))
theorem eN':YW X "list.clear" eM':=by
 intro pins s σ H x vs v us Q I rx rv h
 obtain⟨l,xs,rfl,rfl,hH,q⟩:=h
 cases rx
 have hus:=rv.zero
 subst hus
 obtain⟨z,its,n,r,hl,e⟩:=I.YZ hH
 refine call_meets F.slot_list_clear ⟨_,e,rfl⟩ F.entry_list_clear (F.args_list_clear_1 _) (AutoSeq1.list_clear_list_0 l its.toArray n (by rw[hX];lia)) ⟨e,?_⟩
 exact⟨.non,_,I.YX (its':=[]) (ys:=[]) hH e rfl .nil (eu _),rfl,q⟩
theorem len_rep{α:Type}(xs:List α)(k:Nat):(List.replicate k xs).flatten.length=k*xs.length:=by
 induction k with
 |zero=>simp
 |succ k ih=>rw[Kb,Qr,md,ih,Nat.succ_mul,KG]
end
section
set_option maxRecDepth 100000 in
end
section
variable {κ:Type}[DecidableEq κ]
def gp(kvs:List (κ × V))(k:κ):Option V:=(kvs.find? fun kv=>decide (kv.1=k)).map (·.2)
def putK(kvs:List (κ × V))(k:κ)(v:V):List (κ × V) :=
 if (kvs.any fun kv=>decide (kv.1=k))=true then kvs.map (fun kv=>if kv.1=k then (kv.1,v) else kv) else kvs++[(k,v)]
theorem tq{p:κ × V}{r:List (κ × V)}{k:κ}(e:p.1=k):gp (p :: r) k=some p.2:=by simp[gp,FE,e]
theorem tv{p:κ × V}{r:List (κ × V)}{k:κ}(e:¬ p.1=k):gp (p :: r) k=gp r k:=by simp[gp,FE,e]
theorem L9(k:κ):∀ kvs:List (κ × V),(kvs.any fun kv=>decide (kv.1=k))=(gp kvs k).isSome
 |[]=>rfl
 |p :: r=>by
  rw[DU]
  by_cases e:p.1=k
  ·simp only[tq e,decide_eq_true e,Bool.true_or,Option.isSome_some]
  ·rw[tv e,decide_eq_false e,Bool.false_or];exact L9 k r
theorem Y1(k j:κ)(y:V):∀ kvs:List (κ × V),gp (kvs.map fun kv=>if kv.1=k then (kv.1,y) else kv) j=(gp kvs j).map fun x=>if j=k then y else x
 |[]=>rfl
 |p :: r=>by
  have ih:=Y1 k j y r
  rw[iF]
  by_cases h:p.1=k
  ·rw[if_pos h]
   by_cases e:p.1=j
   ·rw[tq (p:=(p.1,y)) e,tq e,K2,if_pos (e.symm.trans h)]
   ·rw[tv (p:=(p.1,y)) e,tv e,ih]
  ·rw[if_neg h]
   by_cases e:p.1=j
   ·rw[tq (p:=p) e,tq e,K2,if_neg (fun z=>h (e.trans z))]
   ·rw[tv (p:=p) e,tv e,ih]
theorem Y2(k j:κ)(y:V):∀ kvs:List (κ × V),gp kvs k=none->gp (kvs++[(k,y)]) j=if j=k then some y else gp kvs j
 |[],_=>by
  by_cases e:k=j
  ·rw[if_pos e.symm];exact tq (p:=(k,y)) e
  ·rw[if_neg (fun z=>e z.symm)];exact tv (p:=(k,y)) e
 |p :: r,hn=>by
  rw[Qz]
  have hk:¬ p.1=k:=fun z=>by rw[tq z] at hn;cases hn
  rw[tv hk] at hn
  have ih:=Y2 k j y r hn
  by_cases e:p.1=j
  ·rw[tq e,tq e,if_neg (fun z=>hk (e.trans z))]
  ·rw[tv e,tv e,ih]
theorem eP'(kvs:List (κ × V))(k j:κ)(y:V):gp (putK kvs k y) j=if j=k then some y else gp kvs j:=by
 unfold putK
 by_cases a:(kvs.any fun kv=>decide (kv.1=k))=true
 ·rw[if_pos a,Y1]
  rw[L9] at a
  by_cases e:j=k
  ·obtain⟨x,hx⟩:=Option.isSome_iff_exists.mp a
   rw[if_pos e,e,hx,K2,if_pos rfl]
  ·rw[if_neg e]
   cases gp kvs j with
   |none=>rfl
   |some x=>rw[K2,if_neg e]
 ·rw[if_neg a]
  refine Y2 k j y kvs ?_
  rw[L9] at a
  cases q:gp kvs k with
  |none=>rfl
  |some x=>rw[q] at a;exact(a rfl).elim
theorem eQ'(kvs:List (κ × V))(k:κ)(v:V):(putK kvs k v).length<=kvs.length+1:=by
 unfold putK
 split
 ·rw[cE];exact Nat.le_add_right _ _
 ·rw[md,pT,QF];exact bP _
theorem sQ.Mb(r:sQ o u):o.isSome=u.isSome:=by
 cases o with
 |none=>cases u with
  |none=>rfl
  |some _=>exact(show False from r).elim
 |some _=>cases u with
  |none=>exact(show False from r).elim
  |some _=>rfl
theorem sQ.getD(r:sQ o u)(rd:RelV d d'):RelV (o.getD d) (u.getD d'):=by
 cases o with
 |none=>cases u with
  |none=>exact rd
  |some _=>exact(show False from r).elim
 |some _=>cases u with
  |none=>exact(show False from r).elim
  |some _=>exact r
theorem KV.val{kvs:List (κ × V)}{vs:List (κ × Value)}(r:KV kvs vs)(k:κ):sQ (gp kvs k) (valueAt vs k):=by
 unfold KV at r
 induction r with
 |nil=>exact True.intro
 |@cons p q ps qs h t ih =>
  obtain⟨h1,h2⟩:=h
  by_cases e:p.1=k
  ·have e':q.1=k:=h1.symm.trans e
   have b:valueAt (q :: qs) k=some q.2:=by simp[valueAt,FE,e']
   rw[tq e,b];exact h2
  ·have e':¬ q.1=k:=fun z=>e (h1.trans z)
   have b:valueAt (q :: qs) k=valueAt qs k:=by simp[valueAt,FE,e']
   rw[tv e,b];exact ih
theorem KV.any(r:KV kvs vs)(k:κ):(kvs.any fun kv=>decide (kv.1=k))=vs.any fun kv=>decide (kv.1=k):=by
 unfold KV at r
 induction r with
 |nil=>rfl
 |cons h t ih=>rw[DU,DU,ih,h.1]
theorem KV.repl(r:KV kvs vs)(k:κ)(ry:RelV y u) :
  KV (kvs.map fun kv=>if kv.1=k then (kv.1,y) else kv) (vs.map fun kv=>if kv.1=k then (kv.1,u) else kv):=by
 unfold KV at r ⊢
 induction r with
 |nil=>exact .nil
 |@cons p q ps qs h t ih =>
  rw[iF,iF]
  refine .cons ?_ ih
  obtain⟨h1,h2⟩:=h
  by_cases e:p.1=k
  ·rw[if_pos e,if_pos (h1.symm.trans e)];exact⟨h1,ry⟩
  ·rw[if_neg e,if_neg (fun z=>e (h1.trans z))];exact⟨h1,h2⟩
theorem KV.put(r:KV kvs vs)(k:κ)(ry:RelV y u):KV (putK kvs k y) (stored vs k u):=by
 unfold putK stored
 rw[r.any k]
 by_cases e:(vs.any fun kv=>decide (kv.1=k))=true
 ·rw[if_pos e,if_pos e];exact r.repl k ry
 ·rw[if_neg e,if_neg e];exact Paired.snoc r ⟨rfl,ry⟩
theorem KV.length(r:KV kvs vs):kvs.length=vs.length:=Paired.length r
end
theorem Mk{P:Program}(r:RelV (kV k) u):(kR P w).is k u=true:=by
 cases k with
 |inl i=>obtain⟨t,e⟩:=(show ∃ t,u=Value.int i t from r);subst e;exact bX' P w i t
 |inr x=>obtain⟨t,e⟩:=(show ∃ t,u=Value.str x t from r);subst e;exact bY' P w x t
theorem Uh{P:Program}:∀ {ks:List Key} {us:List Value},Vals (ks.map kV) us->ItemsAre (kR P w) ks us
 |[],_,r=>by rw[List.map_nil] at r;cases r;exact .nil
 |k :: ks,_,r=>by
  rw[iF] at r
  cases r with
  |cons h t=>exact .cons (Mk h) (Uh t)
abbrev KT(H:Hp):List (List Key × V)->List (List Key × Addr × Value)->Prop:=Paired fun p q=>p.1=q.1/\H q.2.1=some (.tup (p.1.map kV))/\RelV p.2 q.2.2
theorem KT.val{H:Hp}{kvs:List (List Key × V)}{xs:List (List Key × Addr × Value)}(r:KT H kvs xs)(k:List Key):sQ (gp kvs k) ((atKey xs k).map (·.2)):=by
 induction r with
 |nil=>exact True.intro
 |@cons p q ps qs h t ih =>
  obtain⟨h1,_,h2⟩:=h
  by_cases e:p.1=k
  ·have e':q.1=k:=h1.symm.trans e
   have b:atKey (q :: qs) k=some q.2:=by simp[atKey,FE,e']
   rw[tq e,b];exact h2
  ·have e':¬ q.1=k:=fun z=>e (h1.trans z)
   have b:atKey (q :: qs) k=atKey qs k:=by simp[atKey,FE,e']
   rw[tv e,b];exact ih
theorem KT.repl(r:KT H kvs xs)(k:List Key)(ry:RelV y u) :
  KT H (kvs.map fun kv=>if kv.1=k then (kv.1,y) else kv) (xs.map (putAt k u)):=by
 induction r with
 |nil=>exact .nil
 |@cons p q ps qs h t ih =>
  rw[iF,iF]
  refine .cons ?_ ih
  obtain⟨h1,h2,h3⟩:=h
  unfold putAt
  by_cases e:p.1=k
  ·rw[if_pos e,if_pos (h1.symm.trans e)];exact⟨h1,h2,ry⟩
  ·rw[if_neg e,if_neg (fun z=>e (h1.trans z))];exact⟨h1,h2,h3⟩
theorem KT.put(r:KT H kvs xs)(k:List Key)(hb:H b=some (.tup (k.map kV)))(ry:RelV y u) :
  KT H (putK kvs k y) (storedH xs k b u):=by
 have e:(kvs.any fun kv=>decide (kv.1=k))=(atKey xs k).isSome:=by
  rw[L9,(r.val k).Mb,Tq]
 unfold putK storedH
 rw[e]
 by_cases q:(atKey xs k).isSome=true
 ·rw[if_pos q,if_pos q];exact r.repl k ry
 ·rw[if_neg q,if_neg q];exact Paired.snoc r ⟨rfl,hb,ry⟩
theorem KT.keeps(r:KT H kvs xs)(ht:∀ b ys,H b=some (.tup ys)->H' b=some (.tup ys)):KT H' kvs xs :=
 Paired.Ts r fun _ _ z=>⟨z.1,ht _ _ z.2.1,z.2.2⟩
section
variable {P:Program}{w:World}{H:Hp}{h:Heap}{a:Addr}
theorem Y3(ok:gy P w H h)(e:Rd H a u):fI P w H h a u:=e.ok ok
theorem EF(ok:gy P w H h)(e:Rd H a (.dK kvs)):kvs.length<=sizeLine/\(a == sysModules)=false/\∃ vs,KV kvs vs/\h.DictOf (kR P w) a vs :=
 show fI P w H h a (.dK kvs) from Y3 ok e
theorem GH(ok:gy P w H h)(e:H a=some (.tup (ks.map kV))):(tupleKind (kR P w)).is h ks a:=by
 obtain⟨_,its,r,o,h1,h2,n,h3⟩:=(show fI P w H h a (.tup (ks.map kV)) from ok a _ e)
 exact⟨o,its.toArray,n,h1,h2,h3,by simpa using Uh r⟩
theorem EG(ok:gy P w H h)(e:Rd H a (.dT kvs)):kvs.length<=sizeLine/\(a == sysModules)=false /\
  ∃ xs,KT H kvs xs/\h.DictOfH (tupleKind (kR P w)) a xs:=by
 obtain⟨z,y,xs,r,o,es,ep,h1,h2,h3,h4,h5⟩:=(show fI P w H h a (.dT kvs) from Y3 ok e)
 refine⟨z,y,xs,r,o,es,ep,h1,h2,h3,h4,fun x hx=>?_,h5⟩
 have all:∀ {l:List (List Key × V)} {m:List (List Key × Addr × Value)},KT H l m->∀ x∈m,(tupleKind (kR P w)).is h x.1 x.2.1:=by
  intro l m q
  induction q with
  |nil=>intro x hx;exact nomatch hx
  |@cons p q ps qs hq t ih =>
   intro x hx
   rcases dA.mp hx with e|hx
   ·subst e
    exact GH ok (by rw[<- hq.1];exact hq.2.1)
   ·exact ih x hx
 exact all r x hx
theorem eR'(ok:gy P w H h)(e:H a=some (.dT kvs)):kvs.length<=sizeLine/\(a == sysModules)=false /\
  ∃ xs,KT H kvs xs/\h.DictOfH (tupleKind (kR P w)) a xs:=EG ok (.inl e)
end
def kS(H:Hp)(a:Addr)(y:V)(r:Option V):Prop :=
 (∃ kvs k,Rd H a (.dK kvs)/\y=kV k/\r=gp kvs k)\/∃ kvs k b,Rd H a (.dT kvs)/\y=.ref b/\H b=some (.tup (k.map kV))/\r=gp kvs k
def Rr(H:Hp)(a:Addr)(y v:V)(H':Hp):Prop :=
 (∃ kvs k,H a=some (.dK kvs)/\y=kV k/\kvs.length<sizeLine/\H'=upd H a (.dK (putK kvs k v))) \/
 ∃ kvs k b,H a=some (.dT kvs)/\y=.ref b/\H b=some (.tup (k.map kV))/\kvs.length<sizeLine/\H'=upd H a (.dT (putK kvs k v))
theorem kS.k{H:Hp}{a:Addr}{kvs:List (Key × V)}{k:Key}(e:H a=some (.dK kvs)):kS H a (kV k) (gp kvs k):=.inl ⟨kvs,k,.inl e,rfl,rfl⟩
theorem kS.t{H:Hp}{a b:Addr}{kvs:List (List Key × V)}{k:List Key}(e:H a=some (.dT kvs))(eb:H b=some (.tup (k.map kV))):kS H a (.ref b) (gp kvs k):=.inr ⟨kvs,k,b,.inl e,rfl,eb,rfl⟩
theorem Rr.k{H:Hp}{a:Addr}{kvs:List (Key × V)}{k:Key}{v:V}(e:H a=some (.dK kvs))(hl:kvs.length<sizeLine):Rr H a (kV k) v (upd H a (.dK (putK kvs k v))):=.inl ⟨kvs,k,e,rfl,hl,rfl⟩
theorem Rr.t{H:Hp}{a b:Addr}{kvs:List (List Key × V)}{k:List Key}{v:V}(e:H a=some (.dT kvs))(eb:H b=some (.tup (k.map kV)))(hl:kvs.length<sizeLine) :
  Rr H a (.ref b) v (upd H a (.dT (putK kvs k v))):=.inr ⟨kvs,k,b,e,rfl,eb,hl,rfl⟩
section
variable {X:Cx}{pins:List (Addr × Obj)}{σ:St}{H:Hp}{s:Shared}{a:Addr}{y v:V}{u:Value}{o:Option V}{A:Around}{E:Value->Shared->Prop}
theorem Inv.big(I:Inv X pins σ H s):sysModules<s.heap.objs.size:=by
 have h:mainGlobals<s.heap.objs.size:=(I.mod.glob.keeps I.bk).lt
 exact Ti (by decide) h
theorem eS'(hu:A.units+1<cLine)(I:Inv X pins σ H s)(g:kS H a y (some v))(ry:RelV y u)(h:∀ w' s',Inv X pins σ H s'->RelV v w'->Q w' s') :
  wpAny (model X.prog X.w) A (getItem (.ref a) u) Q E s:=by
 rcases g with⟨kvs,k,e,ey,l⟩|⟨kvs,k,b,e,ey,eb,l⟩
 ·subst ey
  obtain⟨z,hd,vs,rel,dd⟩:=EF I.aI e
  obtain⟨w',hw,tj⟩:=sQ.some_of (v:=v) (o:=valueAt vs k) (by rw[l];exact rel.val k)
  exact wpAny_getItem_of (Mk ry) dd.mapOf hw (h w' _ (I.tok _) tj)
 ·subst ey
  cases (show u=Value.ref b from ry)
  obtain⟨z,hd,xs,rel,dd⟩:=EG I.aI e
  obtain⟨w',hw,tj⟩:=sQ.some_of (v:=v) (o:=(atKey xs k).map (·.2)) (by rw[l];exact rel.val k)
  obtain⟨p,hp,hp2⟩:=Option.map_eq_some_iff.mp hw
  refine wpAny_getItem_heap (tupleKind_room_in1 hu) (GH I.aI eb) dd hp ?_
  rw[hp2]
  exact h w' _ (I.tok _) tj
theorem eU'(hu:A.units+1<cLine)(I:Inv X pins σ H s)(g:kS H a y o)(ry:RelV y u)(h:∀ s',Inv X pins σ H s'->Q (.bool o.isSome) s') :
  wpAny (model X.prog X.w) A (compareOp .In u (.ref a)) Q E s:=by
 rcases g with⟨kvs,k,e,ey,l⟩|⟨kvs,k,b,e,ey,eb,l⟩
 ·subst ey
  obtain⟨z,hd,vs,rel,dd⟩:=EF I.aI e
  refine wpAny_in_of (Mk ry) hd dd.mapOf ?_
  rw[<- (rel.val k).Mb,<- l]
  exact h _ (I.tok _)
 ·subst ey
  cases (show u=Value.ref b from ry)
  obtain⟨z,hd,xs,rel,dd⟩:=EG I.aI e
  refine wpAny_in_heap (tupleKind_room_in1 hu) (GH I.aI eb) hd dd ?_
  have q:=(rel.val k).Mb
  rw[Tq] at q
  rw[<- q,<- l]
  exact h _ (I.tok _)
theorem eV'(hu:A.units+1<cLine)(I:Inv X pins σ H s)(g:kS H a y o)(ry:RelV y u)(h:∀ s',Inv X pins σ H s'->Q (.bool (!o.isSome)) s') :
  wpAny (model X.prog X.w) A (compareOp .NotIn u (.ref a)) Q E s:=by
 rcases g with⟨kvs,k,e,ey,l⟩|⟨kvs,k,b,e,ey,eb,l⟩
 ·subst ey
  obtain⟨z,hd,vs,rel,dd⟩:=EF I.aI e
  refine wpAny_notIn_of (Mk ry) hd dd.mapOf ?_
  rw[<- (rel.val k).Mb,<- l]
  exact h _ (I.tok _)
 ·subst ey
  cases (show u=Value.ref b from ry)
  obtain⟨z,hd,xs,rel,dd⟩:=EG I.aI e
  refine wpAny_notIn_heap (tupleKind_room_in1 hu) (GH I.aI eb) hd dd ?_
  have q:=(rel.val k).Mb
  rw[Tq] at q
  rw[<- q,<- l]
  exact h _ (I.tok _)
theorem eW'(I:Inv X pins σ H s)(mu:Lc (H a))(hs:Heap.SameBut a s.heap h')(he:∃ q,h'.get? a=some q)(new:fI X.prog X.w (upd H a ob) h' a ob) :
  Inv X pins σ (upd H a ob) { s with heap:=h',toks:=t' } :=
 I.write (x:=a) (e:=a) mu (.inl rfl) (fun b q hb z=>(hs.2 b hb).trans z) he new
end
section
variable {X:Cx}{pins:List (Addr × Obj)}{σ:St}{H:Hp}{s:Shared}{a:Addr}{kvs:List (Key × V)}{A:Around}{E:Value->Shared->Prop}
theorem eX' (I:Inv X pins σ H s) (e:Rd H a (.dK kvs)) (h:∀ t s',Inv X pins σ H s'->Q (.int kvs.length t) s'):wpAny (model X.prog X.w) A (call (.builtin "len") [.ref a]) Q E s:=by
 obtain⟨z,hd,vs,rel,dd⟩:=EF I.aI e
 refine call_len_dict hd dd (by rw[<- rel.length];rw[sizeLine_eq] at z;lia) ?_
 rw[<- rel.length]
 exact h _ _ (I.tok _)
end
theorem eY' {X:Cx} (I:Inv X pins σ H s) (g:kS H a y o):s.TypeIs (.ref a) "dict" := by
 rcases g with⟨kvs,k,e,_,_⟩|⟨kvs,k,b,e,_,_,_⟩
 ·obtain⟨_,_,vs,_,dd⟩:=EF I.aI e
  exact dd.typeIs
 ·obtain⟨_,_,xs,_,dd⟩:=EG I.aI e
  exact dd.typeIs
theorem eZ' {P:Program} (h:Heap) (hb:sysModules<h.objs.size):fI P w H (h.push { cls:=.type "dict",data:=.dict #[] }) h.objs.size (.dT []) :=
 ⟨eu _,beq_eq_false_iff_ne.mpr (Ne.symm (eM hb)),[],.nil,_,#[],0,jv _ rfl,⟨rfl,rfl,rfl⟩,rfl,rfl,nK⟩
def fa':TE:=fun _ H Q=>∀ p,H p=none->Q (.ref p) (upd H p (.dT []))
section
variable {X:Cx}{pos:Pos}
theorem fc':PE X (.Dict [] [] pos) fa':=fun pins s σ H Q I h =>
 wpAny_Dict_empty ⟨.ref s.heap.objs.size,_,I.laid (a:=s.heap.objs.size) (o:=.dT []) (t':=s.toks) (fun _ _ q=>fe _ q) (bP _) (eZ' s.heap I.big),rfl,h _ (I.aI.fresh (bP _))⟩
end
structure M1(X:Cx)(o:Expr)(m:Str)(apos:Pos)(e:Expr)(dS:Pos):Prop where
 base:attributeBase o m X.env (eval o X.env)=eval o X.env
 few:((backTo dS (starEach [e] X.env)).all (fun x=>!x.1) && (backToKw dS (keywordEach [] X.env)).all (fun x=>x.1.isSome)
  && decide (([e]:List Expr).length+([]:List Keyword).length+(if ([]:List Keyword).isEmpty then 0 else 1)<30))=true
 line:(apos.endLine == dS.line)=true
 trees:backTo dS (starEach [e] X.env)=[(false,eval e X.env)]
structure M2(X:Cx)(o:Expr)(m:Str)(apos:Pos)(e f:Expr)(dS:Pos):Prop where
 base:attributeBase o m X.env (eval o X.env)=eval o X.env
 few:((backTo dS (starEach [e,f] X.env)).all (fun x=>!x.1) && (backToKw dS (keywordEach [] X.env)).all (fun x=>x.1.isSome)
  && decide (([e,f]:List Expr).length+([]:List Keyword).length+(if ([]:List Keyword).isEmpty then 0 else 1)<30))=true
 line:(apos.endLine == dS.line)=true
 trees:backTo dS (starEach [e,f] X.env)=[(false,eval e X.env),(false,eval f X.env)]
def Rt(H:Hp)(a:Addr):Prop:=(∃ kvs,Rd H a (.dK kvs))\/∃ kvs,Rd H a (.dT kvs)
theorem Y4{X:Cx}(I:Inv X pins σ H s)(d:Rt H a) :
  s.TypeIs (.ref a) "dict"/\(∀ b,Value.ref a=.ref b->∃ ob,s.heap.get? b=some ob/\ob.dict=none)/\(a == sysModules)=false:=by
 rcases d with⟨kvs,e⟩|⟨kvs,e⟩
 ·obtain⟨_,hd,vs,_,dd⟩:=EF I.aI e
  refine⟨dd.typeIs,fun b q=>?_,hd⟩
  cases q
  obtain⟨ob,_,_,h1,h2,_⟩:=dd
  exact⟨ob,h1,h2.2.1⟩
 ·obtain⟨_,hd,xs,_,dd⟩:=EG I.aI e
  refine⟨dd.typeIs,fun b q=>?_,hd⟩
  cases q
  obtain⟨ob,_,_,h1,h2,_⟩:=dd
  exact⟨ob,h1,h2.2.1⟩
section
variable {X:Cx}{pins:List (Addr × Obj)}{σ:St}{H:Hp}{s:Shared}{a:Addr}{y d:V}{u r:Value}{o:Option V}{A:Around}{E:Value->Shared->Prop}
theorem fd'(hu:A.units+1<cLine)(I:Inv X pins σ H s)(g:kS H a y o)(ry:RelV y u)(rd:RelV d r)(h:∀ w' s',Inv X pins σ H s'->RelV (o.getD d) w'->Q w' s') :
  wpAny (model X.prog X.w) A (call (.builtin "dict.get") [.ref a,u,r]) Q E s:=by
 rcases g with⟨kvs,k,e,ey,l⟩|⟨kvs,k,b,e,ey,eb,l⟩
 ·subst ey
  obtain⟨z,hd,vs,rel,dd⟩:=EF I.aI e
  refine call_meetsIn PySem.F.slot_dict_get dd.typeIs PySem.F.entry_dict_get (PySem.F.args_dict_get_3 _ _ _) (meets_dict_get_default (kR X.prog X.w) a (Mk ry) hd r) ⟨_,dd.mapOf,h _ _ (I.tok _) ?_⟩
  rw[l]
  exact(rel.val k).getD rd
 ·subst ey
  cases (show u=Value.ref b from ry)
  obtain⟨z,hd,xs,rel,dd⟩:=EG I.aI e
  refine call_meetsIn PySem.F.slot_dict_get dd.typeIs PySem.F.entry_dict_get (PySem.F.args_dict_get_3 _ _ _) (meetsH_dict_get_default (tupleKind (kR X.prog X.w)) a b hd r) ⟨tupleKind_room_in1 hu,k,xs,GH I.aI eb,dd,h _ _ (I.tok _) ?_⟩
  rw[l]
  exact(rel.val k).getD rd
end
def Y5(td ty tx:TE):TE:=fun σ H Q=>td σ H fun x H1=>∃ a,x=.ref a/\Rt H1 a/\ty σ H1 fun y H2=>tx σ H2 fun z H3=>∃ o,kS H3 a y o/\Q (o.getD z) H3
section
variable {X:Cx}{o e f:Expr}{apos dS:Pos}{td ty tx:TE}
theorem fe' (hu:X.A.units+1<cLine) (ho:PE X o td) (he:PE X e ty) (hf:PE X f tx) (m:M2 X o "get" apos e f dS):PE X (.Call (.Attribute o "get" apos) [e,f] [] dS) (Y5 td ty tx):=by
 intro pins s σ H Q I h
 refine wpAny_Call_method m.base m.few m.line PySem.F.plainAttrs_dict PySem.F.slot_dict_get PySem.F.type_dict_get (cf (ho pins s σ H _ I h) fun u s1 da=>?_)
 obtain⟨x,H1,I1,rx,a,ex,d,q1⟩:=da
 subst ex
 obtain rfl:u=Value.ref a:=rx
 obtain⟨t1,t2,_⟩:=Y4 I1 d
 refine⟨t1,t2,?_⟩
 rw[m.trees]
 refine Calls.callWith_builtin rfl (Calls.evalArgs_plain (Calls.spliced_cons (cf (he pins s1 σ H1 _ I1 q1) fun iv s2 b9=>L2.fw b9 fun y H2 I2 ry q2 =>
  Calls.spliced_cons (cf (hf pins s2 σ H2 _ I2 q2) fun fv s3 ⟨z,H3,I3,rz,ov,g,q3⟩=>Calls.spliced_nil ?_))))
 exact fd' hu I3 g ry rz fun w' s4 I4 tj=>⟨_,H3,I4,tj,q3⟩
end
end L2
namespace Y6
open PySem PySem.W PySem.Calls PyProof.Rows
theorem fg'{P:Params}:∀ (ns:List Int) (vs:List Value),WellAll P h vs (ns.map WData.int)->IntsAre vs ns:=by
 intro ns
 induction ns with
 |nil =>
  intro vs w
  rw[List.map_nil] at w
  cases w
  exact .nil
 |cons n ns ih =>
  intro vs w
  rw[iF] at w
  cases w with
  |cons a b =>
   cases a
   exact .cons _ _ (ih _ b)
theorem fh'{l:OpenLaw}{n:Nat}(hn:l.most=some n){P:Params}{h:Heap}{args:List WData}{vals:List Value}
  (B8:l.row.toRowW.claim.pre args=true) (Ui:WellAll P h vals args) :
  ∃ a vs ns,vals=[Value.ref a]/\args=[WData.list (ns.map WData.int)]/\h.get? a=some { cls:=.type "list",data:=.seq vs.toArray }/\IntsAre vs ns/\ns.length<=n:=by
 have yy:WShape.hasAll [] args [.list .int]=true:=(pre_splitW B8).1
 have hc:l.pre.holds [] { args:=args }=true:=(pre_splitW B8).2
 obtain⟨d,r,rfl,h1,h2⟩:=hasAllW_cons yy
 obtain rfl:=hasAllW_nil h2
 obtain⟨xs,rfl,h3⟩:=hasW_list h1
 obtain⟨ns,rfl⟩:=items_int h3
 have hlen:ns.length<=n:=by
  unfold OpenLaw.pre at hc
  have h4:(WTm.not (.lt (.lit (.int (n:Int))) (.len (.arg 0)))).holds [] { args:=[.list (ns.map .int)] }=true:=by
   have h4:=(holds_andW hc).1
   rw[hn] at h4
   exact h4
  have h5:=condW_of h4 (w_not (w_lt w_lit (w_len_list (w_arg rfl))))
  rw[cE] at h5
  refine Kj fun q=>?_
  have q':(n:Int)<((ns.length:Nat):Int):=by lia
  first
   | (rw[decide_eq_true q'] at h5;exact absurd h5 (by decide))
   | (simp at h5;lia)
 cases Ui with
 |cons w1 w2 =>
  cases w2
  cases w1 with
  |list ho oS=>exact⟨_,_,ns,rfl,rfl,ho,fg' ns _ oS,hlen⟩
theorem fi'(l:OpenLaw)(args:List WData):l.row.toRowW.claim.post args (.bool true) args=true :=
 postW_of (r:=l.row.toRowW) (X:=(true == true))
  (show WShape.has [] (.bool true) .bool=true by first|rfl|decide|simp[WShape.has,WShape.arms,WShape.armsAll])
  (show(WTm.eq .res (.lit (.bool true))).value [] { args:=args,res:=some (.bool true),after:=args }=some (.bool (true == true)) from w_eq_bool (w_res rfl) w_lit) rfl
theorem fj'{l:OpenLaw}{n:Nat}{q:Program}{loose:List Str}{XP:(Str->Option Value)->Heap->Prop}{YP:World->Heap->Prop}{d:DefRec}
  (hn:l.most=some n) (My:d.params.defaults=[])
  (call:∀ (w:World) (eP eB:Shared) (mg mb:Str->Option Value) (fa:Addr) (o:Obj) (pm cd doc:Value) (a:Addr) (vs:List Value) (ns:List Int),
   Ground q loose [] XP w eP mg mb eB.heap->YP w eB.heap ->
   eB.heap.get? fa=some o->o.data=.func (docDef d.name d.params d.body d.scope pm cd doc)->eB.heap.CodeRec cd d.name->mg d.name=some (.ref fa) ->
   eB.heap.get? a=some { cls:=.type "list",data:=.seq vs.toArray }->IntsAre vs ns->ns.length<=n->eB.gens = #[] ->
   codeAny (model l.prog w) callerA (.call (.ref fa) ⟨[.ref a],[]⟩) (fun r s'=>r=.ok (.ret (.bool true))/\OldK eB.heap s'.heap/\s'.os=eB.os/\AllBare s'.gens) eB) :
  WalkO q loose XP YP l.row.toRowW d [] (fun f vs=>PySem.call f vs):=by
 intro w eP eB mg mb G Y fa o pm cd doc dV kV ho hd oP hD MA hg args vals as B8 hlay hrd Ui B9
 obtain rfl:dV=.none:=Dflts.none hD My
 obtain rfl:kV=.none:=Dflts.noKw hD
 obtain⟨a,vs,ns,rfl,rfl,Uj,hints,hlen⟩:=fh' hn B8 Ui
 refine enter_call (codeAny_mono (call w eP eB mg mb fa o pm cd doc a vs ns G Y ho (fd_plain hd) oP MA Uj hints hlen hg) fun r s' hq=>?_)
 obtain⟨rfl,h2,h3,h4⟩:=hq
 exact⟨.inl ⟨.bool true,.bool true,[],rfl,fun _=>rfl,.bool true,fi' l _,fun _=>⟨List.Pairwise.nil,fun _ hm=>(nomatch hm)⟩⟩,h2,h3,h4⟩
end Y6
namespace L2
open PySem PySem.Spec PyProof.Rows
theorem Y7:∀ {vs:List Value} {ns:List Int},IntsAre vs ns->Vals (ns.map V.int) vs
 |_,_,.nil=>.nil
 |_,_,.cons n t h=>.cons ⟨t,rfl⟩ (Y7 h)
def Only(H:Hp):Prop:=∀ b,H b=none\/∃ o xs,H b=some (.mM o (.lst xs))
theorem fk'{P:Program}{K:PySem.W.Frag}
  (KX:K.In eB.heap) (Y8:eB.heap.Ns mainGlobals mg) (hb:eB.heap.Ns builtinsNs mb) (hbb:∀ x:Str,x ≠ "__name__"->mb x=bootBuiltins x) (fn':eB.heap.NoLimit) (hg:eB.gens = #[])
  (ha:eB.heap.get? a=some { cls:=.type "list",data:=.seq vs.toArray }) (hi:IntsAre vs ns) (hl:ns.length<=sizeLine) (hr:kC k callerA)
  (F:∀ base:Heap,K.In base->base.Ns mainGlobals mg->ft P w K mg base CX k fa fd [x] sp) (fo':∀ (s:Shared) (u:Value),BindsTo s fd ⟨[u],[]⟩ [(x,u)])
  (yn:∀ H:Hp,Only H->dn K H a (ns.map V.int)->sp [.ref a] H (fun v _=>v=.bl true) fun _ _ _=>False)
  (Uk:∀ H e s',CX [] H eB (fun _ _ _=>False) e s'->False) :
  codeAny (model P w) callerA (.call (.ref fa) ⟨[.ref a],[]⟩) (fun r s'=>r=.ok (.ret (.bool true))/\OldK eB.heap s'.heap/\s'.os=eB.os/\AllBare s'.gens) eB:=by
 have rv:=Y7 hi
 have fp':=hi.length
 -- from an abstract heap in which nothing but the script may be tracked
 have core:∀ H:Hp,Only H->dn K H a (ns.map V.int)->gy P w H eB.heap->(∀ b,H b≠none->b=a)->(H a≠none->K.lookup a=none) ->
   codeAny (model P w) callerA (.call (.ref fa) ⟨[.ref a],[]⟩) (fun r s'=>r=.ok (.ret (.bool true))/\OldK eB.heap s'.heap/\s'.os=eB.os/\AllBare s'.gens) eB:=by
  intro H hO hS aI hA hK
  have Y9:∀ {b:Addr} {o:Obj},eB.heap.get? b=some o->H b=none->(Au eB.heap H).get? b=some o:=fun e n=>cc' e n
  have LZ:∀ {b:Addr} {o:Obj} {es:Array DictEntry} {ep:Nat},eB.heap.get? b=some o->o.data=.dict es ep->H b=none:=fun {b o es ep} e d=>by
   cases q:H b with
   |none=>rfl
   |some u =>
    have e':b=a:=hA b (by rw[q];simp)
    subst e'
    rw[ha] at e;cases e
    have d':Data.seq vs.toArray _=Data.dict es ep:=d
    cases d'
  have Ru:∀ {b:Addr} {m:Str->Option Value},eB.heap.Ns b m->(Au eB.heap H).Ns b m:=fun {b m} ⟨o,es,ep,e,d,r⟩=>⟨o,es,ep,Y9 e (LZ e d),d,r⟩
  have Y_:K.In (Au eB.heap H):=fun b o e=>Y9 (KX b o e) (by
   cases q:H b with
   |none=>rfl
   |some u =>
    have e':b=a:=hA b (by rw[q];simp)
    subst e'
    rw[hK (by rw[q];simp)] at e;cases e)
  have hM:Mod K mg (Au eB.heap H):=⟨Y_,Ru Y8,⟨mb,Ru hb,hbb⟩,let ⟨mc,h1,h2⟩:=fn';⟨mc,Ru h1,h2⟩⟩
  have e0:Rj P w K mg (Au eB.heap H) callerA [] eB H:=⟨rfl,hM,fun b o e=>cd' e,Nat.le_of_eq (cb' _ _),trivial,fun b hb=>absurd (show b∈([]:List Addr) from hb) (by simp),aI,.of_eq hg⟩
  refine codeAny_mono ((F _ Y_ (Ru Y8)).run callerA [] eB H ⟨[.ref a],[]⟩ [.ref a] [.ref a] _ _ hr e0 (fo' eB (.ref a)) (.cons rfl .nil) (yn H hO hS)) fun r s' h=>?_
  cases r with
  |error e=>exact(Uk H e s' h).elim
  |ok fl =>
   cases fl with
   |next=>exact False.elim h
   |brk=>exact False.elim h
   |cont=>exact False.elim h
   |ret u =>
    obtain⟨v,H',os,bare,un,fq',r',q⟩:=h
    have q':v=.bl true:=q
    subst q'
    obtain rfl:u=Value.bool true:=r'
    refine⟨rfl,OldK.of_keep fun b o e=>?_,os,bare⟩
    cases q:H b with
    |none=>exact un.keep b o e q (by intro z;exact absurd (show b∈([]:List Addr) from z) (by simp)) (by simp)
    |some u =>
     rcases hO b with z|⟨ob,xs,z⟩
     ·rw[q] at z;cases z
     ·have z2:=un.sd b ob _ z
      obtain⟨e1,_⟩:=aI b _ z
      obtain⟨e2,_⟩:=fq' b _ z2
      rw[e] at e1;cases e1
      exact e2
 cases hk:K.lookup a with
 |some o =>
  -- the script is one of the module's own objects
  have e:=KX a o hk
  rw[ha] at e
  cases e
  refine core (fun _=>none) (fun _=>.inl rfl) (.inr ⟨_,vs.toArray,_,hk,rfl,rfl,rfl,by rw[hX,fp'];exact hl,by simpa using rv⟩) (fun b u z=>by have z':(none:Option HO)=some u:=z;cases z') (fun b z=>absurd rfl z) fun z=>absurd rfl z
 |none =>
  refine core (fun b=>if b=a then some (.mM { cls:=.type "list",data:=.seq vs.toArray } (.lst (ns.map V.int))) else none) (fun b=>?_) (.inl (.inr ⟨{ cls:=.type "list",data:=.seq vs.toArray },if_pos rfl⟩)) (fun b u z=>?_) (fun b z=>?_) fun _=>hk
  ·by_cases hb:b=a
   ·exact .inr ⟨_,_,if_pos hb⟩
   ·exact .inl (if_neg hb)
  ·by_cases hb:b=a
   ·have z':=(if_pos hb).symm.trans z
    cases z'
    subst hb
    exact⟨ha,by rw[cE];exact hl,vs,_,rv,ha⟩
   ·have z':=(if_neg hb).symm.trans z
    cases z'
  ·by_cases hb:b=a
   ·exact hb
   ·exact absurd (if_neg hb) z
theorem fr'{l:PySem.W.OpenLaw}{n k:Nat}{q:Program}{loose:List Str}{XP:(Str->Option Value)->Heap->Prop}{YP:World->Heap->Prop}{d:DefRec}{K:Params->PySem.W.Frag}{CX:World->AH}{sp:World->Sp}{x:Str}
  (hn:l.most=some n) (GL:n<=sizeLine) (My:d.params.defaults=[]) (hr:kC k callerA)
  (hY:∀ (w:World) (h:Heap),YP w h->(K w.params).In h)
  (F:∀ (w:World) (mg:Str->Option Value) (fa:Addr) (h:Heap),(K w.params).In h->h.Ns mainGlobals mg->mg d.name=some (.ref fa) ->
   ∃ fd:FuncData,(∀ (s:Shared) (u:Value),BindsTo s fd ⟨[u],[]⟩ [(x,u)]) /\
    ∀ base:Heap,(K w.params).In base->base.Ns mainGlobals mg->ft l.prog w (K w.params) mg base (CX w) k fa fd [x] (sp w))
  (yn:∀ (w:World) (H:Hp) (a:Addr) (ns:List Int),ns.length<=n->Only H->dn (K w.params) H a (ns.map V.int)->sp w [.ref a] H (fun v _=>v=.bl true) fun _ _ _=>False)
  (Uk:∀ (w:World) (H:Hp) (s:Shared) (e:Value) (s':Shared),CX w [] H s (fun _ _ _=>False) e s'->False) :
  PySem.W.WalkO q loose XP YP l.row.toRowW d [] (fun f vs=>PySem.call f vs):=by
 refine Y6.fj' hn My fun w eP eB mg mb fa o pm cd doc a vs ns G Y ho hd oP MA Uj hints hlen hg=>?_
 have KX:=hY w _ Y
 obtain⟨fd,hb,hF⟩:=F w mg fa _ KX G.T.g MA
 exact fk' KX G.T.g G.T.b G.T.builtins G.T.nolimit hg Uj hints (kg hlen GL) hr hF hb (fun H hO hS=>yn w H a ns hlen hO hS) fun H e s'=>Uk w H eB e s'
def gE(s:Stmt):Arguments:=match s with
 |.FunctionDef _ a _ _ _ _ _ _ _ _=>a
 |_=>{ posonlyargs:=[],args:=[],vararg:=none,kwonlyargs:=[],kw_defaults:=[],kwarg:=none,defaults:=[] }
def fE(s:Stmt):List Stmt:=match s with
 |.FunctionDef _ _ b _ _ _ _ _ _ _=>b
 |_=>[]
def bq(s:Stmt):Scope:=match s with
 |.FunctionDef _ _ _ _ _ _ sc _ _ _=>sc
 |_=>{ kind:=.function,names:=[],isGenerator:=false,isCoroutine:=false }
abbrev gu:AH:=fun _ _ _ _ _ _=>False
abbrev E0:XK:=fun _ _ _=>False
theorem fs'{X:Cx}:Passes gu X E0:=fun _ _ _ _ _ _ _ h=>h.elim
structure fA(K:PySem.W.Frag)(x qual:Str)(st:Stmt)(f:Addr)(fd:FuncData):Prop where
 ex:∃ (oc:Value) (od:Option Addr) (kV doc pm:Value) (an:Option Addr) (cq ct:Value) (EC:Array (Option Value)),
  fd=PySem.W.fnOf x qual (gE st) (fE st) (bq st) .none kV doc pm an cq ct/\K.lookup f=some ⟨oc,od,.func fd,EC⟩/\PySem.W.codeIn K cq qual=true
 kp:PySem.W.keepIn K (.ref f)=true
section
variable {P:Program}{w:World}{K:PySem.W.Frag}{mg:Str->Option Value}{base:Heap}
theorem fA.ok{st:Stmt}{N ps:List Str}(F:fA K x qual st f fd)(S:g9 N ps (bq st))(len:∀ vs H Q E,sp vs H Q E->vs.length=ps.length)
  (AI:∀ (cq:Value) (A:Around) (outer:List Env) (s:Shared) (H:Hp) (vs:List V) (Q:VK) (E:XK),kC k (A.deeper (envOfC qual (bq st) s.heap.objs.size f cq))->sp vs H Q E ->
   ∃ t,mP (se gu P w K mg base N qual (bq st) f cq A outer s H E).LJ (fE st) t/\t { nx:=fun _ H'=>Q .non H',rt:=Q } (start N vs) H):ft P w K mg base gu (k+1) f fd ps sp:=by
 obtain⟨oc,od,kV,doc,pm,an,cq,ct,EC,rfl,lk,oP⟩:=F.ex
 refine YF lk oP S len fun A outer s H vs Q E hr yn=>?_
 obtain⟨t,h,q⟩:=AI cq A outer s H vs Q E hr yn
 exact⟨t,h.LJ,q⟩
theorem fA.binds{st:Stmt}{ps:List Str}(F:fA K x qual st f fd)
  (h:∀ (kV doc pm:Value) (an:Option Addr) (cq ct:Value) (us:List Value),us.length=ps.length->bindArgs (PySem.W.fnOf x qual (gE st) (fE st) (bq st) .none kV doc pm an cq ct) ⟨us,[]⟩=pure (ps.zip us)):Binds K fd ps []:=by
 obtain⟨oc,od,kV,doc,pm,an,cq,ct,EC,rfl,lk,oP⟩:=F.ex
 exact .all (h kV doc pm an cq ct)
theorem js{st:Stmt}{kV doc pm cq ct:Value}(l:K.lookup f=some ⟨oc,od,.func (PySem.W.fnOf x qual (gE st) (fE st) (bq st) .none kV doc pm an cq ct),EC⟩)
  (c:PySem.W.codeIn K cq qual=true) (k:PySem.W.keepIn K (.ref f)=true):fA K x qual st f (PySem.W.fnOf x qual (gE st) (fE st) (bq st) .none kV doc pm an cq ct):=⟨⟨oc,od,kV,doc,pm,an,cq,ct,EC,rfl,l,c⟩,k⟩
end
section
variable {X:Cx}
theorem pv (i:Nat) (hN:X.N[i]? = some x:=by rfl) (hv:Lv X.env.scope x:=by first|exact Or.inl rfl|exact Or.inr (Or.inl rfl)|exact Or.inr (Or.inr rfl)) (hd:(x == ("__debug__" : Str))=false:=by decide)
  (oP:(x == ("__classdict__" : Str))=false:=by decide):PE X (.Name x pos) (AG i):=Yd hN hv hd oP
end
def aE(H H':Hp):Prop:=∀ b o,H b=some o->H' b=some o
theorem aE.refl(H:Hp):aE H H:=fun _ _ h=>h
theorem aE.trans(a:aE H H1)(b:aE H1 H2):aE H H2:=fun c o h=>b c o (a c o h)
theorem aE.free(e:aE H H')(h:H' l=Option.none):H l=Option.none:=by
 cases q:H l with
 |none=>rfl
 |some o =>
  rw[e l o q] at h
  cases h
theorem aE.seq{K:PySem.W.Frag}(e:aE H H')(h:dn K H a xs):dn K H' a xs:=by
 rcases h with(h|⟨o,h⟩)|h
 ·exact .inl (.inl (e _ _ h))
 ·exact .inl (.inr ⟨o,e _ _ h⟩)
 ·exact .inr h
end L2
set_option maxHeartbeats 4000000
namespace L2
open PySem PySem.Spec PyProof.Rows
def rg(env:Env):List (Str × NameKind)->List (Str × Addr)->List (Str × Addr)
 |[],cs=>cs
 | (n,k) :: r,cs=>rg env r (if k == NameKind.free then (n,(env.cells.lookup n).getD 0) :: cs else cs)
theorem jA(env:Env):∀ (names:List (Str × NameKind)) (cs:List (Str × Addr)),(∀ y∈names,y.2=.free->∃ c,env.cells.lookup y.1=some c) ->
  (forIn names cs fun x r=>match x with
   | (name,kind)=>if (kind == NameKind.free)=true then do let a <- cellOf env name;pure (ForInStep.yield ((name,a) :: r)) else pure (ForInStep.yield r):Sem (List (Str × Addr)))=pure (rg env names cs)
 |[],cs,_=>rfl
 | (n,k) :: r,cs,h=>by
  rw[List.forIn_cons]
  have ih:=jA env r
  by_cases hk:k=.free
  ·subst hk
   obtain⟨c,e⟩:=h (n,.free) dQ rfl
   have e:env.cells.lookup n=some c:=e
   have e2:cellOf env n=pure c:=by unfold cellOf;rw[e]
   have e3:rg env ((n,.free) :: r) cs=rg env r ((n,c) :: cs):=by
    show rg env r (if (NameKind.free == NameKind.free)=true then (n,(env.cells.lookup n).getD 0) :: cs else cs)=_
    rw[e];rfl
   rw[e3,<- ih ((n,c) :: cs) fun y hy=>h y (dz _ hy)]
   simp only[beq_self_eq_true,if_true,e2]
   rfl
  ·have hb:(k == NameKind.free)=false:=by simpa using hk
   have e3:rg env ((n,k) :: r) cs=rg env r cs:=by
    show rg env r (if (k == NameKind.free)=true then _ else cs)=_
    rw[hb];rfl
   rw[e3,<- ih cs fun y hy=>h y (dz _ hy)]
   simp only[hb,iL,if_false]
   rfl
theorem rR(h:∀ y∈scope.names,y.2=.free->∃ c,env.cells.lookup y.1=some c):closureFor scope env=pure (rg env scope.names []):=by
 have:=jA env scope.names [] h
 unfold closureFor
 rw[<- bind_pure (forIn scope.names [] _)] at this
 exact this
theorem rY:∀ {names:List (Str × NameKind)} {cs:List (Str × Addr)},(∀ y∈names,y.2=.free->∃ c,env.cells.lookup y.1=some c)->(∀ y d,cs.lookup y=some d->env.cells.lookup y=some d) ->
  (rg env names cs).lookup x=some c->env.cells.lookup x=some c
 |[],cs,_,h,e=>h x c e
 | (n,k) :: r,cs,hf,h,e=>by
  refine rY (names:=r) (fun y hy=>hf y (dz _ hy)) ?_ e
  intro y d hd
  by_cases hk:k=.free
  ·subst hk
   obtain⟨c',e'⟩:=hf (n,.free) dQ rfl
   have e':env.cells.lookup n=some c':=e'
   simp only[beq_self_eq_true,if_true,e',Option.getD_some,Te] at hd
   cases hb:y == n with
   |true=>rw[hb] at hd;have:y=n:=eq_of_beq hb;subst this;rw[e'];exact hd
   |false=>rw[hb] at hd;exact h y d hd
  ·have hb:(k == NameKind.free)=false:=by simpa using hk
   simp only[hb,iL,if_false] at hd
   exact h y d hd
theorem oG:∀ {names:List (Str × NameKind)} {cs:List (Str × Addr)},((x,NameKind.free)∈names\/∃ c,cs.lookup x=some c)->∃ c,(rg env names cs).lookup x=some c
 |[],cs,h=>by
  rcases h with h|h
  ·exact nomatch h
  ·exact h
 | (n,k) :: r,cs,h=>by
  refine oG (names:=r) ?_
  rcases h with h|⟨c,h⟩
  ·rcases dA.mp h with e|h
   ·cases e
    refine .inr ⟨(env.cells.lookup x).getD 0,?_⟩
    simp only[beq_self_eq_true,if_true,Te]
   ·exact .inl h
  ·refine .inr ?_
   by_cases hk:(k == NameKind.free)=true
   ·simp only[hk,if_true,Te]
    cases hb:x == n with
    |true=>exact⟨_,rfl⟩
    |false=>exact⟨c,h⟩
   ·simp only[hk,if_false]
    exact⟨c,h⟩
def bj(X:Cx)(scope:Scope)(C:Addr)(N:List Str)(fp:List Addr)(gI:Shared)(hZ:Hp):Cx :=
 { X with N:=N,eP:=gI,wa:=hZ,env:=compEnvC scope (rg X.env scope.names []) C X.env,outer:=X.stack,stack:=X.stack,ex:=fp,fn:=fun _=>false,pn:=[],xe:=fun _ _=>False }
def yA(X:Cx)(ifs:List Expr)(t:TT):Prop :=
 ∀ (pins:List (Addr × Obj)) (s:Shared) (σ:St) (H:Hp) (Q:Bool->Hp->Prop),Inv X pins σ H s->t σ H Q ->
  wpAny (model X.prog X.w) X.A (forIn ifs true fun c r=>if r=true then do let ok <- isTrue c X.env (eval c X.env);pure (ForInStep.yield ok) else pure (ForInStep.yield r)) (TP X pins σ Q) X.xe s
def ft':TT:=fun _ H Q=>Q true H
theorem Fd{X:Cx}:yA X [] ft':=fun _ _ _ H _ I h=>wpAny_tests_nil ⟨H,I,h⟩
theorem Gq{X:Cx}(h:PT X c t):yA X [c] t:=fun pins s σ H Q I hw=>wpAny_tests_one (h pins s σ H Q I hw)
theorem iG{R:Result->Shared->Prop}(I:Nat->Shared->Prop)(E:Value->Shared->Prop)
  (turn:∀ n s,I n s->wpAny (model prog w) A (pyNext it) (fun r eB=>match r with
   |none=>R (.ok .next) eB
   |some v=>wpAny (model prog w) A (letOwnedTupleGo target it v) (fun _ eP=>wpAny (model prog w) A (assign target env v) (fun _ EA =>
     wpAny (model prog w) A (forIn ifs true fun c r=>if r=true then do let ok <- isTrue c env (eval c env);pure (ForInStep.yield ok) else pure (ForInStep.yield r)) (fun ok gI =>
      if ok=true then wpAny (model prog w) A (eval elt env) (fun x Za =>
       wpAny (model prog w) A (call (.builtin "list.append") [acc,x]) (fun _ Zb=>∃ m,m<n/\I m Zb) E Za) E gI
      else ∃ m,m<n/\I m gI) E EA) E eP) E eB) E s)
  (hE:∀ e s',E e s'->notedBy (model prog w) A env (fun e s'=>R (.error e) s') e s')
  (n:Nat) (h:I n s) :
  codeAny (model prog w) A (.compLoop (.ListComp elt [⟨target,iter,ifs,0⟩] scope pos) 0 it acc env) R s:=by
 refine codeAny_loop rfl I (fun n s hI=>?_) n h
 show wpAny _ A ((compTurn (.ListComp elt [⟨target,iter,ifs,0⟩] scope pos) 0 it acc env).onRaise (fun x=>do noteFrame x env;theTreesLotGoes x)) _ _ s
 refine wpAny_noted ?_
 rw[compTurn_list]
 refine pS (Q:=_) (E:=E) ?_ (fun _ _ q=>q) hE
 refine ai (wpAny_standAt (ai (pS (turn n s hI) (fun r eB MB=>?_) fun _ _ h'=>h')))
 cases r with
 |none=>exact ay MB
 |some v =>
  refine ai (pS MB (fun _ eP h₀=>?_) fun _ _ h'=>h')
  refine ai (pS h₀ (fun _ EA fu'=>ai (pS fu' (fun ok gI Zc=>?_) fun _ _ h'=>h')) fun _ _ h'=>h')
  cases ok with
  |false=>exact ay ⟨rfl,Zc⟩
  |true =>
   exact ai (ai (pS Zc (fun x Za fv'=>ai (pS fv' (fun _ Zb fw'=>ay (ay ⟨rfl,fw'⟩)) fun _ _ h'=>h')) fun _ _ h'=>h'))
def rO(tn:Nat)(ix:List Nat)(σ:St):St:=List.replicate tn none++ix.map fun j=>(σ[j]?).join
def zJ(wi:TI)(g:TG)(tc:TT)(te:TE)(tn:Nat)(ix:List Nat):TE:=fun σ H Q=>wi σ H fun J H1=>∀ D,H1 D=none ->
 ∃ W:Nat->Nat->St->Hp->Prop,(∃ m,W 0 m (rO tn ix σ) (upd H1 D (.lst [])))/\∀ i m τ H,W i m τ H ->
  (J.stop i H/\Q (.ref D) H)\/(J.go i H/\∃ (N1:St->V->Hp->Prop) (N2:St->Hp->Prop),
   (∀ mr v H4,N1 mr v H4->∃ ys m',H4 D=some (.lst ys)/\ys.length<sizeLine/\m'<m/\W (i+1) m' mr (upd H4 D (.lst (ys++[v])))) /\
   (∀ mr H3,N2 mr H3->∃ m',m'<m/\W (i+1) m' mr H3) /\
   ∀ x H',J.lP i H x H'->g x τ H' fun mr H2=>tc mr H2 fun b H3=>if b=true then te mr H3 (N1 mr) else N2 mr H3)
section
variable {X:Cx}{tg iter elt:Expr}{ifs:List Expr}{scope:Scope}{pos:Pos}{wi:TI}{g:TG}{tc:TT}{te:TE}{tn cn:List Str}{ix:List Nat}
structure aW(X:Cx)(scope:Scope)(tn cn:List Str)(ix:List Nat):Prop where
 kind:scope.kind=.function
 fx':∀ y∈scope.names,y.2≠.cell
 free:∀ y∈scope.names,y.2=.free->X.env.scope.names.lookup y.1=some .cell\/X.env.scope.names.lookup y.1=some .free
 names:∀ y∈scope.names,y.2=.local->scope.names.lookup y.1=some .local
 len:ix.length=cn.length
 cap:∀ (k j:Nat),ix[k]? = some j->∃ y,cn[k]? = some y/\X.N[j]? = some y/\(X.env.scope.names.lookup y=some .cell\/X.env.scope.names.lookup y=some .free)/\(y,NameKind.free)∈scope.names /\
  ((relabel scope X.env).names.lookup y=some .cell\/(relabel scope X.env).names.lookup y=some .free)
 all:∀ x,(relabel scope X.env).names.lookup x=some .cell\/(relabel scope X.env).names.lookup x=some .free->(x,NameKind.free)∈scope.names
theorem z_(O:aW X scope tn cn ix)(I:Inv X pins σ H s)(hf:∀ b∈fp,tf X pins H b)(Ul:∀ b∈fp,b<s.heap.objs.size)(hC:s.heap.objs.size<=C) :
  (bj X scope C (tn++cn) fp s H).Ok:=by
 have mS:∀ y∈scope.names,y.2=.free->∃ c,X.env.cells.lookup y.1=some c:=fun y hy hk=>I.ok.has y.1 (O.free y hy hk)
 have sub:∀ x c,(rg X.env scope.names []).lookup x=some c->X.env.cells.lookup x=some c:=fun x c e=>rY mS (fun y d h=>by simp at h) e
 refine⟨I.ok.mod,O.kind,I.ok.glob,I.ok.blt,hC,fun x y c h1 h2=>I.ok.inj x y c (sub x c h1) (sub y c h2),fun x hx=>oG (.inl (O.all x hx)),(fun x c h _=>nomatch h),I.ok.hd,I.ok.frames,.inl rfl,fun b hb=>⟨?_,fun x c e=>?_⟩,
  I.bs,kg I.ok.sT I.sz,fun b o e hb=>?_,fun b hb=>?_,I.stack,I.Tv⟩
 ·exact eM (mI (Ul b hb) hC)
 ·exact(hf b hb).2.2.2.2.1 x c (sub x c e)
 ·rcases (hf b hb).2.2.2.1 with z|z
  ·exact I.ok.x8 b o e z
  ·exact absurd (mI (dk e) (kg I.ok.sT z)) (rV _)
 ·intro hz
  rcases dA.mp (I.Tt b hz) with e|e
  ·exact(hf b hb).2.1 e
  ·exact(hf b hb).2.2.1 e
theorem wZ{P:Value->Shared->Prop}(hc:X.calm=true)(hi:PI X tg iter wi)(O:aW X scope tn cn ix)
  (hg:∀ C fp gI hZ,PG (bj X scope C (tn++cn) fp gI hZ) tg g) (sf:∀ C fp gI hZ,yA (bj X scope C (tn++cn) fp gI hZ) ifs tc) (he:∀ C fp gI hZ,PE (bj X scope C (tn++cn) fp gI hZ) elt te)
  (hs:∀ x,foldedSetIterable iter X.env x=pure x) (I:Inv X pins σ H s) (h:zJ wi g tc te tn.length ix σ H Q)
  (fin:∀ (C D:Addr) (m:Str->Option Value) (H5:Hp) (s6:Shared) (r:Flow),Inv X pins σ H5 s6->s6.heap.Ns C m->H5 C=none->tf X pins H5 C->Q (.ref D) H5->compPost (model X.prog X.w) X.A X.xe use P (.ref D) C (.ok r) s6) :
  wpAny (model X.prog X.w) X.A (comprehension (.ListComp elt [⟨tg,iter,ifs,0⟩] scope pos) scope X.env ll' (newList []) false (eval iter X.env) use) P X.xe s:=by
 have mS:∀ y∈scope.names,y.2=.free->∃ c,X.env.cells.lookup y.1=some c:=fun y hy hk=>I.ok.has y.1 (O.free y hy hk)
 have sub:∀ x c,(rg X.env scope.names []).lookup x=some c->X.env.cells.lookup x=some c:=fun x c e=>rY mS (fun y d h=>by simp at h) e
 refine wpAny_comprehension_free (use:=use) rfl hs (rR mS) O.kind O.names (cf (hi pins s σ H _ I h) fun v s1 h1=>cf h1 fun TL s2 h2=>?_)
 obtain⟨it,fp,Rv,J,H2,e,I2,T,ve,f2,h2⟩:=h2
 subst e
 obtain⟨W,⟨m0,w0⟩,turn⟩:=h2 s2.heap.objs.size (I2.aI.fresh (bP _))
 refine wpAny_newObj_type ?_
 have I3:Inv X pins σ (upd H2 s2.heap.objs.size (.lst [])) { s2 with heap:=s2.heap.push { cls:=.type "list",data:=.seq ([]:List Value).toArray } }:=I2.YY (its:=[]) (t':=s2.toks) .nil (eu _)
 generalize hD:s2.heap.objs.size=D at *
 generalize Zd:({ s2 with heap:=s2.heap.push { cls:=.type "list",data:=.seq ([]:List Value).toArray } }:Shared)=s3 at *
 have MD:∀ b o,s2.heap.get? b=some o->s3.heap.get? b=some o:=fun b o e=>by rw[<- Zd];exact fe _ e
 have sz3:s3.heap.objs.size=D+1:=by rw[<- Zd,<- hD];exact Heap.size_push ..
 have f3:∀ b∈fp,tf X pins (upd H2 D (.lst [])) b:=fun b hb=>by
  obtain⟨f0,fr⟩:=f2 b hb
  obtain⟨o,ho,_⟩:=T.obj _ _ ve b hb
  refine⟨?_,fr⟩
  rw[fh (eM (by rw[<- hD];exact dk ho))]
  exact f0
 have vi:Rv 0 s3.heap:=T.keep _ _ _ ve fun b hb o e=>MD b o e
 have lt3:∀ b∈fp,b<s3.heap.objs.size:=fun b hb=>by
  obtain⟨o,ho,_⟩:=T.obj _ _ vi b hb
  exact dk ho
 refine wpAny_newFunctionEnv O.fx' (by intro y hy;simp at hy) (fun MB fz' fA'=>?_) O.kind
 have EH:∀ b o,s3.heap.get? b=some o->MB.get? b=some o:=fun b o e=>fA'.extBut b o (eM (dk e)) (fe _ e)
 -- the block's context
 have Rx:=z_ (C:=s3.heap.objs.size) O I3 f3 lt3 (bP _)
 have I4:Inv (bj X scope s3.heap.objs.size (tn++cn) fp s3 (upd H2 D (.lst []))) [] (rO tn.length ix σ) (upd H2 D (.lst [])) { s3 with heap:=MB,toks:=s3.toks+([]:List (Str × Value)).length }:=by
  refine⟨Rx,rfl,I3.bare,Un.kept EH,⟨_,fz',fun i x v e1 e2 e3=>?_⟩,fun x c e=>?_,I3.aI.fresh (bP _),fun x c e=>I3.om x c (sub x c e),fun p hp=>absurd hp (by simp[bj]),I3.aI.kept EH,?_⟩
  ·have mw:tn.length<=i:=by
    by_cases q:i<tn.length
    ·unfold rO at e2
     rw[BH (by simpa using q),SY] at e2
     simp[q] at e2
    ·lia
   unfold rO at e2
   rw[ub (by simpa using mw),S0,kf] at e2
   have e1:(tn++cn)[i]? = some x:=e1
   rw[ub mw] at e1
   cases q:ix[i-tn.length]? with
   |none=>rw[q] at e2;cases e2
   |some j =>
    rw[q] at e2
    obtain⟨y,c1,c2,c3,c4,c5⟩:=O.cap _ _ q
    rw[c1] at e1;cases e1
    have e2:σ[j]?.join=some v:=Option.some.inj e2
    have ej:σ[j]? = some (some v):=by
     cases z:σ[j]? with
     |none=>rw[z] at e2;cases e2
     |some o=>rw[z] at e2;exact congrArg some e2
    obtain⟨m,hn,hl⟩:=I3.loc
    obtain⟨u,r,l⟩:=hl j x v c2 ej (c3.elim (fun z=>.inr (.inl z)) fun z=>.inr (.inr z))
    refine⟨u,r,.inr ⟨c5,?_⟩⟩
    rcases l with⟨hk,_⟩|⟨hk,c,Q6,hce⟩
    ·have hk:X.env.scope.names.lookup x=some .local:=hk
     rcases c3 with z|z
     ·rw[z] at hk;cases hk
     ·rw[z] at hk;cases hk
    ·obtain⟨c',D5⟩:=oG (env:=X.env) (cs:=[]) (Or.inl c4)
     have:=sub x c' D5
     rw[Q6] at this;cases this
     obtain⟨o,ho,hd⟩:=hce
     exact⟨c,D5,o,EH _ _ ho,hd⟩
  ·obtain⟨v,o,ho,hd⟩:=I3.cell x c (sub x c e)
   exact⟨v,o,EH _ _ ho,hd⟩
  ·show(rO tn.length ix σ).length=(tn++cn).length
   unfold rO
   simp[O.len]
 -- from the block back to the body
 have back:∀ {τ:St} {H':Hp} {s':Shared},Inv (bj X scope s3.heap.objs.size (tn++cn) fp s3 (upd H2 D (.lst []))) [] τ H' s'->Inv X pins σ H' s':=fun {τ H' s'} I' =>
  Inv.ck' (ch:=fp) I3 I'.os I'.base I'.aI I'.bare fun b hb=>by
   obtain⟨_,f1,_,f3',f4,f5⟩:=f3 b hb
   exact⟨f3',f1,f4,f5⟩
 have Um:∀ {H':Hp},(∀ b∈fp,H' b=none)->∀ b∈fp,tf (bj X scope s3.heap.objs.size (tn++cn) fp s3 (upd H2 D (.lst []))) [] H' b:=fun hn b hb =>
  ⟨hn b hb,(Rx.AB b hb).1,Rx.ya b hb,.inl hb,(Rx.AB b hb).2,fun p hp=>absurd hp (by simp[bj])⟩
 have loop:∀ s4:Shared,Inv (bj X scope s3.heap.objs.size (tn++cn) fp s3 (upd H2 D (.lst []))) [] (rO tn.length ix σ) (upd H2 D (.lst [])) s4->Rv 0 s4.heap ->
   codeAny (model X.prog X.w) X.A (.compLoop (.ListComp elt [⟨tg,iter,ifs,0⟩] scope pos) 0 (.ref it) (.ref D) (compEnvC scope (rg X.env scope.names []) s3.heap.objs.size X.env))
    (compPost (model X.prog X.w) X.A X.xe use P (.ref D) s3.heap.objs.size) s4:=by
  intro s4 I4 tF
  refine iG (fun n s'=>∃ i τ H',Inv (bj X scope s3.heap.objs.size (tn++cn) fp s3 (upd H2 D (.lst []))) [] τ H' s'/\Rv i s'.heap/\(∀ b∈fp,H' b=none)/\W i n τ H') (fun _ _=>False) ?_ (fun _ _ z=>z.elim) m0
   ⟨0,_,_,I4,tF,fun b hb=>(f3 b hb).1,w0⟩
  rintro n s5 ⟨i,τ,H5,I5,D9,Rf,w5⟩
  rcases turn i n τ H5 w5 with⟨stop,qn⟩|⟨go,N1,N2,hN1,Uo,step⟩
  ·refine cf (T.done (bj X scope s3.heap.objs.size (tn++cn) fp s3 (upd H2 D (.lst []))) rfl rfl rfl hc i [] s5 τ H5 (fun _ _=>False) I5 (Um Rf) D9 stop) fun r s6 da=>?_
   obtain⟨hr,I6⟩:=da
   subst hr
   have J6:=back I6
   obtain⟨m,hn,_⟩:=I6.loc
   exact fin _ D m H5 s6 _ J6 hn I6.free (I3.D7 (b:=s3.heap.objs.size) (H':=H5) (bP _) I6.free) qn
  ·refine cf (T.item (bj X scope s3.heap.objs.size (tn++cn) fp s3 (upd H2 D (.lst []))) rfl rfl rfl hc i [] s5 τ H5 (fun _ _=>False) I5 (Um Rf) D9 go) fun r s6 da=>?_
   obtain⟨u,hr,h6⟩:=da
   subst hr
   refine cf h6 fun _ s7 da=>?_
   obtain⟨x,H7,I7,r7,y7,Uq,fr7⟩:=da
   have I7':=I7.pinned (Um fr7) (T.obj _ _ Uq)
   refine cf (hg _ _ _ _ _ s7 τ H7 x u _ I7' r7 (step x H7 y7)) fun _ s8 da=>?_
   obtain⟨GN,H8,I8,q8⟩:=da
   refine cf (sf _ _ _ _ _ s8 GN H8 _ I8 q8) fun ok s9 da=>?_
   obtain⟨H9,I9,q9⟩:=da
   have again:∀ {s':Shared} {H':Hp} {m':Nat},Inv (bj X scope s3.heap.objs.size (tn++cn) fp s3 (upd H2 D (.lst []))) ([]++LN fp s7.heap) GN H' s'->m'<n->W (i+1) m' GN H' ->
     ∃ m,m<n/\∃ i τ H',Inv (bj X scope s3.heap.objs.size (tn++cn) fp s3 (upd H2 D (.lst []))) [] τ H' s'/\Rv i s'.heap/\(∀ b∈fp,H' b=none)/\W i m τ H':=fun {s' H' m'} J hm w'=>by
    refine⟨m',hm,i+1,GN,H',J.Rc,T.keep _ _ _ Uq fun b hb o e=>(J.pin (b,o) (fT _ (fT _ (Rb hb e)))).1,fun b hb=>?_,w'⟩
    obtain⟨o,e,d⟩:=T.obj _ _ Uq b hb
    exact(J.pin (b,o) (fT _ (fT _ (Rb hb e)))).2.1
   cases ok with
   |false =>
    rw[if_neg kA] at q9 ⊢
    obtain⟨m',hm,w'⟩:=Uo _ _ q9
    exact again I9 hm w'
   |true =>
    rw[if_pos rfl] at q9 ⊢
    refine cf (he _ _ _ _ _ s9 GN H9 _ I9 q9) fun x9 s10 b9=>L2.fw b9 fun v10 Ze I10 Ur q10=>?_
    obtain⟨ys,m',hH,hz,hm,w'⟩:=hN1 _ _ _ q10
    refine cf (Ug _ s10 GN Ze (.ref D) [v10] (.ref D) [x9] (fun _ H'=>H'=upd Ze D (.lst (ys++[v10]))) I10 rfl (.cons Ur .nil) ⟨D,ys,v10,rfl,rfl,hH,hz,rfl⟩) fun _ s11 b9=>L2.fw b9 fun _ H11 I11 _ q11=>?_
    subst q11
    exact again I11 hm w'
 exact codeAny_compStart_list (loop _ I4 (T.keep _ _ _ vi fun b hb o e=>EH b o e)) (T.self _ 0 _ _ _ (T.keep _ _ _ vi fun b hb o e=>EH b o e) (loop _ I4 (T.keep _ _ _ vi fun b hb o e=>EH b o e)))
theorem GC(hc:X.calm=true)(hi:PI X tg iter wi)(O:aW X scope tn cn ix)
  (hg:∀ C fp gI hZ,PG (bj X scope C (tn++cn) fp gI hZ) tg g) (sf:∀ C fp gI hZ,yA (bj X scope C (tn++cn) fp gI hZ) ifs tc) (he:∀ C fp gI hZ,PE (bj X scope C (tn++cn) fp gI hZ) elt te)
  (hs:∀ x,foldedSetIterable iter X.env x=pure x:=by intro _;rfl):PE X (.ListComp elt [⟨tg,iter,ifs,0⟩] scope pos) (zJ wi g tc te tn.length ix):=by
 intro pins s σ H Q I h
 rw[eval_ListComp]
 refine wZ (use:=none) (P:=EP X pins σ Q) hc hi O hg sf he hs I h fun C D m H5 s6 r J6 hn hf ⟨_,g1,_,g3,g4,g5⟩ qn=>⟨m,hn,fun h' Ry=>⟨.ref D,H5,?_,rfl,qn⟩⟩
 exact J6.turned (t':=s6.toks) (fun b o hb e=>Ry.extBut b o hb e) hf g1 g3 g4 g5
theorem yc(hN:X.N.Nodup)(AO:X.N[i]? = some x)(hx:Loc X.env.scope x)(hc:X.calm=true)(hi:PI X tg iter wi)(O:aW X scope tn cn ix)
  (hg:∀ C fp gI hZ,PG (bj X scope C (tn++cn) fp gI hZ) tg g) (sf:∀ C fp gI hZ,yA (bj X scope C (tn++cn) fp gI hZ) ifs tc) (he:∀ C fp gI hZ,PE (bj X scope C (tn++cn) fp gI hZ) elt te)
  (Us:swapsWith (.ListComp elt [⟨tg,iter,ifs,0⟩] scope pos) (some (.Name x pos')) Ut.line X.env=pure true)
  (hs:∀ x,foldedSetIterable iter X.env x=pure x:=by intro _;rfl) (hf:X.fn x=true\/X.env.scope.names.lookup x=some .local:=by first|exact .inl rfl|exact .inr rfl|assumption) :
  PS X (.Assign [.Name x pos'] (.ListComp elt [⟨tg,iter,ifs,0⟩] scope pos) Ut) (TK (zJ wi g tc te tn.length ix) (TF i)):=by
 intro pins s σ H D0 I h
 rw[exec_Assign_Name_used _ _ _ _ Us]
 refine ai (wpAny_standAt (ai ?_))
 show wpAny _ _ (do let _ <- comprehension (.ListComp elt [⟨tg,iter,ifs,0⟩] scope pos) scope X.env _ (newList []) false (eval iter X.env) (some (assign (.Name x pos') X.env))) _ _ s
 refine ai (pS (wZ (use:=some (assign (.Name x pos') X.env)) (P:=fun _ s'=>SP X pins D0 .next s') hc hi O hg sf he hs I h fun C D m H5 s6 r J6 hn Cb ⟨_,g1,_,g3,g4,g5⟩ qn=>?_) (fun _ s' hq=>ay (ay hq)) fun _ _ e=>e)
 refine(show wpAny _ _ (assign (.Name x pos') X.env (.ref D)) _ _ s6 from wpAny_assign_Name (Tx J6 hN AO hx (v:=.ref D) rfl (fun s7 I7 da=>?_) hf))
 obtain⟨a,sb,ha⟩:=da
 have hCa:C≠a:=by
  rcases ha with rfl|ha
  ·exact g1
  ·exact Ne.symm (g4 _ a ha)
 refine⟨m,hn.sameBut sb hCa,fun h' Ry=>⟨_,H5,?_,qn⟩⟩
 exact I7.turned (t':=s7.toks) (fun b o hb e=>Ry.extBut b o hb e) Cb g1 g3 g4 g5
end
def GO (a b:String):Bool:=a == b || (a == "bool" && b == "int")
def Uu (b:String):Bool:=["str", "int", "bool", "list", "tuple", "dict"].contains b
theorem lJ (K:PySem.W.Frag) (a b:String) (ha:a∈["NoneType", "bool", "int", "str", "list", "tuple", "dict"]) (hb:b∈["str", "int", "bool", "list", "tuple", "dict"]):PySem.W.kitOne K (.type a) (.type b)=some (GO a b):=by
 simp only[dA,xE,or_false] at ha hb
 rcases ha with rfl|rfl|rfl|rfl|rfl|rfl|rfl<;>rcases hb with rfl|rfl|rfl|rfl|rfl|rfl<;>kernel_rfl
section
variable {X:Cx}
theorem dc.imp(h:dc X f r)(hi:∀ x y H Q,r' x y H Q->r x y H Q):dc X f r' :=
 fun pins s σ H x y v u Q I rx ry q=>h pins s σ H x y v u Q I rx ry (hi x y H Q q)
def J9(K:PySem.W.Frag):R2:=fun x y H Q=>∃ l b xs zs,x=.ref l/\y=.ref b/\dn K H l xs/\dn K H b zs/\xs.length+zs.length<=sizeLine/\∀ p,H p=none->Q (.ref p) (upd H p (.lst (xs++zs)))
theorem GX:dc X (binaryOp .Add) (J9 X.K):=by
 intro pins s σ H x y v u Q I rx ry h
 obtain⟨l,b,xs,zs,rfl,rfl,hH,hB,hz,q⟩:=h
 cases rx
 cases ry
 obtain⟨its,r,pl,z⟩:=I.list hH
 obtain⟨ED,r2,Rz,z2⟩:=I.list hB
 have hl:=r.length
 have Ct:=r2.length
 obtain⟨⟨cls,dd,data,sl⟩,ho,hc,n,hd⟩:=id pl.isList
 obtain⟨⟨ed',Rk,data2,Rl⟩,ti,GA,n2,hd2⟩:=id Rz.isList
 simp only at hc hd GA hd2
 subst hc hd GA hd2
 have ea:its.toArray++ED.toArray=(its++ED).toArray:=by simp
 refine concat_meets ⟨_,ho,rfl⟩ ⟨_,ti,rfl⟩ noFill_list_add seq_list_add PySem.F.slot_list_add PySem.F.entry_list_add (PySem.F.args_list_add_2 _ _) (list_addW l b its.toArray ED.toArray n n2 dd Rk sl Rl (by simp only[hX];lia)) ⟨ho,ti,?_⟩
 rw[ea]
 exact⟨.ref _,_,I.YY (t':=s.toks) (r.append r2) (by rw[md];lia),rfl,q _ I.fresh⟩
def BR(K:PySem.W.Frag):R2:=fun x y H Q=>match x,y with
 |.int i,.int j=>Q (.int (i+j)) H
 |.str i,.str j=>i.length+j.length<=sizeLine/\Q (.str (i++j)) H
 |.ref a,.ref b=>∃ xs zs,dn K H a xs/\dn K H b zs/\xs.length+zs.length<=sizeLine/\∀ p,H p=none->Q (.ref p) (upd H p (.lst (xs++zs)))
 |_,_=>False
theorem G5:dc X (binaryOp .Add) (BR X.K):=by
 refine(dq'.or (dP'.or GX)).imp fun x y H Q h=>?_
 unfold BR at h
 split at h
 ·exact .inl ⟨_,_,rfl,rfl,h⟩
 ·exact .inr (.inl ⟨_,_,rfl,rfl,h.1,h.2⟩)
 ·obtain⟨xs,zs,h1,h2,h3,h4⟩:=h
  exact .inr (.inr ⟨_,_,xs,zs,rfl,rfl,h1,h2,h3,h4⟩)
 ·exact h.elim
def Hl:R2:=fun x y H Q=>match x,y with
 |.int i,.int j=>Q (.int (i-j)) H
 |_,_=>False
theorem Gh:dc X (binaryOp .Sub) Hl:=dr'.imp fun x y H Q h=>by
 unfold Hl at h
 split at h
 ·exact⟨_,_,rfl,rfl,h⟩
 ·exact h.elim
def Gi:R2:=fun x y H Q=>match x,y with
 |.int i,.int j=>EB i j/\Q (.int (i*j)) H
 |_,_=>False
theorem Hi:dc X (binaryOp .Mult) Gi:=ds'.imp fun x y H Q h=>by
 unfold Gi at h
 split at h
 ·exact⟨_,_,rfl,rfl,h.1,h.2⟩
 ·exact h.elim
def G4:R2:=fun x y H Q=>match x,y with
 |.int i,.int j=>(0<j/\j<1073741824)/\Q (.int (i / j)) H
 |_,_=>False
theorem Gn:dc X (binaryOp .FloorDiv) G4:=dt'.imp fun x y H Q h=>by
 unfold G4 at h
 split at h
 ·exact⟨_,_,rfl,rfl,h.1,h.2⟩
 ·exact h.elim
def En:R2:=fun x y H Q=>match x,y with
 |.int i,.int j=>0<j/\Q (.int (i % j)) H
 |_,_=>False
theorem GR:dc X (binaryOp .Mod) En:=du'.imp fun x y H Q h=>by
 unfold En at h
 split at h
 ·exact⟨_,_,rfl,rfl,h.1,h.2⟩
 ·exact h.elim
def Gw:R2:=fun x y H Q=>match x,y with
 |.int i,.int j=>FY i j/\Q (.int (i ^ j.toNat)) H
 |_,_=>False
theorem Hk:dc X (binaryOp .Pow) Gw:=dv'.imp fun x y H Q h=>by
 unfold Gw at h
 split at h
 ·exact⟨_,_,rfl,rfl,h.1,h.2⟩
 ·exact h.elim
def pd(x y:Str):Bool:=decide (x.cps.toList<y.cps.toList)
def Uv:R2:=fun x y H Q=>match x,y with
 |.int i,.int j=>Q (.bl (decide (i<j))) H
 |.str i,.str j=>Q (.bl (pd i j)) H
 |_,_=>False
theorem xP:dc X (compareOp .Lt) Uv:=(dC'.or dF').imp fun x y H Q h=>by
 unfold Uv at h
 split at h
 ·exact .inl ⟨_,_,rfl,rfl,h⟩
 ·exact .inr ⟨_,_,rfl,rfl,h⟩
 ·exact h.elim
theorem yZ:dc X (compareOp .LtE) (fun x y H Q=>∃ i j,x=.str i/\y=.str j/\Q (.bl (!pd j i)) H):=by
 intro pins s σ H x y v u Q I rx ry h
 obtain⟨i,j,rfl,rfl,q⟩:=h
 obtain⟨t,rfl⟩:=rx
 obtain⟨t',rfl⟩:=ry
 exact PySem.P.le_str ⟨.bl _,H,I,rfl,q⟩
def Uw:R2:=fun x y H Q=>match x,y with
 |.int i,.int j=>Q (.bl (decide (i<=j))) H
 |.str i,.str j=>Q (.bl (!pd j i)) H
 |_,_=>False
theorem qp:dc X (compareOp .LtE) Uw:=(dD'.or yZ).imp fun x y H Q h=>by
 unfold Uw at h
 split at h
 ·exact .inl ⟨_,_,rfl,rfl,h⟩
 ·exact .inr ⟨_,_,rfl,rfl,h⟩
 ·exact h.elim
def Ux:R2:=fun x y H Q=>match x,y with
 |.int i,.int j=>Q (.bl (decide (j<i))) H
 |_,_=>False
theorem Az:dc X (compareOp .Gt) Ux:=dE'.imp fun x y H Q h=>by
 unfold Ux at h
 split at h
 ·exact⟨_,_,rfl,rfl,h⟩
 ·exact h.elim
theorem Inv.rd(I:Inv X pins σ H s)(e:Rd H a u):fI X.prog X.w H s.heap a u:=e.elim (I.aI a _) fun⟨o,e⟩=>(show fI X.prog X.w H s.heap a (.mM o u) from I.aI a _ e).2
def RA(K:PySem.W.Frag):List V->Hp->VK->Prop:=fun xs H Q=>match xs with
 |[.str y]=>y.length<=sizeLine/\Q (.int y.length) H
 |[.ref p]=>(∃ ys,dn K H p ys/\Q (.int ys.length) H)\/(∃ ys,iS K H p ys/\Q (.int ys.length) H)\/∃ kvs,Rd H p (.dK kvs)/\Q (.int kvs.length) H
 |_=>False
theorem Bh:ki X (.builtin "len") (RA X.K):=by
 intro pins s σ H xs us Q I r h
 unfold RA at h
 split at h
 ·exact T2 pins s σ H _ us Q I r ⟨_,_,rfl,⟨h.1,rfl⟩,h.2⟩
 ·rcases h with⟨ys,h1,h2⟩|⟨ys,h1,h2⟩|⟨kvs,h1,h2⟩
  ·exact T2 pins s σ H _ us Q I r ⟨_,_,rfl,.inl ⟨ys,h1,rfl⟩,h2⟩
  ·exact T2 pins s σ H _ us Q I r ⟨_,_,rfl,.inr ⟨ys,h1,rfl⟩,h2⟩
  ·obtain⟨u,rfl,ru⟩:=vals1 r
   cases ru
   exact eX' I h1 fun t s' I'=>⟨.int kvs.length,H,I',⟨t,rfl⟩,h2⟩
 ·exact h.elim
def Uy(K:PySem.W.Frag):R2:=fun x y H Q=>match x,y with
 |.ref p,.int i=>(∃ xs v,dn K H p xs/\eK xs i=some v/\Q v H)\/∃ xs v,iS K H p xs/\eK xs i=some v/\Q v H
 |.str z,.int i=>z.length<=sizeLine/\∃ c,eK z.cps.toList i=some c/\Q (.str ⟨#[c]⟩) H
 |_,_=>False
theorem Hw:vn X (Uy X.K):=by
 intro value slice pins s σ H x y v u Q I rx ry h hs
 refine ez' value slice pins s σ H x y v u Q I rx ry ?_ hs
 unfold Uy at h
 split at h
 ·rcases h with⟨xs,w,h1,h2,h3⟩|⟨xs,w,h1,h2,h3⟩
  ·exact .inl ⟨_,xs,_,w,rfl,rfl,h1,h2,h3⟩
  ·exact .inr (.inl ⟨_,xs,_,w,rfl,rfl,h1,h2,h3⟩)
 ·obtain⟨h1,c,h2,h3⟩:=h
  exact .inr (.inr ⟨_,_,c,rfl,rfl,h1,h2,h3⟩)
 ·exact h.elim
def kU(z:Str)(lo hi:Option Int):Str:=⟨((z.cps.toList.drop (HT.bE z.length 0 lo)).take (HT.bE z.length z.length hi-HT.bE z.length 0 lo)).toArray⟩
end
theorem zu(l:List Nat)(lo hi:Option Int)(h:((l.drop (HT.bE l.length 0 lo)).take (HT.bE l.length l.length hi-HT.bE l.length 0 lo)).length=l.length) :
  (l.drop (HT.bE l.length 0 lo)).take (HT.bE l.length l.length hi-HT.bE l.length 0 lo)=l:=by
 generalize HT.bE l.length 0 lo=a at *
 generalize HT.bE l.length l.length hi=b at *
 by_cases hl:l.length=0
 ·have:l=[]:=P4.mp hl
  subst this;simp
 ·rw[mG,zI] at h
  have h1:a=0:=by lia
  subst h1
  rw[List.drop_zero]
  exact P5 (by lia)
theorem Bv(lo hi:Option Int)(n:Nat):Builtin.Str.strSliceIndices lo hi 1 n=(List.range (HT.bE n n hi-HT.bE n 0 lo)).map (HT.bE n 0 lo + ·):=by
 unfold Builtin.Str.strSliceIndices
 have e1:(match lo with|none=>(0:Int)|some i=>max 0 (min (if i<0 then i+n else i) n))=((HT.bE n 0 lo:Nat):Int):=by
  cases lo with
  |none=>simp[HT.bE]
  |some i =>
   simp only[HT.bE]
   by_cases h:i<0
   ·simp only[h,if_true]<;>lia
   ·simp only[h,if_false]<;>lia
 have e2:(match hi with|none=>(n:Int)|some i=>max 0 (min (if i<0 then i+n else i) n))=((HT.bE n n hi:Nat):Int):=by
  cases hi with
  |none=>simp[HT.bE]
  |some i =>
   simp only[HT.bE]
   by_cases h:i<0
   ·simp only[h,if_true]<;>lia
   ·simp only[h,if_false]<;>lia
 rw[<- sliceRange_one,<- e1,<- e2]
 simp only[show(1:Int)>0 by decide,if_true]
 cases lo<;>cases hi<;>rfl
section
variable {X:Cx}
theorem part_of(h:IsPart v o):∃ p:Option (Int × Tok),v=partValue p/\p.map (·.1)=o:=by
 cases h with
 |none=>exact⟨none,rfl,rfl⟩
 |int i t=>exact⟨some (i,t),rfl,rfl⟩
def Uz(K:PySem.W.Frag):V->Option Int->Option Int->Hp->VK->Prop:=fun x lo hi H Q=>match x with
 |.str z=>z.length<=sizeLine/\Q (.str (kU z lo hi)) H
 |.ref a=>∃ xs,dn K H a xs/\∀ p,H p=none->Q (.ref p) (upd H p (.lst (AJ xs lo hi)))
 |_=>False
theorem Jg:GB X (fun x lo hi H Q=>∃ z,x=.str z/\z.length<=sizeLine/\Q (.str (kU z lo hi)) H):=by
 intro pins s σ H x v vl vu lo hi sl Q I rx hs pl pu h
 obtain⟨z,rfl,hz,q⟩:=h
 obtain⟨t,rfl⟩:=rx
 obtain⟨p1,rfl,e1⟩:=part_of pl
 obtain⟨p2,rfl,e2⟩:=part_of pu
 refine⟨"str",_,F.slot_str_getitem.lookup,typeIs_str s z t,wpAny_getItem_str_slice (l:=p1) (u:=p2) (st:=none) hs rfl ?_⟩
 have hl:z.cps.toList.length=z.length:=by simp[Str.length]
 have ep:slicePicked z p1 p2 none=(List.range (HT.bE z.length z.length hi-HT.bE z.length 0 lo)).map (HT.bE z.length 0 lo + ·):=by
  unfold slicePicked
  rw[e1,e2]
  exact Bv lo hi z.length
 have ef:(slicePicked z p1 p2 none).filterMap (z.cps[·]?)=(z.cps.toList.drop (HT.bE z.length 0 lo)).take (HT.bE z.length z.length hi-HT.bE z.length 0 lo):=by
  rw[ep];exact pick_run z.cps _ _
 unfold sliceMade
 split
 ·rename_i hc
  have hw:(slicePicked z p1 p2 none).length=z.length:=by simpa using hc
  have:kU z lo hi=z:=by
   unfold kU
   have e3:((z.cps.toList.drop (HT.bE z.cps.toList.length 0 lo)).take (HT.bE z.cps.toList.length z.cps.toList.length hi-HT.bE z.cps.toList.length 0 lo)).length=z.cps.toList.length:=by
    rw[hl,mG,zI,hl]
    rw[ep,cE,Qy] at hw
    have h0:HT.bE z.length 0 lo<=z.length:=by
     cases lo with
     |none=>simp[HT.bE]
     |some i=>simp only[HT.bE];split<;>lia
    have h1:HT.bE z.length z.length hi<=z.length:=by
     cases hi with
     |none=>simp[HT.bE]
     |some i=>simp only[HT.bE];split<;>lia
    lia
   have:=zu z.cps.toList lo hi e3
   rw[hl] at this
   rw[this]
  rw[this] at q
  exact⟨.str z,H,I,⟨t,rfl⟩,q⟩
 ·rw[ef]
  exact⟨by
   show(kU z lo hi).length<=sizeLine
   unfold kU Str.length
   simp only[hX,mG,zI,hl]
   have:z.cps.toList.length=z.length:=hl
   lia,⟨.str (kU z lo hi),H,I.tok _,⟨_,rfl⟩,q⟩⟩
theorem Jw:GB X (Uz X.K):=by
 intro pins s σ H x v vl vu lo hi sl Q I rx hs pl pu h
 unfold Uz at h
 split at h
 ·exact Jg pins s σ H _ v vl vu lo hi sl Q I rx hs pl pu ⟨_,rfl,h.1,h.2⟩
 ·obtain⟨xs,h1,h2⟩:=h
  exact eD' pins s σ H _ v vl vu lo hi sl Q I rx hs pl pu ⟨_,xs,rfl,h1,h2⟩
 ·exact h.elim
def MG(z:Str):It:=⟨fun i _=>i<z.cps.size,fun i H x H'=>H'=H/\∃ c,z.cps[i]? = some c/\x=.str ⟨#[c]⟩,fun i _=>z.cps.size<=i⟩
theorem wy {P:Program} {K:PySem.W.Frag} (B7:ty = "str_ascii_iterator"\/ty = "str_iterator") :
  Turn P w K tg (MG z) [it] it (fun i h=>h.IsStrIter it ty z t i/\i<=z.cps.size) where
 mem:=by simp
 obj:=fun i h st b hb=>by
  have e:b=it:=by simpa using hb
  subst e
  obtain⟨⟨o,e,c,d⟩,_⟩:=st
  exact⟨o,e,fun v z=>by rw[d] at z;cases z⟩
 keep:=fun i h h' st k=>let ⟨⟨o,e,c,d⟩,l⟩:=st;⟨⟨o,k it (by simp) o e,c,d⟩,l⟩
 item:=by
  intro X hP hw hK hc i pins s σ H E I hf st hg
  subst hP hw hK
  obtain⟨f0,f1,f2,f3,f4,f5⟩:=hf it (by simp)
  obtain⟨st,_⟩:=st
  have hg:i<z.cps.size:=hg
  have W:Walks X.prog X.w X.A it [it] [it] z.cps.size (SignAt z) (fun i h=>h.IsStrIter it ty z t i):=by
   rcases B7 with rfl|rfl
   ·exact Walks.strAscii (I.ok.hd hc) it z t
   ·exact Walks.strWide (I.ok.hd hc) it z t
  refine W.item i s _ _ hg st fun v h' tk hv ah kk=>?_
  obtain⟨c,u,ec,rfl⟩:=hv
  have I1:Inv X pins σ H { s with heap:=h',toks:=tk }:=I.turned (fun b o hb e=>kk b o (by simpa using hb) e) f0 f1 f3 f4 f5
  obtain⟨o,e,c',d⟩:=id ah
  exact⟨_,rfl,Q_ (s:={ s with heap:=h',toks:=tk }) e c' d (by rcases B7 with rfl|rfl<;>decide) ⟨.str ⟨#[c]⟩,H,I1,⟨u,rfl⟩,⟨rfl,c,ec,rfl⟩,⟨ah,hg⟩,fun b hb=>(hf b hb).1⟩⟩
 done:=by
  intro X hP hw hK hc i pins s σ H E I hf st hg
  subst hP hw hK
  obtain⟨f0,f1,f2,f3,f4,f5⟩:=hf it (by simp)
  obtain⟨st,hle⟩:=st
  have hg:z.cps.size<=i:=hg
  have e:i=z.cps.size:=Nat.le_antisymm hle hg
  subst e
  have W:Walks X.prog X.w X.A it [it] [it] z.cps.size (SignAt z) (fun i h=>h.IsStrIter it ty z t i):=by
   rcases B7 with rfl|rfl
   ·exact Walks.strAscii (I.ok.hd hc) it z t
   ·exact Walks.strWide (I.ok.hd hc) it z t
  exact W.done s _ _ st fun h' tk kk=>⟨rfl,I.turned (fun b o hb e=>kk b o (by simpa using hb) e) f0 f1 f3 f4 f5⟩
 self:=fun A i s Q E st h=>by
  rcases B7 with rfl|rfl
  ·exact wpAny_pyIter_striter_ascii st.1 h
  ·exact wpAny_pyIter_striter_wide st.1 h
theorem Hx(hl:PE X l tl):PI X tg l (fun σ H R=>tl σ H fun x H1=>∃ z,x=.str z/\R (MG z) H1):=by
 intro pins s σ H R I h
 refine cf (hl pins s σ H _ I h) fun v s1 b9=>L2.fw b9 fun x H1 I1 r1 q1=>?_
 obtain⟨z,rfl,q⟩:=q1
 obtain⟨t,rfl⟩:=r1
 have fp:∀ b∈[s1.heap.objs.size],tf X pins H1 b:=fun b hb=>by
  have e:b=s1.heap.objs.size:=by simpa using hb
  subst e
  exact I1.D7 (bP _) (I1.aI.fresh (bP _))
 cases ha:z.cps.all (· < 128)
 ·exact wpAny_pyIter_wide ha ⟨s1.heap.objs.size,[s1.heap.objs.size],_,_,H1,rfl,I1.kept (t':=s1.toks) fun b o e=>fe _ e,wy (.inr rfl),⟨⟨_,jv _ rfl,rfl,rfl⟩,eu _⟩,fp,q⟩
 ·exact wpAny_pyIter_ascii ha ⟨s1.heap.objs.size,[s1.heap.objs.size],_,_,H1,rfl,I1.kept (t':=s1.toks) fun b o e=>fe _ e,wy (.inl rfl),⟨⟨_,jv _ rfl,rfl,rfl⟩,eu _⟩,fp,q⟩
end
structure jK(J:It)(its:List V)(cond:Hp->Prop):Prop where
 go:∀ i H,cond H->i<its.length->J.go i H
 lP:∀ i H x H',cond H->i<its.length->J.lP i H x H'->H'=H/\its[i]? = some x
 stop:∀ H,cond H->J.stop its.length H
def RB(z:Str):List V:=z.cps.toList.map fun c=>.str ⟨#[c]⟩
theorem Hc(z:Str):jK (MG z) (RB z) (fun _=>True) where
 go:=fun i H _ h=>by simpa[RB,MG] using h
 lP:=fun i H x H' _ _ h=>by
  obtain⟨rfl,c,e,rfl⟩:=h
  refine⟨rfl,?_⟩
  unfold RB
  rw[kf,og,e]
  rfl
 stop:=fun H _=>by simp[RB,MG]
theorem Ck(K:PySem.W.Frag)(a:Addr)(xs:List V):jK (Ra K a) xs (fun H=>dn K H a xs) where
 go:=fun i H h hi=>⟨xs,xs[i],h,by simp[hi]⟩
 lP:=fun i H x H' h _ y=>⟨y.1,y.2 xs h⟩
 stop:=fun H h=>⟨xs,h,bP _⟩
theorem Hg(K:PySem.W.Frag)(a:Addr)(xs:List V):jK (TN K a) xs (fun H=>iS K H a xs) where
 go:=fun i H h hi=>⟨xs,xs[i],h,by simp[hi]⟩
 lP:=fun i H x H' h _ y=>⟨y.1,y.2 xs h⟩
 stop:=fun H h=>⟨xs,h,bP _⟩
def Ag(lo:Int)(n:Nat):List V:=(List.range n).map fun i=>.int (lo+(i:Nat))
theorem Bm(lo:Int)(n:Nat):jK (D8 lo n) (Ag lo n) (fun _=>True) where
 go:=fun i H _ h=>by simpa[Ag,D8] using h
 lP:=fun i H x H' _ hi h=>by
  have hi:i<n:=by simpa[Ag] using hi
  obtain⟨rfl,rfl⟩:=h
  refine⟨rfl,?_⟩
  simp[Ag,hi]
 stop:=fun H _=>by simp[Ag,D8]
def fM'(J:It)(g:TG)(tb:TS)(D:Ends)(σ:St)(H:Hp):Prop :=
 ∃ W:Nat->Nat->St->Hp->Prop,(∃ m,W 0 m σ H)/\∀ i m σ H,W i m σ H ->
   (J.stop i H/\D.nx σ H)\/(J.go i H/\∃ N:St->Hp->Prop,(∀ aT H',N aT H'->∃ m',m'<m/\W (i+1) m' aT H')/\∀ x H',J.lP i H x H'->g x σ H' fun kM H2=>tb { D with nx:=N,ct:=N,bk:=D.nx } kM H2)
theorem Es(wi:TI)(g:TG)(tb:TS)(D:Ends)(σ:St)(H:Hp):Ym wi g tb D σ H=wi σ H fun J H1=>fM' J g tb D σ H1:=rfl
def LR(J:It)(g:TG)(tc:TT)(te:TE)(τ0:St)(H1:Hp)(D:Addr)(Q:VK):Prop :=
 ∃ W:Nat->Nat->St->Hp->Prop,(∃ m,W 0 m τ0 (upd H1 D (.lst [])))/\∀ i m τ H,W i m τ H ->
  (J.stop i H/\Q (.ref D) H)\/(J.go i H/\∃ (N1:St->V->Hp->Prop) (N2:St->Hp->Prop),
   (∀ mr v H4,N1 mr v H4->∃ ys m',H4 D=some (.lst ys)/\ys.length<sizeLine/\m'<m/\W (i+1) m' mr (upd H4 D (.lst (ys++[v])))) /\
   (∀ mr H3,N2 mr H3->∃ m',m'<m/\W (i+1) m' mr H3) /\
   ∀ x H',J.lP i H x H'->g x τ H' fun mr H2=>tc mr H2 fun b H3=>if b=true then te mr H3 (N1 mr) else N2 mr H3)
theorem BZ(wi:TI)(g:TG)(tc:TT)(te:TE)(tn:Nat)(ix:List Nat)(σ:St)(H:Hp)(Q:VK):zJ wi g tc te tn ix σ H Q=wi σ H fun J H1=>∀ D,H1 D=none->LR J g tc te (rO tn ix σ) H1 D Q:=rfl
mutual
inductive Rep(K:PySem.W.Frag)(H:Hp):PyData->V->Prop
 |none:Rep K H .none .non
 |bool (b:Bool):Rep K H (.bool b) (.bl b)
 |int (i:Int):Rep K H (.int i) (.int i)
 |str (x:Str):Rep K H (.str x) (.str x)
 |list {a:Addr} {vs:List V} {ds:List PyData}:dn K H a vs->aS K H ds vs->Rep K H (.list ds) (.ref a)
 |tuple {a:Addr} {vs:List V} {ds:List PyData}:iS K H a vs->aS K H ds vs->Rep K H (.tuple ds) (.ref a)
inductive aS(K:PySem.W.Frag)(H:Hp):List PyData->List V->Prop
 |nil:aS K H [] []
 |cons {d:PyData} {v:V} {ds:List PyData} {vs:List V}:Rep K H d v->aS K H ds vs->aS K H (d :: ds) (v :: vs)
end
section
variable {X:Cx}{pins:List (Addr × Obj)}{σ:St}{H:Hp}{s:Shared}
mutual
theorem Rep.reads(I:Inv X pins σ H s):∀ {d:PyData} {v:V} {u:Value},Rep X.K H d v->RelV v u->∃ as,Reads s.heap u d as
 |_,_,_,.none,r=>by cases (show _=Value.none from r);exact⟨_,.none⟩
 |_,_,_,.bool b,r=>by cases (show _=Value.bool b from r);exact⟨_,.bool b⟩
 |_,_,_,.int i,r=>by obtain⟨t,e⟩:=r;subst e;exact⟨_,.int i t⟩
 |_,_,_,.str x,r=>by obtain⟨t,e⟩:=r;subst e;exact⟨_,.str x t⟩
 |_,_,_,.list h hs,r=>by
  cases r
  obtain⟨its,rv,pl,_⟩:=I.list h
  obtain⟨o,e,c,n,d⟩:=pl.isList
  obtain⟨as,q⟩:=aS.reads I hs rv
  exact⟨_,.list e c d q⟩
 |_,_,_,.tuple h hs,r=>by
  cases r
  obtain⟨its,rv,⟨o,e,c,n,d⟩,_⟩:=I.tuple h
  obtain⟨as,q⟩:=aS.reads I hs rv
  exact⟨_,.tuple e c d q⟩
theorem aS.reads(I:Inv X pins σ H s):∀ {ds:List PyData} {vs:List V} {us:List Value},aS X.K H ds vs->Vals vs us->∃ as,ReadsAll s.heap us ds as
 |_,_,_,.nil,.nil=>⟨_,.nil⟩
 |_,_,_,.cons h hs,.cons r rs=>by
  obtain⟨as,q⟩:=Rep.reads I h r
  obtain⟨bs,q'⟩:=aS.reads I hs rs
  exact⟨_,.cons q q'⟩
end
def UA(K:PySem.W.Frag):R2:=fun x y H Q=>∃ d e,Rep K H d x/\Rep K H e y/\d.canLay0=true/\e.canLay0=true/\d.depth<=60/\Q (.bl (PyData.eqv d e)) H
def UB(K:PySem.W.Frag):R2:=fun x y H Q=>∃ d e,Rep K H d x/\Rep K H e y/\d.canLay0=true/\e.canLay0=true/\d.depth<=60/\Q (.bl (!PyData.eqv d e)) H
theorem Jo(hu:X.A.units+64<cLine):dc X (compareOp .Eq) (UA X.K):=by
 intro pins s σ H x y v u Q I rx ry h
 obtain⟨d,e,h1,h2,h3,h4,h5,q⟩:=h
 obtain⟨as,r1⟩:=h1.reads I rx
 obtain⟨bs,r2⟩:=h2.reads I ry
 exact PySem.SeqAt.rcAt_reads r1 r2 h3 h4 (by lia) X.prog X.w X.xe _ ⟨.bl _,H,I,rfl,q⟩
theorem HH(hu:X.A.units+64<cLine):dc X (compareOp .NotEq) (UB X.K):=by
 intro pins s σ H x y v u Q I rx ry h
 obtain⟨d,e,h1,h2,h3,h4,h5,q⟩:=h
 obtain⟨as,r1⟩:=h1.reads I rx
 obtain⟨bs,r2⟩:=h2.reads I ry
 exact PySem.SeqAt.rcNeAt_reads r1 r2 h3 h4 (by lia) X.prog X.w X.xe _ ⟨.bl _,H,I,rfl,q⟩
def RC(K:PySem.W.Frag):R2:=fun x y H Q=>match x,y with
 |.int i,.int j=>Q (.bl (decide (i=j))) H
 |.str i,.str j=>Q (.bl (decide (i=j))) H
 |.bl i,.bl j=>Q (.bl (decide (i=j))) H
 |_,_=>UA K x y H Q
theorem Ii(hu:X.A.units+64<cLine):dc X (compareOp .Eq) (RC X.K):=(dA'.or (Jo hu)).imp fun x y H Q h=>by
 unfold RC at h
 split at h
 ·refine .inl ⟨rfl,?_⟩;simpa using h
 ·refine .inl ⟨rfl,?_⟩;simpa using h
 ·refine .inl ⟨rfl,?_⟩;simpa using h
 ·exact .inr h
def RD(K:PySem.W.Frag):R2:=fun x y H Q=>match x,y with
 |.int i,.int j=>Q (.bl (!decide (i=j))) H
 |.str i,.str j=>Q (.bl (!decide (i=j))) H
 |.bl i,.bl j=>Q (.bl (!decide (i=j))) H
 |_,_=>UB K x y H Q
theorem Jj(hu:X.A.units+64<cLine):dc X (compareOp .NotEq) (RD X.K):=(dB'.or (HH hu)).imp fun x y H Q h=>by
 unfold RD at h
 split at h
 ·refine .inl ⟨rfl,?_⟩;simpa using h
 ·refine .inl ⟨rfl,?_⟩;simpa using h
 ·refine .inl ⟨rfl,?_⟩;simpa using h
 ·exact .inr h
def RG(K:PySem.W.Frag):List V->Hp->VK->Prop:=fun xs H Q=>match xs with
 |[.ref a]=>∃ bs:List Bool,dn K H a (bs.map V.bl)/\Q (.bl (bs.all id)) H
 |_=>False
theorem Bf (hc:X.calm=true):ki X (.builtin "all") (RG X.K):=by
 intro pins s σ H xs us Q I r h
 unfold RG at h
 split at h
 ·rename_i a
  obtain⟨bs,e,q⟩:=h
  obtain⟨u,rfl,ru⟩:=Vals.one r
  cases ru
  obtain⟨its,rv,pl,hz⟩:=I.list e
  have hl:s.heap.IsList a its.toArray:=pl.isList
  obtain⟨o,ho,FV,n,AQ⟩:=id hl
  have hlen:=rv.length
  rw[cE] at hlen
  refine call_all_walk (wpAny_pyIter_list hl ?_)
  have ic:a≠s.heap.objs.size:=eM (dk ho)
  have AR:X.A.in1.handled=none:=I.ok.hd hc
  refine⟨s.heap.objs.size,_,_,_,_,_,fun i=>bs.getD i true,rfl,Walks.list AR s.heap.objs.size a ic its.toArray,⟨⟨_,jv _ rfl,rfl,rfl⟩,⟨_,fe _ ho,FV,n,AQ⟩⟩,?_,fun h' tk hk=>?_⟩
  ·intro i v s' Q' E' hv hq
   have hv:its.toArray[i]? = some v:=hv
   have pe:its[i]? = some v:=by simpa using hv
   have hi:i<bs.length:=by
    have:=(lh.mp pe).1
    lia
   obtain⟨w',e1,r1⟩:=rv.get (i:=i) (x:=V.bl bs[i]) (by simp[hi])
   rw[pe] at e1
   cases e1
   cases (show v=Value.bool bs[i] from r1)
   have e2:bs.getD i true=bs[i]:=by simp[List.getD,hi]
   have hq:Q' (bs.getD i true) s':=hq
   rw[e2] at hq
   exact wpAny_truthy_bool hq
  ·have e3:((List.range its.toArray.size).all fun i=>bs.getD i true)=bs.all id:=by
    rw[hX,<- hlen]
    apply sP.mpr
    simp only[vS,nI,id]
    constructor
    ·intro h b hb
     obtain⟨i,hi,rfl⟩:=List.mem_iff_getElem.mp hb
     have:=h i hi
     simpa[List.getD,hi] using this
    ·intro h i hi
     have:=h bs[i] (QB hi)
     simpa[List.getD,hi] using this
   rw[e3]
   refine⟨.bl (bs.all id),H,?_,rfl,q⟩
   exact I.kept (t':=tk) fun b o e=>hk b o (by simp;exact eM (dk e)) (fe _ e)
 ·exact h.elim
end
end L2
namespace L2
open PySem PySem.Spec PyProof.Rows
section
variable {X:Cx}{pins:List (Addr × Obj)}{σ:St}{H:Hp}{s:Shared}{h':Heap}
theorem Inv.Hz{t':Nat}{fp:List Addr}(I:Inv X pins σ H s)(hf:∀ b∈fp,tf X pins H b)(k:∀ b o,b∉fp->s.heap.get? b=some o->h'.get? b=some o):Inv X pins σ H { s with heap:=h',toks:=t' }:=by
 have B3:∀ b u,H b=some u->b∉fp:=fun b u e z=>by rw[(hf b z).1] at e;cases e
 refine I.step (g':=s.gens) (d':=s.drawn) (ch:=fp) (fun b hb=>?_) (fun b o _ _ hc e _=>k b o hc e) (fun b o _ _ hc e _=>⟨o.slots,k b o hc e⟩) (fun _ _ _ _ n=>n)
  (fun b o hc e=>⟨o,k b o hc e⟩) (fun _ _ e=>e) (fun _ _ _ e=>e) (fun b ps e=>⟨#[],by rw[e];simp⟩) (fun m hm=>?_) (fun b u e=>?_) I.bare
 ·obtain⟨f0,f1,f2,f3,f4,f5⟩:=hf b hb
  exact⟨f3,f1,f4,f5⟩
 ·obtain⟨o,es,ep,ho,r⟩:=hm
  exact⟨o,es,ep,k _ o (fun z=>(hf _ z).2.1 rfl) ho,r⟩
 ·refine(I.aI b u e).gi (fun c v hc q=>k c v ?_ q) (fun _ q=>q) fun _ _ q=>q
  rcases hc with z|z
  ·rw[z];exact B3 b u e
  ·exact B3 c _ z
theorem Inv.Zf{t':Nat}{fp:List Addr}{p:Addr}{xs:List V}(I:Inv X pins σ H s)(hf:∀ b∈fp,tf X pins H b)(k:∀ b o,b∉fp->s.heap.get? b=some o->h'.get? b=some o)(hp:s.heap.objs.size<=p)
  (new:fI X.prog X.w (upd H p (.tup xs)) h' p (.tup xs)):Inv X pins σ (upd H p (.tup xs)) { s with heap:=h',toks:=t' }:=by
 have hn:=I.aI.fresh hp
 have B3:∀ b u,H b=some u->b∉fp:=fun b u e z=>by rw[(hf b z).1] at e;cases e
 have lt:∀ b o,s.heap.get? b=some o->b≠p:=fun b o e=>eM (mI (dk e) hp)
 refine I.step (g':=s.gens) (d':=s.drawn) (ch:=fp) (fun b hb=>?_) (fun b o _ _ hc e _=>k b o hc e) (fun b o _ _ hc e _=>⟨o.slots,k b o hc e⟩) (fun b o _ e n=>by rw[fh (lt b o e)];exact n)
  (fun b o hc e=>⟨o,k b o hc e⟩) (fun _ _ e=>by rw[fh (vT e hn)];exact e) (fun _ _ _ e=>by rw[fh (vT e hn)];exact e) (fun b ps e=>⟨#[],by rw[fh (vT e hn),e];simp⟩) (fun m hm=>?_) (fun b u e=>?_) I.bare
 ·obtain⟨f0,f1,f2,f3,f4,f5⟩:=hf b hb
  exact⟨f3,f1,f4,f5⟩
 ·obtain⟨o,es,ep,ho,r⟩:=hm
  exact⟨o,es,ep,k _ o (fun z=>(hf _ z).2.1 rfl) ho,r⟩
 ·by_cases hb:b=p
  ·subst hb;rw[iN] at e;cases e;exact new
  ·rw[fh hb] at e
   refine(I.aI b u e).gi (fun c v hc q=>k c v ?_ q) (fun c q=>by rw[fh (vT q hn)];exact q) fun c xs q=>by rw[fh (vT q hn)];exact q
   rcases hc with z|z
   ·rw[z];exact B3 b u e
   ·exact B3 c _ z
end
def UC(K:PySem.W.Frag)(a:Addr):It :=
 ⟨fun i H=>∃ xs x,dn K H a xs/\xs[i]? = some x,fun i H x H'=>∃ p v,x=.ref p/\H p=none/\H'=upd H p (.tup [.int i,v])/\∀ xs,dn K H a xs->xs[i]? = some v,fun i H=>∃ xs,dn K H a xs/\xs.length<=i⟩
theorem xg:(2:Nat)<=sizeLine:=by rw[sizeLine_eq];decide
theorem Bt{P:Program}{w:World}{K:PySem.W.Frag}{elts:List Expr}{k:Nat}{pos:Pos}(a e it:Addr)(Zg:e≠it):Turn P w K (.Tuple elts k pos) (UC K a) [e,it] e (fun i h=>(∃ old,IsEnum h e it i old)/\h.IsListIter it a i) where
 mem:=by simp
 obj:=fun i h ⟨⟨old,he⟩,st⟩ b hb=>by
  rcases dA.mp hb with rfl|hb
  ·exact⟨_,he,fun v z=>nomatch z⟩
  ·have e:b=it:=by simpa using hb
   subst e
   obtain⟨o,e,c,d⟩:=st
   exact⟨o,e,fun v z=>by rw[d] at z;cases z⟩
 keep:=fun i h h' ⟨⟨old,he⟩,st⟩ k=>⟨⟨old,k e (by simp) _ he⟩,st.at fun o e=>k it (by simp) o e⟩
 item:=by
  intro X hP hw hK hc i pins s σ H E I hf st hg
  subst hP hw hK
  obtain⟨xs,x,hq,hx⟩:=hg
  obtain⟨its,rv,p,hz⟩:=I.list hq
  obtain⟨u,hu,ru⟩:=rv.get hx
  obtain⟨⟨old,he⟩,hit⟩:=st
  refine wpAny_pyNext_enum_item he hit p.isList (x:=u) (by simpa using hu) Zg fun h1 ho fO' hT fN hk=>⟨_,rfl,?_⟩
  refine wpAny_letOwnedTupleGo_enum (s:={ s with heap:=h1,toks:=s.toks+1 }) ho fun h2 ML g0=>?_
  have ke:∀ b o,b∉[e,it]->s.heap.get? b=some o->h2.get? b=some o:=fun b o hb q=>(g0.2 b fun z=>hb (by simp[z])).trans (hk b o (fun z=>hb (by simp[z])) (fun z=>hb (by simp[z])) q)
  have fi:e<s.heap.objs.size:=dk he
  have hT2:h2.get? s.heap.objs.size=some { cls:=.type "tuple",data:=.seq #[.int i s.toks,u] }:=(g0.2 _ (Kx fi)).trans hT
  have I1:Inv X pins σ (upd H s.heap.objs.size (.tup [.int i,x])) { s with heap:=h2,toks:=s.toks+1 } :=
   I.Zf hf ke (bP _) ⟨xg,[.int i s.toks,u],.cons ⟨s.toks,rfl⟩ (.cons ru .nil),_,hT2,rfl,_,rfl⟩
  refine⟨.ref s.heap.objs.size,_,I1,rfl,⟨_,x,rfl,I.fresh,rfl,fun ys hy=>by rw[I.Q9 hy hq];exact hx⟩,⟨⟨u,by simpa using ML⟩,fO'.at fun o q=>(g0.2 it Zg.symm).trans q⟩,fun b hb=>?_⟩
  rw[fh]
  ·exact(hf b hb).1
  ·rcases dA.mp hb with rfl|hb
   ·exact eM fi
   ·have e:b=it:=by simpa using hb
    subst e
    obtain⟨o,q,_⟩:=hit
    exact eM (dk q)
 done:=by
  intro X hP hw hK hc i pins s σ H E I hf st hg
  subst hP hw hK
  obtain⟨xs,hq,hx⟩:=hg
  obtain⟨its,rv,p,hz⟩:=I.list hq
  obtain⟨⟨old,he⟩,hit⟩:=st
  have hl:=rv.length
  exact wpAny_pyNext_enum_end (I.ok.hd hc) he hit p.isList (by simp;lia) fun h' eb=>⟨rfl,I.Hz (t':=s.toks) hf fun b o hb q=>eb b o (fun z=>hb (by simp[z])) q⟩
 self:=fun _ _ _ _ _ ⟨⟨old,he⟩,_⟩ h=>wpAny_pyIter_enum he h
def UD(K:PySem.W.Frag)(a b:Addr):It :=
 ⟨fun i H=>∃ xs ys x y,dn K H a xs/\dn K H b ys/\xs[i]? = some x/\ys[i]? = some y,fun i H x H'=>∃ p u v,x=.ref p/\H p=none/\H'=upd H p (.tup [u,v])/\(∀ xs,dn K H a xs->xs[i]? = some u)/\∀ ys,dn K H b ys->ys[i]? = some v,
  fun i H=>∃ xs ys,dn K H a xs/\dn K H b ys/\(xs.length<=i\/ys.length<=i)⟩
theorem Cv{P:Program}{w:World}{K:PySem.W.Frag}{elts:List Expr}{k:Nat}{pos:Pos}(z TI TO i1 i2 l1 l2:Addr)(D:ZipApart z TI TO i1 i2 l1 l2):Turn P w K (.Tuple elts k pos) (UD K l1 l2) [z,TI,TO,i1,i2] z
  (fun i h=>IsZip h z TI TO .none/\IsPair h TI (.ref i1) (.ref i2)/\(∃ a b,IsPair h TO a b)/\h.IsListIter i1 l1 i/\h.IsListIter i2 l2 i) where
 mem:=by simp
 obj:=fun i h ⟨hz,tI,⟨_,_,yB⟩,⟨o1,e1,c1,d1⟩,⟨o2,e2,c2,d2⟩⟩ b hb=>by
  simp only[dA,xE,or_false] at hb
  rcases hb with rfl|rfl|rfl|rfl|rfl
  ·exact⟨_,hz,fun v z=>nomatch z⟩
  ·exact⟨_,tI,fun v z=>nomatch z⟩
  ·exact⟨_,yB,fun v z=>nomatch z⟩
  ·exact⟨o1,e1,fun v z=>by rw[d1] at z;cases z⟩
  ·exact⟨o2,e2,fun v z=>by rw[d2] at z;cases z⟩
 keep:=fun i h h' ⟨hz,tI,⟨a,b,yB⟩,h1,h2⟩ k=>⟨k z (by simp) _ hz,k TI (by simp) _ tI,⟨a,b,k TO (by simp) _ yB⟩,h1.at fun o e=>k i1 (by simp) o e,h2.at fun o e=>k i2 (by simp) o e⟩
 item:=by
  intro X hP hw hK hc i pins s σ H E I hf st hg
  subst hP hw hK
  obtain⟨xs,ys,x,y,hq,GP,hx,hy⟩:=hg
  obtain⟨its,rv,p,_⟩:=I.list hq
  obtain⟨ED,RH,p2,_⟩:=I.list GP
  obtain⟨u,hu,ru⟩:=rv.get hx
  obtain⟨v,hv,rv'⟩:=RH.get hy
  obtain⟨hz,tI,⟨a,b,yB⟩,h1,h2⟩:=st
  refine wpAny_pyNext_zip_item D hz tI yB h1 h2 p.isList p2.isList (x:=u) (y:=v) (by simpa using hu) (by simpa using hv) fun h3 z3 o3 j1 j2 t3 s3 hk=>⟨_,rfl,?_⟩
  refine wpAny_letOwnedTupleGo_zip (s:={ s with heap:=h3 }) z3 fun h4 z4 GU=>?_
  have ke:∀ b o,b∉[z,TI,TO,i1,i2]->s.heap.get? b=some o->h4.get? b=some o:=fun b o hb q=>(GU.2 b fun z=>hb (by simp[z])).trans (hk b o (fun z=>hb (by simp[z])) (fun z=>hb (by simp[z])) (fun z=>hb (by simp[z])) (fun z=>hb (by simp[z])) q)
  have fi:z<s.heap.objs.size:=dk hz
  have hT4:IsPair h4 s.heap.objs.size u v:=(GU.2 _ (Kx fi)).trans t3
  have I1:Inv X pins σ (upd H s.heap.objs.size (.tup [x,y])) { s with heap:=h4,toks:=s.toks } :=
   I.Zf hf ke (bP _) ⟨xg,[u,v],.cons ru (.cons rv' .nil),_,hT4,rfl,_,rfl⟩
  refine⟨.ref s.heap.objs.size,_,I1,rfl,⟨_,x,y,rfl,I.fresh,rfl,(fun ys hy=>by rw[I.Q9 hy hq];exact hx),fun zs hzs=>by rw[I.Q9 hzs GP];exact hy⟩,
   ⟨z4,GU.extBut _ _ D.TIz (hk _ _ D.TIz D.TITO D.TIi1 D.TIi2 tI),⟨_,_,GU.extBut _ _ D.TOz o3⟩,j1.extBut GU.extBut D.i1z,j2.extBut GU.extBut D.i2z⟩,fun b hb=>?_⟩
  rw[fh]
  ·exact(hf b hb).1
  ·obtain⟨o1,e1,_,_⟩:=h1
   obtain⟨o2,e2,_,_⟩:=h2
   simp only[dA,xE,or_false] at hb
   rcases hb with rfl|rfl|rfl|rfl|rfl
   ·exact eM fi
   ·exact eM (dk tI)
   ·exact eM (dk yB)
   ·exact eM (dk e1)
   ·exact eM (dk e2)
 done:=by
  intro X hP hw hK hc i pins s σ H E I hf st hg
  subst hP hw hK
  obtain⟨xs,ys,hq,GP,hx⟩:=hg
  obtain⟨its,rv,p,_⟩:=I.list hq
  obtain⟨ED,RH,p2,_⟩:=I.list GP
  obtain⟨hz,tI,⟨a,b,yB⟩,h1,h2⟩:=st
  have hl:=rv.length
  have Ct:=RH.length
  refine wpAny_pyNext_zip_end (I.ok.hd hc) D hz tI yB h1 h2 p.isList p2.isList (hx.imp (fun z=>by simp;lia) fun z=>by simp;lia) fun h' hk=>⟨rfl,I.Hz (t':=s.toks) hf fun b o hb q=>?_⟩
  exact hk b o (fun z=>hb (by simp[z])) (fun z=>hb (by simp[z])) (fun z=>hb (by simp[z])) (fun z=>hb (by simp[z])) q
 self:=fun _ _ _ _ _ ⟨hz,_⟩ h=>wpAny_pyIter_zip hz h
theorem Js(n l1 l2:Nat)(h1:l1<n)(h2:l2<n):ZipApart (n+4) (n+2) (n+3) n (n+1) l1 l2:=by
 constructor<;>exact fun h=>by
  have h:(_:Nat)=_:=h
  lia
theorem Jv(h:b∈[n+1,n]):n<=b:=by simp at h;lia
theorem E_(h:b∈[n+4,n+2,n+3,n,n+1]):n<=b:=by simp at h;lia
section
variable {X:Cx}
def Ld(K:PySem.W.Frag)(ta:TA):TI:=fun σ H R=>ta σ H fun vs H1=>∃ a,vs=[.ref a]/\(∃ xs,dn K H1 a xs)/\R (UC K a) H1
theorem Gk (hg:Gl X "enumerate") (hm:X.mg "enumerate" = none) (ha:PA X [a] ta) (hs:starEach [a] X.env=[(false,eval a X.env)]:=by rfl) :
  PI X (.Tuple elts k tp) (.Call (.Name "enumerate" p) [a] [] pos) (Ld X.K ta):=by
 intro pins s σ H R I h
 refine Call_ (wd I hg hm boot_enumerate (PyProof.Rows.callWith_type1 (cf (ha pos pins s σ H _ I h) fun us s1 b9=>L2.fw b9 fun vs H1 I1 r1 q1=>?_) hs rfl))
 obtain⟨l,e,⟨xs,hq⟩,q⟩:=q1
 subst e
 cases r1 with
 |cons r rr =>
  cases rr
  cases r
  obtain⟨its,rv,pl,hz⟩:=I1.list hq
  refine call_enumerate_list pl.isList fun h2 he hit fN hk=>?_
  refine wpAny_pyIter_enum (s:={ s1 with heap:=h2 }) he ?_
  refine⟨s1.heap.objs.size+1,[s1.heap.objs.size+1,s1.heap.objs.size],_,_,H1,rfl,I1.kept (t':=s1.toks) hk,Bt l _ _ (Nat.succ_ne_self _),⟨⟨_,he⟩,hit⟩,fun b hb=>?_,q⟩
  have e:s1.heap.objs.size<=b:=Jv hb
  exact I1.D7 e (I1.aI.fresh e)
def fT'(K:PySem.W.Frag)(ta:TA):TI:=fun σ H R=>ta σ H fun vs H1=>∃ a b,vs=[.ref a,.ref b]/\(∃ xs,dn K H1 a xs)/\(∃ ys,dn K H1 b ys)/\R (UD K a b) H1
theorem JT (hg:Gl X "zip") (hm:X.mg "zip" = none) (ha:PA X [a,b] ta) (hs:starEach [a,b] X.env=[(false,eval a X.env),(false,eval b X.env)]:=by rfl) (g0:starEach [b] X.env=[(false,eval b X.env)]:=by rfl) :
  PI X (.Tuple elts k tp) (.Call (.Name "zip" p) [a,b] [] pos) (fT' X.K ta):=by
 intro pins s σ H R I h
 refine Call_ (wd I hg hm boot_zip (PyProof.Rows.callWith_type1 (cf (ha pos pins s σ H _ I h) fun us s1 b9=>L2.fw b9 fun vs H1 I1 r1 q1=>?_) (by rw[hs,g0]) (by rw[g0];rfl)))
 obtain⟨l1,l2,e,⟨xs,hq⟩,⟨ys,GP⟩,q⟩:=q1
 subst e
 cases r1 with
 |cons r rr =>
  cases rr with
  |cons r' rr =>
   cases rr
   cases r
   cases r'
   obtain⟨its,rv,pl,hz⟩:=I1.list hq
   obtain⟨ED,RH,Rz,_⟩:=I1.list GP
   have nS:l1<s1.heap.objs.size:=by obtain⟨o,e,_⟩:=pl.isList;exact dk e
   have lt2:l2<s1.heap.objs.size:=by obtain⟨o,e,_⟩:=Rz.isList;exact dk e
   refine call_zip_2 pl.isList Rz.isList fun h2 hz tI yB h1 RJ fN hk=>?_
   refine wpAny_pyIter_zip (s:={ s1 with heap:=h2 }) hz ?_
   refine⟨s1.heap.objs.size+4,[s1.heap.objs.size+4,s1.heap.objs.size+2,s1.heap.objs.size+3,s1.heap.objs.size,s1.heap.objs.size+1],_,_,H1,rfl,I1.kept (t':=s1.toks) hk,
    Cv _ _ _ _ _ l1 l2 (Js _ _ _ nS lt2),⟨hz,tI,⟨_,_,yB⟩,h1,RJ⟩,fun b hb=>?_,q⟩
   have e:s1.heap.objs.size<=b:=E_ hb
   exact I1.D7 e (I1.aI.fresh e)
end
def MQ(sc:Scope)(names:List (Str × NameKind)):List (Str × NameKind):=names.map fun y=>if (y.2 == NameKind.free && sc.kind == .function && sc.names.lookup y.1 == some .cell)=true then (y.1,NameKind.cell) else (y.1,y.2)
def MR(o:Option NameKind):Bool:=o == some .cell || o == some .free
def HR(sc scope:Scope)(N cn:List Str)(ix:List Nat):Bool :=
 scope.kind == .function && scope.names.all (fun y=>y.2 != .cell) && scope.names.all (fun y=>y.2 != .free || MR (sc.names.lookup y.1)) && scope.names.all (fun y=>y.2 != .local || scope.names.lookup y.1 == some .local) &&
 ix.length == cn.length && (List.range ix.length).all (fun k=>match ix[k]?,cn[k]? with
  |some j,some y=>N[j]? == some y && MR (sc.names.lookup y) && scope.names.contains (y,NameKind.free) && MR ((MQ sc scope.names).lookup y)
  |_,_=>false) &&
 (MQ sc scope.names).all (fun y=>!(y.2 == .cell || y.2 == .free) || scope.names.contains (y.1,NameKind.free))
theorem uL(h:MR o=true):o=some .cell\/o=some .free:=by
 unfold MR at h
 simpa using h
theorem aW.of{X:Cx}(rh:X.env.scope=sc)(hN:X.N=N)(h:HR sc scope N cn ix=true):aW X scope tn cn ix:=by
 unfold HR at h
 simp only[ly] at h
 obtain⟨⟨⟨⟨⟨⟨h1,h2⟩,h3⟩,h4⟩,h5⟩,h6⟩,h7⟩:=h
 rw[vS] at h2 h3 h4 h6 h7
 have Zh:(relabel scope X.env).names=MQ sc scope.names:=by
  unfold relabel MQ
  rw[<- rh]
  rfl
 refine⟨by simpa using h1,fun y hy=>by simpa using h2 y hy,fun y hy hk=>?_,fun y hy hk=>?_,by simpa using h5,fun k j hk=>?_,fun x hx=>?_⟩
 ·have:=h3 y hy
  rw[hk] at this
  rw[rh]
  exact uL (by simpa using this)
 ·have:=h4 y hy
  rw[hk] at this
  simpa using this
 ·have nV:k<ix.length:=(lh.mp hk).1
  have:=h6 k (nI.mpr nV)
  rw[hk] at this
  cases e:cn[k]? with
  |none=>rw[e] at this;cases this
  |some y =>
   rw[e] at this
   simp only[ly] at this
   obtain⟨⟨⟨a1,a2⟩,a3⟩,a4⟩:=this
   refine⟨y,rfl,by rw[hN];simpa using a1,by rw[rh];exact uL a2,by simpa using a3,by rw[Zh];exact uL a4⟩
 ·rw[Zh] at hx
  have mem:∃ k,(x,k)∈MQ sc scope.names/\(k=.cell\/k=.free):=by
   rcases hx with hx|hx
   ·exact⟨_,PySem.mem_of_lookup hx,.inl rfl⟩
   ·exact⟨_,PySem.mem_of_lookup hx,.inr rfl⟩
  obtain⟨k,hm,hk⟩:=mem
  have:=h7 _ hm
  rcases hk with rfl|rfl<;>simpa using this
structure dr(P:Program)(w:World)(K:PySem.W.Frag)(mg:Str->Option Value)(base:Heap)(k:Nat)(x:Str)(ps:List Str)(sp:Sp):Prop where
 ex:∃ (g:Addr) (fd:FuncData),mg x=some (.ref g)/\PySem.W.keepIn K (.ref g)=true/\Binds K fd ps []/\ft P w K mg base gu k g fd ps sp
section
variable {X:Cx}{k:Nat}{x:Str}{ps:List Str}{sp:Sp}{p pos:Pos}{e:Expr}{es:List Expr}{t:TA}
theorem Ig (C:dr X.prog X.w X.K X.mg X.base k x ps sp) (hr:kC k X.A) (ha:PA X (e :: es) t) (hg:Gl X x:=by rfl) (jI:(x == ("__debug__" : Str))=false:=by decide) (he:starEach (e :: es) X.env=(false,eval e X.env) :: starEach es X.env:=by rfl)
  (ja:(backTo pos (starEach es X.env)).any (·.1)=false:=by rfl):PE X (.Call (.Name x p) (e :: es) [] pos) (LW sp [] E0 t):=by
 obtain⟨g,fd,hm,hk,hb,F⟩:=C.ex
 exact Yw F hr hg hm hk hb .nil fs' ha jI he ja
end
theorem fA.kD{P:Program}{K:PySem.W.Frag}{st:Stmt}{ps:List Str}(F:fA K x qual st f fd)(hm:mg x=some (.ref f))
  (G:ft P w K mg base gu k f fd ps sp)
  (h:∀ (kV doc pm:Value) (an:Option Addr) (cq ct:Value) (us:List Value),us.length=ps.length->bindArgs (PySem.W.fnOf x qual (gE st) (fE st) (bq st) .none kV doc pm an cq ct) ⟨us,[]⟩=pure (ps.zip us)):dr P w K mg base k x ps sp :=
 ⟨f,fd,hm,F.kp,F.binds h,G⟩
def RK(mg:Str->Option Value)(x:Str)(z:Str):Prop:=∃ t,mg x=some (.str z t)
def MS(mg:Str->Option Value)(x:Str)(i:Int):Prop:=∃ t,mg x=some (.int i t)
theorem Kl {X:Cx} (h:RK X.mg x z) (hg:Gl X x:=by rfl) (hd:(x == ("__debug__" : Str))=false:=by decide):PE X (.Name x pos) (tC (.str z)):=by
 obtain⟨t,e⟩:=h
 exact D6 hg e ⟨t,rfl⟩ hd
theorem Kh {X:Cx} (h:MS X.mg x i) (hg:Gl X x:=by rfl) (hd:(x == ("__debug__" : Str))=false:=by decide):PE X (.Name x pos) (tC (.int i)):=by
 obtain⟨t,e⟩:=h
 exact D6 hg e ⟨t,rfl⟩ hd
theorem Bg:bootBuiltins "str" = some (.type "str"):=by decide +kernel
theorem Ai:bootBuiltins "int" = some (.type "int"):=by decide +kernel
theorem vC:bootBuiltins "bool" = some (.type "bool"):=by decide +kernel
theorem jN:bootBuiltins "list" = some (.type "list"):=by decide +kernel
theorem qy:bootBuiltins "tuple" = some (.type "tuple"):=by decide +kernel
theorem gf:bootBuiltins "isinstance" = some (.builtin "isinstance"):=by decide +kernel
theorem pR:bootBuiltins "all" = some (.builtin "all"):=by decide +kernel
theorem cP:bootBuiltins "len" = some (.builtin "len"):=by decide +kernel
theorem jH {X:Cx} {T:String} (hm:X.mg x=none) (hv:bootBuiltins x=some (.type T)) (hg:Gl X x:=by rfl) (hn:x ≠ "__name__" := by decide) (hd:(x == ("__debug__" : Str))=false:=by decide):PE X (.Name x pos) (tC (.ty T)) :=
 cp' hg hm hv rfl hn hd
def yT(i j:Str):Bool:=!(Builtin.Str.occurrences j i 0 j.length 1).isEmpty
theorem Gu(c:Nat)(j:Str):yT ⟨#[c]⟩ j=decide (c∈j.cps.toList):=PySem.StrLaws.found_one j c
def EI(K:PySem.W.Frag)(neg:Bool):R2:=fun x y H Q=>match x,y with
 |.str i,.str j=>Q (.bl (if neg then !yT i j else yT i j)) H
 |_,.ref p=>(∃ o,kS H p x o/\Q (.bl (if neg then !o.isSome else o.isSome)) H)\/L8 K neg x y H Q
 |_,_=>False
theorem Im{X:Cx}(hu:X.A.units+64<cLine):dc X (compareOp .In) (EI X.K false):=by
 intro pins s σ H x y v u Q I rx ry h
 unfold EI at h
 split at h
 ·exact dG' pins s σ H _ _ v u Q I rx ry ⟨_,_,rfl,rfl,h⟩
 ·rcases h with⟨o,g,q⟩|h
  ·cases ry
   exact eU' (by lia) I g rx fun s3 I3=>⟨.bl o.isSome,H,I3,rfl,q⟩
  ·exact eF' pins s σ H _ _ v u Q I rx ry h
 ·exact h.elim
theorem zK{X:Cx}(hu:X.A.units+64<cLine):dc X (compareOp .NotIn) (EI X.K true):=by
 intro pins s σ H x y v u Q I rx ry h
 unfold EI at h
 split at h
 ·exact dH' pins s σ H _ _ v u Q I rx ry ⟨_,_,rfl,rfl,h⟩
 ·rcases h with⟨o,g,q⟩|h
  ·cases ry
   exact eV' (by lia) I g rx fun s3 I3=>⟨.bl (!o.isSome),H,I3,rfl,q⟩
  ·exact eG' pins s σ H _ _ v u Q I rx ry h
 ·exact h.elim
theorem aE.upd(h:aE H H')(hp:H' p=none):aE H (upd H' p o):=fun b u e=>by
 have e':=h b u e
 rw[fh (vT e' hp)]
 exact e'
theorem aE.lst{K:PySem.W.Frag}(e:aE H H')(h:dn K H a xs):dn K H' a xs:=e.seq h
theorem aE.tup{K:PySem.W.Frag}(e:aE H H')(h:iS K H a xs):iS K H' a xs:=by
 rcases h with(h|⟨o,h⟩)|h
 ·exact .inl (.inl (e _ _ h))
 ·exact .inl (.inr ⟨o,e _ _ h⟩)
 ·exact .inr h
mutual
theorem Rep.same{K:PySem.W.Frag}(s:aE H H'):∀ {d:PyData} {v:V},Rep K H d v->Rep K H' d v
 |_,_,.none=>.none
 |_,_,.bool b=>.bool b
 |_,_,.int i=>.int i
 |_,_,.str x=>.str x
 |_,_,.list h hs=>.list (s.lst h) (aS.same s hs)
 |_,_,.tuple h hs=>.tuple (s.tup h) (aS.same s hs)
theorem aS.same{K:PySem.W.Frag}(s:aE H H'):∀ {ds:List PyData} {vs:List V},aS K H ds vs->aS K H' ds vs
 |_,_,.nil=>.nil
 |_,_,.cons h hs=>.cons (Rep.same s h) (aS.same s hs)
end
section
variable {X:Cx}{K:PySem.W.Frag}
theorem hU(hu:X.A.units+64<cLine)(hK:X.K=K:=by rfl):dc X (compareOp .Eq) (RC K):=by subst hK;exact Ii hu
theorem CB(hu:X.A.units+64<cLine)(hK:X.K=K:=by rfl):dc X (compareOp .NotEq) (RD K):=by subst hK;exact Jj hu
theorem i9(hu:X.A.units+64<cLine)(hK:X.K=K:=by rfl):dc X (compareOp .In) (EI K false):=by subst hK;exact Im hu
theorem xN(hu:X.A.units+64<cLine)(hK:X.K=K:=by rfl):dc X (compareOp .NotIn) (EI K true):=by subst hK;exact zK hu
theorem GV (hc:X.calm=true:=by rfl) (hK:X.K=K:=by rfl):ki X (.builtin "all") (RG K):=by subst hK;exact Bf hc
end
theorem Qx{α:Type}{a:α}{p:α->Prop}:(∃ v,a=v/\p v)↔p a:=⟨fun⟨_,e,h⟩=>e ▸ h,fun h=>⟨a,rfl,h⟩⟩
end L2
namespace L2
open PySem PySem.Spec PyProof.Rows
abbrev UE:=Array DictEntry
def si(h:Heap)(d:Addr)(es:UE)(ep:Nat):Prop:=∃ o,h.get? d=some o/\o.ExactDict/\o.data=.dict es ep
theorem si.typ {s:Shared} {d:Addr} {es:UE} {ep:Nat} (x:si s.heap d es ep):s.TypeIs (.ref d) "dict" := let ⟨o,e,c,_⟩:=x;⟨o,e,c.1⟩
section
variable {prog:Program}{w:World}{A:Around}{E:Value->Shared->Prop}{s:Shared}{d it:Addr}{es:UE}{ep i:Nat}
theorem Ce{Q:Value->Shared->Prop}(lo:(d == sysModules)=false)(x:si s.heap d es ep)
  (q:Q (.ref s.heap.objs.size) { s with heap:=s.heap.push { cls:=.type "dict_keyiterator",data:=.fields #[.ref d,.int 0 0,.int es.size 0,.int ep 0] } }):wpAny (model prog w) A (pyIter (.ref d)) Q E s:=by
 obtain⟨o,ho,hc,RL⟩:=id x
 refine wpAny_pyIter_slot x.typ F.slot_dict_iter (wpAny_call_entry F.slot_dict_iter x.typ F.entry_dict_iter ?_ (F.args_dict_iter_1 _))
 unfold Builtin.«dict.__iter__»
 refine ai ?_
 unfold Builtin.Dict.dictSlotNone
 refine ai (wpAny_notOrdered_dict x.typ ?_)
 refine(show wpAny _ _ (pure (Value.ref d)) _ _ s from ay ?_)
 refine(show wpAny _ _ (Builtin.Dict.showsAll d >>= _) _ _ s from ?_)
 unfold Builtin.Dict.showsAll
 rw[if_neg (by rw[lo];decide)]
 refine ai (ay (ai (wpAny_dictEntries ho RL (ai (wpAny_dictEpoch ho RL (ai (wpAny_newObj_type (ay ⟨_,rfl, "dict_keyiterator",_,⟨_,jv _ rfl,rfl⟩,F.slot_dict_keyiterator_next.lookup,?_⟩))))))))
 simpa[rawInt] using q
theorem Dl(hit:s.heap.IsKeyIter it d i es.size ep)(x:si s.heap d es ep)(hx:i<es.size)
  (q:∀ h',h'.IsKeyIter it d (i+1) es.size ep->Heap.SameBut it s.heap h'->Q (some es[i].key) { s with heap:=h' }):wpAny (model prog w) A (pyNext (.ref it)) Q E s:=by
 obtain⟨o,ho,hc,hd⟩:=id hit
 obtain⟨od,AQ,oP,MV⟩:=id x
 have ty:=hit.typeIs
 unfold pyNext
 refine ai (wpAny_attempt (wpAny_callSpecial?_slot (name:=Str.ofString "__next__") ty F.slot_dict_keyiterator_next (wpAny_call_entry F.slot_dict_keyiterator_next ty F.entry_dict_keyiterator_next ?_ (F.args_dict_keyiterator_next_1 _))))
 refine ai (ay (ai (ai ?_)))
 first|refine ai (wpAny_typeNameOfWhole_keyiter ty (ay ?_))|refine ai (wpAny_typeNameOf_keyiter ty (ay ?_))
 refine ai (wpAny_fieldsOf ho hd ?_)
 simp only[show Builtin.Dict_items.ownsTuple "dict_keyiterator" = false by decide,iL,if_false]
 refine(show wpAny _ _ (if (Value.ref d == Value.none)=true then _ else _) _ _ s from ?_)
 rw[if_neg (show ¬ ((Value.ref d == Value.none)=true) by intro h;cases h)]
 refine ai (ay (ai (wpAny_dictEntries AQ MV ?_)))
 rw[if_neg (by intro h;simp at h)]
 refine ai (ay (ai (wpAny_dictEpoch AQ MV ?_)))
 rw[if_neg (by intro h;simp at h)]
 refine ay ?_
 simp only[show ¬ ((i:Int)<0) by lia,if_false,K0,x3 hx]
 refine ai ?_
 first|refine ai (wpAny_typeNameOfWhole_keyiter ty (ay ?_))|refine ai (wpAny_typeNameOf_keyiter ty (ay ?_))
 refine ai (wpAny_isOneOf_keyiter ty ?_)
 refine(show wpAny _ _ (setField (.ref it) 1 (rawInt ((i:Int)+1)) >>= _) _ _ s from ai (wpAny_setField ho hd (by simp) ?_))
 have Zi:(s.heap.update it (Obj.mapFields (·.setIfInBounds 1 (rawInt ((i:Int)+1))))).IsKeyIter it d (i+1) es.size ep :=
  ⟨_,BQ _ ho (Obj.isFreed_of_fields (Obj.data_mapFields hd _)),(Obj.cls_mapFields ..).trans hc,by rw[Obj.data_mapFields hd];simp[rawInt]⟩
 refine ai (wpAny_holding (ai (wpAny_isOneOf_keyiter (s:={ s with heap:=s.heap.update it (Obj.mapFields (·.setIfInBounds 1 (rawInt ((i:Int)+1)))) }) Zi.typeIs ?_)))
 refine(show wpAny _ _ (pure es[i].key) _ _ _ from ay (ay ⟨_,rfl,ay (q _ Zi (Heap.SameBut.update ..))⟩))
theorem B_(hh:A.handled=none)(hit:s.heap.IsKeyIter it d es.size es.size ep)(x:si s.heap d es ep)(q:∀ h',Heap.ExtBut it s.heap h'->Q none { s with heap:=h' }) :
  wpAny (model prog w) A (pyNext (.ref it)) Q E s:=by
 obtain⟨o,ho,hc,hd⟩:=id hit
 obtain⟨od,AQ,oP,MV⟩:=id x
 have ty:=hit.typeIs
 unfold pyNext
 refine ai (wpAny_attempt (wpAny_callSpecial?_slot (name:=Str.ofString "__next__") ty F.slot_dict_keyiterator_next (wpAny_call_entry F.slot_dict_keyiterator_next ty F.entry_dict_keyiterator_next ?_ (F.args_dict_keyiterator_next_1 _))))
 refine ai (ay (ai (ai ?_)))
 first|refine ai (wpAny_typeNameOfWhole_keyiter ty (ay ?_))|refine ai (wpAny_typeNameOf_keyiter ty (ay ?_))
 refine ai (wpAny_fieldsOf ho hd ?_)
 simp only[show Builtin.Dict_items.ownsTuple "dict_keyiterator" = false by decide,iL,if_false]
 refine(show wpAny _ _ (if (Value.ref d == Value.none)=true then _ else _) _ _ s from ?_)
 rw[if_neg (show ¬ ((Value.ref d == Value.none)=true) by intro h;cases h)]
 refine ai (ay (ai (wpAny_dictEntries AQ MV ?_)))
 rw[if_neg (by intro h;simp at h)]
 refine ai (ay (ai (wpAny_dictEpoch AQ MV ?_)))
 rw[if_neg (by intro h;simp at h)]
 refine ay ?_
 simp only[show ¬ ((es.size:Int)<0) by lia,if_false,K0,FR (bP es.size)]
 refine ai ?_
 first|refine ai (wpAny_typeNameOfWhole_keyiter ty (ay ?_))|refine ai (wpAny_typeNameOf_keyiter ty (ay ?_))
 refine(show wpAny _ _ (setField (.ref it) 0 .none >>= _) _ _ s from ai (wpAny_setField ho hd (by simp) ?_))
 refine(show wpAny _ _ (newExc (.type "StopIteration") [] >>= _) _ _ _ from ai ?_)
 simp only[newExc,newTuple]
 refine ai (wpAny_newObj_type ?_ (by size_fits))
 refine ai (m:=firstArgMember _ _) (wpAny_of_eq (a:=Value.none) (by first|rfl|(simp only[firstArgMember];rfl)) (wpAny_newObj_type ?_ (by size_fits)))
 simp only[raiseNew]
 refine ai (wpAny_handled ?_)
 rw[show A.in1.handled=none from hh]
 refine ai (ay (wpAny_throw ?_))
 refine ai (wpAny_isInstance (b:=true) (T := "StopIteration") ⟨_,jv _ rfl,rfl⟩ isSubtype_stop ?_)
 exact ay (q _ (((Heap.SameBut.update ..).extBut.push _).push _))
theorem si.at(x:si h d es ep)(e:∀ o,h.get? d=some o->h'.get? d=some o):si h' d es ep:=let ⟨o,ho,r⟩:=x;⟨o,e o ho,r⟩
theorem si.lt(x:si h d es ep):d<h.objs.size:=let ⟨_,e,_⟩:=x;dk e
theorem yN(hh:A.handled=none)(I:Addr)(ic:d≠I):Walks prog w A I [I,d] [I] es.size (fun i v=>∃ e,es[i]? = some e/\v=e.key) (fun i h=>h.IsKeyIter I d i es.size ep/\si h d es ep) where
 sub:=fun b hb=>by simp at hb;simp[hb]
 frame:=fun _ _ _ st hk=>⟨st.1.at fun o e=>hk I (by simp) o e,st.2.at fun o e=>hk d (by simp) o e⟩
 item:=fun i s Q E hi st hQ=>Dl st.1 st.2 hi fun h' a b=>hQ _ h' s.toks ⟨es[i],by simp[hi],rfl⟩ ⟨a,st.2.at fun o e=>b.extBut d o ic e⟩ fun c o hb e=>b.extBut c o (fun h=>hb (by simp[h])) e
 done:=fun s Q E st hQ=>B_ hh st.1 st.2 fun h' RN=>hQ h' s.toks fun b o hb e=>RN b o (fun h=>hb (by simp[h])) e
 self:=fun _ _ _ _ st hQ=>wpAny_pyIter_keyiter st.1 hQ
theorem Eo (lo:(d == sysModules)=false):PySem.W.KdlSrc prog w "dict" d d es.size (fun i v=>∃ e,es[i]? = some e/\v=e.key) (fun h=>si h d es ep) where
 type:=fun _ x=>x.typ
 there:=fun _ x=>⟨x.lt,x.lt⟩
 keep:=fun _ _ x hk=>x.at fun o e=>hk d (.inl rfl) o e
 notList:=by decide
 notTuple:=by decide
 hint:=fun _ _ _ _ x hq=>PySem.W.kdl_hint_dict x.typ hq
 iter:=fun _ _ hh x=>⟨_,_,(fun _ _ hq=>Ce lo x hq),yN hh _ (eM x.lt),⟨⟨_,jv _ rfl,rfl,rfl⟩,x.at fun o e=>fe _ e⟩⟩
end
theorem Paired.n0{α β:Type}{R:α->β->Prop}{bs:List β}(h:Paired R [] bs):bs=[]:=by cases h;rfl
theorem Paired.c{α β:Type}{R:α->β->Prop}{a:α}{as:List α}{bs:List β}(h:Paired R (a :: as) bs):∃ b cs,bs=b :: cs/\R a b/\Paired R as cs:=by
 cases h with
 |cons r t=>exact⟨_,_,rfl,r,t⟩
def fL(H:Hp)(ys:List V)(ks:List (List Key)):Prop:=Paired (fun(v:V) (k:List Key)=>∃ b,v=.ref b/\H b=some (.tup (k.map kV))) ys ks
section
variable {X:Cx}
def xT:List V->Hp->VK->Prop:=fun xs H Q=>match xs with
 |[.ref p]=>∃ kvs,Rd H p (.dT kvs)/\∀ ys l,fL H ys (kvs.map (·.1))->H l=none->Q (.ref l) (upd H l (.lst ys))
 |_=>False
theorem FQ
  (h:Paired (fun(p:List Key × V) (q:List Key × Addr × Value)=>p.1=q.1/\H q.2.1=some (.tup (p.1.map kV))/\RelV p.2 q.2.2) kvs xs) :
  fL H (xs.map fun q=>.ref q.2.1) (kvs.map (·.1))/\Vals (xs.map fun q=>.ref q.2.1) ((xs.map (entryOfKey (tupleKind (kR prog w)))).map (·.key)):=by
 induction h with
 |nil=>exact⟨.nil,.nil⟩
 |cons r t ih=>exact⟨.cons ⟨_,rfl,r.2.1⟩ ih.1,.cons rfl ih.2⟩
theorem xV (hc:X.calm=true):ki X (.type "list") xT:=by
 intro pins s σ H xs us Q I r h
 unfold xT at h
 split at h
 ·rename_i p
  obtain⟨kvs,e,q⟩:=h
  obtain⟨u,rfl,ru⟩:=Vals.one r
  cases ru
  obtain⟨z,y,ps,rel,o,es,ep,h1,h2,h3,h4,h5⟩:=(show fI X.prog X.w H s.heap p (.dT kvs) from I.rd e)
  obtain⟨ta,va⟩:=FQ (prog:=X.prog) (w:=X.w) rel
  have hlen:es.size=kvs.length:=by
   have:=congrArg List.length h4
   rw[uk,cE] at this
   rw[this];exact rel.length.symm
  refine PySem.W.kdl_call (Eo (es:=es) (ep:=ep) y) (I.ok.hd hc) ⟨o,h1,h2,h3⟩ (by lia) fun h' tk acc c kp eo MX=>?_
  have hv:acc.toList=(ps.map (entryOfKey (tupleKind (kR X.prog X.w)))).map (·.key):=by
   apply DT
   intro i
   by_cases hi:i<es.size
   ·have oo:i<acc.size:=by rw[MX.1];exact hi
    obtain⟨en,e1,e2⟩:=MX.2 i acc[i] (by simp[oo])
    rw[<- h4,kf,og,og,e1]
    simp[oo,e2]
   ·rw[<- h4,kf,og,og,FR (by rw[MX.1];lia),FR (by lia)]
    rfl
  refine⟨.ref s.heap.objs.size,_,I.laid (t':=tk) kp (bP _) (show fI X.prog X.w _ h' _ (.lst (ps.map fun q=>.ref q.2.1)) from⟨?_,acc.toList,c,?_,?_⟩),rfl,q _ _ ta (I.aI.fresh (bP _))⟩
  ·rw[cE,<- rel.length];exact z
  ·rw[hv];exact va
  ·rw[Array.toArray_toList];exact eo
 ·exact h.elim
end
end L2
namespace AU
open PySem PyProof.Rows
def R(r:Value->Int)(xs:Array Keyed)(i:Nat):Int:=match xs[i]? with
 |some p=>r p.1
 |none=>0
theorem dY(h:xs[i]? = ys[j]?):R r xs i=R r ys j:=by unfold R;rw[h]
def nX(prog:Program)(w:World)(A:Around)(s:Shared)(κ:SortKind)(r:Value->Int)(P:Value->Prop):Prop :=
 ∀ x y,P x->P y->∀ (Q:Bool->Shared->Prop) (E:Value->Shared->Prop),Q (decide (r x<r y)) s->wpAny (model prog w) A (keyLt' κ x y) Q E s
def AllP(P:Value->Prop)(xs:Array Keyed):Prop:=∀ p∈xs.toList,P p.1
theorem AllP.perm{P:Value->Prop}(h:AllP P xs)(hp:ys.Perm xs):AllP P ys:=fun p hm=>h p ((Tn.mp hp).mem_iff.mp hm)
theorem AllP.at{P:Value->Prop}{xs:Array Keyed}(h:AllP P xs){i:Nat}{p:Keyed}(e:xs[i]? = some p):P p.1:=h p (by
 obtain⟨hi,rfl⟩:=FP.mp e
 simp)
structure lS(lo hi:Nat)(st ah:SortSt):Prop where
 kind:kindOf ah=kindOf st
 failed:failedOf ah=failedOf st
 pend:pendingOf ah=pendingOf st
 perm:(arrOf ah).Perm (arrOf st)
 out:∀ k,k<lo\/hi<=k->(arrOf ah)[k]? = (arrOf st)[k]?
theorem lS.refl(lo hi:Nat)(st:SortSt):lS lo hi st st:=⟨rfl,rfl,rfl,Array.Perm.refl _,fun _ _=>rfl⟩
theorem lS.trans{lo hi:Nat}(h:lS lo hi a b)(g:lS lo hi b c):lS lo hi a c :=
 ⟨g.kind.trans h.kind,g.failed.trans h.failed,g.pend.trans h.pend,g.perm.trans h.perm,fun k hk=>(g.out k hk).trans (h.out k hk)⟩
theorem lS.mono{lo hi EJ mw:Nat}(h:lS lo hi a b)(h1:EJ<=lo)(h2:hi<=mw):lS EJ mw a b :=
 ⟨h.kind,h.failed,h.pend,h.perm,fun k hk=>h.out k (by lia)⟩
theorem lS.size{lo hi:Nat}(h:lS lo hi a b):(arrOf b).size=(arrOf a).size:=h.perm.size_eq
def Up(r:Value->Int)(xs:Array Keyed)(lo hi:Nat):Prop:=∀ i j,lo<=i->i<=j->j<hi->R r xs i<=R r xs j
def Down(r:Value->Int)(xs:Array Keyed)(lo hi:Nat):Prop:=∀ i j,lo<=i->i<=j->j<hi->R r xs j<=R r xs i
theorem wK(hs:src<xs.size)(hd:d<=src)(k:Nat) :
  R r (bubble xs src d) k=if k=src-d then R r xs src else if src-d<k/\k<=src then R r xs (k-1) else R r xs k:=by
 have e:=getElem?_bubble hs d hd k
 by_cases h1:k=src-d
 ·rw[if_pos h1] at e ⊢;exact dY e
 ·rw[if_neg h1] at e ⊢
  by_cases h2:src-d<k/\k<=src
  ·rw[if_pos h2] at e ⊢;exact dY e
  ·rw[if_neg h2] at e ⊢;exact dY e
theorem qW(hj:j<=xs.size)(k:Nat) :
  R r (mirror xs i j ((j-i) / 2)) k=if i<=k/\k<j then R r xs (i+j-1-k) else R r xs k:=by
 have e:=getElem?_mirror_all (i:=i) hj k
 by_cases h1:i<=k/\k<j
 ·rw[if_pos h1] at e ⊢;exact dY e
 ·rw[if_neg h1] at e ⊢;exact dY e
theorem cj(hj:j<=xs.size)(heq:∀ k,i<=k->k<j->R r xs k=R r xs (j-1))(k:Nat) :
  R r (mirror xs i j ((j-i) / 2)) k=R r xs k:=by
 rw[qW hj]
 split
 ·rw[heq _ (by lia) (by lia),heq k (by lia) (by lia)]
 ·rfl
section
variable {prog:Program}{w:World}{A:Around}{E:Value->Shared->Prop}{s:Shared}{κ:SortKind}{r:Value->Int}{P:Value->Prop}
theorem sX{st:SortSt}(C:nX prog w A s κ r P)(hk:kindOf st=κ)(hx:P x.1)(hy:P y.1)(h:Q (some (decide (r x.1<r y.1))) st) :
  wpS (model prog w) A E s (lt' x y) Q st:=by
 rw[lt'_eq]
 refine wpS_bind (wpS_get ?_)
 rw[hk]
 refine wpS_bind (wpS_lift (wpAny_attempt (C x.1 y.1 hx hy _ _ ⟨rfl,?_⟩)))
 exact wpS_pure h
theorem aM{st:SortSt}(hi:i<xs.size)(h:∀ p,xs[i]? = some p->Q p st):wpS (model prog w) A E s (elem' xs i) Q st:=by
 rw[elem'_eq,getElem?_pos xs i hi]
 exact wpS_pure (h _ (getElem?_pos xs i hi))
theorem nM{st:SortSt}{i j:Nat}{Q:Option Bool->SortSt->Prop}(C:nX prog w A s κ r P)(hk:kindOf st=κ)(hP:AllP P (arrOf st))(hi:i<(arrOf st).size)(hj:j<(arrOf st).size)
  (h:Q (some (decide (R r (arrOf st) i<R r (arrOf st) j))) st):wpS (model prog w) A E s (ltAt' i j) Q st:=by
 rw[ltAt'_eq]
 refine wpS_bind (wpS_get ?_)
 show wpS _ _ _ _ (do let x <- elem' (arrOf st) i;let y <- elem' (arrOf st) j;lt' x y) Q st
 refine wpS_bind (aM hi fun p ep=>wpS_bind (aM hj fun q eq=>sX C hk (hP.at ep) (hP.at eq) ?_))
 have e1:R r (arrOf st) i=r p.1:=by unfold R;rw[ep]
 have e2:R r (arrOf st) j=r q.1:=by unfold R;rw[eq]
 rw[<- e1,<- e2]
 exact h
theorem eF{st:SortSt}(h:Q () (setArr st (mirror (arrOf st) i j ((j-i) / 2)))) :
  wpS (model prog w) A E s (reverseSlice' i j) Q st:=by
 rw[reverseSlice'_eq];exact wpS_modify h
theorem iy{st:SortSt}(hj:j<=(arrOf st).size):lS i j st (setArr st (mirror (arrOf st) i j ((j-i) / 2))) :=
 ⟨rfl,rfl,rfl,mirror_perm _ _ _ _,fun k hk=>by
  have e:=getElem?_mirror_all (i:=i) hj k
  rw[if_neg (by lia)] at e
  exact e⟩
theorem ym{st:SortSt}{lo src d:Nat}(hs:src<(arrOf st).size)(hd:lo+d<=src):lS lo (src+1) st (setArr st (bubble (arrOf st) src d)) :=
 ⟨rfl,rfl,rfl,bubble_perm _ _ _,fun k hk=>by
  have e:=getElem?_bubble hs d (by walk_at "s4") k
  rw[if_neg (by lia),if_neg (by lia)] at e
  exact e⟩
theorem wpS_binarySort{st:SortSt}{lo n ok:Nat}(C:nX prog w A s κ r P)(hk:kindOf st=κ)(hP:AllP P (arrOf st))(hn:lo+n<=(arrOf st).size)(aI:ok<=n)(hs:Up r (arrOf st) lo (lo+ok))
  (h:∀ ah,lS lo (lo+n) st ah->Up r (arrOf ah) lo (lo+n)->Q true ah):wpS (model prog w) A E s (binarySort' lo n ok) Q st:=by
 rw[binarySort'_eq]
 refine wpS_bind (wpS_mono (wpS_forRange (I:=fun k c ah=>c=(none,())/\lS lo (lo+n) st ah/\Up r (arrOf ah) lo (lo+min k n))
  (Q:=fun c ah=>c=(none,())/\lS lo (lo+n) st ah/\Up r (arrOf ah) lo (lo+n)) ?step ?fin ?init) ?post)
 case post =>
  rintro c ah ⟨rfl,iX,fP⟩
  exact wpS_pure (h ah iX fP)
 case init =>
  refine⟨rfl,.refl _ _ _,fun i j hl kr hj=>?_⟩
  by_cases h1:ok=0
  ·have:i=j:=by lia
   subst this;exact rX _
  ·exact hs i j hl kr (by lia)
 case fin =>
  rintro c ah ⟨hc,iX,fP⟩
  refine⟨hc,iX,?_⟩
  rwa[show min (max (max ok 1) n) n=n by lia] at fP
 case step =>
  rintro k c ah hak hkn ⟨rfl,iX,fP⟩
  rw[show min k n=k by lia] at fP
  have fN:=iX.size
  have nV:kindOf ah=κ:=iX.kind.trans hk
  have qa:=hP.perm iX.perm
  refine wpS_bind (wpS_mono (wpS_forRange (I:=fun x c wt=>wt=ah/\∃ l r',c=(none,l,r')/\l<=r'/\r'<=k/\r'-l<=k-x /\
    (∀ i,lo<=i->i<lo+l->R r (arrOf ah) i<=R r (arrOf ah) (lo+k))/\(∀ i,lo+r'<=i->i<lo+k->R r (arrOf ah) (lo+k)<R r (arrOf ah) i))
   (Q:=fun c wt=>wt=ah/\∃ l r',c=(none,l,r')/\l<=k /\
    (∀ i,lo<=i->i<lo+l->R r (arrOf ah) i<=R r (arrOf ah) (lo+k))/\(∀ i,lo+l<=i->i<lo+k->R r (arrOf ah) (lo+k)<R r (arrOf ah) i)) ?fV' ?fW' ?fX') ?fY')
  case fX'=>exact⟨rfl,0,k,rfl,by lia,by lia,by lia,fun i _ hi=>by lia,fun i h1 h2=>by lia⟩
  case fW' =>
   rintro c wt ⟨rfl,l,r',rfl,hlr,UG,hm,B9,y1⟩
   have:l=r':=by lia
   subst this
   exact⟨rfl,l,l,rfl,UG,B9,y1⟩
  case fV' =>
   rintro x c wt _ hxk ⟨rfl,l,r',rfl,hlr,UG,hm,B9,y1⟩
   dsimp only
   by_cases qc:l >= r'
   ·rw[if_pos qc]
    have:l=r':=by lia
    subst this
    exact wpS_pure ⟨rfl,l,l,rfl,UG,B9,y1⟩
   ·rw[if_neg qc]
    refine wpS_bind (nM C nV qa (by lia) (by lia) ?_)
    by_cases tJ:R r (arrOf wt) (lo+k)<R r (arrOf wt) (lo+(l+r') / 2)
    ·simp only[tJ,decide_true,if_true]
     refine wpS_pure ⟨rfl,l,(l+r') / 2,rfl,by lia,by lia,by lia,B9,fun i h1 h2=>?_⟩
     exact Int.lt_of_lt_of_le tJ (fP _ _ (by lia) h1 h2)
    ·simp only[tJ,decide_false,iL,if_false]
     refine wpS_pure ⟨rfl,(l+r') / 2+1,r',rfl,by lia,by lia,by lia,fun i h0 h1=>?_,y1⟩
     exact uS (fP i (lo+(l+r') / 2) h0 (by lia) (by lia)) (Int.not_lt.mp tJ)
  case fY' =>
   rintro c wt ⟨rfl,l,r',rfl,hlk,B9,y1⟩
   show wpS _ _ _ _ (do moveDown' (lo+k) (lo+l);pure (ForInStep.yield (none,()))) _ _
   rw[moveDown'_eq]
   have UH:lo+k<(arrOf wt).size:=by lia
   refine wpS_bind (wpS_modify (wpS_pure ⟨rfl,iX.trans ((ym (lo:=lo) UH (by lia)).mono (bP _) (by lia)),?_⟩))
   rw[show min (k+1) n=k+1 by lia]
   intro i j hl kr hj
   show R r (bubble (arrOf wt) (lo+k) (lo+k-(lo+l))) i<=R r (bubble (arrOf wt) (lo+k) (lo+k-(lo+l))) j
   rw[wK UH (by lia),wK UH (by lia),show lo+k-(lo+k-(lo+l))=lo+l by lia]
   repeat' split
   all_goals first
    | (exfalso;lia)
    |exact rX _
    |exact B9 _ (by lia) (by lia)
    |exact An (y1 _ (by lia) (by lia))
    |exact fP _ _ (by lia) (by lia) (by lia)
end
def ascL(lo a nrem:Nat):StateT SortSt Sem AscSt :=
 forIn [a:nrem] ((none,a):AscSt) fun _ __s=>do
  let __x ← ltAt' (lo + __s.snd) (lo + __s.snd - 1)
  match __x with
  |some smaller=>if smaller=true then pure (ForInStep.done (none,__s.snd)) else pure (ForInStep.yield (none,__s.snd+1))
  |_=>pure (ForInStep.done (some none,__s.snd))
def uC(lo n nrem:Nat):StateT SortSt Sem (Option Nat):=do
 reverseSlice' lo (lo+n)
 let __s ← ascL lo n nrem
 match __s.fst with
 |some r=>pure r
 |none=>pure (some __s.snd)
def Cd(lo n nrem:Nat):StateT SortSt Sem DescSt :=
 forIn [n:nrem] ((none,n,0):DescSt) fun _ __s=>do
  let __x ← ltAt' (lo + __s.snd.fst) (lo + __s.snd.fst - 1)
  match __x with
  |some smaller =>
   if smaller=true then
    if __s.snd.snd>0 then do
     reverseSlice' (lo+__s.snd.fst-(__s.snd.snd+1)) (lo+__s.snd.fst)
     pure (ForInStep.yield (none,__s.snd.fst+1,0))
    else pure (ForInStep.yield (none,__s.snd.fst+1,0))
   else do
    let __x ← ltAt' (lo+__s.snd.fst - 1) (lo+__s.snd.fst)
    match __x with
    |some larger =>
     if larger=true then pure (ForInStep.done (none,__s.snd.fst,__s.snd.snd))
     else pure (ForInStep.yield (none,__s.snd.fst+1,__s.snd.snd+1))
    |_=>pure (ForInStep.done (some none,__s.snd.fst,__s.snd.snd))
  |_=>pure (ForInStep.done (some none,__s.snd.fst,__s.snd.snd))
def gQ(lo n nrem:Nat):StateT SortSt Sem (Option Nat):=do
 liftM (rule "list.sort.descending-run")
 let __s ← Cd lo (n+1) nrem
 match __s.fst with
 |some r=>pure r
 |none =>
  if __s.snd.snd>0 then do
   reverseSlice' (lo+__s.snd.fst-(__s.snd.snd+1)) (lo+__s.snd.fst)
   uC lo __s.snd.fst nrem
  else uC lo __s.snd.fst nrem
theorem sJ(lo nrem:Nat):countRun' lo nrem=(do
  let __s ← ascL lo 1 nrem
  match __s.fst with
  |some r=>pure r
  |none =>
   if (__s.snd == nrem)=true then pure (some __s.snd)
   else if __s.snd>1 then do
    let __x ← ltAt' lo (lo+__s.snd - 1)
    match __x with
    |some Zj=>if Zj=true then pure (some __s.snd) else do
      reverseSlice' lo (lo+__s.snd)
      gQ lo __s.snd nrem
    |_=>pure none
   else gQ lo __s.snd nrem):=by
 rw[countRun'_eq]
 dsimp only
 unfold gQ uC Cd ascL
 congr 1
 funext __s
 obtain⟨r,n⟩:=__s
 cases r with
 |some r=>rfl
 |none =>
  dsimp only
  split
  ·rfl
  ·split
   ·congr 1
    funext x
    cases x with
    |none=>rfl
    |some Zj =>
     dsimp only
     split
     ·rfl
     ·congr 1
      funext _r
      (congr 1;funext _u;congr 1;congr 1;funext s2;obtain⟨r2,n2,q2⟩:=s2;cases r2 with
       |some r2=>rfl
       |none=>(dsimp only;split;(congr 1;funext _v;(congr 1;funext _w;congr 1;(funext s3;obtain⟨r3,n3⟩:=s3;cases r3<;>rfl)));(congr 1;funext _w;congr 1;(funext s3;obtain⟨r3,n3⟩:=s3;cases r3<;>rfl))))
   ·(congr 1;funext _u;congr 1;congr 1;funext s2;obtain⟨r2,n2,q2⟩:=s2;cases r2 with
     |some r2=>rfl
     |none=>(dsimp only;split;(congr 1;funext _v;(congr 1;funext _w;congr 1;(funext s3;obtain⟨r3,n3⟩:=s3;cases r3<;>rfl)));(congr 1;funext _w;congr 1;(funext s3;obtain⟨r3,n3⟩:=s3;cases r3<;>rfl))))
section
variable {prog:Program}{w:World}{A:Around}{E:Value->Shared->Prop}{s:Shared}{κ:SortKind}{r:Value->Int}{P:Value->Prop}
theorem wL{st:SortSt}{lo a nrem:Nat}(C:nX prog w A s κ r P)(hk:kindOf st=κ)(hP:AllP P (arrOf st))(hn:lo+nrem<=(arrOf st).size)(ha:1<=a)(han:a<=nrem)
  (hs:Up r (arrOf st) lo (lo+a))
  (h:∀ n,a<=n->n<=nrem->Up r (arrOf st) lo (lo+n)->(n=nrem\/R r (arrOf st) (lo+n)<R r (arrOf st) (lo+n-1))->Q (none,n) st) :
  wpS (model prog w) A E s (ascL lo a nrem) Q st:=by
 unfold ascL
 refine wpS_forRange (I:=fun x c ah=>ah=st/\c=(none,x)/\Up r (arrOf st) lo (lo+x)) ?step ?fin ⟨rfl,rfl,hs⟩
 case fin =>
  rintro c ah ⟨rfl,rfl,fP⟩
  rw[show max a nrem=nrem by lia] at fP ⊢
  exact h nrem han (bP _) fP (.inl rfl)
 case step =>
  rintro x c ah UI hxn ⟨rfl,rfl,fP⟩
  dsimp only
  refine wpS_bind (nM C hk hP (by lia) (by lia) ?_)
  by_cases tJ:R r (arrOf ah) (lo+x)<R r (arrOf ah) (lo+x-1)
  ·simp only[tJ,decide_true,if_true]
   exact wpS_pure (h x UI (by lia) fP (.inr tJ))
  ·simp only[tJ,decide_false,iL,if_false]
   refine wpS_pure ⟨rfl,rfl,fun i j hl kr hj=>?_⟩
   by_cases MY:j<lo+x
   ·exact fP i j hl kr MY
   ·have vt:j=lo+x:=by lia
    subst vt
    by_cases mw:i=lo+x
    ·subst mw;exact rX _
    ·exact uS (fP i (lo+x-1) hl (by lia) (by lia)) (Int.not_lt.mp tJ)
theorem pL{st:SortSt}{lo n nrem:Nat}(C:nX prog w A s κ r P)(hk:kindOf st=κ)(hP:AllP P (arrOf st))(hn:lo+nrem<=(arrOf st).size)(h1:1<=n)(AV:n<=nrem)
  (hs:Down r (arrOf st) lo (lo+n)) (h:∀ m ah,lS lo (lo+nrem) st ah->1<=m->m<=nrem->Up r (arrOf ah) lo (lo+m)->Q (some m) ah) :
  wpS (model prog w) A E s (uC lo n nrem) Q st:=by
 unfold uC
 have fN:lo+n<=(arrOf st).size:=by lia
 refine wpS_bind (eF ?_)
 have iX:=iy (i:=lo) fN
 refine wpS_bind (wL C (iX.kind.trans hk) (hP.perm iX.perm) (by rw[iX.size];exact hn) h1 AV ?_ fun m wx oq UJ _=>wpS_pure (h m _ (iX.mono (bP _) (by lia)) (by lia) oq UJ))
 intro i j hl kr hj
 show R r (mirror (arrOf st) lo (lo+n) ((lo+n-lo) / 2)) i<=R r (mirror (arrOf st) lo (lo+n) ((lo+n-lo) / 2)) j
 rw[qW fN,qW fN,if_pos (by lia),if_pos (by lia)]
 exact hs _ _ (by lia) (by lia) (by lia)
theorem Ac{st:SortSt}{lo n nrem:Nat}(C:nX prog w A s κ r P)(hk:kindOf st=κ)(hP:AllP P (arrOf st))(hn:lo+nrem<=(arrOf st).size)(h1:1<=n)(AV:n<=nrem)
  (hs:Down r (arrOf st) lo (lo+n))
  (h:∀ m qf ah,lS lo (lo+nrem) st ah->n<=m->m<=nrem->Down r (arrOf ah) lo (lo+m)->qf+1<=m->(∀ i,lo+m-(qf+1)<=i->i<lo+m->R r (arrOf ah) i=R r (arrOf ah) (lo+m-1))->Q (none,m,qf) ah) :
  wpS (model prog w) A E s (Cd lo n nrem) Q st:=by
 unfold Cd
 refine wpS_forRange (I:=fun x c ah=>∃ qf,c=(none,x,qf)/\lS lo (lo+nrem) st ah/\Down r (arrOf ah) lo (lo+x)/\qf+1<=x /\
   (∀ i,lo+x-(qf+1)<=i->i<lo+x->R r (arrOf ah) i=R r (arrOf ah) (lo+x-1))) ?step ?fin ⟨0,rfl,.refl _ _ _,hs,by lia,fun i h1 h2=>by congr 1;lia⟩
 case fin =>
  rintro c ah ⟨qf,rfl,iX,fP,hq,he⟩
  rw[show max n nrem=nrem by lia] at fP hq he ⊢
  exact h nrem qf ah iX AV (bP _) fP hq he
 case step =>
  rintro x c ah UI hxn ⟨qf,rfl,iX,fP,hq,he⟩
  dsimp only
  have hz:=iX.size
  have fN:lo+x<=(arrOf ah).size:=by lia
  have nV:=iX.kind.trans hk
  have qa:=hP.perm iX.perm
  refine wpS_bind (nM C nV qa (by lia) (by lia) ?_)
  by_cases tJ:R r (arrOf ah) (lo+x)<R r (arrOf ah) (lo+x-1)
  ·simp only[tJ,decide_true,if_true]
   have Zk:∀ xs:Array Keyed,(∀ k,R r xs k=R r (arrOf ah) k)->Down r xs lo (lo+(x+1)):=by
    intro xs Zm i j hl kr hj
    rw[Zm,Zm]
    by_cases MY:j<lo+x
    ·exact fP i j hl kr MY
    ·have vt:j=lo+x:=by lia
     subst vt
     by_cases mw:i=lo+x
     ·subst mw;exact rX _
     ·exact uS (An tJ) (fP i (lo+x-1) hl (by lia) (by lia))
   by_cases MZ:qf>0
   ·rw[if_pos MZ]
    refine wpS_bind (eF (wpS_pure ⟨0,rfl,iX.trans ((iy fN).mono (by lia) (by lia)),Zk _ (cj fN he),by lia,fun i h1 h2=>by congr 1;lia⟩))
   ·rw[if_neg MZ]
    exact wpS_pure ⟨0,rfl,iX,Zk _ (fun _=>rfl),by lia,fun i h1 h2=>by congr 1;lia⟩
  ·simp only[tJ,decide_false,iL,if_false]
   refine wpS_bind (nM C nV qa (by lia) (by lia) ?_)
   by_cases Zn:R r (arrOf ah) (lo+x-1)<R r (arrOf ah) (lo+x)
   ·simp only[Zn,decide_true,if_true]
    exact wpS_pure (h x qf ah iX UI (by lia) fP hq he)
   ·simp only[Zn,decide_false,iL,if_false]
    have Zo:R r (arrOf ah) (lo+x)=R r (arrOf ah) (lo+x-1):=by lia
    refine wpS_pure ⟨qf+1,rfl,iX,fun i j hl kr hj=>?_,by lia,fun i h1 h2=>?_⟩
    ·by_cases MY:j<lo+x
     ·exact fP i j hl kr MY
     ·have vt:j=lo+x:=by lia
      subst vt
      by_cases mw:i=lo+x
      ·subst mw;exact rX _
      ·rw[Zo];exact fP i (lo+x-1) hl (by lia) (by lia)
    ·rw[show lo+(x+1)-1=lo+x by lia]
     by_cases EK:i=lo+x
     ·subst EK;rfl
     ·rw[Zo];exact he i (by lia) (by lia)
theorem jC{st:SortSt}{lo n nrem:Nat}(C:nX prog w A s κ r P)(hk:kindOf st=κ)(hP:AllP P (arrOf st))(hn:lo+nrem<=(arrOf st).size)(AV:n+1<=nrem)
  (hs:Down r (arrOf st) lo (lo+(n+1))) (h:∀ m ah,lS lo (lo+nrem) st ah->1<=m->m<=nrem->Up r (arrOf ah) lo (lo+m)->Q (some m) ah) :
  wpS (model prog w) A E s (gQ lo n nrem) Q st:=by
 unfold gQ
 refine wpS_bind (wpS_lift (wpAny_rule ⟨rfl,?_⟩))
 refine wpS_bind (Ac C hk hP hn (by lia) AV hs fun m qf ah iX wx oq fP hq he=>?_)
 dsimp only
 have hz:=iX.size
 have fN:lo+m<=(arrOf ah).size:=by lia
 have nV:=iX.kind.trans hk
 have qa:=hP.perm iX.perm
 by_cases MZ:qf>0
 ·rw[if_pos MZ]
  have hW:=iy (i:=lo+m-(qf+1)) fN
  refine wpS_bind (eF (pL C (hW.kind.trans nV) (qa.perm hW.perm) (by rw[hW.size,hz];exact hn) (by lia) oq ?_ fun m2 ve M0=>h m2 ve ((iX.trans (hW.mono (by lia) (by lia))).trans M0)))
  intro i j hl kr hj
  show R r (mirror (arrOf ah) _ _ _) j<=R r (mirror (arrOf ah) _ _ _) i
  rw[cj fN he,cj fN he]
  exact fP i j hl kr hj
 ·rw[if_neg MZ]
  exact pL C nV qa (by rw[hz];exact hn) (by lia) oq fP fun m2 ve M0=>h m2 ve (iX.trans M0)
theorem wpS_countRun{st:SortSt}{lo nrem:Nat}(C:nX prog w A s κ r P)(hk:kindOf st=κ)(hP:AllP P (arrOf st))(hn:lo+nrem<=(arrOf st).size)(h1:1<=nrem)
  (h:∀ m ah,lS lo (lo+nrem) st ah->1<=m->m<=nrem->Up r (arrOf ah) lo (lo+m)->Q (some m) ah) :
  wpS (model prog w) A E s (countRun' lo nrem) Q st:=by
 rw[sJ]
 refine wpS_bind (wL C hk hP hn (bP 1) h1 (fun i j hl kr hj=>by
  have:i=j:=by lia
  subst this;exact rX _) fun n Zq GL n4 hor=>?_)
 dsimp only
 by_cases AV:n=nrem
 ·rw[if_pos (by simpa using AV)]
  exact wpS_pure (h n st (.refl _ _ _) Zq GL n4)
 ·rw[if_neg (by simpa using AV)]
  have fi:R r (arrOf st) (lo+n)<R r (arrOf st) (lo+n-1):=hor.resolve_left AV
  by_cases Zr:n>1
  ·rw[if_pos Zr]
   refine wpS_bind (nM C hk hP (by lia) (by lia) ?_)
   by_cases Zt:R r (arrOf st) lo<R r (arrOf st) (lo+n-1)
   ·simp only[Zt,decide_true,if_true]
    exact wpS_pure (h n st (.refl _ _ _) Zq GL n4)
   ·simp only[Zt,decide_false,iL,if_false]
    have fN:lo+n<=(arrOf st).size:=by lia
    have oS:∀ k,lo<=k->k<lo+n->R r (arrOf st) k=R r (arrOf st) (lo+n-1):=by
     intro k hl hk
     have a1:=n4 lo k (by lia) hl hk
     have a2:=n4 k (lo+n-1) hl (by lia) (by lia)
     lia
    have hW:=iy (i:=lo) fN
    refine wpS_bind (eF (jC C (hW.kind.trans hk) (hP.perm hW.perm) (by rw[hW.size];exact hn) (by lia) ?_ fun m2 ve M0=>h m2 ve ((hW.mono (bP _) (by lia)).trans M0)))
    intro i j hl kr hj
    show R r (mirror (arrOf st) _ _ _) j<=R r (mirror (arrOf st) _ _ _) i
    rw[cj fN oS,cj fN oS]
    by_cases hjn:j<lo+n
    ·rw[oS i hl (by lia),oS j (by lia) hjn];exact rX _
    ·have vt:j=lo+n:=by lia
     subst vt
     by_cases mw:i=lo+n
     ·subst mw;exact rX _
     ·rw[oS i hl (by lia)];exact An fi
  ·rw[if_neg Zr]
   have ge':n=1:=by lia
   subst ge'
   refine jC C hk hP hn (by lia) ?_ h
   intro i j hl kr hj
   by_cases mw:i=j
   ·subst mw;exact rX _
   ·have AO:i=lo:=by lia
    have hj1:j=lo+1:=by lia
    subst AO;subst hj1
    exact An fi
end
def Ah(left:Bool)(key:Keyed)(arr:Array Keyed)(base i:Nat):StateT SortSt Sem (Option Bool):=do
 let x ← elem' arr (base+i)
 if left then lt' x key else return (<- lt' key x).map (!·)
def mR:Bool->Keyed->Array Keyed->Nat->Nat->Nat->StateT SortSt Sem (Option Nat):=sortPriv% PySem.Builtin.gallop
section
variable {prog:Program}{w:World}{A:Around}{E:Value->Shared->Prop}{s:Shared}{κ:SortKind}{r:Value->Int}{P:Value->Prop}
def fm(r:Value->Int)(left:Bool)(key:Keyed)(arr:Array Keyed)(base i:Nat):Bool :=
 if left then decide (R r arr (base+i)<r key.1) else !decide (r key.1<R r arr (base+i))
theorem fK{st:SortSt}(C:nX prog w A s κ r P)(hk:kindOf st=κ)(hP:AllP P arr)(hy:P key.1)(hi:base+i<arr.size)
  (h:Q (some (fm r left key arr base i)) st):wpS (model prog w) A E s (Ah left key arr base i) Q st:=by
 unfold Ah
 refine wpS_bind (aM hi fun p ep=>?_)
 have e1:R r arr (base+i)=r p.1:=by unfold R;rw[ep]
 unfold fm at h
 rw[e1] at h
 cases left with
 |true =>
  simp only[if_true] at h ⊢
  exact sX C hk (hP.at ep) hy h
 |false =>
  simp only[iL,if_false] at h ⊢
  exact wpS_bind (sX C hk hy (hP.at ep) (wpS_pure h))
theorem Dd(hu:Up r arr base (base+n))(kr:i<=j)(hj:j<n)(h:fm r left key arr base j=true):fm r left key arr base i=true:=by
 have q:=hu (base+i) (base+j) (by lia) (by lia) (by lia)
 unfold fm at h ⊢
 cases left with
 |true=>simp only[if_true,decide_eq_true_eq] at h ⊢;lia
 |false=>simp only[iL,if_false,Tj,decide_eq_false_iff_not] at h ⊢;lia
theorem dN{st:SortSt}{base n hint:Nat}(C:nX prog w A s κ r P)(hk:kindOf st=κ)(hP:AllP P arr)(hy:P key.1)(hn:base+n<=arr.size)(hh:hint<n)
  (hu:Up r arr base (base+n))
  (h:∀ k,k<=n->(∀ i,i<k->fm r left key arr base i=true)->(∀ i,k<=i->i<n->fm r left key arr base i=false)->Q (some k) st):wpS (model prog w) A E s (mR left key arr base n hint) Q st:=by
 have mono:∀ {i j},i<=j->j<n->fm r left key arr base j=true->fm r left key arr base i=true:=fun a b c=>Dd hu a b c
 have RP:∀ {i j},i<=j->j<n->fm r left key arr base i=false->fm r left key arr base j=false:=fun {i j} a b c=>by
  cases q:fm r left key arr base j with
  |false=>rfl
  |true=>rw[mono a b q] at c;cases c
 refine wpS_bind (fK C hk hP hy (by lia) ?_)
 dsimp only
 cases q0:fm r left key arr base hint with
 |true =>
  simp only[if_true]
  refine wpS_bind (wpS_mono (wpS_forRange (I:=fun x c ah=>ah=st/\∃ lst eT,c=(none,lst,eT)/\lst<eT/\lst<n-hint/\x+1<=eT/\fm r left key arr base (hint+lst)=true)
   (Q:=fun c ah=>ah=st/\∃ lst eT,c=(none,lst,eT)/\lst<eT/\lst<n-hint/\fm r left key arr base (hint+lst)=true/\(n-hint<=eT\/fm r left key arr base (hint+eT)=false)) ?step ?fin ?init) ?post)
  case init=>exact⟨rfl,0,1,rfl,by lia,by lia,by lia,q0⟩
  case fin =>
   rintro c ah ⟨rfl,lst,eT,rfl,h1,h2,h3,h4⟩
   exact⟨rfl,lst,eT,rfl,h1,h2,h4,.inl (by lia)⟩
  case step =>
   rintro x c ah _ hx ⟨rfl,lst,eT,rfl,h1,h2,h3,h4⟩
   dsimp only
   by_cases qc:eT >= n-hint
   ·rw[if_pos qc]
    exact wpS_pure ⟨rfl,lst,eT,rfl,h1,h2,h4,.inl qc⟩
   ·rw[if_neg qc]
    refine wpS_bind (fK C hk hP hy (by lia) ?_)
    cases q:fm r left key arr base (hint+eT) with
    |true =>
     simp only[QR,iL,if_false]
     exact wpS_pure ⟨rfl,_,_,rfl,by lia,by lia,by lia,q⟩
    |false =>
     simp only[Bool.not_false,if_true]
     exact wpS_pure ⟨rfl,lst,eT,rfl,h1,h2,h4,.inr q⟩
  case post =>
   rintro c ah ⟨rfl,lst,eT,rfl,h1,h2,h4,h5⟩
   dsimp only
   generalize ah=st at *
   have hl:∀ i,i<hint+lst+1->fm r left key arr base i=true:=fun i hi=>mono (j:=hint+lst) (by lia) (by lia) h4
   have y1:∀ i,hint+min eT (n-hint)<=i->i<n->fm r left key arr base i=false:=fun i hi cK=>by
    rcases h5 with h5|h5
    ·lia
    ·by_cases z:n-hint<=eT
     ·lia
     ·exact RP (i:=hint+eT) (by lia) cK h5
   have UK:hint+lst+1<=hint+min eT (n-hint):=by lia
   have UL:hint+min eT (n-hint)<=n:=by lia
   generalize hint+lst+1=lo at *
   generalize hint+min eT (n-hint)=hi at *
   refine wpS_bind (wpS_mono (wpS_forRange (I:=fun x c ah=>ah=st/\∃ l u,c=(none,l,u)/\l<=u/\u<=n/\u-l<=n-x/\(∀ i,i<l->fm r left key arr base i=true)/\(∀ i,u<=i->i<n->fm r left key arr base i=false))
    (Q:=fun c ah=>ah=st/\∃ l,c=(none,l,l)/\l<=n/\(∀ i,i<l->fm r left key arr base i=true)/\(∀ i,l<=i->i<n->fm r left key arr base i=false)) ?gg' ?gh' ?gi') ?postA)
   case gi'=>exact⟨rfl,lo,hi,rfl,UK,UL,by lia,hl,y1⟩
   case gh' =>
    rintro c ah ⟨rfl,l,u,rfl,h1,h2,h3,h4,h5⟩
    have:l=u:=by lia
    subst this
    exact⟨rfl,l,rfl,h2,h4,h5⟩
   case gg' =>
    rintro x c ah _ hx ⟨rfl,l,u,rfl,h1,h2,h3,h4,h5⟩
    dsimp only
    by_cases qc:l >= u
    ·rw[if_pos qc]
     have:l=u:=by lia
     subst this
     exact wpS_pure ⟨rfl,l,rfl,h2,h4,h5⟩
    ·rw[if_neg qc]
     refine wpS_bind (fK C hk hP hy (by lia) ?_)
     cases q:fm r left key arr base (l+(u-l) / 2) with
     |true =>
      simp only[if_true]
      exact wpS_pure ⟨rfl,_,_,rfl,by lia,by lia,by lia,fun i hi=>mono (j:=l+(u-l) / 2) (by lia) (by lia) q,h5⟩
     |false =>
      simp only[iL,if_false]
      exact wpS_pure ⟨rfl,_,_,rfl,by lia,by lia,by lia,h4,fun i hi cK=>RP (i:=l+(u-l) / 2) (by lia) cK q⟩
   case postA =>
    rintro c ah ⟨rfl,l,rfl,h2,h4,h5⟩
    exact wpS_pure (h l h2 h4 h5)
 |false =>
  simp only[iL,if_false]
  refine wpS_bind (wpS_mono (wpS_forRange (I:=fun x c ah=>ah=st/\∃ lst eT,c=(none,lst,eT)/\lst<eT/\lst<hint+1/\x+1<=eT/\fm r left key arr base (hint-lst)=false)
   (Q:=fun c ah=>ah=st/\∃ lst eT,c=(none,lst,eT)/\lst<eT/\lst<hint+1/\fm r left key arr base (hint-lst)=false/\(hint+1<=eT\/fm r left key arr base (hint-eT)=true)) ?gj' ?fin2 ?gk') ?gl')
  case gk'=>exact⟨rfl,0,1,rfl,by lia,by lia,by lia,q0⟩
  case fin2 =>
   rintro c ah ⟨rfl,lst,eT,rfl,h1,h2,h3,h4⟩
   exact⟨rfl,lst,eT,rfl,h1,h2,h4,.inl (by lia)⟩
  case gj' =>
   rintro x c ah _ hx ⟨rfl,lst,eT,rfl,h1,h2,h3,h4⟩
   dsimp only
   by_cases qc:eT >= hint+1
   ·rw[if_pos qc]
    exact wpS_pure ⟨rfl,lst,eT,rfl,h1,h2,h4,.inl qc⟩
   ·rw[if_neg qc]
    refine wpS_bind (fK C hk hP hy (by lia) ?_)
    cases q:fm r left key arr base (hint-eT) with
    |true =>
     simp only[if_true]
     exact wpS_pure ⟨rfl,lst,eT,rfl,h1,h2,h4,.inr q⟩
    |false =>
     simp only[iL,if_false]
     exact wpS_pure ⟨rfl,_,_,rfl,by lia,by lia,by lia,q⟩
  case gl' =>
   rintro c ah ⟨rfl,lst,eT,rfl,h1,h2,h4,h5⟩
   dsimp only
   generalize ah=st at *
   have hl:∀ i,i<hint+1-min eT (hint+1)->fm r left key arr base i=true:=fun i hi=>by
    rcases h5 with h5|h5
    ·lia
    ·by_cases z:hint+1<=eT
     ·lia
     ·exact mono (j:=hint-eT) (by lia) (by lia) h5
   have y1:∀ i,hint-lst<=i->i<n->fm r left key arr base i=false:=fun i hi cK=>RP (i:=hint-lst) (by lia) cK h4
   have UK:hint+1-min eT (hint+1)<=hint-lst:=by lia
   have UL:hint-lst<=n:=by lia
   generalize hint+1-min eT (hint+1)=lo at *
   generalize hint-lst=hi at *
   refine wpS_bind (wpS_mono (wpS_forRange (I:=fun x c ah=>ah=st/\∃ l u,c=(none,l,u)/\l<=u/\u<=n/\u-l<=n-x/\(∀ i,i<l->fm r left key arr base i=true)/\(∀ i,u<=i->i<n->fm r left key arr base i=false))
    (Q:=fun c ah=>ah=st/\∃ l,c=(none,l,l)/\l<=n/\(∀ i,i<l->fm r left key arr base i=true)/\(∀ i,l<=i->i<n->fm r left key arr base i=false)) ?gm' ?gn' ?gp') ?gq')
   case gp'=>exact⟨rfl,lo,hi,rfl,UK,UL,by lia,hl,y1⟩
   case gn' =>
    rintro c ah ⟨rfl,l,u,rfl,h1,h2,h3,h4,h5⟩
    have:l=u:=by lia
    subst this
    exact⟨rfl,l,rfl,h2,h4,h5⟩
   case gm' =>
    rintro x c ah _ hx ⟨rfl,l,u,rfl,h1,h2,h3,h4,h5⟩
    dsimp only
    by_cases qc:l >= u
    ·rw[if_pos qc]
     have:l=u:=by lia
     subst this
     exact wpS_pure ⟨rfl,l,rfl,h2,h4,h5⟩
    ·rw[if_neg qc]
     refine wpS_bind (fK C hk hP hy (by lia) ?_)
     cases q:fm r left key arr base (l+(u-l) / 2) with
     |true =>
      simp only[if_true]
      exact wpS_pure ⟨rfl,_,_,rfl,by lia,by lia,by lia,fun i hi=>mono (j:=l+(u-l) / 2) (by lia) (by lia) q,h5⟩
     |false =>
      simp only[iL,if_false]
      exact wpS_pure ⟨rfl,_,_,rfl,by lia,by lia,by lia,h4,fun i hi cK=>RP (i:=l+(u-l) / 2) (by lia) cK q⟩
   case gq' =>
    rintro c ah ⟨rfl,l,rfl,h2,h4,h5⟩
    exact wpS_pure (h l h2 h4 h5)
end
abbrev Le(r:Value->Int)(x y:Keyed):Prop:=r x.1<=r y.1
theorem n5(e:xs[i]? = some p):R r xs i=r p.1:=by unfold R;rw[e]
theorem Ht(h:i<xs.size):R r xs i=r xs[i].1:=n5 (getElem?_pos xs i h)
structure MI(r:Value->Int)(a b out:Array Keyed)(ia ib:Nat):Prop where
 ha:ia<=a.size
 hb:ib<=b.size
 perm:out.toList.Perm (a.toList.take ia++b.toList.take ib)
 up:out.toList.Pairwise (Le r)
 la:∀ x∈out.toList,∀ i,ia<=i->i<a.size->r x.1<=R r a i
 lb:∀ x∈out.toList,∀ j,ib<=j->j<b.size->r x.1<=R r b j
section
variable {r:Value->Int}{a b out:Array Keyed}{ia ib:Nat}
theorem qj{α:Type}{l:List α}{i:Nat}{x:α}(h:l[i]? = some x):l.take (i+1)=l.take i++[x]:=by
 rw[BI,h];rfl
theorem MI.uF(M:MI r a b out ia ib)(hA:Up r a 0 a.size)(hB:Up r b 0 b.size){y:Keyed}(e:b[ib]? = some y)(hl:ia<a.size->R r b ib<=R r a ia):MI r a b (out.push y) ia (ib+1):=by
 have Zu:ib<b.size:=(FP.mp e).1
 have ey:=n5 (r:=r) e
 refine⟨M.ha,Zu,?_,?_,?_,?_⟩
 ·rw[oi,qj (x:=y) (by simpa using e),<- vF]
  exact M.perm.append_right _
 ·rw[oi,P9]
  refine⟨M.up,by simp,fun x hx z hz=>?_⟩
  have:z=y:=by simpa using hz
  subst this
  show r x.1<=r z.1
  rw[<- ey]
  exact M.lb x hx ib (bP _) Zu
 ·intro x hx i hi GW
  rw[oi] at hx
  rcases eJ.mp hx with hx|hx
  ·exact M.la x hx i hi GW
  ·have:x=y:=by simpa using hx
   subst this
   rw[<- ey]
   exact uS (hl (by walk_at "s1")) (hA ia i (eu _) hi GW)
 ·intro x hx j hj Nc
  rw[oi] at hx
  rcases eJ.mp hx with hx|hx
  ·exact M.lb x hx j (by exact ll ‹_›) Nc
  ·have:x=y:=by simpa using hx
   subst this
   rw[<- ey]
   exact hB ib j (eu _) (by exact ll ‹_›) Nc
theorem MI.sY(M:MI r a b out ia ib)(hA:Up r a 0 a.size)(hB:Up r b 0 b.size){y:Keyed}(e:a[ia]? = some y)(hl:ib<b.size->R r a ia<=R r b ib):MI r a b (out.push y) (ia+1) ib:=by
 have GW:ia<a.size:=(FP.mp e).1
 have ey:=n5 (r:=r) e
 refine⟨GW,M.hb,?_,?_,?_,?_⟩
 ·rw[oi,qj (x:=y) (by simpa using e),vF]
  refine(M.perm.append_right [y]).trans ?_
  rw[vF]
  exact List.Perm.append_left _ S4
 ·rw[oi,P9]
  refine⟨M.up,by simp,fun x hx z hz=>?_⟩
  have:z=y:=by simpa using hz
  subst this
  show r x.1<=r z.1
  rw[<- ey]
  exact M.la x hx ia (bP _) GW
 ·intro x hx i hi oo
  rw[oi] at hx
  rcases eJ.mp hx with hx|hx
  ·exact M.la x hx i (by exact ll ‹_›) oo
  ·have:x=y:=by simpa using hx
   subst this
   rw[<- ey]
   exact hA ia i (eu _) (by exact ll ‹_›) oo
 ·intro x hx j hj Nc
  rw[oi] at hx
  rcases eJ.mp hx with hx|hx
  ·exact M.lb x hx j hj Nc
  ·have:x=y:=by simpa using hx
   subst this
   rw[<- ey]
   exact uS (hl (by walk_at "s1")) (hB ib j (eu _) hj Nc)
theorem gG{xs:Array Keyed}{i k:Nat}(h:i+k<xs.size):xs.extract i (i+(k+1))=(xs.extract i (i+k)).push xs[i+k]:=by
 apply QX.mp
 rw[oi]
 simp only[To,SX]
 rw[show i+(k+1)-i=k+1 by exact Nat.add_sub_cancel_left ..,show i+k-i=k by exact Nat.add_sub_cancel_left ..,BI]
 congr 1
 rw[List.getElem?_drop]
 simp[h]
theorem MI.AW(hA:Up r a 0 a.size)(hB:Up r b 0 b.size):∀ (k:Nat) {out:Array Keyed} {ia:Nat},MI r a b out ia ib->ia+k<=a.size->(ib<b.size->∀ i,i<k->R r a (ia+i)<=R r b ib)->MI r a b (out++a.extract ia (ia+k)) (ia+k) ib
 |0,out,ia,M,h1,h2=>by
  have:a.extract ia (ia+0) = #[]:=KS (by simp only[D2];lia)
  rw[this]
  simpa using M
 |k+1,out,ia,M,h1,h2=>by
  have q:=MI.AW hA hB k M (by exact ll ‹_›) fun hb i hi=>h2 hb i (by exact zS ‹_›)
  have e:a[ia+k]? = some a[ia+k]:=getElem?_pos a (ia+k) (by assumption)
  have z:=q.sY hA hB e fun hb=>h2 hb k (by exact bP _)
  rw[gG (by assumption),Array.append_push]
  exact z
theorem MI.AX(hA:Up r a 0 a.size)(hB:Up r b 0 b.size):∀ (k:Nat) {out:Array Keyed} {ib:Nat},MI r a b out ia ib->ib+k<=b.size->(ia<a.size->∀ i,i<k->R r b (ib+i)<=R r a ia)->MI r a b (out++b.extract ib (ib+k)) ia (ib+k)
 |0,out,ib,M,h1,h2=>by
  have:b.extract ib (ib+0) = #[]:=KS (by simp only[D2];lia)
  rw[this]
  simpa using M
 |k+1,out,ib,M,h1,h2=>by
  have q:=MI.AX hA hB k M (by exact ll ‹_›) fun ha i hi=>h2 ha i (by exact zS ‹_›)
  have e:b[ib+k]? = some b[ib+k]:=getElem?_pos b (ib+k) (by assumption)
  have z:=q.uF hA hB e fun ha=>h2 ha k (by exact bP _)
  rw[gG (by assumption),Array.append_push]
  exact z
def cW(r:Value->Int)(a b out:Array Keyed):Prop:=out.toList.Perm (a.toList++b.toList)/\out.toList.Pairwise (Le r)
theorem MI.whole(M:MI r a b out a.size b.size):cW r a b out:=by
 refine⟨?_,M.up⟩
 have h:=M.perm
 rw[P5 (by simp),P5 (by simp)] at h
 exact h
theorem MI.Lx(M:MI r a b out ia b.size)(hA:Up r a 0 a.size)(hB:Up r b 0 b.size):cW r a b (out++a.extract ia a.size++b.extract b.size b.size):=by
 have e:b.extract b.size b.size = #[]:=by simp
 rw[e,Tp]
 have ha:=M.ha
 have q:=MI.AW hA hB (a.size-ia) M (by lia) fun hb=>absurd hb (rV _)
 rw[show ia+(a.size-ia)=a.size by exact Kk ‹_›] at q
 exact q.whole
theorem MI.Ka(M:MI r a b out a.size ib)(hA:Up r a 0 a.size)(hB:Up r b 0 b.size):cW r a b (out++a.extract a.size a.size++b.extract ib b.size):=by
 have e:a.extract a.size a.size = #[]:=by simp
 rw[e,Tp]
 have hb:=M.hb
 have q:=MI.AX hA hB (b.size-ib) M (by lia) fun ha=>absurd ha (rV _)
 rw[show ib+(b.size-ib)=b.size by exact Kk ‹_›] at q
 exact q.whole
theorem MI.GY(M:MI r a b out ia ib)(hA:Up r a 0 a.size)(hB:Up r b 0 b.size)(e:ib=b.size):cW r a b (out++a.extract ia a.size++b.extract ib b.size):=by subst e;exact M.Lx hA hB
theorem MI.G0(M:MI r a b out ia ib)(hA:Up r a 0 a.size)(hB:Up r b 0 b.size)(e:ia=a.size):cW r a b (out++a.extract ia a.size++b.extract ib b.size):=by subst e;exact M.Ka hA hB
theorem MI.KC(M:MI r a b out ia ib)(hA:Up r a 0 a.size)(hB:Up r b 0 b.size)(GW:ia+1=a.size)(hg:∀ j,j<b.size->R r b j<=R r a ia):cW r a b (out++b.extract ib b.size++a.extract ia a.size):=by
 have hb:=M.hb
 have q:=MI.AX hA hB (b.size-ib) M (by lia) fun ha i hi=>hg _ (by lia)
 rw[show ib+(b.size-ib)=b.size by exact Kk ‹_›] at q
 have z:=MI.AW hA hB (a.size-ia) q (by lia) fun hb=>absurd hb (rV _)
 rw[show ia+(a.size-ia)=a.size by lia] at z
 exact z.whole
theorem MI.start(hA:Up r a 0 a.size)(hB:Up r b 0 b.size):MI r a b #[] 0 0:=⟨eu _,eu _,by simp,by simp,fun x hx=>by simp at hx,fun x hx=>by simp at hx⟩
end
def bV:Nat->StateT SortSt Sem Unit:=sortPriv% PySem.Builtin.setMinGallop
def wW:Array Keyed->Array Keyed->StateT SortSt Sem (Array Keyed):=sortPriv% PySem.Builtin.mergeLo
def xR:Array Keyed->Array Keyed->StateT SortSt Sem (Array Keyed):=sortPriv% PySem.Builtin.mergeHi
theorem lK(g:Nat):bV g=modify fun s=>SortSt.mk' (kindOf s) (arrOf s) (pendingOf s) g (failedOf s):=rfl
def Mg(st ah:SortSt):Prop:=∃ g,ah=SortSt.mk' (kindOf st) (arrOf st) (pendingOf st) g (failedOf st)
theorem Mg.refl(st:SortSt):Mg st st:=⟨gallopOf st,rfl⟩
theorem Mg.kind{st ah:SortSt}(h:Mg st ah):kindOf ah=kindOf st:=by obtain⟨g,rfl⟩:=h;rfl
theorem Mg.set{st ah:SortSt}(h:Mg st ah)(g:Nat):Mg st (SortSt.mk' (kindOf ah) (arrOf ah) (pendingOf ah) g (failedOf ah)):=by obtain⟨g',rfl⟩:=h;exact⟨g,rfl⟩
section
variable {prog:Program}{w:World}{A:Around}{E:Value->Shared->Prop}{s:Shared}{r:Value->Int}
theorem jl{st:SortSt}(h:Q () (SortSt.mk' (kindOf st) (arrOf st) (pendingOf st) g (failedOf st))):wpS (model prog w) A E s (bV g) Q st:=by
 rw[lK];exact wpS_modify h
theorem CW(h:fm r false key arr base i=true):R r arr (base+i)<=r key.1:=by
 unfold fm at h;simp only[iL,if_false,Tj,decide_eq_false_iff_not] at h;lia
theorem yV(h:fm r false key arr base i=false):r key.1<R r arr (base+i):=by
 unfold fm at h;simp only[iL,if_false,Bool.not_eq_false',decide_eq_true_eq] at h;exact h
theorem Gs(h:fm r true key arr base i=true):R r arr (base+i)<r key.1:=by
 unfold fm at h;simp only[if_true,decide_eq_true_eq] at h;exact h
theorem wI(h:fm r true key arr base i=false):r key.1<=R r arr (base+i):=by
 unfold fm at h;simp only[if_true,decide_eq_false_iff_not] at h;lia
end
theorem Mg.trans(h:Mg a b)(g:Mg b c):Mg a c:=by obtain⟨x,rfl⟩:=h;obtain⟨y,rfl⟩:=g;exact⟨y,rfl⟩
theorem Ez{K G:Prop}(pk:K)(h:K->G):G:=h pk
abbrev SM:=StateT SortSt Sem
abbrev L1:=Option (Array Keyed) × Array Keyed × Nat × Nat × Nat
abbrev EL:=Option (Array Keyed) × Array Keyed × Nat × Nat × Nat × Nat
abbrev L3:=Option (Array Keyed) × Array Keyed × Nat × Nat × Nat × Nat × Nat
def CC(a b out:Array Keyed)(ia ib:Nat):Array Keyed:=out++a.extract ia a.size++b.extract ib b.size
def Nn(a b out:Array Keyed)(ia ib:Nat):Array Keyed:=out++b.extract ib b.size++a.extract ia a.size
def UM(a b:Array Keyed)(mg ac bc ia ib:Nat)(out:Array Keyed):SM (ForInStep L3):=elem' a ia >>= fun p =>
 if (ia+1+1 == a.size)=true then pure (.done (some (Nn a b (out.push p) (ia+1) ib),out.push p,ia+1,ib,mg,ac,bc))
 else if (decide (ac<7) && decide (bc<7))=true then pure (.done (none,out.push p,ia+1,ib,mg,ac,bc)) else pure (.yield (none,out.push p,ia+1,ib,mg,ac,bc))
def ER(a b:Array Keyed)(mg ac bc ia ib:Nat)(out:Array Keyed):SM (ForInStep L3):=elem' a ia >>= fun p=>mR true p b ib (b.size-ib) 0 >>= fun x=>match x with
 |some k=>if k>0 then
   if (ib+k == b.size)=true then pure (.done (some (CC a b (out++b.extract ib (ib+k)) ia (ib+k)),out++b.extract ib (ib+k),ia,ib+k,mg,ac,k))
   else UM a b mg ac k ia (ib+k) (out++b.extract ib (ib+k))
  else UM a b mg ac k ia ib out
 |_=>pure (.done (some (CC a b out ia ib),out,ia,ib,mg,ac,bc))
def lo1(a b:Array Keyed)(mg ac bc ia ib:Nat)(out:Array Keyed):SM (ForInStep L3):=elem' b ib >>= fun p =>
 if (ib+1 == b.size)=true then pure (.done (some (CC a b (out.push p) ia (ib+1)),out.push p,ia,ib+1,mg,ac,bc)) else ER a b mg ac bc ia (ib+1) (out.push p)
def UN(a b:Array Keyed)(mg ac bc ia ib:Nat)(out:Array Keyed):SM (ForInStep L3):=bV mg >>= fun _=>elem' b ib >>= fun p=>mR false p a ia (a.size-ia) 0 >>= fun x=>match x with
 |some k=>if k>0 then
   if (ia+k+1 == a.size)=true then pure (.done (some (Nn a b (out++a.extract ia (ia+k)) (ia+k) ib),out++a.extract ia (ia+k),ia+k,ib,mg,k,bc))
   else if (ia+k == a.size)=true then pure (.done (some (CC a b (out++a.extract ia (ia+k)) (ia+k) ib),out++a.extract ia (ia+k),ia+k,ib,mg,k,bc))
   else lo1 a b mg k bc (ia+k) ib (out++a.extract ia (ia+k))
  else lo1 a b mg k bc ia ib out
 |_=>pure (.done (some (CC a b out ia ib),out,ia,ib,mg,ac,bc))
def Zv(a b:Array Keyed)(_:Nat)(s:L3):SM (ForInStep L3) :=
 if s.2.2.2.2.1>1 then UN a b (s.2.2.2.2.1-1) s.2.2.2.2.2.1 s.2.2.2.2.2.2 s.2.2.1 s.2.2.2.1 s.2.1 else UN a b s.2.2.2.2.1 s.2.2.2.2.2.1 s.2.2.2.2.2.2 s.2.2.1 s.2.2.2.1 s.2.1
def Zw(a b:Array Keyed)(mg bc ia ib:Nat)(out:Array Keyed):SM (ForInStep EL):=elem' b ib >>= fun p =>
 if (ib+1 == b.size)=true then pure (.done (some (CC a b (out.push p) ia (ib+1)),out.push p,ia,ib+1,0,bc+1))
 else if bc+1 >= mg then pure (.done (none,out.push p,ia,ib+1,0,bc+1)) else pure (.yield (none,out.push p,ia,ib+1,0,bc+1))
def Zx(a b:Array Keyed)(mg ac ia ib:Nat)(out:Array Keyed):SM (ForInStep EL):=elem' a ia >>= fun p =>
 if (ia+1+1 == a.size)=true then pure (.done (some (Nn a b (out.push p) (ia+1) ib),out.push p,ia+1,ib,ac+1,0))
 else if ac+1 >= mg then pure (.done (none,out.push p,ia+1,ib,ac+1,0)) else pure (.yield (none,out.push p,ia+1,ib,ac+1,0))
def Zy(a b:Array Keyed)(mg:Nat)(_:Nat)(s:EL):SM (ForInStep EL):=elem' b s.2.2.2.1 >>= fun pb=>elem' a s.2.2.1 >>= fun pa=>lt' pb pa >>= fun x=>match x with
 |some w=>if w=true then Zw a b mg s.2.2.2.2.2 s.2.2.1 s.2.2.2.1 s.2.1 else Zx a b mg s.2.2.2.2.1 s.2.2.1 s.2.2.2.1 s.2.1
 |_=>pure (.done (some (CC a b s.2.1 s.2.2.1 s.2.2.2.1),s.2.1,s.2.2.1,s.2.2.2.1,s.2.2.2.2.1,s.2.2.2.2.2))
def Zz (a b:Array Keyed) (mg:Nat) (t:EL):SM (ForInStep L1):=(liftM (rule "list.sort.gallop"):SM Unit) >>= fun _ =>
 forIn [:a.size+b.size] ((none,t.2.1,t.2.2.1,t.2.2.2.1,mg+1,t.2.2.2.2.1,t.2.2.2.2.2):L3) (Zv a b) >>= fun u=>match u.1 with
 |some r=>pure (.done (some r,u.2.1,u.2.2.1,u.2.2.2.1,u.2.2.2.2.1))
 |none=>bV (u.2.2.2.2.1+1) >>= fun _=>pure (.yield (none,u.2.1,u.2.2.1,u.2.2.2.1,u.2.2.2.2.1+1))
def ZC(a b:Array Keyed)(_:Nat)(s:L1):SM (ForInStep L1):=forIn [:a.size+b.size] ((none,s.2.1,s.2.2.1,s.2.2.2.1,0,0):EL) (Zy a b s.2.2.2.2) >>= fun t=>match t.1 with
 |some r=>pure (.done (some r,t.2.1,t.2.2.1,t.2.2.2.1,s.2.2.2.2))
 |none=>Zz a b s.2.2.2.2 t
def loM (a b:Array Keyed):SM (Array Keyed):=(liftM (rule "list.sort.merge-lo"):SM Unit) >>= fun _=>elem' b 0 >>= fun y =>
 if (1 == b.size)=true then pure (CC a b #[y] 0 1)
 else if (0+1 == a.size)=true then pure (Nn a b #[y] 0 1)
 else get >>= fun st=>forIn [:a.size+b.size] ((none,#[y],0,1,gallopOf st):L1) (ZC a b) >>= fun t=>match t.1 with
 |some r=>pure r
 |none=>(liftM (unsupported (α:=Array Keyed) "internal:list.sort.merge-bound"):SM (Array Keyed))
set_option smartUnfolding false in
theorem yG:wW=loM:=rfl
section
variable {prog:Program}{w:World}{A:Around}{E:Value->Shared->Prop}{s:Shared}{κ:SortKind}{r:Value->Int}{P:Value->Prop}{a b out:Array Keyed}{mg ac bc ia ib N:Nat}{st:SortSt}
structure MC(prog:Program)(w:World)(A:Around)(s:Shared)(κ:SortKind)(r:Value->Int)(P:Value->Prop)(a b:Array Keyed):Prop where
 C:nX prog w A s κ r P
 pa:AllP P a
 pb:AllP P b
 hA:Up r a 0 a.size
 hB:Up r b 0 b.size
 hl:∀ i,i<a.size->R r b 0<=R r a i
 hg:∀ j,j<b.size->R r b j<=R r a (a.size-1)
def HS(r:Value->Int)(a b:Array Keyed)(c:Option (Array Keyed) × β):Prop:=∃ out rest,c=(some out,rest)/\cW r a b out
def LY(r:Value->Int)(a b:Array Keyed)(N:Nat)(c:L3):Prop:=∃ out ia ib mg ac bc,c=(none,out,ia,ib,mg,ac,bc)/\MI r a b out ia ib/\ia+1<a.size/\ib<b.size/\N<=ia+ib
def LI(r:Value->Int)(a b:Array Keyed)(N:Nat)(c:EL):Prop:=∃ out ia ib ac bc,c=(none,out,ia,ib,ac,bc)/\MI r a b out ia ib/\ia+1<a.size/\ib<b.size/\N<=ia+ib
theorem MC.last(c:MC prog w A s κ r P a b)(M:MI r a b out ia ib)(z:ia+1=a.size):cW r a b (Nn a b out ia ib):=M.KC c.hA c.hB z fun j hj=>by
 have:=c.hg j hj
 rwa[show a.size-1=ia by lia] at this
theorem Dv(c:MC prog w A s κ r P a b)(M:MI r a b out ia ib)(h1:ia+1<a.size)(lt:R r a ia<=R r b ib)(h2:ib<b.size)(hN:N<=ia+ib)(D:∀ c,HS r a b c->Q (.done c) st)(Y:∀ c,LY r a b N c->Q (.done c) st/\Q (.yield c) st):wpS (model prog w) A E s (UM a b mg ac bc ia ib out) Q st:=by
 refine wpS_bind (aM (by lia) fun p e=>?_)
 have M2:=M.sY c.hA c.hB e fun _=>lt
 by_cases z:ia+1+1=a.size
 ·rw[if_pos (by simpa using z)]
  exact wpS_pure (D _ ⟨_,_,rfl,c.last M2 z⟩)
 ·rw[if_neg (by simpa using z)]
  have y:=Y _ ⟨_,_,_,mg,ac,bc,rfl,M2,by lia,h2,by lia⟩
  split
  ·exact wpS_pure y.1
  ·exact wpS_pure y.2
theorem Hu(c:MC prog w A s κ r P a b)(hk:kindOf st=κ)(M:MI r a b out ia ib)(h1:ia+1<a.size)(h2:ib<b.size)(hN:N<=ia+ib)(D:∀ c,HS r a b c->Q (.done c) st)(Y:∀ c,LY r a b N c->Q (.done c) st/\Q (.yield c) st):wpS (model prog w) A E s (ER a b mg ac bc ia ib out) Q st:=by
 refine wpS_bind (aM (by lia) fun p e=>wpS_bind (dN c.C hk c.pb (c.pa.at e) (by lia) (by lia) (fun i j u v w=>c.hB i j (by lia) v (by lia)) fun l He Ct HC=>?_))
 have ra:=n5 (r:=r) e
 dsimp only
 have lt:ib+l<b.size->R r a ia<=R r b (ib+l):=fun z=>by have:=wI (HC l (bP _) (by lia));lia
 by_cases l0:l>0
 ·have M5:=MI.AX c.hA c.hB l M (by lia) fun _ i hi=>by have:=Gs (Ct i hi);lia
  rw[if_pos l0]
  by_cases z:ib+l=b.size
  ·rw[if_pos (by simpa using z)]
   exact wpS_pure (D _ ⟨_,_,rfl,M5.GY c.hA c.hB z⟩)
  ·rw[if_neg (by simpa using z)]
   exact Dv c M5 h1 (lt (by lia)) (by lia) (by lia) D Y
 ·rw[if_neg l0]
  obtain rfl:l=0:=by lia
  exact Dv c M h1 (lt h2) h2 hN D Y
theorem DP(c:MC prog w A s κ r P a b)(hk:kindOf st=κ)(M:MI r a b out ia ib)(h1:ia+1<a.size)(lt:R r b ib<=R r a ia)(h2:ib<b.size)(hN:N<=ia+ib)(D:∀ c,HS r a b c->Q (.done c) st)(Y:∀ c,LY r a b N c->Q (.done c) st/\Q (.yield c) st):wpS (model prog w) A E s (lo1 a b mg ac bc ia ib out) Q st:=by
 refine wpS_bind (aM h2 fun p e=>?_)
 have M4:=M.uF c.hA c.hB e fun _=>lt
 by_cases z:ib+1=b.size
 ·rw[if_pos (by simpa using z)]
  exact wpS_pure (D _ ⟨_,_,rfl,M4.GY c.hA c.hB z⟩)
 ·rw[if_neg (by simpa using z)]
  exact Hu c hk M4 h1 (by lia) (by lia) D Y
theorem Jk(c:MC prog w A s κ r P a b)(hk:kindOf st=κ)(M:MI r a b out ia ib)(h1:ia+1<a.size)(h2:ib<b.size)(hN:N<=ia+ib)(D:∀ ah,Mg st ah->∀ c,HS r a b c->Q (.done c) ah)(Y:∀ ah,Mg st ah->∀ c,LY r a b N c->Q (.done c) ah/\Q (.yield c) ah):wpS (model prog w) A E s (UN a b mg ac bc ia ib out) Q st:=by
 have g:=(Mg.refl st).set mg
 refine wpS_bind (jl ?_)
 refine wpS_bind (aM h2 fun p e=>wpS_bind (dN c.C (g.kind.trans hk) c.pa (c.pb.at e) (by lia) (by lia) (fun i j u v w=>c.hA i j (by lia) v (by lia)) fun k ZD CD EV=>?_))
 have rb:=n5 (r:=r) e
 dsimp only
 have lt:ia+k<a.size->R r b ib<=R r a (ia+k):=fun z=>by have:=yV (EV k (bP _) (by lia));lia
 by_cases k0:k>0
 ·have M3:=MI.AW c.hA c.hB k M (by lia) fun _ i hi=>by have:=CW (CD i hi);lia
  rw[if_pos k0]
  by_cases z:ia+k+1=a.size
  ·rw[if_pos (by simpa using z)]
   exact wpS_pure (D _ g _ ⟨_,_,rfl,c.last M3 z⟩)
  ·rw[if_neg (by simpa using z)]
   by_cases z2:ia+k=a.size
   ·rw[if_pos (by simpa using z2)]
    exact wpS_pure (D _ g _ ⟨_,_,rfl,M3.G0 c.hA c.hB z2⟩)
   ·rw[if_neg (by simpa using z2)]
    exact DP c (g.kind.trans hk) M3 (by lia) (lt (by lia)) h2 (by lia) (D _ g) (Y _ g)
 ·rw[if_neg k0]
  obtain rfl:k=0:=by lia
  exact DP c (g.kind.trans hk) M h1 (lt (by lia)) h2 hN (D _ g) (Y _ g)
theorem JB(c:MC prog w A s κ r P a b)(M:MI r a b out ia ib)(h1:ia+1<a.size)(lt:R r b ib<=R r a ia)(h2:ib<b.size)(hN:N<=ia+ib+1)(D:∀ c,HS r a b c->Q (.done c) st)(Y:∀ c,LI r a b N c->Q (.done c) st/\Q (.yield c) st):wpS (model prog w) A E s (Zw a b mg bc ia ib out) Q st:=by
 refine wpS_bind (aM h2 fun p e=>?_)
 have M2:=M.uF c.hA c.hB e fun _=>lt
 by_cases z:ib+1=b.size
 ·rw[if_pos (by simpa using z)]
  exact wpS_pure (D _ ⟨_,_,rfl,M2.GY c.hA c.hB z⟩)
 ·rw[if_neg (by simpa using z)]
  have y:=Y _ ⟨_,_,_,0,bc+1,rfl,M2,h1,by lia,hN⟩
  split
  ·exact wpS_pure y.1
  ·exact wpS_pure y.2
theorem JD(c:MC prog w A s κ r P a b)(M:MI r a b out ia ib)(h1:ia+1<a.size)(lt:R r a ia<=R r b ib)(h2:ib<b.size)(hN:N<=ia+ib+1)(D:∀ c,HS r a b c->Q (.done c) st)(Y:∀ c,LI r a b N c->Q (.done c) st/\Q (.yield c) st):wpS (model prog w) A E s (Zx a b mg ac ia ib out) Q st:=by
 refine wpS_bind (aM (by lia) fun p e=>?_)
 have M2:=M.sY c.hA c.hB e fun _=>lt
 by_cases z:ia+1+1=a.size
 ·rw[if_pos (by simpa using z)]
  exact wpS_pure (D _ ⟨_,_,rfl,c.last M2 z⟩)
 ·rw[if_neg (by simpa using z)]
  have y:=Y _ ⟨_,_,_,ac+1,0,rfl,M2,by lia,h2,by lia⟩
  split
  ·exact wpS_pure y.1
  ·exact wpS_pure y.2
theorem JW(c:MC prog w A s κ r P a b)(hk:kindOf st=κ)(M:MI r a b out ia ib)(h1:ia+1<a.size)(h2:ib<b.size)(hN:N<=ia+ib+1)(D:∀ c,HS r a b c->Q (.done c) st)(Y:∀ c,LI r a b N c->Q (.done c) st/\Q (.yield c) st):wpS (model prog w) A E s (Zy a b mg x (none,out,ia,ib,ac,bc)) Q st:=by
 refine wpS_bind (aM h2 fun pb eb=>wpS_bind (aM (show ia<a.size by lia) fun pa ea=>wpS_bind (sX c.C hk (c.pb.at eb) (c.pa.at ea) ?_)))
 have rb:R r b ib=r pb.1:=n5 eb
 have ra:R r a ia=r pa.1:=n5 ea
 dsimp only
 by_cases hw:r pb.1<r pa.1
 ·rw[if_pos (decide_eq_true hw)]
  exact JB c M h1 (by lia) h2 hN D Y
 ·rw[if_neg (by simpa using hw)]
  exact JD c M h1 (by lia) h2 hN D Y
theorem Ib(c:MC prog w A s κ r P a b)(hk:kindOf st=κ)(M:MI r a b out ia ib)(h1:ia+1<a.size)(h2:ib<b.size)(hN:N<=ia+ib)(D:∀ ah,Mg st ah->∀ c,HS r a b c->Q (.done c) ah)
  (Y:∀ ah,Mg st ah->∀ out ia ib mg,MI r a b out ia ib->ia+1<a.size->ib<b.size->N<=ia+ib->Q (.yield (none,out,ia,ib,mg)) ah):wpS (model prog w) A E s (Zz a b mg (none,out,ia,ib,ac,bc)) Q st:=by
 refine wpS_bind (wpS_lift (wpAny_rule ⟨rfl,?_⟩))
 refine wpS_bind (wpS_mono (wpS_forRange (I:=fun _ c ah=>Mg st ah/\LY r a b N c) (Q:=fun c ah=>Mg st ah/\(HS r a b c\/LY r a b N c)) ?step ?fin ⟨.refl st,_,_,_,_,_,_,rfl,M,h1,h2,hN⟩) ?post)
 case fin =>
  rintro c ah ⟨hm,q⟩
  exact⟨hm,.inr q⟩
 case step =>
  rintro y c1 AY _ _ ⟨hm,out,ia,ib,mg,ac,bc,rfl,M,h1,h2,hN⟩
  unfold Zv
  dsimp only
  split<;>exact Jk c (hm.kind.trans hk) M h1 h2 hN (fun ah g c q=>⟨hm.trans g,.inl q⟩) fun ah g c q=>⟨⟨hm.trans g,.inr q⟩,hm.trans g,q⟩
 case post =>
  rintro c ah ⟨hm,⟨o,rest,rfl,hM⟩|⟨out,ia,ib,mg,ac,bc,rfl,M,h1,h2,hN⟩⟩
  ·exact wpS_pure (D _ hm _ ⟨_,_,rfl,hM⟩)
  ·exact wpS_bind (jl (wpS_pure (Y _ (hm.set _) _ _ _ _ M h1 h2 hN)))
theorem JS(c:MC prog w A s κ r P a b)(hk:kindOf st=κ)(M:MI r a b out ia ib)(h1:ia+1<a.size)(h2:ib<b.size)(hN:N<=ia+ib)(D:∀ ah,Mg st ah->∀ c,HS r a b c->Q (.done c) ah)
  (Y:∀ ah,Mg st ah->∀ out ia ib mg,MI r a b out ia ib->ia+1<a.size->ib<b.size->N+1<=ia+ib->Q (.yield (none,out,ia,ib,mg)) ah):wpS (model prog w) A E s (ZC a b x (none,out,ia,ib,mg)) Q st:=by
 refine wpS_bind (wpS_mono (wpS_forRange (I:=fun y c ah=>ah=st/\LI r a b (N+y) c) (Q:=fun c ah=>ah=st/\(HS r a b c\/LI r a b (N+1) c)) ?step ?fin ⟨rfl,_,_,_,_,_,rfl,M,h1,h2,hN⟩) ?post)
 case fin =>
  rintro c ah ⟨rfl,o,ia',ib',ac,bc,rfl,M',q1,q2,q3⟩
  exact⟨rfl,.inr ⟨_,_,_,_,_,rfl,M',q1,q2,by lia⟩⟩
 case step =>
  rintro y c1 AY _ hy ⟨rfl,o,ia',ib',ac,bc,rfl,M',q1,q2,q3⟩
  exact JW (N:=N+y+1) c hk M' q1 q2 (by lia) (fun c q=>⟨rfl,.inl q⟩) fun c q=>by
   obtain⟨o,ia,ib,ac,bc,rfl,M,h1,h2,h3⟩:=q
   exact⟨⟨rfl,.inr ⟨_,_,_,_,_,rfl,M,h1,h2,by lia⟩⟩,rfl,_,_,_,_,_,rfl,M,h1,h2,by lia⟩
 case post =>
  rintro c1 ah ⟨rfl,⟨o,rest,rfl,hM⟩|⟨o,ia,ib,ac,bc,rfl,M',q1,q2,q3⟩⟩
  ·exact wpS_pure (D _ (.refl _) _ ⟨_,_,rfl,hM⟩)
  ·exact Ib c hk M' q1 q2 q3 D Y
theorem uH{st:SortSt}(C:nX prog w A s κ r P)(hk:kindOf st=κ)(UO:AllP P a)(UQ:AllP P b)(hA:Up r a 0 a.size)(hB:Up r b 0 b.size)(na:1<=a.size)(nb:1<=b.size)
  (h0:R r b 0<=R r a 0) (hg:∀ j,j<b.size->R r b j<=R r a (a.size-1)) (h:∀ out ah,cW r a b out->Mg st ah->Q out ah):wpS (model prog w) A E s (wW a b) Q st:=by
 have c:MC prog w A s κ r P a b:=⟨C,UO,UQ,hA,hB,fun i hi=>uS h0 (hA 0 i (bP _) (eu _) hi),hg⟩
 rw[yG]
 refine wpS_bind (wpS_lift (wpAny_rule ⟨rfl,?_⟩))
 refine wpS_bind (aM nb fun y0 e0=>?_)
 have M1:MI r a b #[y0] 0 1:=(MI.start hA hB).uF hA hB e0 fun _=>h0
 by_cases c1:1=b.size
 ·rw[if_pos (by simpa using c1)]
  exact wpS_pure (h _ _ (M1.GY hA hB c1) (.refl st))
 ·rw[if_neg (by simpa using c1)]
  by_cases c2:0+1=a.size
  ·rw[if_pos (by simpa using c2)]
   exact wpS_pure (h _ _ (c.last M1 c2) (.refl st))
  ·rw[if_neg (by simpa using c2)]
   refine wpS_bind (wpS_get ?_)
   refine wpS_bind (wpS_mono (wpS_forRange (I:=fun x c ah=>Mg st ah/\∃ out ia ib mg,c=(none,out,ia,ib,mg)/\MI r a b out ia ib/\ia+1<a.size/\ib<b.size/\x+1<=ia+ib)
    (Q:=fun c ah=>Mg st ah/\HS r a b c) ?step ?fin ⟨.refl st,_,_,_,_,rfl,M1,by lia,by lia,by lia⟩) ?post)
   case fin =>
    rintro c ah ⟨_,out,ia,ib,mg,rfl,M,h1,h2,h3⟩
    lia
   case post =>
    rintro c ah ⟨hm,out,rest,rfl,hM⟩
    exact wpS_pure (h out ah hM hm)
   case step =>
    rintro x c1 AY _ hx ⟨wx,out,ia,ib,mg,rfl,M,h1,h2,h3⟩
    exact JS (N:=x+1) c (wx.kind.trans hk) M h1 h2 h3 (fun ah g c q=>⟨wx.trans g,q⟩) fun ah g out ia ib mg M h1 h2 h3=>⟨wx.trans g,_,_,_,_,rfl,M,h1,h2,h3⟩
end
abbrev Ge(r:Value->Int)(x y:Keyed):Prop:=r y.1<=r x.1
structure MH(r:Value->Int)(a b out:Array Keyed)(na nb:Nat):Prop where
 ha:na<=a.size
 hb:nb<=b.size
 perm:out.toList.Perm (a.toList.drop na++b.toList.drop nb)
 down:out.toList.Pairwise (Ge r)
 ga:∀ x∈out.toList,∀ i,i<na->R r a i<=r x.1
 gb:∀ x∈out.toList,∀ j,j<nb->R r b j<=r x.1
section
variable {r:Value->Int}{a b out:Array Keyed}{na nb:Nat}
theorem sW{α:Type}{l:List α}{i:Nat}{x:α}(h0:0<i)(h:l[i-1]? = some x):l.drop (i-1)=x :: l.drop i:=by
 obtain⟨hi,e⟩:=lh.mp h
 rw[DS hi,e,show i-1+1=i by exact Nat.sub_add_cancel ‹_›]
theorem MH.sY(M:MH r a b out na nb)(hA:Up r a 0 a.size)(hB:Up r b 0 b.size)(h0:0<na){y:Keyed}(e:a[na-1]? = some y)(hl:0<nb->R r b (nb-1)<=R r a (na-1)):MH r a b (out.push y) (na-1) nb:=by
 have ey:=n5 (r:=r) e
 have ha:=M.ha
 have hb:=M.hb
 refine⟨by lia,M.hb,?_,?_,?_,?_⟩
 ·rw[oi,sW (x:=y) h0 (by simpa using e)]
  refine(M.perm.append_right [y]).trans ?_
  exact S4
 ·rw[oi,P9]
  refine⟨M.down,by simp,fun x hx z hz=>?_⟩
  have:z=y:=by simpa using hz
  subst this
  show r z.1<=r x.1
  rw[<- ey]
  exact M.ga x hx (na-1) (by exact D1 ‹_› DZ)
 ·intro x hx i hi
  rw[oi] at hx
  rcases eJ.mp hx with hx|hx
  ·exact M.ga x hx i (by walk_at "s4")
  ·have:x=y:=by simpa using hx
   subst this
   rw[<- ey]
   exact hA i (na-1) (eu _) (by exact ll ‹_›) (by lia)
 ·intro x hx j hj
  rw[oi] at hx
  rcases eJ.mp hx with hx|hx
  ·exact M.gb x hx j hj
  ·have:x=y:=by simpa using hx
   subst this
   rw[<- ey]
   exact uS (hB j (nb-1) (eu _) (by lia) (by lia)) (hl (by lia))
theorem MH.uF(M:MH r a b out na nb)(hA:Up r a 0 a.size)(hB:Up r b 0 b.size)(h0:0<nb){y:Keyed}(e:b[nb-1]? = some y)(hl:0<na->R r a (na-1)<=R r b (nb-1)):MH r a b (out.push y) na (nb-1):=by
 have ey:=n5 (r:=r) e
 have ha:=M.ha
 have hb:=M.hb
 refine⟨M.ha,by lia,?_,?_,?_,?_⟩
 ·rw[oi,sW (x:=y) h0 (by simpa using e)]
  refine(M.perm.append_right [y]).trans ?_
  rw[vF]
  exact List.Perm.append_left _ S4
 ·rw[oi,P9]
  refine⟨M.down,by simp,fun x hx z hz=>?_⟩
  have:z=y:=by simpa using hz
  subst this
  show r z.1<=r x.1
  rw[<- ey]
  exact M.gb x hx (nb-1) (by exact D1 ‹_› DZ)
 ·intro x hx i hi
  rw[oi] at hx
  rcases eJ.mp hx with hx|hx
  ·exact M.ga x hx i hi
  ·have:x=y:=by simpa using hx
   subst this
   rw[<- ey]
   exact uS (hA i (na-1) (eu _) (by lia) (by lia)) (hl (by lia))
 ·intro x hx j hj
  rw[oi] at hx
  rcases eJ.mp hx with hx|hx
  ·exact M.gb x hx j (by walk_at "s4")
  ·have:x=y:=by simpa using hx
   subst this
   rw[<- ey]
   exact hB j (nb-1) (eu _) (by exact ll ‹_›) (by lia)
theorem oE{xs:Array Keyed}{i n:Nat}(h:i<n)(hn:n<=xs.size):(xs.extract i n).reverse = #[xs[n-1]'(by lia)]++(xs.extract i (n-1)).reverse:=by
 obtain⟨k,rfl⟩:∃ k,n=i+(k+1):=⟨n-1-i,by lia⟩
 have e3:i+(k+1)-1=i+k:=by rfl
 simp only[e3]
 rw[gG (by assumption),Array.reverse_push]
theorem MH.AW(hA:Up r a 0 a.size)(hB:Up r b 0 b.size):∀ (k:Nat) {out:Array Keyed} {na p:Nat},MH r a b out na nb->p+k=na->(0<nb->∀ i,p<=i->i<na->R r b (nb-1)<=R r a i)->MH r a b (out++(a.extract p na).reverse) p nb
 |0,out,na,p,M,h1,h2=>by
  have:a.extract p na = #[]:=KS (by simp only[D2];lia)
  have e:na=p:=by walk_at "s1"
  subst e
  rw[this]
  simpa using M
 |k+1,out,na,p,M,h1,h2=>by
  have ha:=M.ha
  have e:a[na-1]? = some (a[na-1]'(by lia)):=getElem?_pos a (na-1) (by lia)
  have q:=M.sY hA hB (by lia) e fun hb=>h2 hb _ (by lia) (by lia)
  have z:=MH.AW hA hB k (p:=p) q (by lia) fun hb i qh oo=>h2 hb i qh (by walk_at "s4")
  rw[oE (by lia) ha,<- KW]
  simpa using z
theorem MH.AX(hA:Up r a 0 a.size)(hB:Up r b 0 b.size):∀ (k:Nat) {out:Array Keyed} {nb p:Nat},MH r a b out na nb->p+k=nb->(0<na->∀ i,p<=i->i<nb->R r a (na-1)<=R r b i)->MH r a b (out++(b.extract p nb).reverse) na p
 |0,out,nb,p,M,h1,h2=>by
  have:b.extract p nb = #[]:=KS (by simp only[D2];lia)
  have e:nb=p:=by walk_at "s1"
  subst e
  rw[this]
  simpa using M
 |k+1,out,nb,p,M,h1,h2=>by
  have hb:=M.hb
  have e:b[nb-1]? = some (b[nb-1]'(by lia)):=getElem?_pos b (nb-1) (by lia)
  have q:=M.uF hA hB (by lia) e fun ha=>h2 ha _ (by lia) (by lia)
  have z:=MH.AX hA hB k (p:=p) q (by lia) fun ha i qh oo=>h2 ha i qh (by walk_at "s4")
  rw[oE (by lia) hb,<- KW]
  simpa using z
theorem MH.whole(M:MH r a b out 0 0):cW r a b out.reverse:=by
 refine⟨?_,?_⟩
 ·have h:=M.perm
  rw[List.drop_zero,List.drop_zero] at h
  rw[Array.toList_reverse]
  exact(List.reverse_perm _).trans h
 ·rw[Array.toList_reverse,List.pairwise_reverse]
  exact M.down
theorem qC(x y:Array Keyed):(x++y.reverse).reverse=y++x.reverse:=by
 apply QX.mp
 simp
theorem MH.G0(M:MH r a b out na nb)(hA:Up r a 0 a.size)(hB:Up r b 0 b.size)(e:na=0):cW r a b (a.extract 0 na++b.extract 0 nb++out.reverse):=by
 subst e
 have z:=MH.AX hA hB nb (p:=0) M (by exact KG ..) fun ha=>absurd ha (rV _)
 have q:=z.whole
 rw[qC] at q
 have e2:a.extract 0 0 = #[]:=by simp
 rw[e2,Array.empty_append]
 exact q
theorem MH.GY(M:MH r a b out na nb)(hA:Up r a 0 a.size)(hB:Up r b 0 b.size)(e:nb=0):cW r a b (a.extract 0 na++b.extract 0 nb++out.reverse):=by
 subst e
 have z:=MH.AW hA hB na (p:=0) M (by exact KG ..) fun hb=>absurd hb (rV _)
 have q:=z.whole
 rw[qC] at q
 have e2:b.extract 0 0 = #[]:=by simp
 rw[e2,Tp]
 exact q
theorem MH.vX(M:MH r a b out na nb)(hA:Up r a 0 a.size)(hB:Up r b 0 b.size)(e:nb=1)(hl:∀ i,i<a.size->R r b 0<=R r a i):cW r a b (b.extract 0 nb++a.extract 0 na++out.reverse):=by
 subst e
 have ha:=M.ha
 have z:=MH.AW hA hB na (p:=0) M (by exact KG ..) fun _ i _ hi=>hl i (by walk_at "s1")
 have z2:=MH.AX hA hB 1 (p:=0) z (by exact KG ..) fun h=>absurd h (rV _)
 have q:=z2.whole
 rw[qC,qC] at q
 rw[KW]
 exact q
theorem MH.start:MH r a b #[] a.size b.size:=⟨bP _,bP _,by simp,by simp,fun x hx=>by simp at hx,fun x hx=>by simp at hx⟩
end
abbrev S1:=Option (Array Keyed) × Nat × Nat × Array Keyed × Nat
abbrev S2:=Option (Array Keyed) × Nat × Nat × Array Keyed × Nat × Nat
abbrev S3:=Option (Array Keyed) × Nat × Nat × Array Keyed × Nat × Nat × Nat
def CF(a b out:Array Keyed)(na nb:Nat):Array Keyed:=a.extract 0 na++b.extract 0 nb++out.reverse
def RQ(a b out:Array Keyed)(na nb:Nat):Array Keyed:=b.extract 0 nb++a.extract 0 na++out.reverse
def UR(a b:Array Keyed)(mg ac bc na nb:Nat)(out:Array Keyed):SM (ForInStep S3):=elem' a (na-1) >>= fun p =>
 if (na-1 == 0)=true then pure (.done (some (CF a b (out.push p) (na-1) nb),na-1,nb,out.push p,mg,ac,bc))
 else if (decide (ac<7) && decide (bc<7))=true then pure (.done (none,na-1,nb,out.push p,mg,ac,bc)) else pure (.yield (none,na-1,nb,out.push p,mg,ac,bc))
def oo(a b:Array Keyed)(mg ac bc na nb:Nat)(out:Array Keyed):SM (ForInStep S3):=elem' a (na-1) >>= fun p=>mR true p b 0 nb (nb-1) >>= fun x=>match x with
 |some k=>if nb-k>0 then
   if (k == 1)=true then pure (.done (some (RQ a b (out++(b.extract k nb).reverse) na k),na,k,out++(b.extract k nb).reverse,mg,ac,nb-k))
   else if (k == 0)=true then pure (.done (some (CF a b (out++(b.extract k nb).reverse) na k),na,k,out++(b.extract k nb).reverse,mg,ac,nb-k))
   else UR a b mg ac (nb-k) na k (out++(b.extract k nb).reverse)
  else UR a b mg ac (nb-k) na nb out
 |_=>pure (.done (some (CF a b out na nb),na,nb,out,mg,ac,bc))
def qh(a b:Array Keyed)(mg ac bc na nb:Nat)(out:Array Keyed):SM (ForInStep S3):=elem' b (nb-1) >>= fun p =>
 if (nb-1 == 1)=true then pure (.done (some (RQ a b (out.push p) na (nb-1)),na,nb-1,out.push p,mg,ac,bc)) else oo a b mg ac bc na (nb-1) (out.push p)
def AO(a b:Array Keyed)(mg ac bc na nb:Nat)(out:Array Keyed):SM (ForInStep S3):=bV mg >>= fun _=>elem' b (nb-1) >>= fun p=>mR false p a 0 na (na-1) >>= fun x=>match x with
 |some k=>if na-k>0 then
   if (k == 0)=true then pure (.done (some (CF a b (out++(a.extract k na).reverse) k nb),k,nb,out++(a.extract k na).reverse,mg,na-k,bc))
   else qh a b mg (na-k) bc k nb (out++(a.extract k na).reverse)
  else qh a b mg (na-k) bc na nb out
 |_=>pure (.done (some (CF a b out na nb),na,nb,out,mg,ac,bc))
def ZE(a b:Array Keyed)(_:Nat)(s:S3):SM (ForInStep S3) :=
 if s.2.2.2.2.1>1 then AO a b (s.2.2.2.2.1-1) s.2.2.2.2.2.1 s.2.2.2.2.2.2 s.2.1 s.2.2.1 s.2.2.2.1 else AO a b s.2.2.2.2.1 s.2.2.2.2.2.1 s.2.2.2.2.2.2 s.2.1 s.2.2.1 s.2.2.2.1
def ZF(a b:Array Keyed)(mg ac na nb:Nat)(out:Array Keyed):SM (ForInStep S2):=elem' a (na-1) >>= fun p =>
 if (na-1 == 0)=true then pure (.done (some (CF a b (out.push p) (na-1) nb),na-1,nb,out.push p,ac+1,0))
 else if ac+1 >= mg then pure (.done (none,na-1,nb,out.push p,ac+1,0)) else pure (.yield (none,na-1,nb,out.push p,ac+1,0))
def ZG(a b:Array Keyed)(mg bc na nb:Nat)(out:Array Keyed):SM (ForInStep S2):=elem' b (nb-1) >>= fun p =>
 if (nb-1 == 1)=true then pure (.done (some (RQ a b (out.push p) na (nb-1)),na,nb-1,out.push p,0,bc+1))
 else if bc+1 >= mg then pure (.done (none,na,nb-1,out.push p,0,bc+1)) else pure (.yield (none,na,nb-1,out.push p,0,bc+1))
def ZH(a b:Array Keyed)(mg:Nat)(_:Nat)(s:S2):SM (ForInStep S2):=elem' b (s.2.2.1-1) >>= fun pb=>elem' a (s.2.1-1) >>= fun pa=>lt' pb pa >>= fun x=>match x with
 |some w=>if w=true then ZF a b mg s.2.2.2.2.1 s.2.1 s.2.2.1 s.2.2.2.1 else ZG a b mg s.2.2.2.2.2 s.2.1 s.2.2.1 s.2.2.2.1
 |_=>pure (.done (some (CF a b s.2.2.2.1 s.2.1 s.2.2.1),s.2.1,s.2.2.1,s.2.2.2.1,s.2.2.2.2.1,s.2.2.2.2.2))
def ZI (a b:Array Keyed) (mg:Nat) (t:S2):SM (ForInStep S1):=(liftM (rule "list.sort.gallop"):SM Unit) >>= fun _ =>
 forIn [:a.size+b.size] ((none,t.2.1,t.2.2.1,t.2.2.2.1,mg+1,t.2.2.2.2.1,t.2.2.2.2.2):S3) (ZE a b) >>= fun u=>match u.1 with
 |some r=>pure (.done (some r,u.2.1,u.2.2.1,u.2.2.2.1,u.2.2.2.2.1))
 |none=>bV (u.2.2.2.2.1+1) >>= fun _=>pure (.yield (none,u.2.1,u.2.2.1,u.2.2.2.1,u.2.2.2.2.1+1))
def ZJ(a b:Array Keyed)(_:Nat)(s:S1):SM (ForInStep S1):=forIn [:a.size+b.size] ((none,s.2.1,s.2.2.1,s.2.2.2.1,0,0):S2) (ZH a b s.2.2.2.2) >>= fun t=>match t.1 with
 |some r=>pure (.done (some r,t.2.1,t.2.2.1,t.2.2.2.1,s.2.2.2.2))
 |none=>ZI a b s.2.2.2.2 t
def hiM (a b:Array Keyed):SM (Array Keyed):=(liftM (rule "list.sort.merge-hi"):SM Unit) >>= fun _=>elem' a (a.size-1) >>= fun y =>
 if (a.size-1 == 0)=true then pure (CF a b #[y] (a.size-1) b.size)
 else if (b.size == 1)=true then pure (RQ a b #[y] (a.size-1) b.size)
 else get >>= fun st=>forIn [:a.size+b.size] ((none,a.size-1,b.size,#[y],gallopOf st):S1) (ZJ a b) >>= fun t=>match t.1 with
 |some r=>pure r
 |none=>(liftM (unsupported (α:=Array Keyed) "internal:list.sort.merge-bound"):SM (Array Keyed))
set_option smartUnfolding false in
theorem yF:xR=hiM:=rfl
section
variable {prog:Program}{w:World}{A:Around}{E:Value->Shared->Prop}{s:Shared}{κ:SortKind}{r:Value->Int}{P:Value->Prop}{a b out:Array Keyed}{mg ac bc na nb N:Nat}{st:SortSt}{Q:ForInStep S3->SortSt->Prop}
def HD(r:Value->Int)(a b:Array Keyed)(Q:ForInStep S3->SortSt->Prop)(st:SortSt):Prop:=∀ o rest,cW r a b o->Q (.done (some o,rest)) st
def HY(r:Value->Int)(a b:Array Keyed)(N:Nat)(Q:ForInStep S3->SortSt->Prop)(st:SortSt):Prop :=
 ∀ o na nb mg ac bc,MH r a b o na nb->1<=na->2<=nb->na+nb<=N->Q (.done (none,na,nb,o,mg,ac,bc)) st/\Q (.yield (none,na,nb,o,mg,ac,bc)) st
theorem DK(c:MC prog w A s κ r P a b)(M:MH r a b out na nb)(h1:0<na)(lt:R r b (nb-1)<=R r a (na-1))(h2:2<=nb)(hN:na+nb<=N)(D:HD r a b Q st)(Y:HY r a b N Q st):wpS (model prog w) A E s (UR a b mg ac bc na nb out) Q st:=by
 have ha:=M.ha
 refine wpS_bind (aM (by lia) fun p e=>?_)
 have M2:=M.sY c.hA c.hB h1 e fun _=>lt
 by_cases z:na-1=0
 ·rw[if_pos (by simpa using z)]
  exact wpS_pure (D _ _ (M2.G0 c.hA c.hB z))
 ·rw[if_neg (by simpa using z)]
  have y:=Y _ _ _ mg ac bc M2 (by lia) h2 (by lia)
  split
  ·exact wpS_pure y.1
  ·exact wpS_pure y.2
theorem Jd(c:MC prog w A s κ r P a b)(hk:kindOf st=κ)(M:MH r a b out na nb)(h1:0<na)(h2:2<=nb)(hN:na+nb<=N)(D:HD r a b Q st)(Y:HY r a b N Q st):wpS (model prog w) A E s (oo a b mg ac bc na nb out) Q st:=by
 have ha:=M.ha
 have hb:=M.hb
 refine wpS_bind (aM (by lia) fun p e=>wpS_bind (dN c.C hk c.pb (c.pa.at e) (by lia) (by lia) (fun i j u v w=>c.hB i j u v (by lia)) fun l He Ct HC=>?_))
 have ra:=n5 (r:=r) e
 dsimp only
 have lt:0<l->R r b (l-1)<=R r a (na-1):=fun z=>by have:=Gs (Ct (l-1) (by exact D1 ‹_› DZ));rw[FI] at this;lia
 by_cases l0:nb-l>0
 ·have M5:=MH.AX c.hA c.hB (nb-l) (p:=l) M (by exact Kk ‹_›) fun _ i qh oo=>by have:=wI (HC i qh oo);rw[FI] at this;lia
  rw[if_pos l0]
  by_cases z4:l=1
  ·rw[if_pos (by simpa using z4)]
   exact wpS_pure (D _ _ (M5.vX c.hA c.hB z4 c.hl))
  ·rw[if_neg (by simpa using z4)]
   by_cases z6:l=0
   ·rw[if_pos (by simpa using z6)]
    exact wpS_pure (D _ _ (M5.GY c.hA c.hB z6))
   ·rw[if_neg (by simpa using z6)]
    exact DK c M5 h1 (lt (by lia)) (by lia) (by lia) D Y
 ·rw[if_neg l0]
  obtain rfl:l=nb:=by lia
  exact DK c M h1 (lt (by exact Tg ‹_›)) h2 hN D Y
theorem DN(c:MC prog w A s κ r P a b)(hk:kindOf st=κ)(M:MH r a b out na nb)(h1:0<na)(h2:2<=nb)(lt:R r a (na-1)<=R r b (nb-1))(hN:na+nb<=N)(D:HD r a b Q st)(Y:HY r a b N Q st):wpS (model prog w) A E s (qh a b mg ac bc na nb out) Q st:=by
 have hb:=M.hb
 refine wpS_bind (aM (by lia) fun p e=>?_)
 have M4:=M.uF c.hA c.hB (by exact Tg ‹_›) e fun _=>lt
 by_cases z:nb-1=1
 ·rw[if_pos (by simpa using z)]
  exact wpS_pure (D _ _ (M4.vX c.hA c.hB z c.hl))
 ·rw[if_neg (by simpa using z)]
  exact Jd c hk M4 h1 (by lia) (by lia) D Y
theorem Jx(c:MC prog w A s κ r P a b)(hk:kindOf st=κ)(M:MH r a b out na nb)(h1:0<na)(h2:2<=nb)(hN:na+nb<=N)(D:∀ ah,Mg st ah->HD r a b Q ah)(Y:∀ ah,Mg st ah->HY r a b N Q ah):wpS (model prog w) A E s (AO a b mg ac bc na nb out) Q st:=by
 have ha:=M.ha
 have hb:=M.hb
 have g:=(Mg.refl st).set mg
 refine wpS_bind (jl ?_)
 refine wpS_bind (aM (by lia) fun p e=>wpS_bind (dN c.C (g.kind.trans hk) c.pa (c.pb.at e) (by lia) (by exact D1 ‹_› DZ) (fun i j u v w=>c.hA i j u v (by lia)) fun k ZD CD EV=>?_))
 have rb:=n5 (r:=r) e
 dsimp only
 have lt:0<k->R r a (k-1)<=R r b (nb-1):=fun z=>by have:=CW (CD (k-1) (by exact D1 ‹_› DZ));rw[FI] at this;lia
 by_cases k0:na-k>0
 ·have M3:=MH.AW c.hA c.hB (na-k) (p:=k) M (by exact Kk ‹_›) fun _ i qh oo=>by have:=yV (EV i qh oo);rw[FI] at this;lia
  rw[if_pos k0]
  by_cases z:k=0
  ·rw[if_pos (by simpa using z)]
   exact wpS_pure (D _ g _ _ (M3.G0 c.hA c.hB z))
  ·rw[if_neg (by simpa using z)]
   exact DN c (g.kind.trans hk) M3 (by lia) h2 (lt (by lia)) (by lia) (D _ g) (Y _ g)
 ·rw[if_neg k0]
  obtain rfl:k=na:=by lia
  exact DN c (g.kind.trans hk) M h1 h2 (lt h1) hN (D _ g) (Y _ g)
def HI(r:Value->Int)(a b:Array Keyed)(N:Nat)(c:S2):Prop:=∃ na nb out ac bc,c=(none,na,nb,out,ac,bc)/\MH r a b out na nb/\1<=na/\2<=nb/\na+nb<=N
theorem Jt{Q:ForInStep S2->SortSt->Prop}(c:MC prog w A s κ r P a b)(M:MH r a b out na nb)(h1:0<na)(lt:R r b (nb-1)<=R r a (na-1))(h2:2<=nb)(hN:na+nb<=N+1)(D:∀ c,HS r a b c->Q (.done c) st)(Y:∀ c,HI r a b N c->Q (.done c) st/\Q (.yield c) st):wpS (model prog w) A E s (ZF a b mg ac na nb out) Q st:=by
 have ha:=M.ha
 refine wpS_bind (aM (by lia) fun p e=>?_)
 have M2:=M.sY c.hA c.hB h1 e fun _=>lt
 by_cases z:na-1=0
 ·rw[if_pos (by simpa using z)]
  exact wpS_pure (D _ ⟨_,_,rfl,M2.G0 c.hA c.hB z⟩)
 ·rw[if_neg (by simpa using z)]
  have y:=Y _ ⟨_,_,_,ac+1,0,rfl,M2,by lia,h2,by lia⟩
  split
  ·exact wpS_pure y.1
  ·exact wpS_pure y.2
theorem Jm{Q:ForInStep S2->SortSt->Prop}(c:MC prog w A s κ r P a b)(M:MH r a b out na nb)(h1:0<na)(lt:R r a (na-1)<=R r b (nb-1))(h2:2<=nb)(hN:na+nb<=N+1)(D:∀ c,HS r a b c->Q (.done c) st)(Y:∀ c,HI r a b N c->Q (.done c) st/\Q (.yield c) st):wpS (model prog w) A E s (ZG a b mg bc na nb out) Q st:=by
 have hb:=M.hb
 refine wpS_bind (aM (by lia) fun p e=>?_)
 have M2:=M.uF c.hA c.hB (by exact Tg ‹_›) e fun _=>lt
 by_cases z:nb-1=1
 ·rw[if_pos (by simpa using z)]
  exact wpS_pure (D _ ⟨_,_,rfl,M2.vX c.hA c.hB z c.hl⟩)
 ·rw[if_neg (by simpa using z)]
  have y:=Y _ ⟨_,_,_,0,bc+1,rfl,M2,h1,by lia,by lia⟩
  split
  ·exact wpS_pure y.1
  ·exact wpS_pure y.2
theorem JK{Q:ForInStep S2->SortSt->Prop}{x:Nat}(c:MC prog w A s κ r P a b)(hk:kindOf st=κ)(M:MH r a b out na nb)(h1:0<na)(h2:2<=nb)(hN:na+nb<=N+1)(D:∀ c,HS r a b c->Q (.done c) st)(Y:∀ c,HI r a b N c->Q (.done c) st/\Q (.yield c) st):wpS (model prog w) A E s (ZH a b mg x (none,na,nb,out,ac,bc)) Q st:=by
 have ha:=M.ha
 have hb:=M.hb
 refine wpS_bind (aM (show nb-1<b.size by lia) fun pb eb=>wpS_bind (aM (show na-1<a.size by lia) fun pa ea=>wpS_bind (sX c.C hk (c.pb.at eb) (c.pa.at ea) ?_)))
 have rb:R r b (nb-1)=r pb.1:=n5 eb
 have ra:R r a (na-1)=r pa.1:=n5 ea
 dsimp only
 by_cases hw:r pb.1<r pa.1
 ·rw[if_pos (decide_eq_true hw)]
  exact Jt c M h1 (by lia) h2 hN D Y
 ·rw[if_neg (by simpa using hw)]
  exact Jm c M h1 (by lia) h2 hN D Y
theorem JL{Q:ForInStep S1->SortSt->Prop}(c:MC prog w A s κ r P a b)(hk:kindOf st=κ)(M:MH r a b out na nb)(h1:0<na)(h2:2<=nb)(hN:na+nb<=N)(D:∀ ah,Mg st ah->∀ c,HS r a b c->Q (.done c) ah)
  (Y:∀ ah,Mg st ah->∀ out na nb mg,MH r a b out na nb->1<=na->2<=nb->na+nb<=N->Q (.yield (none,na,nb,out,mg)) ah):wpS (model prog w) A E s (ZI a b mg (none,na,nb,out,ac,bc)) Q st:=by
 refine wpS_bind (wpS_lift (wpAny_rule ⟨rfl,?_⟩))
 refine wpS_bind (wpS_mono (wpS_forRange (I:=fun _ c ah=>Mg st ah/\∃ na nb out mg ac bc,c=(none,na,nb,out,mg,ac,bc)/\MH r a b out na nb/\1<=na/\2<=nb/\na+nb<=N)
  (Q:=fun c ah=>Mg st ah/\(HS r a b c\/∃ na nb out mg ac bc,c=(none,na,nb,out,mg,ac,bc)/\MH r a b out na nb/\1<=na/\2<=nb/\na+nb<=N)) ?step ?fin ⟨.refl st,_,_,_,_,_,_,rfl,M,h1,h2,hN⟩) ?post)
 case fin =>
  rintro c ah ⟨hm,q⟩
  exact⟨hm,.inr q⟩
 case step =>
  rintro y c1 AY _ _ ⟨hm,na,nb,out,mg,ac,bc,rfl,M,h1,h2,hN⟩
  unfold ZE
  dsimp only
  split<;>exact Jx c (hm.kind.trans hk) M h1 h2 hN (fun ah g o rest hM=>⟨hm.trans g,.inl ⟨o,rest,rfl,hM⟩⟩) fun ah g o na nb mg ac bc M h1 h2 hN=>⟨⟨hm.trans g,.inr ⟨_,_,_,_,_,_,rfl,M,h1,h2,hN⟩⟩,hm.trans g,_,_,_,_,_,_,rfl,M,h1,h2,hN⟩
 case post =>
  rintro c ah ⟨hm,⟨o,rest,rfl,hM⟩|⟨na,nb,out,mg,ac,bc,rfl,M,h1,h2,hN⟩⟩
  ·exact wpS_pure (D _ hm _ ⟨_,_,rfl,hM⟩)
  ·exact wpS_bind (jl (wpS_pure (Y _ (hm.set _) _ _ _ _ M h1 h2 hN)))
theorem Jy{Q:ForInStep S1->SortSt->Prop}{x:Nat}(c:MC prog w A s κ r P a b)(hk:kindOf st=κ)(M:MH r a b out na nb)(h1:0<na)(h2:2<=nb)(hN:na+nb<=N+1)(D:∀ ah,Mg st ah->∀ c,HS r a b c->Q (.done c) ah)
  (Y:∀ ah,Mg st ah->∀ out na nb mg,MH r a b out na nb->1<=na->2<=nb->na+nb<=N->Q (.yield (none,na,nb,out,mg)) ah):wpS (model prog w) A E s (ZJ a b x (none,na,nb,out,mg)) Q st:=by
 have ha:=M.ha
 have hb:=M.hb
 refine wpS_bind (wpS_mono (wpS_forRange (I:=fun y c ah=>ah=st/\HI r a b (N+1-y) c) (Q:=fun c ah=>ah=st/\(HS r a b c\/HI r a b N c)) ?step ?fin ⟨rfl,_,_,_,_,_,rfl,M,h1,h2,hN⟩) ?post)
 case fin =>
  rintro c ah ⟨rfl,na',n9,o,ac,bc,rfl,M',q1,q2,q3⟩
  exact⟨rfl,.inr ⟨_,_,_,_,_,rfl,M',q1,q2,by lia⟩⟩
 case step =>
  rintro y c1 AY _ hy ⟨rfl,na',n9,o,ac,bc,rfl,M',q1,q2,q3⟩
  exact JK (N:=N-y) c hk M' q1 q2 (by lia) (fun c q=>⟨rfl,.inl q⟩) fun c q=>by
   obtain⟨na,nb,o,ac,bc,rfl,M,h1,h2,h3⟩:=q
   exact⟨⟨rfl,.inr ⟨_,_,_,_,_,rfl,M,h1,h2,by walk_at "s4"⟩⟩,rfl,_,_,_,_,_,rfl,M,h1,h2,by lia⟩
 case post =>
  rintro c1 ah ⟨rfl,⟨o,rest,rfl,hM⟩|⟨na,nb,o,ac,bc,rfl,M',q1,q2,q3⟩⟩
  ·exact wpS_pure (D _ (.refl _) _ ⟨_,_,rfl,hM⟩)
  ·exact JL c hk M' q1 q2 q3 D Y
theorem vD{st:SortSt}{a b:Array Keyed}{Q:Array Keyed->SortSt->Prop}(C:nX prog w A s κ r P)(hk:kindOf st=κ)(UO:AllP P a)(UQ:AllP P b)(hA:Up r a 0 a.size)(hB:Up r b 0 b.size)(na:1<=a.size)(nb:1<=b.size)
  (h0:R r b 0<=R r a 0) (hg:∀ j,j<b.size->R r b j<=R r a (a.size-1)) (h:∀ out ah,cW r a b out->Mg st ah->Q out ah):wpS (model prog w) A E s (xR a b) Q st:=by
 have c:MC prog w A s κ r P a b:=⟨C,UO,UQ,hA,hB,fun i hi=>uS h0 (hA 0 i (bP _) (eu _) hi),hg⟩
 rw[yF]
 refine wpS_bind (wpS_lift (wpAny_rule ⟨rfl,?_⟩))
 refine wpS_bind (aM (by exact D1 ‹_› DZ) fun y0 e0=>?_)
 have M1:MH r a b #[y0] (a.size-1) b.size:=MH.start.sY hA hB na e0 fun _=>hg _ (by exact D1 ‹_› DZ)
 by_cases c1:a.size-1=0
 ·rw[if_pos (by simpa using c1)]
  exact wpS_pure (h _ _ (M1.G0 hA hB c1) (.refl st))
 ·rw[if_neg (by simpa using c1)]
  by_cases c2:b.size=1
  ·rw[if_pos (by simpa using c2)]
   exact wpS_pure (h _ _ (M1.vX hA hB c2 c.hl) (.refl st))
  ·rw[if_neg (by simpa using c2)]
   refine wpS_bind (wpS_get ?_)
   refine wpS_bind (wpS_mono (wpS_forRange (I:=fun x c ah=>Mg st ah/\∃ na nb out mg,c=(none,na,nb,out,mg)/\MH r a b out na nb/\1<=na/\2<=nb/\na+nb<=a.size+b.size-x)
    (Q:=fun c ah=>Mg st ah/\HS r a b c) ?step ?fin ⟨.refl st,_,_,_,_,rfl,M1,by lia,by lia,by lia⟩) ?post)
   case fin =>
    rintro c ah ⟨_,na,nb,out,mg,rfl,M,h1,h2,h3⟩
    lia
   case post =>
    rintro c ah ⟨hm,out,rest,rfl,hM⟩
    exact wpS_pure (h out ah hM hm)
   case step =>
    rintro x c1 AY _ hx ⟨wx,na,nb,out,mg,rfl,M,h1,h2,h3⟩
    exact Jy (N:=a.size+b.size-(x+1)) c (wx.kind.trans hk) M h1 h2 (by lia) (fun ah g c q=>⟨wx.trans g,q⟩) fun ah g out na nb mg M h1 h2 h3=>⟨wx.trans g,_,_,_,_,rfl,M,h1,h2,h3⟩
end
def wr(p:Nat)(m:List Keyed)(n:Nat)(xs:Array Keyed):Array Keyed:=(m.zipIdx n).foldl (fun a (q:Keyed × Nat)=>a.setIfInBounds (p+q.2) q.1) xs
theorem zc(p:Nat):∀ (m:List Keyed) (n:Nat) (xs:Array Keyed),p+n+m.length<=xs.size->∀ k:Nat,(wr p m n xs)[k]? = if p+n<=k/\k<p+n+m.length then m[k-(p+n)]? else xs[k]?
 |[],n,xs,h,k=>by
  rw[if_neg (by simp only[QF];lia)];rfl
 |q :: m,n,xs,h,k=>by
  have ih:=zc p m (n+1) (xs.setIfInBounds (p+n) q) (by rw[Array.size_setIfInBounds];simp only[pT] at h;lia) k
  have e:wr p (q :: m) n xs=wr p m (n+1) (xs.setIfInBounds (p+n) q):=by unfold wr;rw[List.zipIdx_cons,QH]
  simp only[pT] at h ⊢
  rw[e,ih]
  by_cases h1:p+(n+1)<=k/\k<p+(n+1)+m.length
  ·rw[if_pos h1,if_pos (by lia),show k-(p+n)=(k-(p+(n+1)))+1 by lia,List.getElem?_cons_succ]
  ·rw[if_neg h1]
   by_cases h2:k=p+n
   ·subst h2
    rw[if_pos (by walk_at "s4"),KL,List.getElem?_cons_zero,Array.getElem?_setIfInBounds_self_of_lt (by lia)]
   ·rw[if_neg (by lia),Array.getElem?_setIfInBounds_ne (by walk_at "s1")]
theorem GK(h:p+m.length<=xs.size):(wr p m 0 xs).toList=xs.toList.take p++m++xs.toList.drop (p+m.length):=by
 have hl:xs.toList.length=xs.size:=by simp
 apply DT
 intro k
 have e:=zc p m 0 xs h k
 rw[FK] at e
 rw[og,e]
 by_cases h1:k<p
 ·rw[if_neg (by lia),vF,BH (by rw[mG];lia),List.getElem?_take_of_lt h1,og]
 ·by_cases h2:k<p+m.length
  ·rw[if_pos (by lia),vF,ub (by rw[mG];lia),mG,show min p xs.toList.length=p by lia,BH (by lia)]
  ·rw[if_neg (by lia),vF,ub (by rw[mG];lia),mG,show min p xs.toList.length=p by lia,ub (by lia),List.getElem?_drop,
    show p+m.length+(k-p-m.length)=k by lia,og]
theorem HW{p q:Nat}{xs:Array Keyed}(h:p<=q)(h2:q<=xs.size):xs.toList=xs.toList.take p++(xs.extract p q).toList++xs.toList.drop q:=by
 rw[To,SX]
 have e1:xs.toList.take p++(xs.toList.drop p).take (q-p)=xs.toList.take q:=by
  rw[<- Fu p (xs.toList.take q),List.take_take,List.drop_take,Nat.min_eq_left h]
 rw[e1,Fu]
theorem Er{p q:Nat}{m:List Keyed}{xs:Array Keyed}(h:p<=q)(h2:q<=xs.size)(hm:m.Perm (xs.extract p q).toList):(wr p m 0 xs).Perm xs:=by
 have hl:m.length=q-p:=by rw[hm.length_eq];simp;lia
 rw[Tn,GK (by lia),show p+m.length=q by lia]
 have e:=HW (xs:=xs) h h2
 exact(List.Perm.append_right _ (List.Perm.append_left _ hm)).trans (by rw[<- e])
def Runs(r:Value->Int)(xs:Array Keyed):List (Nat × Nat × Nat)->Nat->Nat->Prop
 |[],a,b=>a=b
 | (s,n,_) :: rest,a,b=>s=a/\1<=n/\Up r xs s (s+n)/\Runs r xs rest (s+n) b
section
variable {r:Value->Int}{xs ys:Array Keyed}
theorem Runs.le:∀ {ps:List (Nat × Nat × Nat)} {a b:Nat},Runs r xs ps a b->a+ps.length<=b
 |[],a,b,h=>by simp only[Runs] at h;simp;lia
 | (s,n,p) :: rest,a,b,h=>by
  obtain⟨rfl,h1,_,h3⟩:=h
  have:=Runs.le h3
  simp only[pT];lia
theorem Runs.append:∀ {ps qs:List (Nat × Nat × Nat)} {a b:Nat},Runs r xs (ps++qs) a b↔∃ c,Runs r xs ps a c/\Runs r xs qs c b
 |[],qs,a,b=>by simp[Runs]
 | (s,n,p) :: rest,qs,a,b=>by
  simp only[Qz,Runs]
  constructor
  ·rintro⟨h1,h2,h3,h4⟩
   obtain⟨c,h5,h6⟩:=Runs.append.mp h4
   exact⟨c,⟨h1,h2,h3,h5⟩,h6⟩
  ·rintro⟨c,⟨h1,h2,h3,h5⟩,h6⟩
   exact⟨h1,h2,h3,Runs.append.mpr ⟨c,h5,h6⟩⟩
theorem Up.congr(h:Up r xs a b)(e:∀ k,a<=k->k<b->ys[k]? = xs[k]?):Up r ys a b:=fun i j h1 h2 h3=>by
 rw[dY (e i h1 (by lia)),dY (e j (by lia) h3)];exact h i j h1 h2 h3
theorem Runs.congr:∀ {ps:List (Nat × Nat × Nat)} {a b:Nat},Runs r xs ps a b->(∀ k,a<=k->k<b->ys[k]? = xs[k]?)->Runs r ys ps a b
 |[],a,b,h,_=>h
 | (s,n,p) :: rest,a,b,h,e=>by
  obtain⟨rfl,h1,h2,h3⟩:=h
  have l:=h3.le
  exact⟨rfl,h1,h2.congr fun k u v=>e k u (by lia),Runs.congr h3 fun k u v=>e k (by walk_at "s4") v⟩
theorem Up.glue(h1:Up r xs a b)(h2:Up r xs b c)(h:∀ i j,a<=i->i<b->b<=j->j<c->R r xs i<=R r xs j):Up r xs a c:=fun i j u v w=>by
 by_cases hj:j<b
 ·exact h1 i j u v hj
 ·by_cases hi:i<b
  ·exact h i j u hi (by lia) w
  ·exact h2 i j (by lia) v w
end
section
variable {prog:Program}{w:World}{A:Around}{E:Value->Shared->Prop}{s:Shared}{κ:SortKind}{r:Value->Int}{P:Value->Prop}
theorem AllP.extract(h:AllP P xs)(i j:Nat):AllP P (xs.extract i j):=fun p hp=>h p (by
 rw[To,SX] at hp
 exact JJ (JY hp))
theorem fG(h:i+k<j)(hj:j<=xs.size):R r (xs.extract i j) k=R r xs (i+k):=by
 apply dY
 rw[QV,if_pos (by lia)]
theorem Up.extract(h:Up r xs i j)(kr:i<=j)(hj:j<=xs.size):Up r (xs.extract i j) 0 (xs.extract i j).size:=fun a b _ h2 h3=>by
 have e:(xs.extract i j).size=j-i:=by simp only[D2];lia
 rw[e] at h3
 rw[fG (by lia) hj,fG (by lia) hj]
 exact h _ _ (by lia) (by lia) (by lia)
theorem yR(hz:sa+na+nb<=xs.size)(hk:k<na)(hnb:n9<=nb)(hA:Up r xs sa (sa+na))(hB:Up r xs (sa+na) (sa+na+nb))
  (lo1:∀ i,i<k->R r xs (sa+i)<=R r xs (sa+na)) (ER:R r xs (sa+na)<R r xs (sa+k)) (qh:∀ i,i<n9->R r xs (sa+na+i)<R r xs (sa+na-1)) (oo:∀ i,n9<=i->i<nb->R r xs (sa+na-1)<=R r xs (sa+na+i))
  (hm:cW r (xs.extract (sa+k) (sa+na)) (xs.extract (sa+na) (sa+na+n9)) m) :
  Up r (wr (sa+k) m.toList 0 xs) sa (sa+na+nb)/\(wr (sa+k) m.toList 0 xs).Perm xs/\∀ j,j<sa\/sa+na+nb<=j->(wr (sa+k) m.toList 0 xs)[j]? = xs[j]? := by
 obtain⟨mp,mu⟩:=hm
 have eab:(xs.extract (sa+k) (sa+na)).toList++(xs.extract (sa+na) (sa+na+n9)).toList=(xs.extract (sa+k) (sa+na+n9)).toList:=by
  rw[<- Array.toList_append,Array.extract_append_extract,show min (sa+k) (sa+na)=sa+k by lia,show max (sa+na) (sa+na+n9)=sa+na+n9 by lia]
 rw[eab] at mp
 have ml:m.toList.length=na+n9-k:=by rw[mp.length_eq];simp;lia
 have hw:sa+k+m.toList.length<=xs.size:=by lia
 have get:=zc (sa+k) m.toList 0 xs (by lia)
 rw[FK,ml] at get
 -- every merged item is one of the lw'
 have mem:∀ (j:Nat) (p:Keyed),m.toList[j]? = some p->∃ i,sa+k<=i/\i<sa+na+n9/\r p.1=R r xs i:=fun j p e=>by
  have hp:p∈(xs.extract (sa+k) (sa+na+n9)).toList:=mp.mem_iff.mp (ui e)
  obtain⟨i,hi⟩:=List.getElem?_of_mem hp
  rw[og,QV] at hi
  split at hi
  ·exact⟨sa+k+i,by lia,by lia,(n5 hi).symm⟩
  ·cases hi
 have low:∀ i,sa+k<=i->i<sa+na+n9->R r xs (sa+na)<=R r xs i:=fun i h1 h2=>by
  by_cases h3:i<sa+na
  ·exact uS (An ER) (hA (sa+k) i (by lia) h1 h3)
  ·exact hB (sa+na) i (bP _) (by lia) (by lia)
 have high:∀ i,sa+k<=i->i<sa+na+n9->R r xs i<=R r xs (sa+na-1):=fun i h1 h2=>by
  by_cases h3:i<sa+na
  ·exact hA i (sa+na-1) (by lia) (by lia) (by lia)
  ·have:=qh (i-(sa+na)) (by lia)
   rw[show sa+na+(i-(sa+na))=i by lia] at this
   lia
 have ZK:∀ j,j<na+n9-k->∃ i,sa+k<=i/\i<sa+na+n9/\R r (wr (sa+k) m.toList 0 xs) (sa+k+j)=R r xs i:=fun j hj=>by
  have e:=get (sa+k+j)
  rw[if_pos (by lia),show sa+k+j-(sa+k)=j by lia] at e
  have vt:j<m.toList.length:=by lia
  obtain⟨i,h1,h2,h3⟩:=mem j m.toList[j] (vE vt)
  rw[vE vt] at e
  exact⟨i,h1,h2,(n5 e).trans h3⟩
 have HG:∀ j,j<sa+k\/sa+na+n9<=j->(wr (sa+k) m.toList 0 xs)[j]? = xs[j]? := fun j hj=>by
  have e:=get j
  rw[if_neg (by lia)] at e
  exact e
 refine⟨?_,Er (by lia) (by lia) mp,fun j hj=>HG j (by lia)⟩
 have U1:Up r (wr (sa+k) m.toList 0 xs) sa (sa+k):=Up.congr (xs:=xs) (fun i j h1 h2 h3=>hA i j h1 h2 (by lia)) fun j h1 h2=>HG j (.inl h2)
 have U2:Up r (wr (sa+k) m.toList 0 xs) (sa+k) (sa+na+n9):=fun i j h1 h2 h3=>by
  have ei:=get i
  have ej:=get j
  rw[if_pos (by lia)] at ei ej
  have li:i-(sa+k)<m.toList.length:=by lia
  have lj:j-(sa+k)<m.toList.length:=by lia
  rw[vE li] at ei
  rw[vE lj] at ej
  rw[n5 ei,n5 ej]
  by_cases kr:i=j
  ·subst kr;exact rX _
  ·exact(I0.mp mu) _ _ li lj (by lia)
 have U3:Up r (wr (sa+k) m.toList 0 xs) (sa+na+n9) (sa+na+nb):=Up.congr (xs:=xs) (fun i j h1 h2 h3=>hB i j (by lia) h2 h3) fun j h1 h2=>HG j (.inr h1)
 refine(U1.glue U2 fun i j h1 h2 h3 h4=>?_).glue U3 fun i j h1 h2 h3 h4=>?_
 ·obtain⟨q,q1,q2,q3⟩:=ZK (j-(sa+k)) (by lia)
  rw[show sa+k+(j-(sa+k))=j by lia] at q3
  rw[q3,dY (HG i (.inl h2))]
  have:=lo1 (i-sa) (by lia)
  rw[show sa+(i-sa)=i by lia] at this
  exact uS this (low q q1 q2)
 ·have e2:=oo (j-(sa+na)) (by lia) (by lia)
  rw[show sa+na+(j-(sa+na))=j by lia] at e2
  rw[dY (HG j (.inr h3))]
  by_cases hi:i<sa+k
  ·rw[dY (HG i (.inl hi))]
   have:=lo1 (i-sa) (by lia)
   rw[show sa+(i-sa)=i by lia] at this
   have:=low (sa+na-1) (by lia) (by lia)
   lia
  ·obtain⟨q,q1,q2,q3⟩:=ZK (i-(sa+k)) (by lia)
   rw[show sa+k+(i-(sa+k))=i by lia] at q3
   rw[q3]
   exact uS (high q q1 q2) e2
structure St(r:Value->Int)(κ:SortKind)(eL:Array Keyed)(st:SortSt)(ps:List (Nat × Nat × Nat))(lo:Nat):Prop where
 kind:kindOf st=κ
 failed:failedOf st=none
 perm:(arrOf st).Perm eL
 pend:pendingOf st=ps.toArray
 runs:Runs r (arrOf st) ps 0 lo
theorem St.size{st:SortSt}{ps:List (Nat × Nat × Nat)}{lo:Nat}(h:St r κ eL st ps lo):(arrOf st).size=eL.size:=h.perm.size_eq
theorem Cg{ps:List (Nat × Nat × Nat)}(h:i+1<ps.length):∃ pre x y post,ps=pre++x :: y :: post/\pre.length=i:=by
 refine⟨ps.take i,ps[i],ps[i+1],ps.drop (i+2),?_,by rw[mG];lia⟩
 rw[<- DS (by lia),<- DS (by lia),Fu]
theorem nY{st:SortSt}{ps:List (Nat × Nat × Nat)}{lo i:Nat}(C:nX prog w A s κ r P)(hP:AllP P eL)(H:St r κ eL st ps lo)(B9:lo<=eL.size)(hi:i+1<ps.length)
  (h:∀ ah ip,St r κ eL ah ip lo->ip.length+1=ps.length->ip≠[]->(∀ k,lo<=k->(arrOf ah)[k]? = (arrOf st)[k]?)->Q true ah):wpS (model prog w) A E s (mergeAt' i) Q st:=by
 obtain⟨pre,⟨sa,na,pa⟩,⟨sb,nb,pb⟩,post,rfl,B8⟩:=Cg hi
 have hz:=H.size
 have qa:AllP P (arrOf st):=hP.perm H.perm
 obtain⟨c,ZL,hr2⟩:=Runs.append.mp H.runs
 obtain⟨rfl,n1,u1,rfl,n2,u2,ZM⟩:=hr2
 have le3:=ZM.le
 have le1:=ZL.le
 -- the new pending list
 have gy':((pendingOf st).setIfInBounds i (sa,na+nb,pa)).eraseIdxIfInBounds (i+1)=(pre++(sa,na+nb,pa) :: post).toArray:=by
  rw[H.pend]
  apply QX.mp
  simp[<- B8,List.eraseIdx_append_of_length_le]
 have new:∀ (xs:Array Keyed) (g:Nat),xs.Perm (arrOf st)->(∀ j,j<sa\/sa+na+nb<=j->xs[j]? = (arrOf st)[j]?)->Up r xs sa (sa+(na+nb)) ->
   St r κ eL (SortSt.mk' (kindOf st) xs (pre++(sa,na+nb,pa) :: post).toArray g (failedOf st)) (pre++(sa,na+nb,pa) :: post) lo:=fun xs g hp ho hu =>
  ⟨H.kind,H.failed,hp.trans H.perm,rfl,Runs.append.mpr ⟨sa,ZL.congr fun k _ hk=>ho k (.inl hk),rfl,by lia,hu,by
   rw[show sa+(na+nb)=sa+na+nb by lia]
   exact ZM.congr fun k hk _=>ho k (.inr hk)⟩⟩
 have len:(pre++(sa,na+nb,pa) :: post).length+1=(pre++(sa,na,pa) :: (sa+na,nb,pb) :: post).length:=by simp;lia
 have e0:(pendingOf st)[i]? = some (sa,na,pa):=by rw[H.pend,<- B8];simp
 have e1:(pendingOf st)[i+1]? = some (sa+na,nb,pb):=by rw[H.pend,<- B8];simp
 refine wpS_bind (wpS_get ?_)
 rw[e0,e1]
 dsimp only
 refine wpS_bind (wpS_modify (f:=fun _=>SortSt.mk' (kindOf st) (arrOf st) (((pendingOf st).setIfInBounds i (sa,na+nb,pa)).eraseIdxIfInBounds (i+1)) (gallopOf st) (failedOf st)) ?_)
 rw[gy']
 refine wpS_bind (aM (xs:=arrOf st) (by lia) fun kb ZN=>wpS_bind (dN (arr:=arrOf st) C H.kind qa (qa.at ZN) (by lia) (by lia) u1 fun k ZD CD EV=>?_))
 have rkb:=n5 (r:=r) ZN
 dsimp only
 by_cases z:na-k=0
 ·rw[if_pos (by simpa using z)]
  refine wpS_pure (h _ _ (new (arrOf st) (gallopOf st) (Array.Perm.refl _) (fun _ _=>rfl) ?_) len (by simp) fun _ _=>rfl)
  rw[show sa+(na+nb)=sa+na+nb by lia]
  refine u1.glue u2 fun i j h1 h2 h3 h4=>?_
  have:=CW (CD (i-sa) (by lia))
  rw[show sa+(i-sa)=i by lia] at this
  have:=u2 (sa+na) j (bP _) h3 h4
  lia
 ·rw[if_neg (by simpa using z)]
  refine wpS_bind (aM (xs:=arrOf st) (by lia) fun ka ZO=>wpS_bind (dN (arr:=arrOf st) C H.kind qa (qa.at ZO) (by lia) (by lia) u2 fun l He Ct HC=>?_))
  have rka:=n5 (r:=r) ZO
  rw[show sa+k+(na-k)-1=sa+na-1 by lia] at rka
  dsimp only
  by_cases z2:l=0
  ·rw[if_pos (by simpa using z2)]
   refine wpS_pure (h _ _ (new (arrOf st) (gallopOf st) (Array.Perm.refl _) (fun _ _=>rfl) ?_) len (by simp) fun _ _=>rfl)
   rw[show sa+(na+nb)=sa+na+nb by lia]
   refine u1.glue u2 fun i j h1 h2 h3 h4=>?_
   have:=wI (HC (j-(sa+na)) (by lia) (by lia))
   rw[show sa+na+(j-(sa+na))=j by lia] at this
   have:=u1 i (sa+na-1) h1 (by lia) (by lia)
   lia
  ·rw[if_neg (by simpa using z2)]
   have lo1:∀ i,i<k->R r (arrOf st) (sa+i)<=R r (arrOf st) (sa+na):=fun i hi=>by have:=CW (CD i hi);lia
   have ER:R r (arrOf st) (sa+na)<R r (arrOf st) (sa+k):=by have:=yV (EV k (bP _) (by lia));lia
   have qh:∀ i,i<l->R r (arrOf st) (sa+na+i)<R r (arrOf st) (sa+na-1):=fun i hi=>by have:=Gs (Ct i hi);lia
   have oo:∀ i,l<=i->i<nb->R r (arrOf st) (sa+na-1)<=R r (arrOf st) (sa+na+i):=fun i h1 h2=>by have:=wI (HC i h1 h2);lia
   have sx:((arrOf st).extract (sa+k) (sa+na)).size=na-k:=by simp only[D2];lia
   have sy:((arrOf st).extract (sa+na) (sa+na+l)).size=l:=by simp only[D2];lia
   have ux:Up r ((arrOf st).extract (sa+k) (sa+na)) 0 ((arrOf st).extract (sa+k) (sa+na)).size:=Up.extract (fun i j h1 h2 h3=>u1 i j (by lia) h2 h3) (by lia) (by lia)
   have uy:Up r ((arrOf st).extract (sa+na) (sa+na+l)) 0 ((arrOf st).extract (sa+na) (sa+na+l)).size:=Up.extract (fun i j h1 h2 h3=>u2 i j h1 h2 (by lia)) (by lia) (by lia)
   have ZP:R r ((arrOf st).extract (sa+na) (sa+na+l)) 0<=R r ((arrOf st).extract (sa+k) (sa+na)) 0:=by
    rw[fG (by lia) (by lia),fG (by lia) (by lia)]
    exact An ER
   have ZQ:∀ j,j<((arrOf st).extract (sa+na) (sa+na+l)).size->R r ((arrOf st).extract (sa+na) (sa+na+l)) j<=R r ((arrOf st).extract (sa+k) (sa+na)) (((arrOf st).extract (sa+k) (sa+na)).size-1):=fun j hj=>by
    rw[sx,fG (by lia) (by lia),fG (by lia) (by lia),show sa+k+(na-k-1)=sa+na-1 by lia]
    exact An (qh j (by lia))
   have fin:∀ out ah,cW r ((arrOf st).extract (sa+k) (sa+na)) ((arrOf st).extract (sa+na) (sa+na+l)) out->Mg (SortSt.mk' (kindOf st) (arrOf st) (pre++(sa,na+nb,pa) :: post).toArray (gallopOf st) (failedOf st)) ah ->
     Q true (SortSt.mk' (kindOf ah) (wr (sa+k) out.toList 0 (arrOf ah)) (pendingOf ah) (gallopOf ah) (failedOf ah)):=fun out ah hm hg=>by
    obtain⟨g,rfl⟩:=hg
    obtain⟨m1,m2,m3⟩:=yR (by lia) (by lia) He u1 u2 lo1 ER qh oo hm
    exact h _ _ (new _ g m2 m3 (by rw[show sa+(na+nb)=sa+na+nb by lia];exact m1)) len (by simp) fun k hk=>m3 k (.inr (by lia))
   have fin2:∀ out ah,cW r ((arrOf st).extract (sa+k) (sa+na)) ((arrOf st).extract (sa+na) (sa+na+l)) out->Mg (SortSt.mk' (kindOf st) (arrOf st) (pre++(sa,na+nb,pa) :: post).toArray (gallopOf st) (failedOf st)) ah ->
     failedOf ah=none:=fun out ah _ hg=>by
    obtain⟨g,rfl⟩:=hg
    exact H.failed
   by_cases z3:na-k<=l
   ·rw[if_pos z3]
    refine wpS_bind (uH (a:=(arrOf st).extract (sa+k) (sa+na)) (b:=(arrOf st).extract (sa+na) (sa+na+l)) C H.kind (qa.extract _ _) (qa.extract _ _) ux uy (by lia) (by lia) ZP ZQ fun out ah hm hg=>?_)
    refine wpS_bind (wpS_modify (wpS_bind (wpS_get ?_)))
    have f:=fin out ah hm hg
    have f2:=fin2 out ah hm hg
    refine wpS_pure ?_
    show Q (failedOf ah).isNone _
    rw[f2]
    exact f
   ·rw[if_neg z3]
    refine wpS_bind (vD (a:=(arrOf st).extract (sa+k) (sa+na)) (b:=(arrOf st).extract (sa+na) (sa+na+l)) C H.kind (qa.extract _ _) (qa.extract _ _) ux uy (by lia) (by lia) ZP ZQ fun out ah hm hg=>?_)
    refine wpS_bind (wpS_modify (wpS_bind (wpS_get ?_)))
    have f:=fin out ah hm hg
    have f2:=fin2 out ah hm hg
    refine wpS_pure ?_
    show Q (failedOf ah).isNone _
    rw[f2]
    exact f
theorem Runs.modify(hf:∀ x,(f x).1=x.1/\(f x).2.1=x.2.1):∀ {ps:List (Nat × Nat × Nat)} {i a b:Nat},Runs r xs ps a b->Runs r xs (ps.modify i f) a b
 |[],_,_,_,h=>by simpa using h
 | (s,n,p) :: rest,0,a,b,h=>by
  obtain⟨h1,h2⟩:=hf (s,n,p)
  rw[List.modify_zero_cons]
  have e:f (s,n,p)=(s,n,(f (s,n,p)).2.2):=Prod.ext h1 (Prod.ext h2 rfl)
  rw[e]
  exact h
 | (s,n,p) :: rest,i+1,a,b,h=>by
  rw[List.modify_succ_cons]
  obtain⟨h1,h2,h3,h4⟩:=h
  exact⟨h1,h2,h3,Runs.modify hf h4⟩
theorem St.win{st ah:SortSt}{ps:List (Nat × Nat × Nat)}{lo hi:Nat}(H:St r κ eL st ps lo)(hw:lS lo hi st ah):St r κ eL ah ps lo :=
 ⟨hw.kind.trans H.kind,hw.failed.trans H.failed,hw.perm.trans H.perm,hw.pend.trans H.pend,H.runs.congr fun k _ hk=>hw.out k (.inl hk)⟩
theorem wpS_sortRuns{st:SortSt}(C:nX prog w A s κ r P)(hk:kindOf st=κ)(hP:AllP P (arrOf st))(hp:pendingOf st = #[])(hf:failedOf st=none)
  (h:∀ ah,(arrOf ah).Perm (arrOf st)->failedOf ah=none->Up r (arrOf ah) 0 (arrOf st).size->Q () ah):wpS (model prog w) A E s sortRuns' Q st:=by
 rw[sortRuns'_eq]
 refine wpS_bind (wpS_get ?_)
 dsimp only
 generalize ha:arrOf st=eL at *
 have H0:St r κ eL st [] 0:=⟨hk,hf,by rw[ha],by rw[hp],rfl⟩
 refine wpS_bind (wpS_mono (wpS_forRange (I:=fun x c ah=>∃ ps lo,c=(none,lo)/\St r κ eL ah ps lo/\lo<=eL.size/\x<=lo)
  (Q:=fun c ah=>∃ ps,c=(none,eL.size)/\St r κ eL ah ps eL.size) ?step ?fin ⟨[],0,rfl,H0,eu _,bP _⟩) ?post)
 case fin =>
  rintro c ah ⟨ps,lo,rfl,H,h1,h2⟩
  have:lo=eL.size:=by lia
  subst this
  exact⟨ps,rfl,H⟩
 case post =>
  rintro c ah ⟨ps,rfl,H⟩
  dsimp only
  have l0:=H.runs.le
  refine wpS_bind (wpS_mono (wpS_forRange (I:=fun y c ah=>c=(none,())/\∃ ip,St r κ eL ah ip eL.size/\ip.length+y<=eL.size)
   (Q:=fun c ah=>c=(none,())/\∃ ip,St r κ eL ah ip eL.size/\ip.length<=1) ?gA' ?RT ⟨rfl,ps,H,by lia⟩) ?gB')
  case RT =>
   rintro c ah ⟨rfl,ip,H',hl⟩
   exact⟨rfl,ip,H',by lia⟩
  case gB' =>
   rintro c ah ⟨rfl,ip,H',hl⟩
   refine wpS_pure (h ah H'.perm H'.failed ?_)
   have q:=H'.runs
   match ip,hl,q with
   |[],_,q =>
    have q:0=eL.size:=q
    intro i j _ _ hj
    lia
   |[(s',n',p')],_,q =>
    obtain⟨rfl,_,hu,e⟩:=q
    have e:0+n'=eL.size:=e
    rw[<- e]
    exact hu
  case gA' =>
   rintro y c AY _ hy ⟨rfl,ip,H',hl⟩
   refine wpS_bind (wpS_get ?_)
   have ep:(pendingOf AY).size=ip.length:=by rw[H'.pend];simp
   by_cases z:(pendingOf AY).size<=1
   ·rw[if_pos z]
    exact wpS_pure ⟨rfl,ip,H',by lia⟩
   ·rw[if_neg z]
    refine wpS_bind (nY C hP H' (bP _) (by(repeat' split)<;>lia) fun ve ps2 H2 hlen _ _=>?_)
    rw[if_neg (by simp)]
    exact wpS_pure ⟨rfl,ps2,H2,by lia⟩
 case step =>
  rintro x c AY _ hx ⟨ps,lo,rfl,H,h1,h2⟩
  dsimp only
  by_cases z:lo >= eL.size
  ·rw[if_pos z]
   have:lo=eL.size:=by lia
   subst this
   exact wpS_pure ⟨ps,rfl,H⟩
  ·rw[if_neg z]
   have hz:=H.size
   refine wpS_bind (wpS_countRun C H.kind (hP.perm H.perm) (by lia) (by lia) fun m ve hw wx oq hu=>?_)
   have H2:=H.win hw
   dsimp only
   refine Ez (K:=?K) ?pk fun key=>?main
   case main =>
    by_cases z2:m<minRun' eL.size eL.size 0
    ·rw[if_pos z2]
     refine wpS_bind (wpS_lift (wpAny_rule ⟨rfl,?_⟩))
     refine wpS_bind (wpS_binarySort C H2.kind (hP.perm H2.perm) (by clear key;have:=H2.size;lia) (by clear key;lia) hu fun vi ZR UT=>?_)
     have H3:=H2.win ZR
     rw[if_neg (by simp)]
     have b1:1<=min (eL.size-lo) (minRun' eL.size eL.size 0):=by clear key;lia
     have b2:lo+min (eL.size-lo) (minRun' eL.size eL.size 0)<=eL.size:=by clear key;lia
     clear ZR
     generalize min (eL.size-lo) (minRun' eL.size eL.size 0)=nn at *
     revert nn vi
     exact key
    ·rw[if_neg z2]
     exact key _ H2 _ hu wx (by lia)
   intro vi H3 nn UT b1 b2
   refine wpS_bind (wpS_get ?_)
   have push:∀ (ah:SortSt) (ip:List (Nat × Nat × Nat)),St r κ eL ah ip lo->Up r (arrOf ah) lo (lo+nn)->∃ ps EJ,((none:Option Unit),lo+nn)=(none,EJ)/\St r κ eL (setPending ah ((pendingOf ah).push (lo,nn,0))) ps EJ/\EJ<=eL.size/\x+1<=EJ:=fun ah ip G u =>
    ⟨ip++[(lo,nn,0)],lo+nn,rfl,⟨G.kind,G.failed,G.perm,by show(pendingOf ah).push _=_;rw[G.pend];simp,Runs.append.mpr ⟨lo,G.runs,rfl,b1,u,rfl⟩⟩,b2,by lia⟩
   cases hb:(pendingOf vi).back? with
   |none =>
    dsimp only
    exact wpS_bind (wpS_modify (wpS_pure (push vi ps H3 UT)))
   |some t =>
    obtain⟨s1,n1,p1⟩:=t
    dsimp only
    generalize power' eL.size (2*s1+n1) (2*s1+n1+n1+nn) eL.size=pw
    refine wpS_bind (wpS_mono (wpS_forRange (I:=fun y c ah=>c=(none,())/\∃ ip,St r κ eL ah ip lo/\Up r (arrOf ah) lo (lo+nn))
     (Q:=fun c ah=>c=(none,())/\∃ ip,St r κ eL ah ip lo/\Up r (arrOf ah) lo (lo+nn)) ?_ (fun _ _ q=>q) ⟨rfl,ps,H3,UT⟩) ?_)
    ·rintro y c tF _ hy ⟨rfl,ip,H4,Nw⟩
     refine wpS_bind (wpS_get ?_)
     have ep:(pendingOf tF).size=ip.length:=by rw[H4.pend];simp
     by_cases z3:(pendingOf tF).size>1
     ·rw[if_pos z3]
      have e4:(pendingOf tF)[(pendingOf tF).size-2]? = some ((pendingOf tF)[(pendingOf tF).size-2]'(by lia)):=getElem?_pos _ _ (by lia)
      rw[e4]
      generalize (pendingOf tF)[(pendingOf tF).size-2]'(by lia)=tt
      obtain⟨t1,t2,gC'⟩:=tt
      dsimp only
      by_cases z4:gC'<=pw
      ·rw[if_pos z4]
       exact wpS_pure ⟨rfl,ip,H4,Nw⟩
      ·rw[if_neg z4]
       refine wpS_bind (nY C hP H4 h1 (by lia) fun D9 ps5 H5 hlen _ AZ=>?_)
       rw[if_neg (by simp)]
       exact wpS_pure ⟨rfl,ps5,H5,Nw.congr fun k hk _=>AZ k hk⟩
     ·rw[if_neg z3]
      exact wpS_pure ⟨rfl,ip,H4,Nw⟩
    ·rintro c tF ⟨rfl,ip,H4,Nw⟩
     dsimp only
     refine wpS_bind (wpS_modify (wpS_bind (wpS_modify (wpS_pure ?_))))
     refine push _ (ip.modify (ip.length-1) fun x=>(x.1,x.2.1,pw)) ⟨H4.kind,H4.failed,H4.perm,?_,Runs.modify (f:=fun x=>(x.1,x.2.1,pw)) (fun _=>⟨rfl,rfl⟩) H4.runs⟩ Nw
     show(pendingOf tF).modify ((pendingOf tF).size-1) (fun x=>(x.1,x.2.1,pw))=_
     rw[H4.pend]
     simp
def gh (h:Heap) (a:Addr) (vs:List Value):Heap:=((h.update a (Obj.mapSeq fun _=>#[])).push (seqObj "tuple" vs.toArray 0)).push (seqObj "list" #[] 0)
theorem uI(hb:b≠a)(fi:b<h.objs.size):(gh h a vs).get? b=h.get? b:=by
 unfold gh
 rw[QN _ _ _ (by rw[size_push',QQ];exact eM (zS fi)),
  QN _ _ _ (by rw[QQ];exact eM fi),Heap.get?_update_ne _ _ _ _ hb]
theorem vh(hp:xs.Perm (pairsOf vs))(hs:Up r xs 0 vs.length):(xs.map (·.2)).toList.Perm vs/\(xs.map (·.2)).toList.Pairwise fun x y=>r x<=r y:=by
 have hl:xs.toList.Perm (vs.zip vs):=by rw[<- pairsOf_toList];exact Tn.mp hp
 have NC:∀ p,p∈xs.toList->p.1=p.2:=fun p gd=>(mem_zip_self (hl.mem_iff.mp gd)).1
 have e:(xs.map (·.2)).toList=xs.toList.map (·.1):=by
  rw[Array.toList_map];exact FC fun p gd=>(NC p gd).symm
 have fN:xs.size=vs.length:=by rw[hp.size_eq,pairsOf_size]
 rw[e]
 refine⟨?_,?_⟩
 ·have h1:=hl.map (·.1)
  rwa[List.map_fst_zip (bP _)] at h1
 ·rw[I0]
  intro i j hi hj kr
  have mw:i<xs.size:=by simpa using hi
  have vt:j<xs.size:=by simpa using hj
  have h1:=hs i j (eu _) (ll kr) (by lia)
  rw[Ht mw,Ht vt] at h1
  simpa using h1
theorem sG {F:PySem.Fin->Shared->Prop} (ho:s.heap.get? a=some (seqObj "list" vs.toArray n)) (fN:vs.length<=sizeLine) (hP:∀ v∈vs,P v)
  (hk:2<=vs.length->∀ (Q:SortKind->Shared->Prop),Q κ { s with heap:=gh s.heap a vs }->wpAny (model prog w) A (keyKind' vs.toArray) Q E { s with heap:=gh s.heap a vs })
  (C:2<=vs.length->nX prog w A { s with heap:=gh s.heap a vs } κ r P)
  (h:∀ out:Array Value,out.toList.Perm vs->(out.toList.Pairwise fun x y=>r x<=r y)->F (.done (.ret .none)) { s with heap:=sortedHeap s.heap a vs out }) :
  wpAny (model prog w) A (Builtin.«list.sort» ⟨[.ref a],[]⟩) F E s:=by
 rw[list_sort_plain]
 have ha:a<s.heap.objs.size:=dk ho
 refine ai (listItems_at ho rfl ?_)
 refine ai (listUpdate_at ho rfl ?_ (by simpa using fN) (eu _))
 obtain⟨e1,sj⟩:∃ e1,(s.heap.update a (Obj.mapSeq fun _=>#[])).get? a=some (seqObj "list" #[] e1):=⟨_,get?_update_seq ho (fun _=>#[])⟩
 refine ai (seqEpoch_at sj rfl ?_)
 refine ai (wpAny_newTuple ?_ (by simpa using fN))
 refine ai (wpAny_newList ?_ (eu _))
 refine wpAny_holding ?_
 have RV:(gh s.heap a vs).get? a=some (seqObj "list" #[] e1):=by
  unfold gh
  rw[QN _ _ _ (by rw[size_push',QQ];exact eM (zS ha)),QN _ _ _ (by rw[QQ];exact eM ha)]
  exact sj
 show wpAny (model prog w) A _ F E { s with heap:=gh s.heap a vs }
 dsimp only
 have hvz:vs.toArray.size=vs.length:=by simp
 have fin:∀ ah:SortSt,(arrOf ah).Perm (pairsOf vs)->Up r (arrOf ah) 0 vs.length->F (.done (.ret .none)) { s with heap:=sortedHeap s.heap a vs ((arrOf ah).map (·.2)) }:=by
  intro ah hp hs
  obtain⟨h1,h2⟩:=vh hp hs
  exact h _ h1 h2
 by_cases h2:vs.toArray.size<2
 ·rw[if_pos h2,if_pos h2]
  refine ai (ay ?_)
  rw[StateT.run_pure]
  refine ai (ay ?_)
  dsimp only
  refine ai (seqEpoch_at RV rfl ?_)
  refine ai (listUpdate_at RV rfl ?_ (eu _) (by rw[Array.size_map];show(pairsOf vs).size<=_;rw[pairsOf_size];lia))
  simp only[bne_self_eq_false,iL,if_false]
  refine ay (fin (SortSt.mk' general' (vs.toArray.zip vs.toArray) #[] 7 none) (Array.Perm.refl _) ?_)
  intro i j _ kr hj
  have:i=j:=by lia
  subst this;exact rX _
 ·rw[if_neg h2,if_neg h2]
  refine ai (hk (by lia) _ ?_)
  refine ai (pS (wpS_sortRuns (st:=SortSt.mk' κ (vs.toArray.zip vs.toArray) #[] 7 none)
   (Q:=fun _ ah=>(arrOf ah).Perm (pairsOf vs)/\failedOf ah=none/\Up r (arrOf ah) 0 vs.length)
   (C (by lia)) rfl (fun p hp=>?_) rfl rfl fun ah a1 a2 a3=>⟨a1,a2,?_⟩) ?_ fun _ _ e=>e)
  ·have gd:p∈(pairsOf vs).toList:=hp
   rw[pairsOf_toList] at gd
   exact hP _ (mem_zip_self gd).2
  ·have e:(arrOf (SortSt.mk' κ (vs.toArray.zip vs.toArray) #[] 7 none)).size=vs.length:=pairsOf_size vs
   rw[e] at a3
   exact a3
  ·rintro⟨⟨⟩,ah⟩ s' ⟨rfl,hp,hf,hs⟩
   dsimp only
   refine ai (seqEpoch_at RV rfl ?_)
   refine ai (listUpdate_at RV rfl ?_ (eu _) (by refine kg (Nat.le_of_eq ((Array.size_map ..).trans (hp.size_eq.trans (pairsOf_size _)))) ?_;lia))
   rw[hf]
   simp only[bne_self_eq_false,iL,if_false]
   exact ay (fin ah hp hs)
end
end AU
namespace L2
open PySem PySem.Spec PyProof.Rows
def nS:Key->Key->Bool
 |.inl i,.inl j=>decide (i<j)
 |.inr x,.inr y=>pd x y
 |_,_=>false
def hV:List Key->List Key->Bool
 |a :: as,b :: bs=>if a=b then hV as bs else nS a b
 |_,_=>false
def ot:Key->Bool
 |.inl _=>true
 |.inr _=>false
def i3(k:List Key):List Bool:=k.map ot
theorem EY(x:Str):pd x x=false:=by unfold pd;simp[List.lt_irrefl]
theorem JC(h:pd x y=true)(g:pd y z=true):pd x z=true:=by
 unfold pd at *
 simp only[decide_eq_true_eq] at *
 exact List.lt_trans h g
theorem Bp{x y:Str}(h:x.cps.toList=y.cps.toList):x=y:=by
 cases x;cases y
 simp only at h
 rw[QX.mp h]
theorem Hh{x y:Str}(h:pd x y=false)(g:pd y x=false):x=y:=by
 unfold pd at *
 simp only[decide_eq_false_iff_not] at *
 apply Bp
 exact List.le_antisymm (List.not_lt.mp g) (List.not_lt.mp h)
theorem zN(a:Key):nS a a=false:=by cases a with|inl i=>simp[nS]|inr x=>exact EY x
theorem HN(h:nS a b=true)(g:nS b c=true):nS a c=true:=by
 cases a<;>cases b<;>cases c<;>simp only[nS,decide_eq_true_eq] at *<;>first|lia|contradiction|exact JC h g
theorem Gz(e:ot a=ot b)(h:nS a b=false)(g:nS b a=false):a=b:=by
 cases a<;>cases b<;>simp only[nS,ot,decide_eq_false_iff_not] at *
 ·congr 1;lia
 ·cases e
 ·cases e
 ·congr 1;exact Hh h g
theorem Bc:∀ a:List Key,hV a a=false
 |[]=>rfl
 |a :: as=>by unfold hV;rw[if_pos rfl];exact Bc as
theorem zf:∀ {a b c:List Key},hV a b=true->hV b c=true->hV a c=true
 |[],_,_,h,_=>by simp[hV] at h
 |_ :: _,[],_,h,_=>by simp[hV] at h
 |_ :: _,_ :: _,[],_,g=>by simp[hV] at g
 |a :: as,b :: bs,c :: cs,h,g=>by
  unfold hV at h g ⊢
  by_cases e1:a=b
  ·subst e1
   rw[if_pos rfl] at h
   by_cases e2:a=c
   ·subst e2
    rw[if_pos rfl] at g ⊢
    exact zf h g
   ·rw[if_neg e2] at g ⊢
    exact g
  ·rw[if_neg e1] at h
   by_cases e2:b=c
   ·subst e2
    rw[if_neg e1]
    exact h
   ·rw[if_neg e2] at g
    have t:=HN h g
    have ne:a≠c:=fun e=>by subst e;rw[zN] at t;cases t
    rw[if_neg ne]
    exact t
theorem yQ:∀ {a b:List Key},i3 a=i3 b->hV a b=false->hV b a=false->a=b
 |[],[],_,_,_=>rfl
 |[],_ :: _,e,_,_=>by simp[i3] at e
 |_ :: _,[],e,_,_=>by simp[i3] at e
 |a :: as,b :: bs,e,h,g=>by
  simp only[i3,iF,List.cons.injEq] at e
  unfold hV at h g
  by_cases e1:a=b
  ·subst e1
   rw[if_pos rfl] at h g
   rw[yQ (show i3 as=i3 bs from e.2) h g]
  ·rw[if_neg e1] at h
   rw[if_neg (Ne.symm e1)] at g
   exact absurd (Gz e.1 h g) e1
theorem count_le(p q:α->Bool):∀ (l:List α),(∀ x∈l,p x=true->q x=true)->l.countP p<=l.countP q
 |[],_=>bP _
 |x :: l,h=>by
  have ih:=count_le p q l fun y hy=>h y (dz _ hy)
  have h1:=h x dQ
  rw[QC,QC]
  cases hp:p x<;>cases hq:q x<;>simp_all<;>lia
theorem wH(p q:α->Bool)(a:α)(ha:p a=false)(hb:q a=true):∀ (l:List α),a∈l->(∀ x∈l,p x=true->q x=true)->l.countP p<l.countP q
 |[],m,_=>by cases m
 |x :: l,m,h=>by
  rw[QC,QC]
  rcases dA.mp m with rfl|m
  ·have:=count_le p q l fun y hy=>h y (dz _ hy)
   rw[ha,hb];simp;lia
  ·have ih:=wH p q a ha hb l m fun y hy=>h y (dz _ hy)
   have h1:=h x dQ
   cases hp:p x<;>cases hq:q x<;>simp_all<;>lia
def A3(L:List (List Key))(k:List Key):Int:=(L.countP fun j=>hV j k:Nat)
theorem xM(e:i3 a=i3 b)(ma:a∈L):decide (A3 L a<A3 L b)=hV a b:=by
 unfold A3
 cases h:hV a b with
 |true =>
  have:=wH (fun j=>hV j a) (fun j=>hV j b) a (Bc a) h L ma fun x _ hx=>zf hx h
  exact decide_eq_true (by lia)
 |false =>
  apply decide_eq_false
  cases g:hV b a with
  |false=>rw[yQ e h g];lia
  |true =>
   have:=count_le (fun j=>hV j b) (fun j=>hV j a) L fun x _ hx=>zf hx g
   lia
def UU:V->Option Key
 |.int i=>some (.inl i)
 |.str x=>some (.inr x)
 |_=>none
theorem K_(k:Key):UU (kV k)=some k:=by cases k<;>rfl
theorem DQ:∀ k:List Key,(k.map kV).filterMap UU=k
 |[]=>rfl
 |a :: as=>by rw[iF,xD,K_,DQ as]
def vK(H:Hp):Value->List Key
 |.ref b=>match H b with
  |some (.tup xs)=>xs.filterMap UU
  |_=>[]
 |_=>[]
theorem fX(h:H b=some (.tup (k.map kV))):vK H (.ref b)=k:=by
 simp only[vK,h];exact DQ k
section
variable {prog:Program}{w:World}{A:Around}{E:Value->Shared->Prop}{s:Shared}{Q:Bool->Shared->Prop}
theorem Io(ru:RelV (kV a) u)(rv:RelV (kV b) v)(e:ot a=ot b)(q:Q (nS a b) s):wpAny (model prog w) A (oneLt' false u v) Q E s:=by
 refine PySem.W.kat_one u v ?_
 cases a with
 |inl i =>
  cases b with
  |inr x=>cases e
  |inl j =>
   obtain⟨t,rfl⟩:=ru
   obtain⟨t',rfl⟩:=rv
   exact lt_int q
 |inr x =>
  cases b with
  |inl j=>cases e
  |inr y =>
   obtain⟨t,rfl⟩:=ru
   obtain⟨t',rfl⟩:=rv
   exact PySem.P.lt_str q
theorem JF(ru:RelV (kV a) u)(rv:RelV (kV b) v)(e:ot a=ot b)(q:Q (decide (a=b)) s):wpAny (model prog w) A (eqBool u v) Q E s:=by
 cases a with
 |inl i =>
  cases b with
  |inr x=>cases e
  |inl j =>
   obtain⟨t,rfl⟩:=ru
   obtain⟨t',rfl⟩:=rv
   refine wpAny_eqBool_int ?_
   rw[<- X3];exact q
 |inr x =>
  cases b with
  |inl j=>cases e
  |inr y =>
   obtain⟨t,rfl⟩:=ru
   obtain⟨t',rfl⟩:=rv
   refine wpAny_eqBool_str ?_
   rw[<- X4];exact q
theorem BW(k m:List Key)(us vs:List Value)(i:Nat)(ha:Vals (k.map kV) us)(hb:Vals (m.map kV) vs)(e:i3 k=i3 m)(hf:fin=false)(q:Q (hV k m) s) :
  PySem.W.KatLex prog w A true fin Q (us.zip vs) i s:=by
 induction k generalizing m us vs i with
 |nil =>
  cases m with
  |cons b m=>simp[i3] at e
  |nil =>
   rw[Paired.n0 ha,Paired.n0 hb]
   subst hf
   exact PySem.W.kat_nil q
 |cons a k ih =>
  cases m with
  |nil=>simp[i3] at e
  |cons b m =>
   obtain⟨u,us,rfl,ra,rk⟩:=Paired.c ha
   obtain⟨v,vs,rfl,rb,rm⟩:=Paired.c hb
   simp only[i3,iF,List.cons.injEq] at e
   rw[Ta]
   refine PySem.W.kat_cons (JF ra rb e.1 (PySem.W.kat_go (fun h=>PySem.W.kat_yes ?_) (fun h=>PySem.W.kat_no ?_)))
   ·have h:=of_decide_eq_true h
    subst h
    unfold hV at q
    rw[if_pos rfl] at q
    exact ih m _ _ (i+1) rk rm e.2 q
   ·have h:=of_decide_eq_false h
    unfold hV at q
    rw[if_neg h] at q
    by_cases h0:i=0
    ·subst h0
     cases a with
     |inr x =>
      cases b with
      |inl j=>cases e.1
      |inr y =>
       obtain⟨t,rfl⟩:=ra
       obtain⟨t',rfl⟩:=rb
       exact oneLt_str q
     |inl i =>
      cases b with
      |inr x=>cases e.1
      |inl j =>
       obtain⟨t,rfl⟩:=ra
       obtain⟨t',rfl⟩:=rb
       exact oneLt_int q
    ·rw[show(true && i == 0)=false by simp[h0]]
     exact Io ra rb e.1 q
end
section
variable {X:Cx}{pins:List (Addr × Obj)}{σ:St}{H:Hp}{s:Shared}
theorem Inv.tup(I:Inv X pins σ H s)(h:H b=some (.tup xs)):∃ its:List Value,Vals xs its/\IsTup s.heap b its.toArray:=(I.aI b _ h).2
theorem Bw(I:Inv X pins σ H s)(kp:∀ b o,s.heap.get? b=some o->s'.heap.get? b=some o) :
  AU.nX X.prog X.w A s' (tuples' true) (fun v=>A3 L (vK H v)) (fun v=>∃ b k,v=.ref b/\H b=some (.tup (k.map kV))/\i3 k=b0 :: sh/\k∈L):=by
 rintro x y ⟨b,k,rfl,hb,hk,mk⟩ ⟨c,m,rfl,hc,hm,mm⟩ Q E q
 obtain⟨us,ru,o,e1,c1,n1,d1⟩:=I.tup hb
 obtain⟨vs,rv,o',e2,c2,n2,d2⟩:=I.tup hc
 have UW:i3 k=i3 m:=hk.trans hm.symm
 simp only[fX hb,fX hc] at q
 rw[xM UW mk] at q
 refine PySem.W.kat_lt (kp _ _ e1) d1 (kp _ _ e2) d2 (BW k m us vs 0 ru rv UW ?_ q)
 ·have h1:=ru.length
  have h2:=rv.length
  have h3:k.length=m.length:=by
   have:=congrArg List.length UW
   simpa[i3] using this
  simp only[cE] at h1 h2
  exact decide_eq_false (by simp only[hX];lia)
theorem kat_tups(I:Inv X pins σ H s){s':Shared}(kp:∀ b o,s.heap.get? b=some o->s'.heap.get? b=some o){b0:Bool}{sh:List Bool}{ys:List V}{ks:List (List Key)}{vs:List Value}(ht:fL H ys ks)(hv:Vals ys vs)(hs:∀ k∈ks,i3 k=b0 :: sh) :
  ∃ fs:List Value,PySem.W.KatTups s'.heap vs fs/\fs.length=vs.length/\∀ f∈fs,(b0=true->∃ i t,f=Value.int i t)/\(b0=false->∃ x t,f=Value.str x t):=by
 induction ys generalizing ks vs with
 |nil =>
  rw[Paired.n0 hv]
  exact⟨[],.nil,rfl,by simp⟩
 |cons y ys ih =>
  obtain⟨k,ks,rfl,⟨b,rfl,hb⟩,t⟩:=Paired.c ht
  obtain⟨v,vs,rfl,rfl,rs⟩:=Paired.c hv
  obtain⟨fs,f1,f2,f3⟩:=ih t rs fun j hj=>hs j (dz _ hj)
  have hk:=hs k dQ
  obtain⟨us,ru,o,e1,c1,n1,d1⟩:=I.tup hb
  cases k with
  |nil=>simp[i3] at hk
  |cons a k =>
   obtain⟨u,us,rfl,ra,rr⟩:=Paired.c ru
   simp only[i3,iF,List.cons.injEq] at hk
   refine⟨u :: fs,.cons (kp _ _ e1) c1 d1 rfl f1,by simp[f2],fun f hf=>?_⟩
   rcases dA.mp hf with rfl|hf
   ·cases a with
    |inr x =>
     obtain⟨tk,rfl⟩:=ra
     exact⟨(fun z=>by rw[<- hk.1] at z;cases z),fun _=>⟨_,_,rfl⟩⟩
    |inl i =>
     obtain⟨tk,rfl⟩:=ra
     exact⟨fun _=>⟨_,_,rfl⟩,fun z=>by rw[<- hk.1] at z;cases z⟩
   ·exact f3 f hf
end
theorem fL.of{H:Hp}{ks:List (List Key)}(vs:List Value)(h:∀ v∈vs,∃ b k,v=Value.ref b/\H b=some (.tup (k.map kV))/\k∈ks):∃ zs,fL H zs (vs.map (vK H))/\Vals zs vs:=by
 induction vs with
 |nil=>exact⟨[],.nil,.nil⟩
 |cons v vs ih =>
  obtain⟨zs,a,c⟩:=ih fun u hu=>h u (dz _ hu)
  obtain⟨b,k,rfl,e,_⟩:=h v dQ
  exact⟨.ref b :: zs,.cons ⟨b,rfl,by rw[fX e];exact e⟩ a,.cons rfl c⟩
end L2
namespace AU
open PySem PyProof.Rows
end AU
namespace L2
open PySem PySem.Spec PyProof.Rows
def kZ:Value->List Key
 |.int i _=>[.inl i]
 |.str x _=>[.inr x]
 |_=>[]
theorem nR(h:RelV (kV k) v):kZ v=[k]:=by
 cases k with
 |inl i=>obtain⟨t,rfl⟩:=h;rfl
 |inr x=>obtain⟨t,rfl⟩:=h;rfl
theorem Aw:hV [a] [b]=nS a b:=by
 unfold hV
 by_cases e:a=b
 ·subst e;rw[if_pos rfl,zN];rfl
 ·rw[if_neg e]
theorem Cz{prog:Program}{w:World}{A:Around}{s:Shared}{b:Bool}{L:List Key} :
  AU.nX prog w A s oneType' (fun v=>A3 (L.map fun k=>[k]) (kZ v)) (fun v=>∃ k,RelV (kV k) v/\ot k=b/\k∈L):=by
 rintro x y ⟨k,rk,ik,mk⟩ ⟨m,rm,im,mm⟩ Q E q
 simp only[nR rk,nR rm] at q
 rw[xM (by simp[i3,ik,im]) (dP.mpr ⟨k,mk,rfl⟩),Aw] at q
 rw[keyLt'_oneType]
 cases k with
 |inl i =>
  cases m with
  |inr y=>rw[<- im] at ik;cases ik
  |inl j =>
   obtain⟨t,rfl⟩:=rk
   obtain⟨u,rfl⟩:=rm
   exact oneLt_int q
 |inr x =>
  cases m with
  |inl y=>rw[<- im] at ik;cases ik
  |inr j =>
   obtain⟨t,rfl⟩:=rk
   obtain⟨u,rfl⟩:=rm
   exact oneLt_str q
theorem ints_of{ks:List Key}{vs:List Value}(r:Vals (ks.map kV) vs)(h:∀ k∈ks,ot k=true):∃ ns,IntsAre vs ns:=by
 induction ks generalizing vs with
 |nil=>rw[Paired.n0 r];exact⟨[],.nil⟩
 |cons k ks ih =>
  obtain⟨v,vs,rfl,r,rs⟩:=Paired.c r
  obtain⟨ns,q⟩:=ih rs fun j hj=>h j (dz _ hj)
  have:=h k dQ
  cases k with
  |inr x=>cases this
  |inl i=>obtain⟨t,rfl⟩:=r;exact⟨_,.cons i t q⟩
theorem Fx{ks:List Key}{vs:List Value}(r:Vals (ks.map kV) vs)(h:∀ k∈ks,ot k=false):∃ ns,StrsAre vs ns:=by
 induction ks generalizing vs with
 |nil=>rw[Paired.n0 r];exact⟨[],.nil⟩
 |cons k ks ih =>
  obtain⟨v,vs,rfl,r,rs⟩:=Paired.c r
  obtain⟨ns,q⟩:=ih rs fun j hj=>h j (dz _ hj)
  have:=h k dQ
  cases k with
  |inl x=>cases this
  |inr i=>obtain⟨t,rfl⟩:=r;exact⟨_,.cons i t q⟩
theorem zF{prog:Program}{w:World}{A:Around}{E:Value->Shared->Prop}{s:Shared}{b:Bool}{ks:List Key}{vs:List Value}(r:Vals (ks.map kV) vs)(h:∀ k∈ks,ot k=b)(h2:2<=vs.length){Q:SortKind->Shared->Prop}(q:Q oneType' s) :
  wpAny (model prog w) A (keyKind' vs.toArray) Q E s:=by
 match vs,h2 with
 |v1 :: v2 :: vs,_ =>
  cases b with
  |true=>obtain⟨ns,hI⟩:=ints_of r h;rw[keyKind_ints hI];exact ay q
  |false=>obtain⟨ns,hI⟩:=Fx r h;rw[keyKind_strs hI];exact ay q
theorem keys_map{ks:List Key}{vs:List Value}(r:Vals (ks.map kV) vs):vs.map kZ=ks.map fun k=>[k]:=by
 induction ks generalizing vs with
 |nil=>rw[Paired.n0 r];rfl
 |cons k ks ih =>
  obtain⟨u,vs,rfl,r,rs⟩:=Paired.c r
  rw[iF,iF,nR r,ih rs]
theorem uq{ks:List Key}(vs:List Value)(h:∀ v∈vs,∃ k,RelV (kV k) v/\k∈ks):∃ ms:List Key,Vals (ms.map kV) vs:=by
 induction vs with
 |nil=>exact⟨[],.nil⟩
 |cons v vs ih =>
  obtain⟨ms,r⟩:=ih fun u hu=>h u (dz _ hu)
  obtain⟨k,rk,_⟩:=h v dQ
  exact⟨k :: ms,.cons rk r⟩
theorem zG:∀ {ms ks:List Key},(ms.map fun k=>[k]).Perm (ks.map fun k=>[k])->ms.Perm ks:=fun {ms ks} h=>by
 have:=h.map (fun l:List Key=>l.head?)
 simp only[hJ] at this
 have e:∀ l:List Key,l.map ((fun l:List Key=>l.head?) ∘ fun k=>[k])=l.map some:=fun l=>FC fun _ _=>rfl
 rw[e,e] at this
 have:=this.filterMap id
 simpa using this
end L2
namespace L2.Q
open PySem PySem.Spec PyProof.Rows
inductive D where
 |non|bl (b:Bool)|int (i:Int)|str (x:Str)
 |list (xs:List D)|tup (xs:List D)|dK (kvs:List (Key × D))|dT (kvs:List (List Key × D))
mutual
/-- nothing in it can be changed -/
def D.flat:D->Bool
 |.list _=>false
 |.dK _=>false
 |.dT _=>false
 |.tup xs=>cw xs
 |_=>true
def cw:List D->Bool
 |[]=>true
 |x :: xs=>x.flat && cw xs
end
theorem nQ:∀ {xs:List D},cw xs=true↔∀ x∈xs,x.flat=true
 |[]=>by simp[cw]
 |x :: xs=>by simp[cw,nQ (xs:=xs)]
theorem lH:cw (xs++ys)=(cw xs && cw ys):=by
 induction xs with
 |nil=>simp[cw]
 |cons x xs ih=>simp[cw,ih,Bool.and_assoc]
def w9:Key->Bool
 |.inl _=>true
 |.inr x=>decide (x.length<=sizeLine)
def RW(kvs:List (Key × D)):Prop:=kvs.length<=sizeLine/\∀ p∈kvs,w9 p.1=true
def RX(kvs:List (List Key × D)):Prop:=kvs.length<=sizeLine/\∀ p∈kvs,p.1.length<=sizeLine/\∀ k∈p.1,w9 k=true
mutual
inductive Rep(K:PySem.W.Frag)(H:Hp):D->V->Prop
 |non:Rep K H .non .non
 |bl (b:Bool):Rep K H (.bl b) (.bl b)
 |int (i:Int):Rep K H (.int i) (.int i)
 |str {x:Str}:x.length<=sizeLine->Rep K H (.str x) (.str x)
 |list {a:Addr} {vs:List V} {ds:List D}:vs.length<=sizeLine->dn K H a vs->aS K H ds vs->Rep K H (.list ds) (.ref a)
 |tup {a:Addr} {vs:List V} {ds:List D}:vs.length<=sizeLine->H a=some (.tup vs)->aS K H ds vs->Rep K H (.tup ds) (.ref a)
 |dK {a:Addr} {vs:List V} {kvs:List (Key × D)}:RW kvs->Rd H a (.dK ((kvs.map (·.1)).zip vs))->aS K H (kvs.map (·.2)) vs->Rep K H (.dK kvs) (.ref a)
 |dT {a:Addr} {vs:List V} {kvs:List (List Key × D)}:RX kvs->Rd H a (.dT ((kvs.map (·.1)).zip vs))->aS K H (kvs.map (·.2)) vs->Rep K H (.dT kvs) (.ref a)
inductive aS(K:PySem.W.Frag)(H:Hp):List D->List V->Prop
 |nil:aS K H [] []
 |cons {d:D} {v:V} {ds:List D} {vs:List V}:Rep K H d v->aS K H ds vs->aS K H (d :: ds) (v :: vs)
end
theorem Rep.ind{K:PySem.W.Frag}{H:Hp}{m1:D->V->Prop}{m2:List D->List V->Prop}(h0:m1 .non .non)(hb:∀ b,m1 (.bl b) (.bl b))(hi:∀ i,m1 (.int i) (.int i))(hs:∀ x,x.length<=sizeLine->m1 (.str x) (.str x))
  (hl:∀ a vs ds,vs.length<=sizeLine->dn K H a vs->aS K H ds vs->m2 ds vs->m1 (.list ds) (.ref a)) (ht:∀ a vs ds,vs.length<=sizeLine->H a=some (.tup vs)->aS K H ds vs->m2 ds vs->m1 (.tup ds) (.ref a))
  (hk:∀ a vs kvs,RW kvs->Rd H a (.dK ((kvs.map (·.1)).zip vs))->aS K H (kvs.map (·.2)) vs->m2 (kvs.map (·.2)) vs->m1 (.dK kvs) (.ref a)) (hT:∀ a vs kvs,RX kvs->Rd H a (.dT ((kvs.map (·.1)).zip vs))->aS K H (kvs.map (·.2)) vs->m2 (kvs.map (·.2)) vs->m1 (.dT kvs) (.ref a))
  (hn:m2 [] []) (hc:∀ d v ds vs,Rep K H d v->aS K H ds vs->m1 d v->m2 ds vs->m2 (d :: ds) (v :: vs)):(∀ {d v},Rep K H d v->m1 d v)/\∀ {ds vs},aS K H ds vs->m2 ds vs :=
 ⟨fun r=>Rep.rec (motive_1:=fun d v _=>m1 d v) (motive_2:=fun ds vs _=>m2 ds vs) h0 hb hi (fun h=>hs _ h) (fun z s r ih=>hl _ _ _ z s r ih) (fun z s r ih=>ht _ _ _ z s r ih) (fun z s r ih=>hk _ _ _ z s r ih) (fun z s r ih=>hT _ _ _ z s r ih) hn (fun r s a b=>hc _ _ _ _ r s a b) r,
  fun r=>aS.rec (motive_1:=fun d v _=>m1 d v) (motive_2:=fun ds vs _=>m2 ds vs) h0 hb hi (fun h=>hs _ h) (fun z s r ih=>hl _ _ _ z s r ih) (fun z s r ih=>ht _ _ _ z s r ih) (fun z s r ih=>hk _ _ _ z s r ih) (fun z s r ih=>hT _ _ _ z s r ih) hn (fun r s a b=>hc _ _ _ _ r s a b) r⟩
theorem kS.k'(e:Rd H a (.dK kvs)):kS H a (kV k) (gp kvs k):=.inl ⟨kvs,k,e,rfl,rfl⟩
theorem kS.t'(e:Rd H a (.dT kvs))(eb:H b=some (.tup (k.map kV))):kS H a (.ref b) (gp kvs k):=.inr ⟨kvs,k,b,e,rfl,eb,rfl⟩
theorem aE.rd(s:aE H H')(h:Rd H a u):Rd H' a u:=h.imp (s _ _) fun⟨o,e⟩=>⟨o,s _ _ e⟩
theorem Rep.HJ{K:PySem.W.Frag}(s:aE H H'):(∀ {d:D} {v:V},Rep K H d v->Rep K H' d v)/\∀ {ds:List D} {vs:List V},aS K H ds vs->aS K H' ds vs :=
 Rep.ind .non .bl .int (fun _ h=>.str h) (fun _ _ _ z h _ ih=>.list z (s.lst h) ih) (fun _ _ _ z h _ ih=>.tup z (s _ _ h) ih) (fun _ _ _ kk h _ ih=>.dK kk (aE.rd s h) ih) (fun _ _ _ kk h _ ih=>.dT kk (aE.rd s h) ih) .nil fun _ _ _ _ _ _ a b=>.cons a b
theorem Rep.same{K:PySem.W.Frag}(s:aE H H')(r:Rep K H d v):Rep K H' d v:=(Rep.HJ s).1 r
theorem aS.same{K:PySem.W.Frag}(s:aE H H')(r:aS K H ds vs):aS K H' ds vs:=(Rep.HJ s).2 r
theorem aS.ind{K:PySem.W.Frag}{H:Hp}{m:List D->List V->Prop}(hn:m [] [])(hc:∀ d v ds vs,Rep K H d v->aS K H ds vs->m ds vs->m (d :: ds) (v :: vs)):∀ {ds vs},aS K H ds vs->m ds vs :=
 fun r=>(Rep.ind (m1:=fun _ _=>True) (m2:=m) trivial (fun _=>trivial) (fun _=>trivial) (fun _ _=>trivial) (fun _ _ _ _ _ _ _=>trivial) (fun _ _ _ _ _ _ _=>trivial) (fun _ _ _ _ _ _ _=>trivial) (fun _ _ _ _ _ _ _=>trivial) hn fun d v ds vs r s _ b=>hc d v ds vs r s b).2 r
theorem aS.length{K:PySem.W.Frag}(r:aS K H ds vs):ds.length=vs.length :=
 aS.ind (m:=fun ds vs=>ds.length=vs.length) rfl (fun _ _ _ _ _ _ ih=>by rw[pT,pT,ih]) r
theorem aS.append{K:PySem.W.Frag}(r:aS K H ds vs)(t:aS K H es ws):aS K H (ds++es) (vs++ws) :=
 aS.ind (m:=fun ds vs=>aS K H (ds++es) (vs++ws)) t (fun _ _ _ _ h _ ih=>.cons h ih) r
theorem aS.get{K:PySem.W.Frag}{H:Hp}{ds:List D}{vs:List V}{i:Nat}{d:D}(r:aS K H ds vs)(e:ds[i]? = some d):∃ v,vs[i]? = some v/\Rep K H d v :=
 aS.ind (m:=fun ds vs=>∀ i d,ds[i]? = some d->∃ v,vs[i]? = some v/\Rep K H d v) (fun i d e=>by simp at e) (fun _ _ _ _ h _ ih i d e=>by
  cases i with
  |zero=>simp at e;subst e;exact⟨_,rfl,h⟩
  |succ i =>
   obtain⟨v,e1,r⟩:=ih i d (by simpa using e)
   exact⟨v,by simpa using e1,r⟩) r i d e
theorem aS.ND{K:PySem.W.Frag}{H:Hp}{ds:List D}{vs:List V}{i:Nat}{v:V}(r:aS K H ds vs)(e:vs[i]? = some v):∃ d,ds[i]? = some d/\Rep K H d v :=
 aS.ind (m:=fun ds vs=>∀ i v,vs[i]? = some v->∃ d,ds[i]? = some d/\Rep K H d v) (fun i d e=>by simp at e) (fun _ _ _ _ h _ ih i d e=>by
  cases i with
  |zero=>simp at e;subst e;exact⟨_,rfl,h⟩
  |succ i =>
   obtain⟨v,e1,r⟩:=ih i d (by simpa using e)
   exact⟨v,by simpa using e1,r⟩) r i v e
theorem aS.drop{K:PySem.W.Frag}(n:Nat)(r:aS K H ds vs):aS K H (ds.drop n) (vs.drop n) :=
 aS.ind (m:=fun ds vs=>∀ n,aS K H (ds.drop n) (vs.drop n)) (fun n=>by rw[List.drop_nil,List.drop_nil];exact .nil) (fun _ _ _ _ h hs ih n=>by
  cases n with
  |zero=>exact .cons h hs
  |succ n=>exact ih n) r n
theorem aS.n0{K:PySem.W.Frag}(h:aS K H [] vs):vs=[]:=by cases h;rfl
theorem aS.c{K:PySem.W.Frag}(h:aS K H (d :: ds) vs):∃ u us,vs=u :: us/\Rep K H d u/\aS K H ds us:=by
 cases h with
 |cons r rs=>exact⟨_,_,rfl,r,rs⟩
theorem aS.take{K:PySem.W.Frag}(n:Nat)(r:aS K H ds vs):aS K H (ds.take n) (vs.take n) :=
 aS.ind (m:=fun ds vs=>∀ n,aS K H (ds.take n) (vs.take n)) (fun n=>by rw[List.take_nil,List.take_nil];exact .nil) (fun _ _ _ _ h hs ih n=>by
  cases n with
  |zero=>exact .nil
  |succ n=>exact .cons h (ih n)) r n
mutual
/-- what is owned: a tree whose lists and lB' stand at As,lC' lD';its leaves shared (fl: and flat) -/
inductive bG(K:PySem.W.Frag)(Hs H:Hp)(fl:Bool):D->V->List Addr->Prop
 |sh {d:D} {v:V}:(fl=true->d.flat=true)->Rep K Hs d v->bG K Hs H fl d v []
 |list {a:Addr} {vs:List V} {ds:List D} {As:List Addr}:vs.length<=sizeLine->H a=some (.lst vs)->aF K Hs H fl ds vs As->bG K Hs H fl (.list ds) (.ref a) (a :: As)
 |tup {a:Addr} {vs:List V} {ds:List D} {As:List Addr}:vs.length<=sizeLine->Hs a=some (.tup vs)->cw ds=false->aF K Hs H fl ds vs As->bG K Hs H fl (.tup ds) (.ref a) As
 |dK {a:Addr} {vs:List V} {kvs:List (Key × D)} {As:List Addr}:RW kvs->H a=some (.dK ((kvs.map (·.1)).zip vs))->aF K Hs H fl (kvs.map (·.2)) vs As->bG K Hs H fl (.dK kvs) (.ref a) (a :: As)
 |dT {a:Addr} {vs:List V} {kvs:List (List Key × D)} {As:List Addr}:RX kvs->H a=some (.dT ((kvs.map (·.1)).zip vs))->aF K Hs H fl (kvs.map (·.2)) vs As->bG K Hs H fl (.dT kvs) (.ref a) (a :: As)
inductive aF(K:PySem.W.Frag)(Hs H:Hp)(fl:Bool):List D->List V->List Addr->Prop
 |nil:aF K Hs H fl [] [] []
 |cons {d:D} {v:V} {ds:List D} {vs:List V} {As Bs:List Addr}:bG K Hs H fl d v As->aF K Hs H fl ds vs Bs->aF K Hs H fl (d :: ds) (v :: vs) (As++Bs)
end
def Own(H:Hp)(a:Addr):Prop:=(∃ vs,H a=some (.lst vs))\/(∃ kvs,H a=some (.dK kvs))\/∃ kvs,H a=some (.dT kvs)
section
variable {K:PySem.W.Frag}{Hs aw H H':Hp}{fl:Bool}
theorem Own.ne(h:Own H a):H a≠none:=by
 rcases h with⟨_,e⟩|⟨_,e⟩|⟨_,e⟩<;>rw[e]<;>exact fun z=>nomatch z
theorem Own.Ed(h:Own H a):H a≠some (.tup vs):=by
 rcases h with⟨_,e⟩|⟨_,e⟩|⟨_,e⟩<;>rw[e]<;>exact fun z=>nomatch z
theorem bG.ind{m1:D->V->List Addr->Prop}{m2:List D->List V->List Addr->Prop}(hs:∀ d v,(fl=true->d.flat=true)->Rep K Hs d v->m1 d v [])
  (hl:∀ a vs ds As,vs.length<=sizeLine->H a=some (.lst vs)->aF K Hs H fl ds vs As->m2 ds vs As->m1 (.list ds) (.ref a) (a :: As)) (ht:∀ a vs ds As,vs.length<=sizeLine->Hs a=some (.tup vs)->cw ds=false->aF K Hs H fl ds vs As->m2 ds vs As->m1 (.tup ds) (.ref a) As)
  (hk:∀ a vs kvs As,RW kvs->H a=some (.dK ((kvs.map (·.1)).zip vs))->aF K Hs H fl (kvs.map (·.2)) vs As->m2 (kvs.map (·.2)) vs As->m1 (.dK kvs) (.ref a) (a :: As)) (hT:∀ a vs kvs As,RX kvs->H a=some (.dT ((kvs.map (·.1)).zip vs))->aF K Hs H fl (kvs.map (·.2)) vs As->m2 (kvs.map (·.2)) vs As->m1 (.dT kvs) (.ref a) (a :: As))
  (hn:m2 [] [] []) (hc:∀ d v ds vs As Bs,bG K Hs H fl d v As->aF K Hs H fl ds vs Bs->m1 d v As->m2 ds vs Bs->m2 (d :: ds) (v :: vs) (As++Bs)):(∀ {d v As},bG K Hs H fl d v As->m1 d v As)/\∀ {ds vs As},aF K Hs H fl ds vs As->m2 ds vs As :=
 ⟨fun r=>bG.rec (motive_1:=fun d v As _=>m1 d v As) (motive_2:=fun ds vs As _=>m2 ds vs As) (fun f r=>hs _ _ f r) (fun z s r ih=>hl _ _ _ _ z s r ih) (fun z s n r ih=>ht _ _ _ _ z s n r ih) (fun z s r ih=>hk _ _ _ _ z s r ih) (fun z s r ih=>hT _ _ _ _ z s r ih) hn (fun r s a b=>hc _ _ _ _ _ _ r s a b) r,
  fun r=>aF.rec (motive_1:=fun d v As _=>m1 d v As) (motive_2:=fun ds vs As _=>m2 ds vs As) (fun f r=>hs _ _ f r) (fun z s r ih=>hl _ _ _ _ z s r ih) (fun z s n r ih=>ht _ _ _ _ z s n r ih) (fun z s r ih=>hk _ _ _ _ z s r ih) (fun z s r ih=>hT _ _ _ _ z s r ih) hn (fun r s a b=>hc _ _ _ _ _ _ r s a b) r⟩
theorem w_{a:Addr}{p:Prop}(h:a∈([]:List Addr)):p:=absurd h xE
theorem bG.ZS:(∀ {d:D} {v:V} {As:List Addr},bG K Hs H fl d v As->∀ a∈As,Own H a)/\∀ {ds:List D} {vs:List V} {As:List Addr},aF K Hs H fl ds vs As->∀ a∈As,Own H a :=
 bG.ind (m1:=fun _ _ As=>∀ a∈As,Own H a) (m2:=fun _ _ As=>∀ a∈As,Own H a) (fun _ _ _ _ a h=>w_ h) (fun _ _ _ _ _ e _ ih a h=>(dA.mp h).elim (fun z=>z ▸ .inl ⟨_,e⟩) (ih a)) (fun _ _ _ _ _ _ _ _ ih=>ih)
  (fun _ _ _ _ _ e _ ih a h=>(dA.mp h).elim (fun z=>z ▸ .inr (.inl ⟨_,e⟩)) (ih a)) (fun _ _ _ _ _ e _ ih a h=>(dA.mp h).elim (fun z=>z ▸ .inr (.inr ⟨_,e⟩)) (ih a)) (fun a h=>w_ h) fun _ _ _ _ _ _ _ _ i1 i2 a h=>(eJ.mp h).elim (i1 a) (i2 a)
theorem bG.own(r:bG K Hs H fl d v As):∀ a∈As,Own H a:=bG.ZS.1 r
theorem aF.own(r:aF K Hs H fl ds vs As):∀ a∈As,Own H a:=bG.ZS.2 r
theorem bG.Hr(s:aE Hs aw):(∀ {d:D} {v:V} {As:List Addr},bG K Hs H fl d v As->(∀ a∈As,H' a=H a)->bG K aw H' fl d v As)/\∀ {ds:List D} {vs:List V} {As:List Addr},aF K Hs H fl ds vs As->(∀ a∈As,H' a=H a)->aF K aw H' fl ds vs As :=
 bG.ind (m1:=fun d v As=>(∀ a∈As,H' a=H a)->bG K aw H' fl d v As) (m2:=fun ds vs As=>(∀ a∈As,H' a=H a)->aF K aw H' fl ds vs As) (fun _ _ f r _=>.sh f (r.same s))
  (fun _ _ _ _ z e _ ih k=>.list z ((k _ dQ).trans e) (ih fun a h=>k a (dz _ h))) (fun _ _ _ _ z e n _ ih k=>.tup z (s _ _ e) n (ih k)) (fun _ _ _ _ z e _ ih k=>.dK z ((k _ dQ).trans e) (ih fun a h=>k a (dz _ h)))
  (fun _ _ _ _ z e _ ih k=>.dT z ((k _ dQ).trans e) (ih fun a h=>k a (dz _ h))) (fun _=>.nil) fun _ _ _ _ _ _ _ _ i1 i2 k=>.cons (i1 fun a h=>k a (kK _ h)) (i2 fun a h=>k a (fT _ h))
theorem bG.gi(s:aE Hs aw)(r:bG K Hs H fl d v As)(k:∀ a∈As,H' a=H a):bG K aw H' fl d v As:=(bG.Hr s).1 r k
theorem aF.gi(s:aE Hs aw)(r:aF K Hs H fl ds vs As)(k:∀ a∈As,H' a=H a):aF K aw H' fl ds vs As:=(bG.Hr s).2 r k
theorem bG.grow(s:aE Hs aw)(t:aE H H')(r:bG K Hs H fl d v As):bG K aw H' fl d v As :=
 r.gi s fun a h=>by
  cases e:H a with
  |none=>exact absurd e (r.own a h).ne
  |some o=>exact t a o e
theorem aF.grow(s:aE Hs aw)(t:aE H H')(r:aF K Hs H fl ds vs As):aF K aw H' fl ds vs As :=
 r.gi s fun a h=>by
  cases e:H a with
  |none=>exact absurd e (r.own a h).ne
  |some o=>exact t a o e
theorem bG.rep2{G:Hp}(s:aE Hs G):(∀ {d:D} {v:V} {As:List Addr},bG K Hs H fl d v As->(∀ a∈As,G a=H a)->Rep K G d v)/\∀ {ds:List D} {vs:List V} {As:List Addr},aF K Hs H fl ds vs As->(∀ a∈As,G a=H a)->aS K G ds vs :=
 bG.ind (m1:=fun d v As=>(∀ a∈As,G a=H a)->Rep K G d v) (m2:=fun ds vs As=>(∀ a∈As,G a=H a)->aS K G ds vs) (fun _ _ _ r _=>r.same s)
  (fun _ _ _ _ z e _ ih k=>.list z (.inl (.inl ((k _ dQ).trans e))) (ih fun a h=>k a (dz _ h))) (fun _ _ _ _ z e n _ ih k=>.tup z (s _ _ e) (ih k)) (fun _ _ _ _ z e _ ih k=>.dK z (.inl ((k _ dQ).trans e)) (ih fun a h=>k a (dz _ h)))
  (fun _ _ _ _ z e _ ih k=>.dT z (.inl ((k _ dQ).trans e)) (ih fun a h=>k a (dz _ h))) (fun _=>.nil) fun _ _ _ _ _ _ _ _ i1 i2 k=>.cons (i1 fun a h=>k a (kK _ h)) (i2 fun a h=>k a (fT _ h))
theorem bG.rep(s:aE Hs G)(r:bG K Hs H fl d v As)(k:∀ a∈As,G a=H a):Rep K G d v:=(bG.rep2 s).1 r k
theorem aF.reps(s:aE Hs G)(r:aF K Hs H fl ds vs As)(k:∀ a∈As,G a=H a):aS K G ds vs:=(bG.rep2 s).2 r k
theorem Rep.Ad(t:∀ a vs,H a=some (.tup vs)->G a=some (.tup vs)):(∀ {d:D} {v:V},Rep K H d v->d.flat=true->Rep K G d v)/\∀ {ds:List D} {vs:List V},aS K H ds vs->cw ds=true->aS K G ds vs :=
 Rep.ind (m1:=fun d v=>d.flat=true->Rep K G d v) (m2:=fun ds vs=>cw ds=true->aS K G ds vs) (fun _=>.non) (fun b _=>.bl b) (fun i _=>.int i) (fun _ h _=>.str h) (fun _ _ _ _ _ _ _ f=>by simp[D.flat] at f) (fun _ _ _ z e _ ih f=>.tup z (t _ _ e) (ih (by simpa[D.flat] using f)))
  (fun _ _ _ _ _ _ _ f=>by simp[D.flat] at f) (fun _ _ _ _ _ _ _ f=>by simp[D.flat] at f) (fun _=>.nil) fun _ _ _ _ _ _ i1 i2 f=>by
   simp only[cw,ly] at f
   exact .cons (i1 f.1) (i2 f.2)
theorem Rep.mO(t:∀ a vs,H a=some (.tup vs)->G a=some (.tup vs))(r:Rep K H d v)(f:d.flat=true):Rep K G d v:=(Rep.Ad t).1 r f
theorem aS.mO(t:∀ a vs,H a=some (.tup vs)->G a=some (.tup vs))(r:aS K H ds vs)(f:cw ds=true):aS K G ds vs:=(Rep.Ad t).2 r f
theorem aS.owned(r:aS K Hs ds vs)(f:cw ds=true):aF K Hs H fl ds vs [] :=
 aS.ind (m:=fun ds vs=>cw ds=true->aF K Hs H fl ds vs []) (fun _=>.nil) (fun _ _ _ _ h _ ih f=>by
  simp only[cw,ly] at f
  exact .cons (As:=[]) (.sh (fun _=>f.1) h) (ih f.2)) r f
theorem aS.Ih(r:aS K Hs ds vs):aF K Hs H false ds vs [] :=
 aS.ind (m:=fun ds vs=>aF K Hs H false ds vs []) .nil (fun _ _ _ _ h _ ih=>.cons (As:=[]) (.sh (fun z=>Bool.noConfusion z) h) ih) r
theorem bG.ZT:(∀ {d:D} {v:V} {As:List Addr},bG K Hs H fl d v As->bG K Hs H false d v As)/\∀ {ds:List D} {vs:List V} {As:List Addr},aF K Hs H fl ds vs As->aF K Hs H false ds vs As :=
 bG.ind (fun _ _ _ r=>.sh (fun z=>Bool.noConfusion z) r) (fun _ _ _ _ z e _ ih=>.list z e ih) (fun _ _ _ _ z e n _ ih=>.tup z e n ih) (fun _ _ _ _ z e _ ih=>.dK z e ih) (fun _ _ _ _ z e _ ih=>.dT z e ih) .nil fun _ _ _ _ _ _ _ _ a b=>.cons a b
theorem bG.RZ(r:bG K Hs H fl d v As):bG K Hs H false d v As:=bG.ZT.1 r
theorem aF.RZ(r:aF K Hs H fl ds vs As):aF K Hs H false ds vs As:=bG.ZT.2 r
theorem bG.Gj(t:∀ a vs,Hs a=some (.tup vs)->G a=some (.tup vs)):(∀ {d:D} {v:V} {As:List Addr},bG K Hs H true d v As->bG K G H true d v As)/\∀ {ds:List D} {vs:List V} {As:List Addr},aF K Hs H true ds vs As->aF K G H true ds vs As :=
 bG.ind (fun _ _ f r=>.sh f (r.mO t (f rfl))) (fun _ _ _ _ z e _ ih=>.list z e ih) (fun _ _ _ _ z e n _ ih=>.tup z (t _ _ e) n ih) (fun _ _ _ _ z e _ ih=>.dK z e ih) (fun _ _ _ _ z e _ ih=>.dT z e ih) .nil fun _ _ _ _ _ _ _ _ a b=>.cons a b
theorem bG.leaves(t:∀ a vs,Hs a=some (.tup vs)->G a=some (.tup vs))(r:bG K Hs H true d v As):bG K G H true d v As:=(bG.Gj t).1 r
theorem aF.ind{m:List D->List V->List Addr->Prop}(hn:m [] [] [])(hc:∀ d v ds vs As Bs,bG K Hs H fl d v As->aF K Hs H fl ds vs Bs->m ds vs Bs->m (d :: ds) (v :: vs) (As++Bs)):∀ {ds vs As},aF K Hs H fl ds vs As->m ds vs As :=
 fun r=>(bG.ind (m1:=fun _ _ _=>True) (m2:=m) (fun _ _ _ _=>trivial) (fun _ _ _ _ _ _ _ _=>trivial) (fun _ _ _ _ _ _ _ _ _=>trivial) (fun _ _ _ _ _ _ _ _=>trivial) (fun _ _ _ _ _ _ _ _=>trivial) hn fun d v ds vs As Bs r s _ b=>hc d v ds vs As Bs r s b).2 r
theorem aF.append(r:aF K Hs H fl ds vs As)(t:aF K Hs H fl es ws Bs):aF K Hs H fl (ds++es) (vs++ws) (As++Bs) :=
 aF.ind (m:=fun ds vs As=>aF K Hs H fl (ds++es) (vs++ws) (As++Bs)) t (fun _ _ _ _ _ _ h _ ih=>by
  rw[vF]
  exact .cons h ih) r
theorem aF.c(h:aF K Hs H fl (d :: ds) vs As):∃ u us A B,vs=u :: us/\As=A++B/\bG K Hs H fl d u A/\aF K Hs H fl ds us B:=by
 cases h with
 |cons r rs=>exact⟨_,_,_,_,rfl,rfl,r,rs⟩
theorem aF.length(r:aF K Hs H fl ds vs As):ds.length=vs.length :=
 aF.ind (m:=fun ds vs _=>ds.length=vs.length) rfl (fun _ _ _ _ _ _ _ _ ih=>by rw[pT,pT,ih]) r
end
inductive Sl where
 /-- shared;owned;owned and walked by a loop just now (at a) -/
 |sh (d:D)|ow (fl:Bool) (d:D)|lk (a:Addr) (fl:Bool) (d:D)
 /-- an exception,at a -/
 |xc (a:Addr)
abbrev Env:=List (Option Sl)
inductive SR(K:PySem.W.Frag)(Hs H:Hp):Env->St->List Addr->Prop
 |nil:SR K Hs H [] [] []
 |non {ρ:Env} {σ:St} {ag:List Addr} {o:Option V}:SR K Hs H ρ σ ag->SR K Hs H (none :: ρ) (o :: σ) ag
 |sh {ρ:Env} {σ:St} {ag:List Addr} {d:D} {v:V}:Rep K Hs d v->SR K Hs H ρ σ ag->SR K Hs H (some (.sh d) :: ρ) (some v :: σ) ag
 |xc {ρ:Env} {σ:St} {ag:List Addr} {a:Addr}:SR K Hs H ρ σ ag->SR K Hs H (some (.xc a) :: ρ) (some (.ref a) :: σ) ag
 |ow {ρ:Env} {σ:St} {ag As:List Addr} {fl:Bool} {d:D} {v:V}:As≠[]->bG K Hs H fl d v As->SR K Hs H ρ σ ag->SR K Hs H (some (.ow fl d) :: ρ) (some v :: σ) (As++ag)
 |lk {ρ:Env} {σ:St} {ag As:List Addr} {a:Addr} {fl:Bool} {d:D}:As≠[]->bG K Hs H fl d (.ref a) As->SR K Hs H ρ σ ag->SR K Hs H (some (.lk a fl d) :: ρ) (some (.ref a) :: σ) (As++ag)
structure Wf(Hs H:Hp):Prop where
 sub:aE Hs H
 kB:∀ a vs,H a=some (.tup vs)->Hs a=some (.tup vs)
structure dy(K:PySem.W.Frag)(Hs:Hp)(ρ:Env)(σ:St)(H:Hp)(ag:List Addr):Prop where
 sr:SR K Hs H ρ σ ag
 wf:Wf Hs H
 rj:ag.Nodup
 own:∀ a∈ag,Hs a=none
structure ez(Hs H aw H':Hp):Prop where
 all:aE H H'
 sh:aE Hs aw
 wf:Wf aw H'
 new:∀ a,aw a≠none->Hs a≠none\/H a=none
section
variable {K:PySem.W.Frag}{Hs H aw H' ZU ZV:Hp}
theorem ez.refl(w:Wf Hs H):ez Hs H Hs H:=⟨aE.refl _,aE.refl _,w,fun _ h=>.inl h⟩
theorem ez.trans(a:ez Hs H aw H')(b:ez aw H' ZU ZV):ez Hs H ZU ZV :=
 ⟨a.all.trans b.all,a.sh.trans b.sh,b.wf,fun c h=>by
  rcases b.new c h with h|h
  ·exact a.new c h
  ·exact .inr (a.all.free h)⟩
theorem ez.n4(g:ez Hs H aw H')(h:Hs a=none)(h':H a≠none):aw a=none:=by
 cases e:aw a with
 |none=>rfl
 |some o =>
  rcases g.new a (by rw[e];exact fun z=>nomatch z) with z|z
  ·exact absurd h z
  ·exact absurd z h'
theorem SR.own{ρ:Env}{σ:St}{ag:List Addr}(s:SR K Hs H ρ σ ag):∀ a∈ag,Own H a:=by
 induction s with
 |nil=>exact fun a h=>w_ h
 |non _ ih=>exact ih
 |sh _ _ ih=>exact ih
 |xc _ ih=>exact ih
 |ow _ r _ ih=>exact fun a h=>(eJ.mp h).elim (r.own a) (ih a)
 |lk _ r _ ih=>exact fun a h=>(eJ.mp h).elim (r.own a) (ih a)
theorem SR.gi(s:aE Hs aw)(r:SR K Hs H ρ σ ag):(∀ a∈ag,H' a=H a)->SR K aw H' ρ σ ag:=by
 induction r with
 |nil=>exact fun _=>.nil
 |non _ ih=>exact fun k=>.non (ih k)
 |sh h _ ih=>exact fun k=>.sh (h.same s) (ih k)
 |xc _ ih=>exact fun k=>.xc (ih k)
 |ow ne h _ ih=>exact fun k=>.ow ne (h.gi s fun a m=>k a (kK _ m)) (ih fun a m=>k a (fT _ m))
 |lk ne h _ ih=>exact fun k=>.lk ne (h.gi s fun a m=>k a (kK _ m)) (ih fun a m=>k a (fT _ m))
theorem dy.grow(r:dy K Hs ρ σ H ag)(g:ez Hs H aw H'):dy K aw ρ σ H' ag :=
 ⟨r.sr.gi g.sh fun a h=>by
  cases e:H a with
  |none=>exact absurd e (r.sr.own a h).ne
  |some o=>exact g.all a o e,g.wf,r.rj,fun a h=>g.n4 (r.own a h) (r.sr.own a h).ne⟩
def De(K:PySem.W.Frag)(Hs H:Hp)(ag:List Addr)(sl:Sl)(v:V):Prop:=match sl with
 |.sh d=>Rep K Hs d v
 |.ow fl d=>∃ As,As≠[]/\bG K Hs H fl d v As/\∀ a∈As,a∈ag
 |.lk a fl d=>∃ As,As≠[]/\bG K Hs H fl d v As/\v=.ref a/\∀ a∈As,a∈ag
 |.xc a=>v=.ref a
theorem De.mono(h:De K Hs H ag sl v)(m:∀ a∈ag,a∈bT):De K Hs H bT sl v:=by
 cases sl with
 |sh d=>exact h
 |xc a=>exact h
 |ow fl d =>
  obtain⟨As,ne,r,q⟩:=h
  exact⟨As,ne,r,fun a ha=>m a (q a ha)⟩
 |lk a fl d =>
  obtain⟨As,ne,r,e,q⟩:=h
  exact⟨As,ne,r,e,fun a ha=>m a (q a ha)⟩
theorem SR.get{ρ:Env}{σ:St}{ag:List Addr}{i:Nat}{sl:Sl}(s:SR K Hs H ρ σ ag)(e:ρ[i]? = some (some sl)):∃ v,σ[i]? = some (some v)/\De K Hs H ag sl v:=by
 induction s generalizing i with
 |nil=>simp at e
 |non s ih =>
  cases i with
  |zero=>simp at e
  |succ i=>exact ih e
 |sh r s ih =>
  cases i with
  |zero=>simp at e;subst e;exact⟨_,rfl,r⟩
  |succ i=>exact ih e
 |xc s ih =>
  cases i with
  |zero=>simp at e;subst e;exact⟨_,rfl,rfl⟩
  |succ i=>exact ih e
 |ow ne r s ih =>
  cases i with
  |zero=>simp at e;subst e;exact⟨_,rfl,_,ne,r,fun a m=>kK _ m⟩
  |succ i =>
   obtain⟨v,e1,h⟩:=ih e
   exact⟨v,e1,h.mono fun a m=>fT _ m⟩
 |lk ne r s ih =>
  cases i with
  |zero=>simp at e;subst e;exact⟨_,rfl,_,ne,r,rfl,fun a m=>kK _ m⟩
  |succ i =>
   obtain⟨v,e1,h⟩:=ih e
   exact⟨v,e1,h.mono fun a m=>fT _ m⟩
end
inductive Md where
 |sh|ow (fl:Bool)|bo
def RM(K:PySem.W.Frag)(Hs H:Hp):Md->D->V->List Addr->Prop
 |.sh,d,v,As=>As=[]/\Rep K Hs d v
 |.ow fl,d,v,As=>bG K Hs H fl d v As/\As≠[]
 |.bo,d,v,As=>As=[]/\Rep K H d v
inductive xa(K:PySem.W.Frag)(Hs H:Hp):List (Md × D)->List V->List Addr->Prop
 |nil:xa K Hs H [] [] []
 |cons {m:Md} {d:D} {v:V} {ps:List (Md × D)} {vs:List V} {As Bs:List Addr}:RM K Hs H m d v As->xa K Hs H ps vs Bs->xa K Hs H ((m,d) :: ps) (v :: vs) (As++Bs)
section
variable {K:PySem.W.Frag}{Hs H aw H':Hp}
theorem RM.own{m:Md}{d:D}{v:V}{As:List Addr}(r:RM K Hs H m d v As):∀ a∈As,Own H a:=by
 cases m with
 |sh=>obtain⟨rfl,_⟩:=r;exact fun a h=>w_ h
 |ow fl=>exact bG.own r.1
 |bo=>obtain⟨rfl,_⟩:=r;exact fun a h=>w_ h
theorem RM.grow(r:RM K Hs H m d v As)(g:ez Hs H aw H'):RM K aw H' m d v As:=by
 cases m with
 |sh=>exact⟨r.1,r.2.same g.sh⟩
 |ow fl=>exact⟨bG.grow g.sh g.all r.1,r.2⟩
 |bo=>exact⟨r.1,r.2.same g.all⟩
theorem RM.rep(w:Wf Hs H)(r:RM K Hs H m d v As):Rep K H d v:=by
 cases m with
 |sh=>exact r.2.same w.sub
 |ow fl=>exact bG.rep w.sub r.1 fun _ _=>rfl
 |bo=>exact r.2
theorem RM.flat(w:Wf Hs H)(r:RM K Hs H m d v As)(f:d.flat=true):Rep K Hs d v:=(r.rep w).mO w.kB f
theorem xa.reps(w:Wf Hs H){ps:List (Md × D)}(r:xa K Hs H ps vs As):aS K H (ps.map (·.2)) vs:=by
 induction r with
 |nil=>exact .nil
 |cons r _ ih=>exact .cons (r.rep w) ih
end
abbrev WE:=Env->(Md->D->Prop)->Prop
abbrev WT:=Env->(Bool->Prop)->Prop
abbrev WA:=Env->(List (Md × D)->Prop)->Prop
structure rA where
 nx:Env->Prop
 rt:Md->D->Prop
 bk:Env->Prop:=fun _=>False
 ct:Env->Prop:=fun _=>False
abbrev WS:=rA->Env->Prop
def di(aw H:Hp)(As:List Addr):Prop:=As.Nodup/\∀ a∈As,aw a=none/\H a=none
def mz(K:PySem.W.Frag)(t:WE):TE:=fun σ H Qv=>∃ Hs ρ ag Q,dy K Hs ρ σ H ag/\t ρ Q /\
 ∀ v H' aw m d As,ez Hs H aw H'->RM K aw H' m d v As->di aw H As->Q m d->Qv v H'
def A4(K:PySem.W.Frag)(t:WT):TT:=fun σ H Qv=>∃ Hs ρ ag Q,dy K Hs ρ σ H ag/\t ρ Q/\∀ b H' aw,ez Hs H aw H'->Q b->Qv b H'
def UX(K:PySem.W.Frag)(t:WA):TA:=fun σ H Qv=>∃ Hs ρ ag Q,dy K Hs ρ σ H ag/\t ρ Q /\
 ∀ vs H' aw ps As,ez Hs H aw H'->xa K aw H' ps vs As->di aw H As->Q ps->Qv vs H'
def xh(K:PySem.W.Frag)(L:Str->Hp->Prop)(t:WS):TS:=fun D σ H=>∃ Hs ρ ag E,dy K Hs ρ σ H ag/\t E ρ /\
 (∀ aT H' aw bS bT,aE Hs aw->dy K aw bS aT H' bT->E.nx bS->D.nx aT H') /\
 (∀ aT H' aw bS bT,aE Hs aw->dy K aw bS aT H' bT->E.bk bS->D.bk aT H') /\
 (∀ aT H' aw bS bT,aE Hs aw->dy K aw bS aT H' bT->E.ct bS->D.ct aT H') /\
 (∀ v H' aw m d As,aE Hs aw->Wf aw H'->RM K aw H' m d v As->As.Nodup->(∀ a∈As,aw a=none)->E.rt m d->D.rt v H') /\
 ∀ n H',aE Hs H'->E.rt (.ow false) (.str n)->L n H'
theorem oh{K:PySem.W.Frag}{L:Str->Hp->Prop}{t:WS}{D:Ends}{σ:St}{H:Hp}{G:Prop}(x:xh K L t D σ H)(k:∀ Hs ρ ag E,dy K Hs ρ σ H ag->t E ρ ->
 (∀ aT H' aw bS bT,aE Hs aw->dy K aw bS aT H' bT->E.nx bS->D.nx aT H') ->
 (∀ aT H' aw bS bT,aE Hs aw->dy K aw bS aT H' bT->E.bk bS->D.bk aT H') ->
 (∀ aT H' aw bS bT,aE Hs aw->dy K aw bS aT H' bT->E.ct bS->D.ct aT H') ->
 (∀ v H' aw m d As,aE Hs aw->Wf aw H'->RM K aw H' m d v As->As.Nodup->(∀ a∈As,aw a=none)->E.rt m d->D.rt v H') ->
 (∀ n H',aE Hs H'->E.rt (.ow false) (.str n)->L n H')->G):G :=
 by
 obtain⟨Hs,ρ,ag,E,sr,h,k1,k2,k3,k4,kx⟩:=x
 exact k Hs ρ ag E sr h k1 k2 k3 k4 kx
theorem gB{K:PySem.W.Frag}{L:Str->Hp->Prop}{t:WS}{D:Ends}{σ:St}{H:Hp}{G:Prop}(x:xh K L t D σ H)(k:∀ Hs ρ ag E,dy K Hs ρ σ H ag->t E ρ ->
 (∀ aT H' aw bS bT,aE Hs aw->dy K aw bS aT H' bT->E.nx bS->D.nx aT H') ->
 (∀ aT H' aw bS bT,aE Hs aw->dy K aw bS aT H' bT->E.bk bS->D.bk aT H') ->
 (∀ aT H' aw bS bT,aE Hs aw->dy K aw bS aT H' bT->E.ct bS->D.ct aT H') ->
 (∀ v H' aw m d As,aE Hs aw->Wf aw H'->RM K aw H' m d v As->As.Nodup->(∀ a∈As,aw a=none)->E.rt m d->D.rt v H')->G):G :=
 oh x fun Hs ρ ag E sr h k1 k2 k3 k4 _=>k Hs ρ ag E sr h k1 k2 k3 k4
theorem gS{α β γ δ:Type _}{A B C:α->β->γ->δ->Prop}{G:Prop}(x:∃ a b c d,A a b c d/\B a b c d/\C a b c d)(k:∀ a b c d,A a b c d->B a b c d->C a b c d->G):G :=
 by
 obtain⟨a,b,c,d,p,q,r⟩:=x
 exact k a b c d p q r
abbrev QE(X:Cx)(K:PySem.W.Frag)(e:Expr)(t:WE):Prop:=PE X e (mz K t)
abbrev QT(X:Cx)(K:PySem.W.Frag)(e:Expr)(t:WT):Prop:=PT X e (A4 K t)
abbrev QW(X:Cx)(K:PySem.W.Frag)(e:Expr)(t:WT):Prop:=PW X e (A4 K t)
abbrev QA(X:Cx)(K:PySem.W.Frag)(es:List Expr)(t:WA):Prop:=PA X es (UX K t)
abbrev QS(X:Cx)(K:PySem.W.Frag)(L:Str->Hp->Prop)(st:Stmt)(t:WS):Prop:=PS X st (xh K L t)
abbrev sq(X:Cx)(K:PySem.W.Frag)(L:Str->Hp->Prop)(st:List Stmt)(t:WS):Prop:=mP X st (xh K L t)
abbrev L0:Str->Hp->Prop:=fun _ _=>True
end L2.Q
namespace L2.Q
open PySem PySem.Spec PyProof.Rows
structure Kt{α:Type}(f:α->Prop):Type where
def bp{α:Type}(a:α){f:α->Prop}(_:Kt f):Prop:=f a
mutual
def D.py:D->PyData
 |.non=>.none
 |.bl b=>.bool b
 |.int i=>.int i
 |.str x=>.str x
 |.list xs=>.list (sv xs)
 |.tup xs=>.tuple (sv xs)
 |.dK _=>.none
 |.dT _=>.none
def sv:List D->List PyData
 |[]=>[]
 |x :: xs=>x.py :: sv xs
end
def cy:Nat->D->Bool
 |_,.non=>true
 |_,.bl _=>true
 |_,.int _=>true
 |_,.str x=>PyData.strOk x
 |n+1,.list xs=>xs.all (cy n)
 |n+1,.tup xs=>xs.all (cy n)
 |_,_=>false
def jS(x y:D):Bool:=PyData.eqv x.py y.py
def D.ty:D->String
 |.non => "NoneType"
 |.bl _ => "bool"
 |.int _ => "int"
 |.str _ => "str"
 |.list _ => "list"
 |.tup _ => "tuple"
 |.dK _ => "dict"
 |.dT _ => "dict"
def D.key1:D->Option Key
 |.int i=>some (.inl i)
 |.str x=>some (.inr x)
 |_=>none
def gC:List D->Option (List Key)
 |[]=>some []
 |x :: xs=>match x.key1,gC xs with
  |some k,some ks=>some (k :: ks)
  |_,_=>none
section
variable {κ:Type}[DecidableEq κ]{β:Type}
def eS(kvs:List (κ × β))(k:κ):Option β:=(kvs.find? fun kv=>decide (kv.1=k)).map (·.2)
def ZW(kvs:List (κ × β))(k:κ)(v:β):List (κ × β) :=
 if (kvs.any fun kv=>decide (kv.1=k))=true then kvs.map (fun kv=>if kv.1=k then (kv.1,v) else kv) else kvs++[(k,v)]
end
theorem Rep.NF{K:PySem.W.Frag}:(∀ {d:D} {v:V},Rep K H d v->∀ n,cy n d=true->L2.Rep K H d.py v)/\∀ {ds:List D} {vs:List V},aS K H ds vs->∀ n,(∀ d∈ds,cy n d=true)->L2.aS K H (sv ds) vs :=
 Rep.ind (m1:=fun d v=>∀ n,cy n d=true->L2.Rep K H d.py v) (m2:=fun ds vs=>∀ n,(∀ d∈ds,cy n d=true)->L2.aS K H (sv ds) vs) (fun _ _=>.none) (fun b _ _=>.bool b) (fun i _ _=>.int i) (fun _ _ _ _=>.str _)
  (fun _ _ _ _ h _ ih n o=>by
   cases n with
   |zero=>simp[cy] at o
   |succ n=>exact .list h (ih n (by simpa[cy] using o)))
  (fun _ _ _ _ h _ ih n o=>by
   cases n with
   |zero=>simp[cy] at o
   |succ n=>exact .tuple (.inl (.inl h)) (ih n (by simpa[cy] using o)))
  (fun _ _ _ _ _ _ _ n o=>by cases n<;>simp[cy] at o) (fun _ _ _ _ _ _ _ n o=>by cases n<;>simp[cy] at o) (fun _ _=>.nil)
  fun _ _ _ _ _ _ i1 i2 n o=>.cons (i1 n (o _ dQ)) (i2 n fun d m=>o d (dz _ m))
theorem Rep.l2{K:PySem.W.Frag}(r:Rep K H d v)(o:cy n d=true):L2.Rep K H d.py v:=Rep.NF.1 r n o
theorem yS(ih:∀ d,cy n d=true->d.py.canLay0=true/\d.py.depth<=n)(xs:List D)(h:∀ x∈xs,cy n x=true):PyData.canLayAll0 (sv xs)=true/\PyData.depthAll (sv xs)<=n:=by
 induction xs with
 |nil=>exact⟨rfl,eu _⟩
 |cons x xs UY =>
  have h1:=ih x (h x dQ)
  have h2:=UY fun y hy=>h y (dz _ hy)
  simp only[sv,PyData.canLayAll0,PyData.depthAll,h1.1,h2.1,Bool.and_self,true_and]
  lia
theorem xx(n:Nat):∀ (d:D),cy n d=true->d.py.canLay0=true/\d.py.depth<=n:=by
 have st:∀ (n:Nat) (x:Str),cy n (.str x)=true->(D.str x).py.canLay0=true/\(D.str x).py.depth<=n:=fun n x h=>by
  have h:PyData.strOk x=true:=by cases n<;>simpa[cy] using h
  exact⟨by simpa[D.py,PyData.canLay0] using h,eu _⟩
 induction n with
 |zero =>
  intro d h
  cases d with
  |str x=>exact st _ x h
  |non=>exact⟨rfl,eu _⟩
  |bl _=>exact⟨rfl,eu _⟩
  |int _=>exact⟨rfl,eu _⟩
  |_=>simp[cy] at h
 |succ n ih =>
  intro d h
  cases d with
  |str x=>exact st _ x h
  |non=>exact⟨rfl,eu _⟩
  |bl _=>exact⟨rfl,eu _⟩
  |int _=>exact⟨rfl,eu _⟩
  |list xs =>
   have h:∀ x∈xs,cy n x=true:=by simpa[cy] using h
   have:=yS ih xs h
   simp only[D.py,PyData.canLay0,PyData.depth]
   exact⟨this.1,by lia⟩
  |tup xs =>
   have h:∀ x∈xs,cy n x=true:=by simpa[cy] using h
   have:=yS ih xs h
   simp only[D.py,PyData.canLay0,PyData.depth]
   exact⟨this.1,by lia⟩
  |dK _=>simp[cy] at h
  |dT _=>simp[cy] at h
mutual
def D.nb:D->Bool
 |.bl _=>false
 |.list xs=>mB xs
 |.tup xs=>mB xs
 |.dK _=>false
 |.dT _=>false
 |_=>true
def mB:List D->Bool
 |[]=>true
 |x :: xs=>x.nb && mB xs
end
mutual
theorem vH:∀ (x y:D),x.nb=true->y.nb=true->(jS x y=true↔x=y)
 |.non,y,_,hy=>by cases y<;>simp_all [jS,D.py,PyData.eqv,D.nb]
 |.bl _,y,hx,_=>by simp[D.nb] at hx
 |.int i,y,_,hy=>by cases y<;>simp_all [jS,D.py,PyData.eqv,D.nb]
 |.str i,y,_,hy=>by cases y<;>simp_all [jS,D.py,PyData.eqv,D.nb]
 |.dK _,y,hx,_=>by simp[D.nb] at hx
 |.dT _,y,hx,_=>by simp[D.nb] at hx
 |.list xs,y,hx,hy=>by
  cases y with
  |list ys =>
   have:=qu xs ys (by simpa[D.nb] using hx) (by simpa[D.nb] using hy)
   simp only[jS,D.py,PyData.eqv,D.list.injEq]
   exact this
  |_=>simp_all [jS,D.py,PyData.eqv,D.nb]
 |.tup xs,y,hx,hy=>by
  cases y with
  |tup ys =>
   have:=qu xs ys (by simpa[D.nb] using hx) (by simpa[D.nb] using hy)
   simp only[jS,D.py,PyData.eqv,D.tup.injEq]
   exact this
  |_=>simp_all [jS,D.py,PyData.eqv,D.nb]
theorem qu:∀ (xs ys:List D),mB xs=true->mB ys=true->(PyData.eqvAll (sv xs) (sv ys)=true↔xs=ys)
 |[],[],_,_=>by simp[sv,PyData.eqvAll]
 |[],_ :: _,_,_=>by simp[sv,PyData.eqvAll]
 |_ :: _,[],_,_=>by simp[sv,PyData.eqvAll]
 |x :: xs,y :: ys,hx,hy=>by
  simp only[mB,ly] at hx hy
  have h1:=vH x y hx.1 hy.1
  have h2:=qu xs ys hx.2 hy.2
  simp only[sv,PyData.eqvAll,ly,List.cons.injEq]
  exact and_congr h1 h2
end
section
variable {K:PySem.W.Frag}{H:Hp}
theorem Rep.key(r:Rep K H d v)(h:d.key1=some k):v=kV k:=by
 cases r<;>simp[D.key1] at h<;>subst h<;>rfl
theorem aS.keys(r:aS K H ds vs)(h:gC ds=some ks):vs=ks.map kV:=by
 induction ds generalizing vs ks with
 |nil=>simp[gC] at h;subst h;exact r.n0
 |cons d ds ih =>
  obtain⟨u,us,rfl,r,rs⟩:=r.c
  unfold gC at h
  cases e1:d.key1 with
  |none=>rw[e1] at h;simp at h
  |some k =>
   cases e2:gC ds with
   |none=>rw[e1,e2] at h;simp at h
   |some dv =>
    rw[e1,e2] at h
    simp at h
    subst h
    rw[iF,r.key e1,ih rs e2]
theorem Rep.qk(r:Rep K H (.tup ds) v)(h:gC ds=some ks):∃ b,v=.ref b/\H b=some (.tup (ks.map kV)):=by
 cases r with
 |tup _ e rs=>exact⟨_,rfl,by rw[e,rs.keys h]⟩
end
section
variable {κ:Type}[DecidableEq κ]{K:PySem.W.Frag}{H:Hp}
theorem zip_get{k:κ}{kvs:List (κ × D)}{vs:List V}(h:aS K H (kvs.map (·.2)) vs):match eS kvs k with
  |some d=>∃ v,gp ((kvs.map (·.1)).zip vs) k=some v/\Rep K H d v
  |none=>gp ((kvs.map (·.1)).zip vs) k=none:=by
 induction kvs generalizing vs with
 |nil=>rfl
 |cons p kvs ih =>
  obtain⟨u,us,rfl,r,rs⟩:=aS.c (d:=p.2) h
  by_cases e:p.1=k
  ·have e1:eS (p :: kvs) k=some p.2:=by simp[eS,e]
   rw[e1]
   exact⟨_,by simp only[iF,Ta];exact tq e,r⟩
  ·have e1:eS (p :: kvs) k=eS kvs k:=by simp[eS,e]
   rw[e1]
   have:=ih rs
   simp only[iF,Ta,tv (p:=(p.1,_)) e]
   exact this
end
section
variable {K:PySem.W.Frag}{Hs H:Hp}
theorem NH(w:Wf Hs H)(hp:H p=none)(ho:∀ vs,o≠.tup vs):ez Hs H Hs (upd H p o) :=
 ⟨(aE.refl H).upd hp,aE.refl _,⟨w.sub.upd hp,fun a vs e=>by
  by_cases h:a=p
  ·subst h;rw[iN] at e;exact absurd (Option.some.inj e) (ho vs)
  ·rw[fh h] at e;exact w.kB a vs e⟩,fun _ h=>.inl h⟩
theorem HK(w:Wf Hs H)(hp:H p=none):ez Hs H (upd Hs p (.tup vs)) (upd H p (.tup vs)) :=
 ⟨(aE.refl H).upd hp,(aE.refl Hs).upd (w.sub.free hp),⟨fun a o e=>by
  by_cases h:a=p
  ·subst h;rw[iN] at e ⊢;exact e
  ·rw[fh h] at e ⊢;exact w.sub a o e,fun a vs e=>by
  by_cases h:a=p
  ·subst h;rw[iN] at e ⊢;exact e
  ·rw[fh h] at e ⊢;exact w.kB a vs e⟩,fun a h=>by
  by_cases e:a=p
  ·subst e;exact .inr hp
  ·rw[fh e] at h;exact .inl h⟩
theorem di.nil:di Hs H []:=⟨nK,fun a h=>nomatch h⟩
theorem di.of(s:aE H H')(f:di Hs H' As):di Hs H As:=⟨f.1,fun a h=>⟨(f.2 a h).1,s.free (f.2 a h).2⟩⟩
abbrev Fin(K:PySem.W.Frag)(Hs H:Hp)(Qd:Md->D->Prop)(Qv:VK):Prop:=∀ v H' aw m d As,ez Hs H aw H'->RM K aw H' m d v As->di aw H As->Qd m d->Qv v H'
theorem Fin.after(f:Fin K Hs H Qd Qv)(g:ez Hs H aw H'):Fin K aw H' Qd Qv:=fun v H2 aC m d As g2 r fr q=>f v H2 aC m d As (g.trans g2) r (fr.of g.all) q
theorem Fin.sh(f:Fin K Hs H Qd Qv)(w:Wf Hs H)(r:Rep K Hs d v)(q:Qd .sh d):Qv v H:=f v H Hs .sh d [] (ez.refl w) ⟨rfl,r⟩ di.nil q
theorem Fin.flat(f:Fin K Hs H Qd Qv)(w:Wf Hs H)(r:Rep K H d v)(hf:d.flat=true)(q:Qd .sh d):Qv v H:=f.sh w (r.mO w.kB hf) q
theorem Fin.bo(f:Fin K Hs H Qd Qv)(w:Wf Hs H)(r:Rep K H d v)(q:Qd .bo d):Qv v H:=f v H Hs .bo d [] (ez.refl w) ⟨rfl,r⟩ di.nil q
def lT(m:Md)(d:D):Md:=match m with
 |.sh=>.sh
 |_=>bif d.flat then .sh else .bo
theorem Fin.lT(f:Fin K Hs H Qd Qv)(w:Wf Hs H)(r:Rep K H d v)(rs:m=.sh->Rep K Hs d v)(q:Qd (lT m d) d):Qv v H:=by
 cases m with
 |sh=>exact f.sh w (rs rfl) q
 |ow fl =>
  cases hf:d.flat with
  |true=>exact f.flat w r hf (by simpa[Q.lT,hf] using q)
  |false=>exact f.bo w r (by simpa[Q.lT,hf] using q)
 |bo =>
  cases hf:d.flat with
  |true=>exact f.flat w r hf (by simpa[Q.lT,hf] using q)
  |false=>exact f.bo w r (by simpa[Q.lT,hf] using q)
theorem Fin.lst(f:Fin K Hs H Qd Qv)(w:Wf Hs H)(hz:ds.length<=sizeLine)(r:aS K H ds vs)(hf:cw ds=true)(q:Qd (.ow true) (.list ds)):∀ p,H p=none->Qv (.ref p) (upd H p (.lst vs)):=fun p hp =>
 f _ _ Hs (.ow true) (.list ds) [p] (NH w hp fun _ z=>nomatch z) ⟨.list (by rw[<- r.length];exact hz) iN ((r.mO w.kB hf).owned hf),by simp⟩ ⟨by simp,fun a h=>by
  obtain rfl:a=p:=by simpa using h
  exact⟨w.sub.free hp,hp⟩⟩ q
theorem Fin.R0(f:Fin K Hs H Qd Qv)(w:Wf Hs H)(hz:ds.length<=sizeLine)(r:aS K Hs ds vs)(q:Qd (.ow false) (.list ds)):∀ p,H p=none->Qv (.ref p) (upd H p (.lst vs)):=fun p hp =>
 f _ _ Hs (.ow false) (.list ds) [p] (NH w hp fun _ z=>nomatch z) ⟨.list (by rw[<- r.length];exact hz) iN r.Ih,by simp⟩ ⟨by simp,fun a h=>by
  obtain rfl:a=p:=by simpa using h
  exact⟨w.sub.free hp,hp⟩⟩ q
theorem Fin.tup(f:Fin K Hs H Qd Qv)(w:Wf Hs H)(hz:ds.length<=sizeLine)(r:aS K H ds vs)(hf:cw ds=true)(q:Qd .sh (.tup ds)):∀ p,H p=none->Qv (.ref p) (upd H p (.tup vs)):=fun p hp =>
 f _ _ (upd Hs p (.tup vs)) .sh (.tup ds) [] (HK w hp) ⟨rfl,.tup (by rw[<- r.length];exact hz) iN ((r.mO w.kB hf).same ((aE.refl Hs).upd (w.sub.free hp)))⟩ di.nil q
end
section
variable {X:Cx}{K:PySem.W.Frag}
theorem PE.imp(h:PE X e te)(i:∀ σ H Q,tN σ H Q->te σ H Q):PE X e tN:=fun pins s σ H Q I q=>h pins s σ H Q I (i σ H Q q)
theorem PT.imp(h:PT X e te)(i:∀ σ H Q,tN σ H Q->te σ H Q):PT X e tN:=fun pins s σ H Q I q=>h pins s σ H Q I (i σ H Q q)
theorem PW.imp(h:PW X e te)(i:∀ σ H Q,tN σ H Q->te σ H Q):PW X e tN:=fun wh pins s σ H Q I q=>h wh pins s σ H Q I (i σ H Q q)
theorem PA.imp(h:PA X e te)(i:∀ σ H Q,tN σ H Q->te σ H Q):PA X e tN:=fun p pins s σ H Q I q=>h p pins s σ H Q I (i σ H Q q)
def NJ:Option (Option Sl)->(Md->D->Prop)->Prop
 |some (some (.sh d)),Q=>Q .sh d
 |some (some (.ow _ d)),Q=>Q .bo d
 |some (some (.lk _ _ d)),Q=>Q .bo d
 |_,_=>False
def ae(i:Nat):WE:=fun ρ Q=>NJ ρ[i]? Q
theorem Ko(h:PE X e (AG i)):QE X K e (ae i):=by
 refine PE.imp h fun σ H Qv hx=>gS hx fun Hs ρ ag Q sr h f=>?_
 unfold ae at h
 cases e:ρ[i]? with
 |none=>rw[e] at h;exact h.elim
 |some o =>
  cases o with
  |none=>rw[e] at h;exact h.elim
  |some sl =>
   obtain⟨v,e1,r⟩:=sr.sr.get e
   rw[e] at h
   cases sl with
   |sh d=>exact⟨v,e1,Fin.sh f sr.wf r h⟩
   |xc a=>exact h.elim
   |ow fl d =>
    obtain⟨As,_,r,_⟩:=r
    exact⟨v,e1,Fin.bo f sr.wf (r.rep sr.wf.sub fun _ _=>rfl) h⟩
   |lk a fl d =>
    obtain⟨As,_,r,_⟩:=r
    exact⟨v,e1,Fin.bo f sr.wf (r.rep sr.wf.sub fun _ _=>rfl) h⟩
theorem qv (i:Nat) (hN:X.N[i]? = some x:=by rfl) (hv:Lv X.env.scope x:=by first|exact Or.inl rfl|exact Or.inr (Or.inl rfl)|exact Or.inr (Or.inr rfl)) (hd:(x == ("__debug__" : Str))=false:=by decide)
  (oP:(x == ("__classdict__" : Str))=false:=by decide):QE X K (.Name x pos) (ae i):=Ko (Yd hN hv hd oP)
def wC(d:D):WE:=fun _ Q=>Q .sh d
theorem yJ(h:PE X e (tC v))(r:∀ H,Rep K H d v):QE X K e (wC d) :=
 PE.imp h fun σ H Qv hx=>gS hx fun Hs ρ ag Q sr h f=>Fin.sh f sr.wf (r _) h
theorem aq{i j pos}:QE X K (.Constant (.int i) j pos) (wC (.int i)):=yJ cl' fun _=>.int i
theorem cX{i j pos}(h:i.length<=sizeLine:=by decide):QE X K (.Constant (.str i) j pos) (wC (.str i)):=yJ co' fun _=>.str h
theorem qo{i j pos}:QE X K (.Constant (.bool i) j pos) (wC (.bl i)):=yJ cm' fun _=>.bl i
theorem Hq{j pos}:QE X K (.Constant .none j pos) (wC .non):=yJ cn' fun _=>.non
theorem ZX (h:RK X.mg x z) (hg:Gl X x:=by rfl) (hd:(x == ("__debug__" : Str))=false:=by decide) (hz:z.length<=sizeLine:=by decide):QE X K (.Name x pos) (wC (.str z)):=yJ (Kl h hg hd) fun _=>.str hz
theorem UZ (h:MS X.mg x i) (hg:Gl X x:=by rfl) (hd:(x == ("__debug__" : Str))=false:=by decide):QE X K (.Name x pos) (wC (.int i)):=yJ (Kh h hg hd) fun _=>.int i
abbrev W2:=Md->D->Md->D->(Md->D->Prop)->Prop
abbrev W1:=Md->D->(Md->D->Prop)->Prop
def ku(K:PySem.W.Frag)(r:R2)(f:W2):Prop:=∀ Hs H m x v As n y u Bs Qd Qv,Wf Hs H->RM K Hs H m x v As->RM K Hs H n y u Bs->f m x n y Qd->Fin K Hs H Qd Qv->r v u H Qv
def R1(K:PySem.W.Frag)(r:V->Hp->VK->Prop)(f:W1):Prop:=∀ Hs H m x v As Qd Qv,Wf Hs H->RM K Hs H m x v As->f m x Qd->Fin K Hs H Qd Qv->r v H Qv
def av(f:W2)(ta tb:WE):WE:=fun ρ Q=>ta ρ fun m x=>tb ρ fun n y=>f m x n y Q
def de(f:W1)(ta:WE):WE:=fun ρ Q=>ta ρ fun m x=>f m x Q
variable {a b:Expr}{ta tb tc:WE}{pos:Pos}
theorem nq(br:ku K r f)(σ:St)(H:Hp)(Qv:VK)(h:mz K (av f ta tb) σ H Qv):LP r (mz K ta) (mz K tb) σ H Qv:=by
 obtain⟨Hs,ρ,ag,Q,sr,h,fin⟩:=h
 refine⟨Hs,ρ,ag,_,sr,h,fun v H1 ax m x As g1 r1 f1 q1=>⟨ax,ρ,ag,_,sr.grow g1,q1,fun u H2 aC n y Bs g2 r2 f2 q2=>?_⟩⟩
 exact br aC H2 m x v As n y u Bs Q Qv g2.wf (r1.grow g2) r2 q2 (Fin.after fin (g1.trans g2))
theorem EW(ho:dc X (binaryOp op) r)(br:ku K r f)(ha:QE X K a ta)(hb:QE X K b tb):QE X K (.BinOp a op b pos) (av f ta tb):=PE.imp (dm' ho ha hb) (nq br)
theorem gE'(ho:Rg X (unaryOp op) r)(br:R1 K r f)(ha:QE X K a ta):QE X K (.UnaryOp op a pos) (de f ta):=by
 refine PE.imp (dn' ho ha) fun σ H Qv hx=>gS hx fun Hs ρ ag Q sr h fin=>?_
 exact⟨Hs,ρ,ag,_,sr,h,fun v H1 ax m x As g1 r1 f1 q1=>br ax H1 m x v As Q Qv g1.wf r1 q1 (Fin.after fin g1)⟩
theorem jz(ho:dc X (compareOp op) r)(br:ku K r f)(ha:QE X K a ta)(hb:QE X K b tb)(hm:behindInMarks op b=false):QE X K (.Compare a [op] [b] pos) (av f ta tb):=PE.imp (dI' ho ha hb hm) (nq br)
def wB(t:WE):WT:=fun ρ Q=>t ρ fun _ x=>match x with
 |.bl b=>Q b
 |_=>False
theorem Dj(σ:St)(H:Hp)(Qv:Bool->Hp->Prop)(h:A4 K (wB t) σ H Qv):TX (mz K t) σ H Qv:=by
 obtain⟨Hs,ρ,ag,Q,sr,h,fin⟩:=h
 refine⟨Hs,ρ,ag,_,sr,h,fun v H1 ax m x As g1 r1 f1 q1=>?_⟩
 have r:=r1.rep g1.wf
 cases r with
 |bl b=>exact⟨b,rfl,fin b H1 ax g1 q1⟩
 |_=>exact q1.elim
theorem aN(ho:dc X (compareOp op) r)(br:ku K r f)(ha:QE X K a ta)(hb:QE X K b tb)(hm:behindInMarks op b=false):QT X K (.Compare a [op] [b] pos) (wB (av f ta tb)):=by
 refine PT.imp (dJ' ho ha hb hm) fun σ H Qv h=>?_
 obtain⟨Hs,ρ,ag,Q,sr,h,fin⟩:=h
 refine nq br σ H _ ⟨Hs,ρ,ag,_,sr,h,fun v H1 ax m x As g1 r1 f1 q1=>?_⟩
 have r:=r1.rep g1.wf
 cases r with
 |bl b=>exact⟨b,rfl,fin b H1 ax g1 q1⟩
 |_=>exact q1.elim
theorem fJ(h:QE X K a t)(he:∀ whole,isTrue a X.env whole=(do let v <- whole;standAt a.pos;holding [v] (truthy v)):=by intro _;rfl):QT X K a (wB t):=PT.imp (cq' h he) Dj
def jo(f g:W2)(ta tb tc:WE):WE:=fun ρ Q=>ta ρ fun m x=>tb ρ fun n y=>f m x n y fun _ z=>match z with
 |.bl k=>if k=true then tc ρ fun l w=>g n y l w Q else Q .sh (.bl false)
 |_=>False
end
end L2.Q
namespace L2.Q
open PySem PySem.Spec PyProof.Rows
section
variable {X:Cx}{K:PySem.W.Frag}{a b c:Expr}{ta tb tc:WE}{pos:Pos}
theorem pQ(br:ku K r f)(NM:ku K r' g)(σ:St)(H:Hp)(Qv:VK)(h:mz K (jo f g ta tb tc) σ H Qv):TY r r' (mz K ta) (mz K tb) (mz K tc) σ H Qv:=by
 obtain⟨Hs,ρ,ag,Q,sr,h,fin⟩:=h
 refine⟨Hs,ρ,ag,_,sr,h,fun v H1 ax m x As g1 r1 f1 q1=>⟨ax,ρ,ag,_,sr.grow g1,q1,fun u H2 aC n y Bs g2 r2 f2 q2=>?_⟩⟩
 refine br aC H2 m x v As n y u Bs _ _ g2.wf (r1.grow g2) r2 q2 fun z H3 eW m3 d3 R3 g3 r3 f3 q3=>?_
 have rr:=r3.rep g3.wf
 cases rr with
 |bl k =>
  refine⟨k,rfl,?_⟩
  have RT:Fin K eW H3 Q Qv:=Fin.after fin ((g1.trans g2).trans g3)
  cases k with
  |false=>exact RT.sh g3.wf (.bl false) q3
  |true =>
   refine⟨eW,ρ,ag,_,((sr.grow g1).grow g2).grow g3,q3,fun w H4 CH l z HL g4 r4 f4 q4=>?_⟩
   exact NM CH H4 n y u Bs l z w HL Q Qv g4.wf ((r2.grow g3).grow g4) r4 q4 (Fin.after RT g4)
 |_=>exact q3.elim
theorem Gf(ho:dc X (compareOp op) r)(kL:dc X (compareOp op') r')(br:ku K r f)(NM:ku K r' g)(ha:QE X K a ta)(hb:QE X K b tb)(hc:QE X K c tc)
  (hm:lastMarks [op,op'] [b,c]=false:=by with_unfolding_all rfl):QE X K (.Compare a [op,op'] [b,c] pos) (jo f g ta tb tc):=PE.imp (dK' ho kL ha hb hc hm) (pQ br NM)
theorem rJ(ho:dc X (compareOp op) r)(kL:dc X (compareOp op') r')(br:ku K r f)(NM:ku K r' g)(ha:QE X K a ta)(hb:QE X K b tb)(hc:QE X K c tc)
  (hm:lastMarks [op,op'] [b,c]=false:=by with_unfolding_all rfl):QT X K (.Compare a [op,op'] [b,c] pos) (wB (jo f g ta tb tc)):=by
 refine PT.imp (dL' ho kL ha hb hc hm) fun σ H Qv h=>?_
 obtain⟨Hs,ρ,ag,Q,sr,h,fin⟩:=h
 refine pQ br NM σ H _ ⟨Hs,ρ,ag,_,sr,h,fun v H1 ax m x As g1 r1 f1 q1=>?_⟩
 have r:=r1.rep g1.wf
 cases r with
 |bl b=>exact⟨b,rfl,fin b H1 ax g1 q1⟩
 |_=>exact q1.elim
def U0(t u:WT):WT:=fun ρ Q=>t ρ fun c=>if c=true then u ρ Q else Q false
def rp(t u:WT):WT:=fun ρ Q=>t ρ fun c=>if c=true then Q true else u ρ Q
def pf(t:WT):WT:=fun ρ Q=>t ρ fun c=>Q (!c)
variable {tA tB:WT}{rest:List Expr}
theorem rM{t u:WT}{f:Bool->TT}{σ:St}{H:Hp}{Qv:Bool->Hp->Prop}{G:Bool->(Bool->Prop)->Env->Prop}
  (h:A4 K (fun ρ Q=>t ρ fun c=>G c Q ρ) σ H Qv)
  (i:∀ c H1 ax ρ ag Q,dy K ax ρ σ H1 ag->G c Q ρ->(∀ b H' aw,ez ax H1 aw H'->Q b->Qv b H')->f c σ H1 Qv):A4 K t σ H fun c H1=>f c σ H1 Qv:=by
 obtain⟨Hs,ρ,ag,Q,sr,h,fin⟩:=h
 exact⟨Hs,ρ,ag,_,sr,h,fun c H1 ax g1 q1=>i c H1 ax ρ ag Q (sr.grow g1) q1 fun b H' aw g2=>fin b H' aw (g1.trans g2)⟩
theorem Et(ha:QT X K a tA):QW X K (.BoolOp .And [a] pos) tA:=pw_and1 ha
theorem g_(ha:QT X K a tA):QW X K (.BoolOp .Or [a] pos) tA:=pw_or1 ha
theorem H_(ha:QT X K a tA)(hb:QW X K (.BoolOp .And (b :: rest) pos) tB):QW X K (.BoolOp .And (a :: b :: rest) pos) (U0 tA tB):=by
 refine PW.imp (pw_and ha hb) fun σ H Qv h=>?_
 refine rM (u:=tB) (f:=fun c σ H1 Q=>if c=true then A4 K tB σ H1 Q else Q false H1) h fun c H1 ax ρ ag Q sr q fin=>?_
 cases c with
 |true=>exact⟨ax,ρ,ag,Q,sr,q,fin⟩
 |false=>exact fin false H1 ax (ez.refl sr.wf) q
theorem jQ(ha:QT X K a tA)(hb:QW X K (.BoolOp .Or (b :: rest) pos) tB):QW X K (.BoolOp .Or (a :: b :: rest) pos) (rp tA tB):=by
 refine PW.imp (pw_or ha hb) fun σ H Qv h=>?_
 refine rM (u:=tB) (f:=fun c σ H1 Q=>if c=true then Q true H1 else A4 K tB σ H1 Q) h fun c H1 ax ρ ag Q sr q fin=>?_
 cases c with
 |true=>exact fin true H1 ax (ez.refl sr.wf) q
 |false=>exact⟨ax,ρ,ag,Q,sr,q,fin⟩
theorem vv(h:QW X K a tA):QT X K a tA:=h _
theorem dZ(ha:QT X K a tA):QT X K (.UnaryOp .Not a pos) (pf tA):=by
 refine PT.imp (cu' ha) fun σ H Qv h=>?_
 exact rM (u:=tA) (f:=fun c σ H1 Q=>Q (!c) H1) h fun c H1 ax ρ ag Q sr q fin=>fin _ H1 ax (ez.refl sr.wf) q
def jO(ta tb:WE):WE:=fun ρ Q=>ta ρ fun _ x=>match x with
 |.bl c=>if c=true then tb ρ Q else Q .sh (.bl false)
 |_=>False
def R4(ta tb:WE):WE:=fun ρ Q=>ta ρ fun _ x=>match x with
 |.bl c=>if c=true then Q .sh (.bl true) else tb ρ Q
 |_=>False
def yf(ta:WE):WE:=fun ρ Q=>ta ρ fun _ x=>match x with
 |.bl c=>Q .sh (.bl (!c))
 |_=>False
theorem qP{op}(h:QE X K a ta):QE X K (.BoolOp op [a] pos) ta:=cy' h
theorem oW(ha:QE X K a ta)(hb:QE X K (.BoolOp .And (b :: rest) pos) tb):QE X K (.BoolOp .And (a :: b :: rest) pos) (jO ta tb):=by
 refine PE.imp (cz' ha hb) fun σ H Qv hx=>gS hx fun Hs ρ ag Q sr h fin=>?_
 refine⟨Hs,ρ,ag,_,sr,h,fun v H1 ax m x As g1 r1 f1 q1=>?_⟩
 have r:=r1.rep g1.wf
 cases r with
 |bl c =>
  refine⟨c,rfl,?_⟩
  cases c with
  |true=>exact⟨ax,ρ,ag,Q,sr.grow g1,q1,Fin.after fin g1⟩
  |false=>exact Fin.sh (Fin.after fin g1) g1.wf (.bl false) q1
 |_=>exact q1.elim
theorem gF'(ha:QE X K a ta)(hb:QE X K (.BoolOp .Or (b :: rest) pos) tb):QE X K (.BoolOp .Or (a :: b :: rest) pos) (R4 ta tb):=by
 refine PE.imp (cA' ha hb) fun σ H Qv hx=>gS hx fun Hs ρ ag Q sr h fin=>?_
 refine⟨Hs,ρ,ag,_,sr,h,fun v H1 ax m x As g1 r1 f1 q1=>?_⟩
 have r:=r1.rep g1.wf
 cases r with
 |bl c =>
  refine⟨c,rfl,?_⟩
  cases c with
  |true=>exact Fin.sh (Fin.after fin g1) g1.wf (.bl true) q1
  |false=>exact⟨ax,ρ,ag,Q,sr.grow g1,q1,Fin.after fin g1⟩
 |_=>exact q1.elim
theorem GD(ha:QE X K a ta):QE X K (.UnaryOp .Not a pos) (yf ta):=by
 refine PE.imp (cB' ha) fun σ H Qv hx=>gS hx fun Hs ρ ag Q sr h fin=>?_
 refine⟨Hs,ρ,ag,_,sr,h,fun v H1 ax m x As g1 r1 f1 q1=>?_⟩
 have r:=r1.rep g1.wf
 cases r with
 |bl c=>exact⟨c,rfl,Fin.sh (Fin.after fin g1) g1.wf (.bl _) q1⟩
 |_=>exact q1.elim
def U4(t:WT)(ta tb:WE):WE:=fun ρ Q=>t ρ fun c=>if c=true then ta ρ Q else tb ρ Q
theorem gG'(hc:QT X K c tA)(ha:QE X K a ta)(hb:QE X K b tb):QE X K (.IfExp c a b pos) (U4 tA ta tb):=by
 refine PE.imp (cD' hc ha hb) fun σ H Qv hx=>gS hx fun Hs ρ ag Q sr h fin=>?_
 refine⟨Hs,ρ,ag,_,sr,h,fun k H1 ax g1 q1=>?_⟩
 cases k with
 |true=>exact⟨ax,ρ,ag,Q,sr.grow g1,q1,Fin.after fin g1⟩
 |false=>exact⟨ax,ρ,ag,Q,sr.grow g1,q1,Fin.after fin g1⟩
def R5:D->Option Bool
 |.non=>some false
 |.bl b=>some b
 |.int i=>some (i != 0)
 |.str x=>some ((x.length:Int) != 0)
 |.list xs=>some !xs.isEmpty
 |.tup xs=>some !xs.isEmpty
 |.dK kvs=>none
 |.dT kvs=>none
def R6(t:WE):WT:=fun ρ Q=>t ρ fun _ x=>∃ b,R5 x=some b/\Q b
end
def i5:W2:=fun m x n y Q=>match x,y with
 |.int i,.int j=>Q .sh (.int (i+j))
 |.str i,.str j=>i.length+j.length<=sizeLine/\Q .sh (.str (i++j))
 |.list xs,.list ys=>xs.length+ys.length<=sizeLine/\((cw xs=true/\cw ys=true/\Q (.ow true) (.list (xs++ys)))\/(m=.sh/\n=.sh/\Q (.ow false) (.list (xs++ys))))
 |.tup xs,.tup ys=>xs≠[]/\xs.length+ys.length<=sizeLine/\cw xs=true/\cw ys=true/\Q .sh (.tup (xs++ys))
 |_,_=>False
def EX(P:Int->Int->(Md->D->Prop)->Prop):W2:=fun _ x _ y Q=>match x,y with
 |.int i,.int j=>P i j Q
 |_,_=>False
def U5(P:Int->Int->(Md->D->Prop)->Prop)(S:Str->Str->(Md->D->Prop)->Prop):W2:=fun _ x _ y Q=>match x,y with
 |.int i,.int j=>P i j Q
 |.str i,.str j=>S i j Q
 |_,_=>False
def y3:W2:=EX fun i j Q=>Q .sh (.int (i-j))
def sA:W2:=EX fun i j Q=>EB i j/\Q .sh (.int (i*j))
def oa:W2:=EX fun i j Q=>(0<j/\j<1073741824)/\Q .sh (.int (i / j))
def gV:W2:=EX fun i j Q=>0<j/\Q .sh (.int (i % j))
def R7:W2:=EX fun i j Q=>FY i j/\Q .sh (.int (i ^ j.toNat))
def EZ:W2:=U5 (fun i j Q=>Q .sh (.bl (decide (i<j)))) fun i j Q=>Q .sh (.bl (pd i j))
def A5:W2:=U5 (fun i j Q=>Q .sh (.bl (decide (i<=j)))) fun i j Q=>Q .sh (.bl (!pd j i))
def NR:W2:=EX fun i j Q=>Q .sh (.bl (decide (j<i)))
def fR:W2:=fun _ x _ y Q=>match x,y with
 |.int i,.int j=>Q .sh (.bl (decide (i=j)))
 |.str i,.str j=>Q .sh (.bl (decide (i=j)))
 |.bl i,.bl j=>Q .sh (.bl (decide (i=j)))
 |_,_=>cy 12 x=true/\cy 12 y=true/\Q .sh (.bl (jS x y))
def rq:W2:=fun _ x _ y Q=>match x,y with
 |.int i,.int j=>Q .sh (.bl (!decide (i=j)))
 |.str i,.str j=>Q .sh (.bl (!decide (i=j)))
 |.bl i,.bl j=>Q .sh (.bl (!decide (i=j)))
 |_,_=>cy 12 x=true/\cy 12 y=true/\Q .sh (.bl (!jS x y))
def gD:D->Bool
 |.non=>true
 |.bl _=>true
 |.int _=>true
 |.str _=>true
 |_=>false
def inD(x:D)(ys:List D):Bool:=ys.any fun y=>jS y x
def sC(neg:Bool):W2:=fun _ x _ y Q=>match y with
 |.str j=>match x with
  |.str i=>Q .sh (.bl (if neg then !yT i j else yT i j))
  |_=>False
 |.list ys=>gD x=true/\ys.all gD=true/\Q .sh (.bl (if neg then !inD x ys else inD x ys))
 |.tup ys=>gD x=true/\ys.all gD=true/\Q .sh (.bl (if neg then !inD x ys else inD x ys))
 |.dK kvs=>∃ k,x.key1=some k/\Q .sh (.bl (if neg then !(eS kvs k).isSome else (eS kvs k).isSome))
 |.dT kvs=>match x with
  |.tup xs=>∃ ks,gC xs=some ks/\Q .sh (.bl (if neg then !(eS kvs ks).isSome else (eS kvs ks).isSome))
  |_=>False
 |_=>False
section
variable {K:PySem.W.Frag}
theorem Ak(f:Fin K Hs H Qd Qv)(w:Wf Hs H)(h:x.length<=sizeLine)(q:Qd .sh (.str x)):Qv (.str x) H:=f.sh w (.str h) q
theorem cF(i j:Str):(i++j).length=i.length+j.length:=by
 show((i++j).cps.size)=_
 show(i.cps++j.cps).size=_
 simp[Str.length]
theorem Ja:ku K (fun x y H Q=>BR K x y H Q\/T_ K x y H Q) i5:=by
 intro Hs H m x v As n y u Bs Qd Qv w rx ry h f
 have r1:=rx.rep w
 have r2:=ry.rep w
 unfold i5 at h
 cases r1 with
 |int i=>cases r2 with
  |int j=>exact .inl (f.sh w (.int _) h)
  |_=>exact h.elim
 |str hi=>cases r2 with
  |str hj=>exact .inl ⟨h.1,Ak f w (by rw[cF];exact h.1) h.2⟩
  |_=>exact h.elim
 |list z1 s1 q1=>cases r2 with
  |list z2 s2 q2 =>
   have l1:=q1.length
   have l2:=q2.length
   have hz:=h.1
   rcases h.2 with⟨f1,f2,q⟩|⟨rfl,rfl,q⟩
   ·refine .inl ⟨_,_,s1,s2,by lia,?_⟩
    exact f.lst w (by rw[md];exact hz) (q1.append q2) (by rw[lH,f1,f2];rfl) q
   ·obtain⟨_,rx⟩:=rx
    obtain⟨_,ry⟩:=ry
    cases rx with
    |list z1' s1' ZY=>cases ry with
     |list z2' s2' ZZ =>
      have l1:=ZY.length
      have l2:=ZZ.length
      refine .inl ⟨_,_,aE.seq w.sub s1',aE.seq w.sub s2',by lia,?_⟩
      exact f.R0 w (by rw[md];exact hz) (ZY.append ZZ) q
  |_=>exact h.elim
 |tup t1 s1 q1=>cases r2 with
  |tup t2 s2 q2 =>
   have l1:=q1.length
   have l2:=q2.length
   obtain⟨ic,hz,f1,f2,q⟩:=h
   refine .inr ⟨_,_,_,_,rfl,rfl,.inl (.inl s1),.inl (.inl s2),?_,by lia,?_⟩
   ·intro e
    subst e
    exact ic (P4.mp l1)
   ·refine⟨fun e=>?_,fun _=>f.tup w (by rw[md];exact hz) (q1.append q2) (by rw[lH,f1,f2];rfl) q⟩
    subst e
    cases q2
    rw[mh] at q
    exact f.flat w (.tup t1 s1 q1) (by simpa[D.flat] using f1) q
  |_=>exact h.elim
 |_=>exact h.elim
theorem DX{H:Hp}{x y:D}{v u:V}{m n:Md}{P:Int->Int->(Md->D->Prop)->Prop}{S:Str->Str->(Md->D->Prop)->Prop}{Q:Md->D->Prop}{G:Prop}(r1:Rep K H x v)(r2:Rep K H y u)(h:U5 P S m x n y Q)(k:∀ i j,v=.int i->u=.int j->P i j Q->G)(ks:∀ i j,v=.str i->u=.str j->S i j Q->G):G:=by
 cases r1 with
 |int i=>cases r2 with
  |int j=>exact k i j rfl rfl h
  |_=>exact h.elim
 |str hi=>cases r2 with
  |str hj=>exact ks _ _ rfl rfl h
  |_=>exact h.elim
 |_=>exact h.elim
theorem jX{H:Hp}{x y:D}{v u:V}{m n:Md}{P:Int->Int->(Md->D->Prop)->Prop}{Q:Md->D->Prop}{G:Prop}(r1:Rep K H x v)(r2:Rep K H y u)(h:EX P m x n y Q)(k:∀ i j,v=.int i->u=.int j->P i j Q->G):G:=by
 cases r1 with
 |int i=>cases r2 with
  |int j=>exact k i j rfl rfl h
  |_=>exact h.elim
 |_=>exact h.elim
theorem JV:ku K Hl y3:=by
 intro Hs H m x v As n y u Bs Qd Qv w rx ry h f
 exact jX (rx.rep w) (ry.rep w) h fun i j e1 e2 q=>by
  subst e1 e2
  exact f.sh w (.int _) q
theorem Hv:ku K Gi sA:=by
 intro Hs H m x v As n y u Bs Qd Qv w rx ry h f
 exact jX (rx.rep w) (ry.rep w) h fun i j e1 e2 q=>by
  subst e1 e2
  exact⟨q.1,f.sh w (.int _) q.2⟩
theorem Je:ku K G4 oa:=by
 intro Hs H m x v As n y u Bs Qd Qv w rx ry h f
 exact jX (rx.rep w) (ry.rep w) h fun i j e1 e2 q=>by
  subst e1 e2
  exact⟨q.1,f.sh w (.int _) q.2⟩
theorem IW:ku K En gV:=by
 intro Hs H m x v As n y u Bs Qd Qv w rx ry h f
 exact jX (rx.rep w) (ry.rep w) h fun i j e1 e2 q=>by
  subst e1 e2
  exact⟨q.1,f.sh w (.int _) q.2⟩
theorem Ij:ku K Gw R7:=by
 intro Hs H m x v As n y u Bs Qd Qv w rx ry h f
 exact jX (rx.rep w) (ry.rep w) h fun i j e1 e2 q=>by
  subst e1 e2
  exact⟨q.1,f.sh w (.int _) q.2⟩
theorem Gy:ku K Ux NR:=by
 intro Hs H m x v As n y u Bs Qd Qv w rx ry h f
 exact jX (rx.rep w) (ry.rep w) h fun i j e1 e2 q=>by
  subst e1 e2
  exact f.sh w (.bl _) q
theorem Cy:ku K Uv EZ:=by
 intro Hs H m x v As n y u Bs Qd Qv w rx ry h f
 exact DX (rx.rep w) (ry.rep w) h (fun i j e1 e2 q=>by
  subst e1 e2
  exact f.sh w (.bl _) q) fun i j e1 e2 q=>by
  subst e1 e2
  exact f.sh w (.bl _) q
theorem yK:ku K Uw A5:=by
 intro Hs H m x v As n y u Bs Qd Qv w rx ry h f
 exact DX (rx.rep w) (ry.rep w) h (fun i j e1 e2 q=>by
  subst e1 e2
  exact f.sh w (.bl _) q) fun i j e1 e2 q=>by
  subst e1 e2
  exact f.sh w (.bl _) q
theorem eq_data(w:Wf Hs H)(rx:Rep K H x v)(ry:Rep K H y u)(f:Fin K Hs H Qd Qv)(h:cy 12 x=true/\cy 12 y=true/\Qd .sh (.bl (jS x y))):UA K v u H Qv:=by
 obtain⟨h1,h2,q⟩:=h
 have l1:=xx 12 x h1
 have l2:=xx 12 y h2
 exact⟨x.py,y.py,rx.l2 h1,ry.l2 h2,l1.1,l2.1,by lia,f.sh w (.bl _) q⟩
theorem ne_data(w:Wf Hs H)(rx:Rep K H x v)(ry:Rep K H y u)(f:Fin K Hs H Qd Qv)(h:cy 12 x=true/\cy 12 y=true/\Qd .sh (.bl (!jS x y))):UB K v u H Qv:=by
 obtain⟨h1,h2,q⟩:=h
 have l1:=xx 12 x h1
 have l2:=xx 12 y h2
 exact⟨x.py,y.py,rx.l2 h1,ry.l2 h2,l1.1,l2.1,by lia,f.sh w (.bl _) q⟩
theorem b_:ku K (RC K) fR:=by
 intro Hs H m x v As n y u Bs Qd Qv w rx ry h f
 have r1:=rx.rep w
 have r2:=ry.rep w
 have d:=fun h=>eq_data (Qd:=Qd) (Qv:=Qv) w r1 r2 f h
 cases r1 with
 |int i=>cases r2 with
  |int j=>exact f.sh w (.bl _) h
  |_=>exact d h
 |str i=>cases r2 with
  |str j=>exact f.sh w (.bl _) h
  |_=>exact d h
 |bl i=>cases r2 with
  |bl j=>exact f.sh w (.bl _) h
  |_=>exact d h
 |_=>exact d h
theorem uf:ku K (RD K) rq:=by
 intro Hs H m x v As n y u Bs Qd Qv w rx ry h f
 have r1:=rx.rep w
 have r2:=ry.rep w
 have d:=fun h=>ne_data (Qd:=Qd) (Qv:=Qv) w r1 r2 f h
 cases r1 with
 |int i=>cases r2 with
  |int j=>exact f.sh w (.bl _) h
  |_=>exact d h
 |str i=>cases r2 with
  |str j=>exact f.sh w (.bl _) h
  |_=>exact d h
 |bl i=>cases r2 with
  |bl j=>exact f.sh w (.bl _) h
  |_=>exact d h
 |_=>exact d h
theorem nu(r:Rep K H x v)(h:gD x=true):yv v=true:=by
 cases r<;>first|rfl|(simp[gD] at h)
theorem Fv(r:Rep K H x v)(s:Rep K H y u)(h:gD x=true)(g:gD y=true):AK v u=jS x y:=by
 cases r<;>simp[gD] at h<;>cases s<;>simp[gD] at g<;>rfl
theorem Il(r:Rep K H x v)(h:gD x=true)(rs:aS K H ys us)(g:ys.all gD=true):us.all yv=true/\Rp v us=inD x ys:=by
 induction ys generalizing us with
 |nil=>rw[rs.n0];exact⟨rfl,rfl⟩
 |cons y ys ih =>
  obtain⟨u,us,rfl,s,ss⟩:=rs.c
  simp only[BO,ly] at g
  obtain⟨e1,e2⟩:=ih ss g.2
  refine⟨by simp only[BO,nu s g.1,e1,Bool.and_self],?_⟩
  unfold Rp inD at *
  rw[DU,DU,e2,Fv s r g.1 h]
theorem sO{κ:Type}[DecidableEq κ]{H:Hp}{k:κ}{kvs:List (κ × D)}{vs:List V}(r:aS K H (kvs.map (·.2)) vs):(gp ((kvs.map (·.1)).zip vs) k).isSome=(eS kvs k).isSome:=by
 have:=zip_get (k:=k) r
 split at this
 ·rename_i e
  obtain⟨v,e1,_⟩:=this
  rw[e1,e];rfl
 ·rename_i e
  rw[this,e];rfl
theorem uE{neg:Bool}:ku K (EI K neg) (sC neg):=by
 intro Hs H m x v As n y u Bs Qd Qv w rx ry h f
 have r1:=rx.rep w
 have r2:=ry.rep w
 cases r2 with
 |str j=>cases r1 with
  |str i=>exact f.sh w (.bl _) h
  |_=>exact h.elim
 |list z s q =>
  obtain⟨h1,h2,h3⟩:=h
  obtain⟨e1,e2⟩:=Il r1 h1 q h2
  have h4:=nu r1 h1
  have g:L8 K neg v (.ref _) H Qv:=⟨_,_,rfl,.inl s,h4,e1,by rw[e2];exact f.sh w (.bl _) h3⟩
  cases r1<;>exact .inr g
 |tup _ s q =>
  obtain⟨h1,h2,h3⟩:=h
  obtain⟨e1,e2⟩:=Il r1 h1 q h2
  have h4:=nu r1 h1
  have g:L8 K neg v (.ref _) H Qv:=⟨_,_,rfl,.inr (.inl (.inl s)),h4,e1,by rw[e2];exact f.sh w (.bl _) h3⟩
  cases r1<;>exact .inr g
 |dK kk e q =>
  obtain⟨k,hk,h3⟩:=h
  have ev:=r1.key hk
  subst ev
  have eg:=sO (k:=k) q
  cases k<;>exact .inl ⟨_,kS.k' e,by rw[eg];exact f.sh w (.bl _) h3⟩
 |dT kk e q =>
  cases r1 with
  |tup t1 e1 q1 =>
   obtain⟨ks,hk,h3⟩:=h
   obtain⟨b,eb,e2⟩:=Rep.qk (.tup t1 e1 q1) hk
   cases eb
   have eg:=sO (k:=ks) q
   exact .inl ⟨_,kS.t' e e2,by rw[eg];exact f.sh w (.bl _) h3⟩
  |_=>exact h.elim
 |_=>exact h.elim
end
section
variable {X:Cx}{K:PySem.W.Frag}{a b:Expr}{ta tb:WE}{pos:Pos}
theorem Kd(hK:X.K=K:=by rfl):dc X (binaryOp .Add) (fun x y H Q=>BR K x y H Q\/T_ K x y H Q):=by subst hK;exact G5.or et'
theorem fj(ha:QE X K a ta)(hb:QE X K b tb)(hK:X.K=K:=by rfl):QE X K (.BinOp a .Add b pos) (av i5 ta tb):=EW (Kd hK) Ja ha hb
theorem vm(ha:QE X K a ta)(hb:QE X K b tb):QE X K (.BinOp a .Sub b pos) (av y3 ta tb):=EW Gh JV ha hb
theorem oV(ha:QE X K a ta)(hb:QE X K b tb):QE X K (.BinOp a .Mult b pos) (av sA ta tb):=EW Hi Hv ha hb
theorem iD(ha:QE X K a ta)(hb:QE X K b tb):QE X K (.BinOp a .FloorDiv b pos) (av oa ta tb):=EW Gn Je ha hb
theorem cC(ha:QE X K a ta)(hb:QE X K b tb):QE X K (.BinOp a .Mod b pos) (av gV ta tb):=EW GR IW ha hb
theorem K5(ha:QE X K a ta)(hb:QE X K b tb):QE X K (.BinOp a .Pow b pos) (av R7 ta tb):=EW Hk Ij ha hb
def xi:W1:=fun _ x Q=>match x with
 |.int i=>Q .sh (.int (-i))
 |_=>False
theorem Ik:R1 K (rU fun i=>.int (-i)) xi:=by
 intro Hs H m x v As Qd Qv w rx h f
 have r1:=rx.rep w
 cases r1 with
 |int i=>exact⟨i,rfl,f.sh w (.int _) h⟩
 |_=>exact h.elim
theorem uA(ha:QE X K a ta):QE X K (.UnaryOp .USub a pos) (de xi ta):=gE' dx' Ik ha
end
def bX:WA:=fun _ Q=>Q []
def ak(te:WE)(t:WA):WA:=fun ρ Q=>te ρ fun m x=>t ρ fun ps=>Q ((m,x) :: ps)
def xk:Md × D->Bool
 | (.sh,_)=>true
 | (_,d)=>d.flat
def E2:Md × D->Bool
 | (.bo,d)=>d.flat
 |_=>true
def CL:Md × D->Bool
 | (.ow true,_)=>true
 | (_,d)=>d.flat
def yr(ps:List (Md × D)):Md:=bif ps.all xk then .sh else bif ps.all E2 then .ow (ps.all CL) else .bo
def Fy(ps:List (Md × D)):Md:=bif ps.all E2 then .ow (ps.all CL) else .bo
def ng(t:WA):WE:=fun ρ Q=>t ρ fun ps=>ps.length<=sizeLine/\Q (yr ps) (.tup (ps.map (·.2)))
def mE(t:WA):WE:=fun ρ Q=>t ρ fun ps=>ps.length<=sizeLine/\Q (Fy ps) (.list (ps.map (·.2)))
section
variable {X:Cx}{K:PySem.W.Frag}{e:Expr}{es:List Expr}{te:WE}{t:WA}{pos:Pos}{Hs H:Hp}
theorem az:QA X K [] bX:=PA.imp oQ fun σ H Qv hx=>gS hx fun Hs ρ ag Q sr h f=>f [] H Hs [] [] (ez.refl sr.wf) .nil di.nil h
theorem di.app(f1:di ax H As)(o:∀ a∈As,H1 a≠none)(f2:di aC H1 Bs)(s:aE H H1)(k:∀ a,ax a=none->H1 a≠none->aC a=none):di aC H (As++Bs) :=
 ⟨iP.mpr ⟨f1.1,f2.1,fun a ha b hb e=>by subst e;exact o a ha (f2.2 a hb).2⟩,fun a h=>by
  rcases eJ.mp h with h|h
  ·exact⟨k a (f1.2 a h).1 (o a h),(f1.2 a h).2⟩
  ·exact⟨(f2.2 a h).1,s.free (f2.2 a h).2⟩⟩
theorem aa(ha:QE X K e te)(hr:QA X K es t)(hs:starEach (e :: es) X.env=(false,eval e X.env) :: starEach es X.env:=by rfl):QA X K (e :: es) (ak te t):=by
 refine PA.imp (kN ha hr hs) fun σ H Qv hx=>gS hx fun Hs ρ ag Q sr h f=>?_
 refine⟨Hs,ρ,ag,_,sr,h,fun v H1 ax m x As g1 r1 f1 q1=>⟨ax,ρ,ag,_,sr.grow g1,q1,fun vs H2 aC ps Bs g2 r2 f2 q2=>?_⟩⟩
 exact f (v :: vs) H2 aC _ _ (g1.trans g2) (.cons (r1.grow g2) r2) (f1.app (fun a h=>(r1.own a h).ne) f2 g1.all fun a h1 h2=>g2.n4 h1 h2) q2
theorem xa.sh(w:Wf Hs H){ps:List (Md × D)}(r:xa K Hs H ps vs As):ps.all xk=true->aS K Hs (ps.map (·.2)) vs:=by
 induction r with
 |nil=>exact fun _=>.nil
 |@cons m d v ps vs As Bs r rs ih =>
  intro h
  simp only[BO,ly] at h
  refine .cons ?_ (ih h.2)
  cases m with
  |sh=>exact r.2
  |ow fl=>exact r.flat w h.1
  |bo=>exact r.flat w h.1
theorem xa.ow(w:Wf Hs H){ps:List (Md × D)}(r:xa K Hs H ps vs As):ps.all E2=true->(fl=true->ps.all CL=true)->∃ Bs,Bs.Sublist As/\(ps.all xk=false->Bs≠[])/\aF K Hs H fl (ps.map (·.2)) vs Bs:=by
 induction r with
 |nil=>exact fun _ _=>⟨[],BM _,(fun z=>Bool.noConfusion z),.nil⟩
 |@cons m d v ps vs A1 Cs r rs ih =>
  intro h hf
  simp only[BO,ly] at h hf
  obtain⟨Bs,sb,ne,q⟩:=ih h.2 fun z=>(hf z).2
  have sk:([]++Bs).Sublist (A1++Cs):=by simpa using sb.trans (oC _ _)
  have Ap:d.flat=true->xk (m,d)=true->∃ Bs,Bs.Sublist (A1++Cs)/\(((m,d) :: ps).all xk=false->Bs≠[])/\aF K Hs H fl (((m,d) :: ps).map (·.2)) (v :: vs) Bs:=fun hd ho =>
   ⟨[]++Bs,sk,fun z=>ne (by rw[BO,ho] at z;simpa using z),.cons (.sh (fun _=>hd) (r.flat w hd)) q⟩
  cases m with
  |sh=>exact⟨[]++Bs,sk,fun z=>ne (by simpa[xk] using z),.cons (.sh (fun z=>(hf z).1) r.2) q⟩
  |bo=>exact Ap h.1 h.1
  |ow b =>
   cases hd:d.flat with
   |true=>exact Ap hd hd
   |false =>
    refine⟨A1++Bs,sb.append_left _,fun _ z=>r.2 (Jn.mp z).1,.cons ?_ q⟩
    cases fl with
    |false=>exact bG.RZ r.1
    |true =>
     have:=(hf rfl).1
     cases b with
     |true=>exact r.1
     |false=>simp[CL,hd] at this
theorem qL:∀ {ps:List (Md × D)},cw (ps.map (·.2))=true->ps.all xk=true
 |[],_=>rfl
 | (m,d) :: ps,h=>by
  simp only[iF,cw,ly] at h
  simp only[BO,ly]
  exact⟨by cases m<;>simp[xk,h.1],qL h.2⟩
theorem gF{x1}(h:QA X K es t):QE X K (.Tuple es x1 pos) (ng t):=by
 refine PE.imp (T7 h) fun σ H Qv hx=>gS hx fun Hs ρ ag Q sr h f=>?_
 refine⟨Hs,ρ,ag,_,sr,h,fun vs H1 ax ps As g1 r1 f1 q1=>?_⟩
 obtain⟨hz,q⟩:=q1
 have rl:=(r1.reps g1.wf)
 have hl:=rl.length
 rw[cE] at hl
 refine⟨by lia,fun p hp=>?_⟩
 have g2:=HK (vs:=vs) g1.wf hp
 have fin:=Fin.after f g1
 unfold yr at q
 cases h1:ps.all xk with
 |true =>
  rw[h1] at q
  exact fin _ _ _ .sh _ [] g2 ⟨rfl,.tup (by lia) iN ((r1.sh g1.wf h1).same g2.sh)⟩ di.nil q
 |false =>
  rw[h1] at q
  cases h2:ps.all E2 with
  |false =>
   rw[h2] at q
   exact fin _ _ _ .bo _ [] g2 ⟨rfl,.tup (by lia) iN (rl.same g2.all)⟩ di.nil q
  |true =>
   rw[h2] at q
   obtain⟨Bs,sb,nz,ro⟩:=r1.ow (fl:=ps.all CL) g1.wf h2 fun z=>z
   have ic:cw (ps.map (·.2))=false:=by
    cases hf:cw (ps.map (·.2)) with
    |false=>rfl
    |true=>rw[qL hf] at h1;cases h1
   have own:=ro.own
   refine f _ _ _ (.ow _) _ Bs (g1.trans g2) ⟨.tup (by lia) iN ic (ro.grow g2.sh g2.all),nz h1⟩ ⟨sb.nodup f1.1,fun a ha=>⟨?_,(f1.2 a (sb.subset ha)).2⟩⟩ q
   exact g2.n4 (f1.2 a (sb.subset ha)).1 (own a ha).ne
theorem fM(h:QA X K es t):QE X K (.List es pos) (mE t):=by
 refine PE.imp (dV' h) fun σ H Qv hx=>gS hx fun Hs ρ ag Q sr h f=>?_
 refine⟨Hs,ρ,ag,_,sr,h,fun vs H1 ax ps As g1 r1 f1 q1=>?_⟩
 obtain⟨hz,q⟩:=q1
 have rl:=(r1.reps g1.wf)
 have hl:=rl.length
 rw[cE] at hl
 refine⟨by lia,fun p hp=>?_⟩
 have g2:=NH (o:=.lst vs) g1.wf hp fun _ z=>nomatch z
 have fin:=Fin.after f g1
 unfold Fy at q
 cases h2:ps.all E2 with
 |false =>
  rw[h2] at q
  exact fin _ _ _ .bo _ [] g2 ⟨rfl,.list (by lia) (.inl (.inl iN)) (rl.same g2.all)⟩ di.nil q
 |true =>
  rw[h2] at q
  obtain⟨Bs,sb,nz,ro⟩:=r1.ow (fl:=ps.all CL) g1.wf h2 fun z=>z
  have own:=ro.own
  refine f _ _ _ (.ow _) _ (p :: Bs) (g1.trans g2) ⟨.list (by lia) iN (ro.grow g2.sh g2.all),by simp⟩ ⟨nE.mpr ⟨fun m=>(own p m).ne hp,sb.nodup f1.1⟩,fun a ha=>?_⟩ q
  rcases dA.mp ha with rfl|ha
  ·exact⟨g1.wf.sub.free hp,g1.all.free hp⟩
  ·exact⟨g2.n4 (f1.2 a (sb.subset ha)).1 (own a ha).ne,(f1.2 a (sb.subset ha)).2⟩
end
theorem aS.eK{K:PySem.W.Frag}(r:aS K H ds vs)(h:eK ds i=some d):∃ v,L2.eK vs i=some v/\Rep K H d v:=by
 unfold L2.eK at *
 rw[<- r.length]
 cases e:mn ds.length i with
 |none=>rw[e] at h;cases h
 |some j =>
  rw[e] at h
  exact r.get h
def ck:W2:=fun m x _ y Q=>match x with
 |.list xs=>match y with
  |.int i=>∃ d,eK xs i=some d/\bp d (f:=fun d=>Q (lT m d) d) ⟨⟩
  |_=>False
 |.tup xs=>match y with
  |.int i=>∃ d,eK xs i=some d/\bp d (f:=fun d=>Q (lT m d) d) ⟨⟩
  |_=>False
 |.str z=>match y with
  |.int i=>∃ c,eK z.cps.toList i=some c/\Q .sh (.str ⟨#[c]⟩)
  |_=>False
 |.dK kvs=>∃ k d,y.key1=some k/\eS kvs k=some d/\bp d (f:=fun d=>Q (lT m d) d) ⟨⟩
 |.dT kvs=>match y with
  |.tup ys=>∃ ks d,gC ys=some ks/\eS kvs ks=some d/\bp d (f:=fun d=>Q (lT m d) d) ⟨⟩
  |_=>False
 |_=>False
def U6(K:PySem.W.Frag):R2:=fun x y H Q=>Uy K x y H Q\/∃ a v,x=.ref a/\kS H a y (some v)/\Q v H
theorem Ax(c:Nat):(⟨#[c]⟩:Str).length<=sizeLine:=by show 1<=sizeLine;decide
theorem RM.here{K:PySem.W.Frag}(w:Wf Hs H)(r:RM K Hs H m d v As):(m=.sh/\Rep K Hs d v)\/(m≠.sh/\Rep K H d v):=by
 cases m with
 |sh=>exact .inl ⟨rfl,r.2⟩
 |ow fl=>exact .inr ⟨(fun z=>nomatch z),r.rep w⟩
 |bo=>exact .inr ⟨(fun z=>nomatch z),r.2⟩
section
variable {X:Cx}{K:PySem.W.Frag}
theorem K3:ku K (U6 K) ck:=by
 intro Hs H m x v As n y u Bs Qd Qv w rx ry h f
 have r2:=ry.rep w
 have core:∀ G:Hp,aE G H->(∀ d v,Rep K G d v->Rep K H d v/\(m=.sh->Rep K Hs d v))->Rep K G x v->U6 K v u H Qv:=by
  intro G sg up r1
  cases r1 with
  |list z s q =>
   cases r2 with
   |int i =>
    obtain⟨d,e,h⟩:=h
    obtain⟨v',e',r'⟩:=q.eK e
    obtain⟨u1,u2⟩:=up _ _ r'
    exact .inl (.inl ⟨_,v',aE.seq sg s,e',f.lT w u1 u2 h⟩)
   |_=>exact h.elim
  |tup _ s q =>
   cases r2 with
   |int i =>
    obtain⟨d,e,h⟩:=h
    obtain⟨v',e',r'⟩:=q.eK e
    obtain⟨u1,u2⟩:=up _ _ r'
    exact .inl (.inr ⟨_,v',.inl (.inl (sg _ _ s)),e',f.lT w u1 u2 h⟩)
   |_=>exact h.elim
  |str hz =>
   cases r2 with
   |int i =>
    obtain⟨c,e,h⟩:=h
    exact .inl ⟨hz,c,e,f.sh w (.str (Ax c)) h⟩
   |_=>exact h.elim
  |dK kk s q =>
   obtain⟨k,d,hk,hg,h⟩:=h
   have ev:=r2.key hk
   subst ev
   have z:=zip_get (k:=k) q
   rw[hg] at z
   obtain⟨v',e',r'⟩:=z
   obtain⟨u1,u2⟩:=up _ _ r'
   exact .inr ⟨_,v',rfl,by rw[<- e'];exact kS.k' (aE.rd sg s),f.lT w u1 u2 h⟩
  |dT kk s q =>
   cases r2 with
   |tup t2 e2 q2 =>
    obtain⟨ks,d,hk,hg,h⟩:=h
    obtain⟨b,eb,e3⟩:=Rep.qk (.tup t2 e2 q2) hk
    cases eb
    have z:=zip_get (k:=ks) q
    rw[hg] at z
    obtain⟨v',e',r'⟩:=z
    obtain⟨u1,u2⟩:=up _ _ r'
    exact .inr ⟨_,v',rfl,by rw[<- e'];exact kS.t' (aE.rd sg s) e3,f.lT w u1 u2 h⟩
   |_=>exact h.elim
  |_=>exact h.elim
 rcases rx.here w with⟨hm,r⟩|⟨hm,r⟩
 ·exact core Hs w.sub (fun d v q=>And.intro (q.same w.sub) fun _=>q) r
 ·exact core H (aE.refl H) (fun d v q=>And.intro q fun z=>absurd z hm) r
theorem Z0(hu:X.A.units+64<cLine)(hK:X.K=K:=by rfl):vn X (U6 K):=by
 subst hK
 refine vn.or Hw ?_
 intro value slice pins s σ H x y v u Q I rx ry h hs
 obtain⟨a,w,rfl,g,q⟩:=h
 cases rx
 exact tail_any (eY' I g) F.slot_dict_getitem.lookup (eS' (by lia) I g ry fun w' s3 I3 tj=>⟨w,H,I3,tj,q⟩) hs
variable {a b:Expr}{ta tb:WE}{pos:Pos}
theorem cx(hu:X.A.units+64<cLine)(ha:QE X K a ta)(hb:QE X K b tb)(hs:Uc b:=by exact fun _ _=>rfl)(hK:X.K=K:=by rfl):QE X K (.Subscript a b pos) (av ck ta tb):=PE.imp (YN (Z0 hu hK) ha hb hs) (nq K3)
end
def kE(xs:List α)(lo hi:Option Int):List α:=(xs.drop (HT.bE xs.length 0 lo)).take (HT.bE xs.length xs.length hi-HT.bE xs.length 0 lo)
abbrev WO:=Env->(Option Int->Prop)->Prop
def gM:WO:=fun _ Q=>Q none
def jJ(t:WE):WO:=fun ρ Q=>t ρ fun _ x=>match x with
 |.int i=>Q (some i)
 |_=>False
def NS(m:Md)(x:D)(lo hi:Option Int)(Q:Md->D->Prop):Prop:=match x with
 |.str z=>Q .sh (.str (kU z lo hi))
 |.list xs=>(cw xs=true/\Q (.ow true) (.list (kE xs lo hi)))\/(m=.sh/\Q (.ow false) (.list (kE xs lo hi)))
 |.tup xs=>cw xs=true/\¬ (HT.bE xs.length 0 lo=0/\HT.bE xs.length xs.length hi=xs.length)/\Q .sh (.tup (kE xs lo hi))
 |_=>False
def A6(te:WE)(tl th:WO):WE:=fun ρ Q=>te ρ fun m x=>tl ρ fun lo=>th ρ fun hi=>NS m x lo hi Q
def tpO(K:PySem.W.Frag)(t:WO):TO:=fun σ H Qv=>∃ Hs ρ ag Q,dy K Hs ρ σ H ag/\t ρ Q/\∀ o H' aw,ez Hs H aw H'->Q o->Qv o H'
abbrev QO(X:Cx)(K:PySem.W.Frag)(e:Option Expr)(t:WO):Prop:=PO X e (tpO K t)
theorem Ca(z:Str)(lo hi:Option Int):(kU z lo hi).length<=z.length:=by
 unfold kU Str.length
 simp only[hX,mG,zI,uk]
 lia
theorem eE(xs:List α)(lo hi:Option Int):(kE xs lo hi).length<=xs.length:=by
 unfold kE
 rw[mG,zI]
 lia
theorem uD{lo hi:Option Int}(h:cw xs=true):cw (kE xs lo hi)=true:=by
 rw[nQ] at *
 intro x hx
 exact h x (JJ (JY hx))
section
variable {X:Cx}{K:PySem.W.Frag}{e:Expr}{lo hi:Option Expr}{te:WE}{tl th:WO}{pos p2:Pos}
theorem jZ:QO X K none gM:=fun pins s σ H Q I h=>en' pins s σ H Q I (by
 obtain⟨Hs,ρ,ag,Qd,sr,h,f⟩:=h
 exact f none H Hs (ez.refl sr.wf) h)
theorem fu(h:QE X K e te):QO X K (some e) (jJ te):=fun pins s σ H Q I hh=>eo' h pins s σ H Q I (by
 obtain⟨Hs,ρ,ag,Qd,sr,h,f⟩:=hh
 refine⟨Hs,ρ,ag,_,sr,h,fun v H1 ax m x As g1 r1 f1 q1=>?_⟩
 have r:=r1.rep g1.wf
 cases r with
 |int i=>exact⟨i,rfl,f _ H1 ax g1 q1⟩
 |_=>exact q1.elim)
theorem jB{lo hi:Option Int}(r:aS K H ds vs):aS K H (kE ds lo hi) (AJ vs lo hi):=by
 unfold kE AJ
 rw[r.length]
 exact(r.drop _).take _
theorem Z1(hK:X.K=K:=by rfl):GB X (fun x lo hi H Q=>Uz K x lo hi H Q\/YL K x lo hi H Q):=by
 subst hK
 intro pins s σ H x v vl vu lo hi sl Q I rx hs pl pu h
 rcases h with h|h
 ·exact Jw pins s σ H x v vl vu lo hi sl Q I rx hs pl pu h
 ·exact er' pins s σ H x v vl vu lo hi sl Q I rx hs pl pu h
theorem iU(he:QE X K e te)(hl:QO X K lo tl)(hh:QO X K hi th)(hK:X.K=K:=by rfl):QE X K (.Subscript e (.Slice lo hi none p2) pos) (A6 te tl th):=by
 refine PE.imp (YJ (Z1 hK) he hl hh) fun σ H Qv hx=>gS hx fun Hs ρ ag Q sr h f=>?_
 refine⟨Hs,ρ,ag,_,sr,h,fun v H1 ax m x As g1 r1 f1 q1=>⟨ax,ρ,ag,_,sr.grow g1,q1,fun l H2 aC g2 q2=>⟨aC,ρ,ag,_,(sr.grow g1).grow g2,q2,fun u H3 eW g3 q3=>?_⟩⟩⟩
 have r3:=(r1.grow g2).grow g3
 have fin:Fin K eW H3 Q Qv:=Fin.after f ((g1.trans g2).trans g3)
 have rr:=r3.rep g3.wf
 cases rr with
 |str hz=>exact .inl ⟨hz,fin.sh g3.wf (.str (kg (Ca _ _ _) hz)) q3⟩
 |list z s q =>
  have hz:=q.length
  rcases q3 with⟨hf,q3⟩|⟨rfl,q3⟩
  ·exact .inl ⟨_,s,fin.lst g3.wf (kg (eE _ _ _) (by lia)) (jB q) (uD hf) q3⟩
  ·obtain⟨_,r3⟩:=r3
   cases r3 with
   |list z' s' q' =>
    have hz:=q'.length
    exact .inl ⟨_,aE.seq g3.wf.sub s',fin.R0 g3.wf (kg (eE _ _ _) (by lia)) (jB q') q3⟩
 |tup z s q =>
  have hz:=q.length
  obtain⟨hf,hn,q3⟩:=q3
  exact .inr ⟨_,_,rfl,.inl (.inl s),by rw[<- hz];exact hn,fin.tup g3.wf (kg (eE _ _ _) (by lia)) (jB q) (uD hf) q3⟩
 |_=>exact q3.elim
end
def ky:W1:=fun _ x Q=>match x with
 |.str z=>Q .sh (.int z.length)
 |.list xs=>Q .sh (.int xs.length)
 |.tup xs=>Q .sh (.int xs.length)
 |.dK kvs=>Q .sh (.int kvs.length)
 |.dT kvs=>Q .sh (.int kvs.length)
 |_=>False
def rL(T:String):W1:=fun _ x Q=>Q .sh (.bl (GO x.ty T))
def CM(K:PySem.W.Frag)(r:List V->Hp->VK->Prop)(f:W1):Prop:=∀ Hs H m x v As Qd Qv,Wf Hs H->RM K Hs H m x v As->f m x Qd->Fin K Hs H Qd Qv->r [v] H Qv
section
variable {X:Cx}{K:PySem.W.Frag}{e:Expr}{te:WE}{pos p:Pos}{x:Str}{id T:String}
theorem pH(br:CM K r f)(σ:St)(H:Hp)(Qv:VK)(h:mz K (de f te) σ H Qv):T9 r (T6 (mz K te) T5) σ H Qv:=by
 obtain⟨Hs,ρ,ag,Q,sr,h,fin⟩:=h
 exact⟨Hs,ρ,ag,_,sr,h,fun v H1 ax m x As g1 r1 f1 q1=>br ax H1 m x v As Q Qv g1.wf r1 q1 (Fin.after fin g1)⟩
theorem aO(hc:ki X (.builtin id) r)(br:CM K r f)(hg:Gl X x)(hm:X.mg x=none)(hv:bootBuiltins x=some (.builtin id))(he:QE X K e te)
  (hs:starEach [e] X.env=(false,eval e X.env) :: starEach [] X.env:=by rfl) (hn:x ≠ "__name__" := by decide) (jI:(x == ("__debug__" : Str))=false:=by decide):QE X K (.Call (.Name x p) [e] [] pos) (de f te) :=
 PE.imp (L4 hc hg hm hv (kN he oQ hs) hn jI hs) (pH br)
theorem lY(hc:ki X (.type T) r)(br:CM K r f)(hg:Gl X x)(hm:X.mg x=none)(hv:bootBuiltins x=some (.type T))(he:QE X K e te)
  (hs:starEach [e] X.env=(false,eval e X.env) :: starEach [] X.env:=by rfl) (hn:x ≠ "__name__" := by decide) (jI:(x == ("__debug__" : Str))=false:=by decide):QE X K (.Call (.Name x p) [e] [] pos) (de f te) :=
 PE.imp (eb' hc hg hm hv (kN he oQ hs) hn jI hs) (pH br)
theorem G6(hd:(d == sysModules)=false)(x:si s.heap d es ep)(R8:(es.size:Int)<2 ^ 63)
  (h:∀ t t',Q (.int es.size t) { s with toks:=t' }):wpAny (model prog w) A (call (.builtin "len") [.ref d]) Q E s:=by
 refine Calls.call_function_entry kind_len plain_len entry_len (args_len1 _) ?_
 have mt:MeetsIn prog w (Builtin.«dict.__len__» ⟨[.ref d],[]⟩) (fun _ R s=>si s.heap d es ep/\R (.ok (.ret (.int es.size s.toks))) { s with toks:=s.toks+1 }):=.of_wp fun A R s da=>by
  obtain⟨hm,h⟩:=da
  obtain⟨o,ho,hc,RL⟩:=hm
  show wpAny _ _ (dictSize d >>= _) _ _ s
  unfold dictSize
  refine ai (ai (wpAny_dictEntries ho RL (ay ?_)))
  show wpAny _ _ (Builtin.Dict.pendingCount d >>= _) _ _ s
  refine ai (wpAny_pendingCount_other hd ?_)
  refine wpAny_ret_mkInt ?_
  rw[FK];exact h
 unfold Builtin.«len»
 refine ai (m:=oneArg "len" _) (ay ?_)
 refine ai (m:=callSpecial? (.ref d) (Str.ofString "__len__")) (wpAny_callSpecial?_slot (name:=Str.ofString "__len__") x.typ F.slot_dict_len
  (call_meetsIn F.slot_dict_len x.typ F.entry_dict_len (F.args_dict_len_1 _) mt ⟨x,?_⟩))
 show wpAny _ _ _ _ _ { s with toks:=s.toks+1 }
 refine ai (wpAny_holding (ay ?_))
 refine ai (wpAny_letGo ?_)
 show wpAny _ _ (if ((es.size:Nat):Int)<0 then _ else _) _ _ _
 rw[if_neg (by lia)]
 show wpAny _ _ (if ((es.size:Nat):Int) >= 2 ^ 63 then _ else _) _ _ _
 rw[if_neg (by lia)]
 exact ai (wpAny_mkInt (ay ⟨_,rfl,h _ _⟩))
theorem aD (hK:X.K=K:=by rfl):ki X (.builtin "len") (fun xs H Q=>RA K xs H Q\/∃ a kvs,xs=[.ref a]/\Rd H a (.dT kvs)/\Q (.int kvs.length) H):=by
 subst hK
 intro pins s σ H xs us Q I r h
 rcases h with h|⟨a,kvs,rfl,ha,q⟩
 ·exact Bh pins s σ H xs us Q I r h
 ·obtain⟨u,rfl,ru⟩:=Vals.one r
  cases ru
  obtain⟨z,hd,ys,rel,o,es,ep,h1,h2,h3,h4,h5⟩:=(show fI X.prog X.w H s.heap a (.dT kvs) from I.rd ha)
  have hl:es.size=kvs.length:=by
   have:=congrArg List.length h4
   rw[uk,cE] at this
   rw[this];exact rel.length.symm
  exact G6 hd ⟨o,h1,h2,h3⟩ (by rw[sizeLine_eq] at z;lia) fun t t'=>⟨.int kvs.length,H,I.tok _,⟨t,by rw[hl]⟩,q⟩
theorem cL:CM K (fun xs H Q=>RA K xs H Q\/∃ a kvs,xs=[.ref a]/\Rd H a (.dT kvs)/\Q (.int kvs.length) H) ky:=by
 intro Hs H m x v As Qd Qv w rx h f
 have r1:=rx.rep w
 cases r1 with
 |str hz=>exact .inl ⟨hz,f.sh w (.int _) h⟩
 |list z s q=>exact .inl (.inl ⟨_,s,by rw[<- q.length];exact f.sh w (.int _) h⟩)
 |tup _ s q=>exact .inl (.inr (.inl ⟨_,.inl (.inl s),by rw[<- q.length];exact f.sh w (.int _) h⟩))
 |dK kk s q=>exact .inl (.inr (.inr ⟨_,s,by
   have:=q.length
   rw[cE] at this
   rw[List.length_zip,cE,<- this,Nat.min_self]
   exact f.sh w (.int _) h⟩))
 |dT kk s q=>exact .inr ⟨_,_,rfl,s,by
   have:=q.length
   rw[cE] at this
   rw[List.length_zip,cE,<- this,Nat.min_self]
   exact f.sh w (.int _) h⟩
 |_=>exact h.elim
end
section
variable {X:Cx}{K:PySem.W.Frag}{e e2:Expr}{te:WE}{pos p:Pos}{T:String}
theorem zy (hK:X.K=K:=by rfl):ki X (.builtin "isinstance") (fun xs H Q=>∃ x d T,xs=[x,.ty T]/\Rep K H d x/\Uu T=true/\Q (.bl (GO d.ty T)) H):=by
 subst hK
 intro pins s σ H xs us Q I r h
 obtain⟨x,d,T,rfl,rd,hT,q⟩:=h
 obtain⟨u,v,rfl,ru,rv⟩:=Vals.two r
 obtain rfl:v=Value.type T:=rv
 have hb:T∈["str", "int", "bool", "list", "tuple", "dict"]:=by simpa[Uu] using hT
 have fin:∀ tk,EP X pins σ Q (.bool (GO d.ty T)) { s with toks:=tk }:=fun tk=>⟨.bl (GO d.ty T),H,I.tok tk,rfl,q⟩
 cases rd with
 |non=>exact LV I ru .non (lJ X.K _ T (by simp) hb) fin
 |bl b=>exact LV I ru (.bl b) (lJ X.K _ T (by simp) hb) fin
 |int i=>exact LV I ru (.int i) (lJ X.K _ T (by simp) hb) fin
 |str y=>exact LV I ru (.str _) (lJ X.K _ T (by simp) hb) fin
 |list z s' q' =>
  cases ru
  obtain⟨its,_,pl,_⟩:=I.list s'
  obtain⟨o,h1,h2,_⟩:=pl.isList
  exact PySem.W.kia_one PySem.W.kitx_list I.i9 ⟨o,h1,h2⟩ (lJ X.K "list" T (by simp) hb) (fun z=>nomatch z) fin
 |tup _ s' q'=>exact LV I ru (.tup s') (lJ X.K _ T (by simp) hb) fin
 |dK _ s' q' =>
  cases ru
  obtain⟨_,_,vs,_,p⟩:=I.rd s'
  obtain⟨o,es,ep,h1,h2,_⟩:=p
  exact PySem.W.kia_one PySem.W.kitx_dict I.i9 ⟨o,h1,h2.1⟩ (lJ X.K "dict" T (by simp) hb) (fun z=>nomatch z) fin
 |dT _ s' q' =>
  cases ru
  obtain⟨_,_,xs,_,o,es,ep,h1,h2,_⟩:=I.rd s'
  exact PySem.W.kia_one PySem.W.kitx_dict I.i9 ⟨o,h1,h2.1⟩ (lJ X.K "dict" T (by simp) hb) (fun z=>nomatch z) fin
theorem jV (hm:X.mg "isinstance" = none) (he:QE X K e te) (ht:PE X e2 (tC (.ty T))) (hT:Uu T=true:=by rfl) (hg:Gl X "isinstance" := by rfl) (hK:X.K=K:=by rfl)
  (hs:starEach (e :: [e2]) X.env=(false,eval e X.env) :: starEach [e2] X.env:=by rfl) (g0:starEach (e2 :: []) X.env=(false,eval e2 X.env) :: starEach [] X.env:=by rfl) (ja:(backTo pos (starEach [e2] X.env)).any (·.1)=false:=by rfl) :
  QE X K (.Call (.Name "isinstance" p) [e,e2] [] pos) (de (rL T) te):=by
 refine PE.imp (L4 (zy hK) hg hm gf (kN he (kN ht oQ g0) hs) (by decide) (by decide) hs ja) fun σ H Qv hx=>gS hx fun Hs ρ ag Q sr h f=>?_
 refine⟨Hs,ρ,ag,_,sr,h,fun v H1 ax m x As g1 r1 f1 q1=>⟨v,x,T,rfl,r1.rep g1.wf,hT,Fin.sh (Fin.after f g1) g1.wf (.bl _) q1⟩⟩
theorem Ha(r:Rep K H d v)(h:R5 d=some b):T1 K v H b:=by
 cases r with
 |non=>cases h;rfl
 |bl b=>cases h;rfl
 |int i=>cases h;rfl
 |str hz =>
  cases h
  exact⟨hz,rfl⟩
 |list z s q =>
  cases h
  refine .inl ⟨_,s,?_⟩
  cases q<;>rfl
 |tup _ s q =>
  cases h
  refine .inr (.inl ⟨_,.inl (.inl s),?_⟩)
  cases q<;>rfl
 |dK _ s q=>cases h
 |dT _ s q=>cases h
theorem Ba(ha:QE X K e te)(he:∀ whole,isTrue e X.env whole=(do let v <- whole;standAt e.pos;holding [v] (truthy v)):=by intro _;rfl)(hK:X.K=K:=by rfl):QT X K e (R6 te):=by
 subst hK
 refine PT.imp (dO' ha he) fun σ H Qv hx=>gS hx fun Hs ρ ag Q sr h f=>?_
 refine⟨Hs,ρ,ag,_,sr,h,fun v H1 ax m x As g1 r1 f1 q1=>?_⟩
 obtain⟨b,hb,q⟩:=q1
 exact⟨b,Ha (r1.rep g1.wf) hb,f b H1 ax g1 q⟩
end
def px:Key->D
 |.inl i=>.int i
 |.inr x=>.str x
def uK:W1:=fun m x Q=>match x with
 |.list xs=>(cw xs=true/\Q (.ow true) (.list xs))\/(m=.sh/\Q (.ow false) (.list xs))
 |.tup xs=>(cw xs=true/\Q (.ow true) (.list xs))\/(m=.sh/\Q (.ow false) (.list xs))
 |.dT kvs=>Q (.ow true) (.list (kvs.map fun kv=>.tup (kv.1.map px)))
 |_=>False
section
variable {X:Cx}{K:PySem.W.Frag}
theorem qO:∀ {ks:List Key},(∀ k∈ks,w9 k=true)->aS K H (ks.map px) (ks.map kV)
 |[],_=>.nil
 |k :: ks,h=>by
  refine .cons ?_ (qO fun j m=>h j (dz _ m))
  have:=h k dQ
  cases k with
  |inl i=>exact .int i
  |inr x=>exact .str (by simpa[w9] using this)
theorem nU:∀ (ks:List Key),cw (ks.map px)=true
 |[]=>rfl
 |k :: ks=>by simp only[iF,cw,nU ks,Bool.and_true];cases k<;>rfl
theorem wQ(t:fL H ys ks)(h:∀ l∈ks,l.length<=sizeLine/\∀ k∈l,w9 k=true):aS K H (ks.map fun l=>.tup (l.map px)) ys:=by
 induction ys generalizing ks with
 |nil=>rw[show ks=[] from Paired.n0 t];exact .nil
 |cons y ys ih =>
  obtain⟨k,ks,rfl,⟨b,rfl,e⟩,t2⟩:=Paired.c t
  exact .cons (.tup (by rw[cE];exact(h _ dQ).1) e (qO (h _ dQ).2)) (ih t2 fun l m=>h l (dz _ m))
theorem mX:∀ (ks:List (List Key)),cw (ks.map fun l=>.tup (l.map px))=true
 |[]=>rfl
 |l :: ks=>by simp only[iF,cw,mX ks,Bool.and_true,D.flat,nU]
theorem kh (hc:X.calm=true:=by rfl) (hK:X.K=K:=by rfl):ki X (.type "list") (fun xs H Q=>(∃ p ys,xs=[.ref p]/\(dn K H p ys\/iS K H p ys)/\∀ l,H l=none->Q (.ref l) (upd H l (.lst ys)))\/xT xs H Q):=by
 subst hK;exact eH'.or (xV hc)
theorem u_:CM K (fun xs H Q=>(∃ p ys,xs=[.ref p]/\(dn K H p ys\/iS K H p ys)/\∀ l,H l=none->Q (.ref l) (upd H l (.lst ys)))\/xT xs H Q) uK:=by
 intro Hs H m x v As Qd Qv w rx h f
 have r1:=rx.rep w
 cases r1 with
 |list z s q =>
  have hl:=q.length
  rcases h with⟨hf,h⟩|⟨rfl,h⟩
  ·exact .inl ⟨_,_,rfl,.inl s,f.lst w (by lia) q hf h⟩
  ·obtain⟨_,rx⟩:=rx
   cases rx with
   |list z' s' q' =>
    have hl:=q'.length
    exact .inl ⟨_,_,rfl,.inl (aE.seq w.sub s'),f.R0 w (by lia) q' h⟩
 |tup z s q =>
  have hl:=q.length
  rcases h with⟨hf,h⟩|⟨rfl,h⟩
  ·exact .inl ⟨_,_,rfl,.inr (.inl (.inl s)),f.lst w (by lia) q hf h⟩
  ·obtain⟨_,rx⟩:=rx
   cases rx with
   |tup z' s' q' =>
    have hl:=q'.length
    exact .inl ⟨_,_,rfl,.inr (.inl (.inl (w.sub _ _ s'))),f.R0 w (by lia) q' h⟩
 |@dT _ vs kvs kk s q =>
  refine .inr ⟨_,s,fun ys l ht hl=>?_⟩
  have hlen:=q.length
  rw[cE] at hlen
  have e:((kvs.map (·.1)).zip vs).map (·.1)=kvs.map (·.1):=List.map_fst_zip (by rw[cE];exact Nat.le_of_eq hlen)
  rw[e] at ht
  have rr:=wQ (K:=K) ht (fun l m=>by
   obtain⟨p,hp,rfl⟩:=dP.mp m
   exact kk.2 p hp)
  have ff:=mX (kvs.map (·.1))
  rw[hJ] at rr ff
  exact f.lst w (by rw[cE];exact kk.1) rr ff h l hl
 |_=>exact h.elim
end
section
variable {K:PySem.W.Frag}{Hs H:Hp}
theorem SR.D_(r:Rep K Hs d v)(i:Nat)(s:SR K Hs H ρ σ ag):∃ bT,bT.Sublist ag/\SR K Hs H (ρ.set i (some (.sh d))) (σ.set i (some v)) bT:=by
 induction s generalizing i with
 |nil=>exact⟨[],BM _,.nil⟩
 |non s ih =>
  cases i with
  |zero=>exact⟨_,List.Sublist.refl _,.sh r s⟩
  |succ i=>obtain⟨t,a,b⟩:=ih i;exact⟨t,a,.non b⟩
 |sh q s ih =>
  cases i with
  |zero=>exact⟨_,List.Sublist.refl _,.sh r s⟩
  |succ i=>obtain⟨t,a,b⟩:=ih i;exact⟨t,a,.sh q b⟩
 |xc s ih =>
  cases i with
  |zero=>exact⟨_,List.Sublist.refl _,.sh r s⟩
  |succ i=>obtain⟨t,a,b⟩:=ih i;exact⟨t,a,.xc b⟩
 |ow ne q s ih =>
  cases i with
  |zero=>exact⟨_,oC _ _,.sh r s⟩
  |succ i=>obtain⟨t,a,b⟩:=ih i;exact⟨_,a.append_left _,.ow ne q b⟩
 |lk ne q s ih =>
  cases i with
  |zero=>exact⟨_,oC _ _,.sh r s⟩
  |succ i=>obtain⟨t,a,b⟩:=ih i;exact⟨_,a.append_left _,.lk ne q b⟩
theorem tQ{As ag:List Addr}(nd:As.Nodup)(n:ag.Nodup)(dj:∀ a∈As,a∉ag):(As++ag).Nodup:=iP.mpr ⟨nd,n,fun a ha b hb e=>dj a ha (e ▸ hb)⟩
theorem iz{As ag B t:List Addr}(n:(B++ag).Nodup)(dj:∀ a∈As,a∉B++ag)(a:t.Nodup)(b:∀ x∈t,x∈ag\/x∈As):(B++t).Nodup/\∀ x∈B++t,x∈B++ag\/x∈As:=by
 obtain⟨n1,n2,n3⟩:=iP.mp n
 refine⟨iP.mpr ⟨n1,a,fun x hx y hy e=>?_⟩,fun x hx=>?_⟩
 ·subst e
  rcases b x hy with z|z
  ·exact n3 x hx x z rfl
  ·exact dj x z (kK _ hx)
 ·rcases eJ.mp hx with z|z
  ·exact .inl (kK _ z)
  ·exact(b x z).imp (fun z=>fT _ z) fun z=>z
theorem SR.zM{d:D}{v:V}{fl:Bool}{As:List Addr}(ne:As≠[])(r:bG K Hs H fl d v As)(nd:As.Nodup){ρ:Env}{σ:St}{ag:List Addr}(i:Nat)(s:SR K Hs H ρ σ ag):ag.Nodup->(∀ a∈As,a∉ag) ->
  ∃ bT,bT.Nodup/\(∀ a∈bT,a∈ag\/a∈As)/\SR K Hs H (ρ.set i (some (.ow fl d))) (σ.set i (some v)) bT:=by
 induction s generalizing i with
 |nil=>exact fun n _=>⟨[],nK,(fun a h=>w_ h),.nil⟩
 |non s ih =>
  intro n dj
  cases i with
  |zero=>exact⟨_,tQ nd n dj,fun a h=>(eJ.mp h).symm,.ow ne r s⟩
  |succ i=>obtain⟨t,a,b,c⟩:=ih i n dj;exact⟨t,a,b,.non c⟩
 |sh q s ih =>
  intro n dj
  cases i with
  |zero=>exact⟨_,tQ nd n dj,fun a h=>(eJ.mp h).symm,.ow ne r s⟩
  |succ i=>obtain⟨t,a,b,c⟩:=ih i n dj;exact⟨t,a,b,.sh q c⟩
 |xc s ih =>
  intro n dj
  cases i with
  |zero=>exact⟨_,tQ nd n dj,fun a h=>(eJ.mp h).symm,.ow ne r s⟩
  |succ i=>obtain⟨t,a,b,c⟩:=ih i n dj;exact⟨t,a,b,.xc c⟩
 |ow ne' q s ih =>
  intro n dj
  obtain⟨n1,n2,n3⟩:=iP.mp n
  have NV:=fun a ha m=>dj a ha (fT _ m)
  cases i with
  |zero=>exact⟨_,tQ nd n2 NV,fun a h=>(eJ.mp h).symm.imp (fun z=>fT _ z) fun z=>z,.ow ne r s⟩
  |succ i=>obtain⟨t,a,b,c⟩:=ih i n2 NV;exact⟨_,(iz n dj a b).1,(iz n dj a b).2,.ow ne' q c⟩
 |lk ne' q s ih =>
  intro n dj
  obtain⟨n1,n2,n3⟩:=iP.mp n
  have NV:=fun a ha m=>dj a ha (fT _ m)
  cases i with
  |zero=>exact⟨_,tQ nd n2 NV,fun a h=>(eJ.mp h).symm.imp (fun z=>fT _ z) fun z=>z,.ow ne r s⟩
  |succ i=>obtain⟨t,a,b,c⟩:=ih i n2 NV;exact⟨_,(iz n dj a b).1,(iz n dj a b).2,.lk ne' q c⟩
theorem SR.Fb:∀ (i:Nat),SR K Hs H ρ σ ag->∃ bT,bT.Sublist ag/\SR K Hs H (ρ.set i none) σ bT:=by
 intro i s
 induction s generalizing i with
 |nil=>exact⟨[],BM _,.nil⟩
 |non s ih =>
  cases i with
  |zero=>exact⟨_,List.Sublist.refl _,.non s⟩
  |succ i=>obtain⟨t,a,b⟩:=ih i;exact⟨t,a,.non b⟩
 |sh q s ih =>
  cases i with
  |zero=>exact⟨_,List.Sublist.refl _,.non s⟩
  |succ i=>obtain⟨t,a,b⟩:=ih i;exact⟨t,a,.sh q b⟩
 |xc s ih =>
  cases i with
  |zero=>exact⟨_,List.Sublist.refl _,.non s⟩
  |succ i=>obtain⟨t,a,b⟩:=ih i;exact⟨t,a,.xc b⟩
 |ow ne q s ih =>
  cases i with
  |zero=>exact⟨_,oC _ _,.non s⟩
  |succ i=>obtain⟨t,a,b⟩:=ih i;exact⟨_,a.append_left _,.ow ne q b⟩
 |lk ne q s ih =>
  cases i with
  |zero=>exact⟨_,oC _ _,.non s⟩
  |succ i=>obtain⟨t,a,b⟩:=ih i;exact⟨_,a.append_left _,.lk ne q b⟩
def asg:Md->D->Option Sl
 |.sh,d=>some (.sh d)
 |.ow fl,d=>some (.ow fl d)
 |.bo,d=>bif d.flat then some (.sh d) else none
theorem dy.set(i:Nat)(s:dy K Hs ρ σ H ag)(r:RM K Hs H m d v As)(nd:As.Nodup)(dj:∀ a∈As,Hs a=none/\a∉ag)(e:asg m d=some sl) :
  ∃ bT,dy K Hs (ρ.set i (some sl)) (σ.set i (some v)) H bT:=by
 have Z2:Rep K Hs d v->∃ bT,dy K Hs (ρ.set i (some (.sh d))) (σ.set i (some v)) H bT:=fun r=>by
  obtain⟨t,a,b⟩:=s.sr.D_ r i
  exact⟨t,b,s.wf,a.nodup s.rj,fun x hx=>s.own x (a.subset hx)⟩
 cases m with
 |sh=>cases e;exact Z2 r.2
 |ow fl =>
  cases e
  obtain⟨t,a,b,c⟩:=SR.zM r.2 r.1 nd i s.sr s.rj fun a ha=>(dj a ha).2
  exact⟨t,c,s.wf,a,fun x hx=>(b x hx).elim (s.own x) fun z=>(dj x z).1⟩
 |bo =>
  cases hf:d.flat with
  |true =>
   simp only[asg,hf,cond_true,Option.some.injEq] at e
   subst e
   exact Z2 (r.flat s.wf hf)
  |false=>simp[asg,hf] at e
end
section
variable {X:Cx}{K:PySem.W.Frag}{e c:Expr}{te:WE}{tc:WT}{pos:Pos}{st:Stmt}{a b rest:List Stmt}{t u:WS}
theorem PS.imp{te tN:TS}(h:PS X st te)(i:∀ D σ H,tN D σ H->te D σ H):PS X st tN:=fun pins s σ H D I q=>h pins s σ H D I (i D σ H q)
theorem mP.imp{te tN:TS}(h:mP X a te)(i:∀ D σ H,tN D σ H->te D σ H):mP X a tN:=fun pins s σ H D I q=>h pins s σ H D I (i D σ H q)
def bM:WS:=fun E ρ=>E.nx ρ
def bI(t u:WS):WS:=fun E ρ=>t { E with nx:=u E } ρ
def eI(te:WE):WS:=fun E ρ=>te ρ E.rt
def Cr(te:WE):WS:=fun E ρ=>te ρ fun _ _=>E.nx ρ
def dE(i:Nat)(te:WE):WS:=fun E ρ=>te ρ fun m d=>match asg m d with
 |some sl=>E.nx (ρ.set i (some sl))
 |none=>False
def gv(c:WT)(t u:WS):WS:=fun E ρ=>c ρ fun b=>if b=true then t E ρ else u E ρ
def yO:WS:=fun _ _=>False
theorem aH:sq X K L [] bM:=mP.imp Yg fun D σ H hx=>gB hx fun Hs ρ ag E sr h k1 _ _ _=>k1 σ H Hs ρ ag (aE.refl _) sr h
theorem C_{D:Ends}(h:xh K L (bI t u) D σ H):Yf (xh K L t) (xh K L u) D σ H:=by
 obtain⟨Hs,ρ,ag,E,sr,h,k1,k2,k3,k4,kx⟩:=h
 refine⟨Hs,ρ,ag,{ E with nx:=u E },sr,h,fun aT H' aw bS bT s U7 q=>?_,k2,k3,k4,kx⟩
 exact⟨aw,bS,bT,E,U7,q,fun kM H2 aC iA fo s2=>k1 kM H2 aC iA fo (s.trans s2),fun kM H2 aC iA fo s2=>k2 kM H2 aC iA fo (s.trans s2),fun kM H2 aC iA fo s2=>k3 kM H2 aC iA fo (s.trans s2),
  fun v H2 aC m d As s2=>k4 v H2 aC m d As (s.trans s2),fun n H2 s2=>kx n H2 (s.trans s2)⟩
theorem aj(h1:QS X K L st t)(h2:sq X K L rest u):sq X K L (st :: rest) (bI t u):=mP.imp (cH' h1 h2) fun D σ H h=>C_ h
theorem ao(h1:QS X K L st t):sq X K L [st] t:=cI' h1
theorem zE:sq X K L a yO:=mP.imp cO' fun D σ H hx=>gB hx fun Hs ρ ag E sr h _ _ _ _=>h
theorem aJ(he:QE X K e te):QS X K L (.Return (some e) pos) (eI te):=PS.imp (TC he) fun D σ H hx=>gB hx fun Hs ρ ag E sr h k1 k2 k3 k4 =>
 ⟨Hs,ρ,ag,_,sr,h,fun v H1 ax m d As g1 r1 f1 q1=>k4 v H1 ax m d As g1.sh g1.wf r1 f1.1 (fun a ha=>(f1.2 a ha).1) q1⟩
def qI(i:Nat):WS:=fun E ρ=>match ρ[i]? with
 |some (some (.sh d))=>E.rt .sh d
 |some (some (.ow fl d))=>E.rt (.ow fl) d
 |_=>False
theorem SR.at{ρ:Env}{σ:St}{ag:List Addr}{i:Nat}{fl:Bool}{d:D}{Hs H:Hp}(s:SR K Hs H ρ σ ag)(e:ρ[i]? = some (some (.ow fl d))):∃ v As,σ[i]? = some (some v)/\As≠[]/\bG K Hs H fl d v As/\As.Sublist ag:=by
 induction s generalizing i with
 |nil=>simp at e
 |non s ih =>
  cases i with
  |zero=>simp at e
  |succ i=>exact ih e
 |sh r s ih =>
  cases i with
  |zero=>simp at e
  |succ i=>exact ih e
 |xc s ih =>
  cases i with
  |zero=>simp at e
  |succ i=>exact ih e
 |ow ne r s ih =>
  cases i with
  |zero=>simp at e;obtain⟨rfl,rfl⟩:=e;exact⟨_,_,rfl,ne,r,Fs _ _⟩
  |succ i =>
   obtain⟨v,As,a,b,c,d⟩:=ih e
   exact⟨v,As,a,b,c,d.trans (oC _ _)⟩
 |lk ne r s ih =>
  cases i with
  |zero=>simp at e
  |succ i =>
   obtain⟨v,As,a,b,c,d⟩:=ih e
   exact⟨v,As,a,b,c,d.trans (oC _ _)⟩
theorem jP{i:Nat}(he:PE X e (AG i)):QS X K L (.Return (some e) pos) (qI i):=PS.imp (TC he) fun D σ H hx=>gB hx fun Hs ρ ag E sr h k1 k2 k3 k4=>by
 unfold qI at h
 split at h
 ·rename_i d e1
  obtain⟨v,e2,r⟩:=sr.sr.get e1
  exact⟨v,e2,k4 v H Hs .sh d [] (aE.refl _) sr.wf ⟨rfl,r⟩ nK (fun a ha=>nomatch ha) h⟩
 ·rename_i fl d e1
  obtain⟨v,As,e2,ne,r,sb⟩:=sr.sr.at e1
  exact⟨v,e2,k4 v H Hs (.ow fl) d As (aE.refl _) sr.wf ⟨r,ne⟩ (sb.nodup sr.rj) (fun a ha=>sr.own a (sb.subset ha)) h⟩
 ·exact h.elim
theorem zz(he:QE X K e te)(hs:swapsWith e none pos.line X.env=pure false:=by rfl):QS X K L (.Expr e pos) (Cr te):=PS.imp (LM he hs) fun D σ H hx=>gB hx fun Hs ρ ag E sr h k1 k2 k3 k4 =>
 ⟨Hs,ρ,ag,_,sr,h,fun v H1 ax m d As g1 r1 f1 q1=>k1 σ H1 ax ρ ag g1.sh (sr.grow g1) q1⟩
theorem aG{i:Nat}{x:Str}{pos':Pos}(hN:X.N.Nodup)(hi:X.N[i]? = some x)(hx:Loc X.env.scope x)(he:QE X K e te)(hs:swapsWith e (some (.Name x pos')) pos.line X.env=pure false:=by rfl)
  (hf:X.fn x=true\/X.env.scope.names.lookup x=some .local:=by first|exact .inl rfl|exact .inr rfl|assumption):QS X K L (.Assign [.Name x pos'] e pos) (dE i te):=PS.imp (cU' hN hi hx he hs hf) fun D σ H hx=>gB hx fun Hs ρ ag E sr h k1 k2 k3 k4=>by
 refine⟨Hs,ρ,ag,_,sr,h,fun v H1 ax m d As g1 r1 f1 q1=>?_⟩
 have q1:match asg m d with
  |some sl=>E.nx (ρ.set i (some sl))
  |none=>False:=q1
 cases e:asg m d with
 |none=>rw[e] at q1;exact q1.elim
 |some sl =>
  rw[e] at q1
  obtain⟨bT,s'⟩:=(sr.grow g1).set i r1 f1.1 (fun a ha=>⟨(f1.2 a ha).1,fun m=>(sr.sr.own a m).ne (f1.2 a ha).2⟩) e
  exact k1 _ H1 ax _ bT g1.sh s' q1
theorem bY(hc:QT X K c tc)(ha:sq X K L a t)(hb:sq X K L b u):QS X K L (.If c a b pos) (gv tc t u):=PS.imp (cM' hc ha hb) fun D σ H hx=>oh hx fun Hs ρ ag E sr h k1 k2 k3 k4 kx=>by
 refine⟨Hs,ρ,ag,_,sr,h,fun k H1 ax g1 q1=>?_⟩
 have Z3:∀ aT H' aw bS bT,aE ax aw->dy K aw bS aT H' bT->E.nx bS->D.nx aT H':=fun kM H2 aC iA fo s2=>k1 kM H2 aC iA fo (g1.sh.trans s2)
 have Z4:∀ aT H' aw bS bT,aE ax aw->dy K aw bS aT H' bT->E.bk bS->D.bk aT H':=fun kM H2 aC iA fo s2=>k2 kM H2 aC iA fo (g1.sh.trans s2)
 have Z5:∀ aT H' aw bS bT,aE ax aw->dy K aw bS aT H' bT->E.ct bS->D.ct aT H':=fun kM H2 aC iA fo s2=>k3 kM H2 aC iA fo (g1.sh.trans s2)
 cases k with
 |true=>exact⟨ax,ρ,ag,E,sr.grow g1,q1,Z3,Z4,Z5,(fun v H2 aC m d As s2=>k4 v H2 aC m d As (g1.sh.trans s2)),fun n H2 s2=>kx n H2 (g1.sh.trans s2)⟩
 |false=>exact⟨ax,ρ,ag,E,sr.grow g1,q1,Z3,Z4,Z5,(fun v H2 aC m d As s2=>k4 v H2 aC m d As (g1.sh.trans s2)),fun n H2 s2=>kx n H2 (g1.sh.trans s2)⟩
def sD(Hs H:Hp)(As:List Addr):Hp:=fun a=>if a∈As then H a else Hs a
theorem ju(n:∀ a∈As,Hs a=none):aE Hs (sD Hs H As):=fun a o e=>by
 unfold sD
 rw[if_neg fun m=>by rw[n a m] at e;cases e]
 exact e
theorem zV(w:Wf Hs H)(o:∀ a∈As,Own H a):Wf (sD Hs H As) H:=⟨fun a u e=>by
  unfold sD at e
  by_cases m:a∈As
  ·rw[if_pos m] at e;exact e
  ·rw[if_neg m] at e;exact w.sub a u e,fun a vs e=>by
  unfold sD
  rw[if_neg fun m=>(o a m).Ed e]
  exact w.kB a vs e⟩
def NW:Sl->Sl
 |.sh d=>.sh d
 |.ow _ d=>.sh d
 |.lk a fl d=>.lk a fl d
 |.xc a=>.xc a
def U8:Sl->Sl
 |.sh d=>.sh d
 |.ow _ d=>.sh d
 |.lk _ _ d=>.sh d
 |.xc a=>.xc a
def NX(i:Nat)(ρ:Env):Env:=match ρ[i]? with
 |some (some sl)=>ρ.set i (some (NW sl))
 |_=>ρ
theorem rF{As ag B t:List Addr}(n:(B++ag).Nodup)(a:As.Sublist ag)(c:∀ x∈As,x∉t):∀ x∈As,x∉B++t:=fun x hx m=>by
 obtain⟨n1,n2,n3⟩:=iP.mp n
 rcases eJ.mp m with z|z
 ·exact n3 x z x (a.subset hx) rfl
 ·exact c x hx z
theorem SR.mM(i:Nat)(s:SR K Hs H ρ σ ag):ρ[i]? = some (some (.ow fl d))->ag.Nodup ->
  ∃ (As bT:List Addr),As.Sublist ag/\bT.Sublist ag/\(∀ a∈As,a∉bT)/\∀ aw,aE Hs aw->(∀ a∈As,aw a=H a)->SR K aw H (ρ.set i (some (.sh d))) σ bT:=by
 induction s generalizing i with
 |nil=>intro e;simp at e
 |non q ih =>
  intro e n
  cases i with
  |zero=>simp at e
  |succ i =>
   obtain⟨As,t,a,b,c,d⟩:=ih i e n
   exact⟨As,t,a,b,c,fun aw s k=>.non (d aw s k)⟩
 |sh r q ih =>
  intro e n
  cases i with
  |zero=>simp at e
  |succ i =>
   obtain⟨As,t,a,b,c,d⟩:=ih i e n
   exact⟨As,t,a,b,c,fun aw s k=>.sh (r.same s) (d aw s k)⟩
 |xc q ih =>
  intro e n
  cases i with
  |zero=>simp at e
  |succ i =>
   obtain⟨As,t,a,b,c,d⟩:=ih i e n
   exact⟨As,t,a,b,c,fun aw s k=>.xc (d aw s k)⟩
 |ow ne r q ih =>
  intro e n
  obtain⟨n1,n2,n3⟩:=iP.mp n
  cases i with
  |zero =>
   simp at e
   obtain⟨rfl,rfl⟩:=e
   exact⟨_,_,Fs _ _,oC _ _,fun a h m=>n3 a h a m rfl,fun aw s k=>.sh (r.rep s k) (q.gi s fun _ _=>rfl)⟩
  |succ i =>
   obtain⟨As,t,a,b,c,d⟩:=ih i e n2
   exact⟨As,_,a.trans (oC _ _),b.append_left _,rF n a c,fun aw s k=>.ow ne (r.gi s fun _ _=>rfl) (d aw s k)⟩
 |lk ne r q ih =>
  intro e n
  obtain⟨n1,n2,n3⟩:=iP.mp n
  cases i with
  |zero=>simp at e
  |succ i =>
   obtain⟨As,t,a,b,c,d⟩:=ih i e n2
   exact⟨As,_,a.trans (oC _ _),b.append_left _,rF n a c,fun aw s k=>.lk ne (r.gi s fun _ _=>rfl) (d aw s k)⟩
theorem dy.mM(i:Nat)(s:dy K Hs ρ σ H ag):∃ aw bT,aE Hs aw/\dy K aw (NX i ρ) σ H bT:=by
 unfold NX
 split
 ·rename_i sl e
  have keep:NW sl=sl->∃ aw bT,aE Hs aw/\dy K aw (ρ.set i (some (NW sl))) σ H bT:=fun hs=>by
   have e2:ρ.set i (some (NW sl))=ρ:=by
    apply DT
    intro j
    rw[Td]
    by_cases h:i=j
    ·subst h
     rw[if_pos rfl,e]
     have:i<ρ.length:=(lh.mp e).1
     simp[this,hs]
    ·rw[if_neg h]
   rw[e2]
   exact⟨Hs,ag,aE.refl _,s⟩
  cases sl with
  |sh d=>exact keep rfl
  |xc a=>exact keep rfl
  |lk a fl d=>exact keep rfl
  |ow fl d =>
   obtain⟨As,t,a,b,c,g⟩:=SR.mM i s.sr e s.rj
   have hn:∀ a∈As,Hs a=none:=fun x hx=>s.own x (a.subset hx)
   have ho:∀ a∈As,Own H a:=fun x hx=>s.sr.own x (a.subset hx)
   refine⟨sD Hs H As,t,ju hn,g _ (ju hn) fun x hx=>by unfold sD;rw[if_pos hx],zV s.wf ho,b.nodup s.rj,fun x hx=>?_⟩
   unfold sD
   rw[if_neg fun m=>c x m hx]
   exact s.own x (b.subset hx)
 ·exact⟨Hs,ag,aE.refl _,s⟩
def kF(i:Nat)(t:WS):WS:=fun E ρ=>t E (NX i ρ)
theorem Dr{D:Ends}(h:xh K L (kF i t) D σ H):xh K L t D σ H:=by
 obtain⟨Hs,ρ,ag,E,sr,h,k1,k2,k3,k4,kx⟩:=h
 obtain⟨aw,bT,s,U7⟩:=sr.mM i
 exact⟨aw,_,bT,E,U7,h,fun kM H2 aC iA fo s2=>k1 kM H2 aC iA fo (s.trans s2),fun kM H2 aC iA fo s2=>k2 kM H2 aC iA fo (s.trans s2),fun kM H2 aC iA fo s2=>k3 kM H2 aC iA fo (s.trans s2),
  fun v H2 aC m d As s2=>k4 v H2 aC m d As (s.trans s2),fun n H2 s2=>kx n H2 (s.trans s2)⟩
theorem b8(i:Nat)(h:QS X K L st t):QS X K L st (kF i t):=PS.imp h fun D σ H h=>Dr h
def mV(ax H1 aw H':Hp):Hp:=fun a=>match H' a with
 |some (.tup vs)=>some (.tup vs)
 |_=>match H1 a with
  |none=>aw a
  |some _=>ax a
theorem jh(w:Wf ax H1)(s:aE H1 aw)(w':Wf aw H'):ez ax H1 (mV ax H1 aw H') H':=by
 have sa:aE H1 H':=s.trans w'.sub
 have tp:∀ a vs,H' a=some (.tup vs)->mV ax H1 aw H' a=some (.tup vs):=fun a vs e=>by unfold mV;rw[e]
 have nt:∀ a,(∀ vs,H' a≠some (.tup vs))->mV ax H1 aw H' a=match H1 a with
  |none=>aw a
  |some _=>ax a:=fun a h=>by
  unfold mV
  split
  ·rename_i vs e;exact absurd e (h vs)
  ·rfl
 refine⟨sa,fun a o e=>?_,⟨fun a o e=>?_,tp⟩,fun a h=>?_⟩
 ·have e1:=w.sub a o e
  have e2:=sa a o e1
  by_cases ht:∃ vs,o=.tup vs
  ·obtain⟨vs,rfl⟩:=ht
   exact tp a vs e2
  ·rw[nt a fun vs z=>ht ⟨vs,by rw[e2] at z;exact Option.some.inj z⟩,e1]
   exact e
 ·by_cases ht:∃ vs,H' a=some (.tup vs)
  ·obtain⟨vs,z⟩:=ht
   rw[tp a vs z] at e
   rw[z];exact e
  ·rw[nt a fun vs z=>ht ⟨vs,z⟩] at e
   cases q:H1 a with
   |none=>rw[q] at e;exact w'.sub a o e
   |some u =>
    rw[q] at e
    have:=w.sub a o e
    exact sa a o this
 ·cases q:H1 a with
  |none=>exact .inr rfl
  |some u =>
   refine .inl ?_
   by_cases ht:∃ vs,H' a=some (.tup vs)
   ·obtain⟨vs,z⟩:=ht
    have:=sa a u q
    rw[z] at this
    cases this
    rw[w.kB a vs q]
    exact fun z=>nomatch z
   ·rw[nt a fun vs z=>ht ⟨vs,z⟩,q] at h
    exact h
theorem A_{ax H1 aw H':Hp}{a:Addr}(s:aE H1 aw)(h:aw a=none)(o:Own H' a):mV ax H1 aw H' a=none/\H1 a=none:=by
 have h1:=s.free h
 refine⟨?_,h1⟩
 unfold mV
 split
 ·rename_i vs e;exact absurd e o.Ed
 ·rw[h1];exact h
def A7:Md->D->Md
 |.ow true,_=>.ow true
 |_,d=>bif d.flat then .sh else .bo
theorem uP(w:Wf ax H1)(s:aE H1 aw)(w':Wf aw H')(r:RM K aw H' m d v As)(nd:As.Nodup)(own:∀ a∈As,aw a=none) :
  ∃ gX,RM K (mV ax H1 aw H') H' (A7 m d) d v gX/\di (mV ax H1 aw H') H1 gX:=by
 have g:=jh w s w'
 have other:∃ gX,RM K (mV ax H1 aw H') H' (bif d.flat then .sh else .bo) d v gX/\di (mV ax H1 aw H') H1 gX:=by
  cases hf:d.flat with
  |true=>exact⟨[],⟨rfl,(r.rep w').mO g.wf.kB hf⟩,di.nil⟩
  |false=>exact⟨[],⟨rfl,r.rep w'⟩,di.nil⟩
 cases m with
 |sh=>exact other
 |bo=>exact other
 |ow fl =>
  cases fl with
  |false=>exact other
  |true=>exact⟨As,⟨bG.leaves (fun a vs e=>g.wf.kB a vs (w'.sub _ _ e)) r.1,r.2⟩,nd,fun a h=>A_ s (own a h) (r.own a h)⟩
abbrev fF:=List D->(Md->D->Prop)->Prop
def au(K:PySem.W.Frag)(sp:fF):Sp:=fun vs H Qv _=>∃ ds Qd,aS K H ds vs/\sp ds Qd /\
 ∀ v H' aw m d As,aE H aw->Wf aw H'->RM K aw H' m d v As->As.Nodup->(∀ a∈As,aw a=none)->Qd m d->Qv v H'
def aP(n:Nat)(ds:List D):Env:=ds.map (fun d=>some (.sh d))++List.replicate (n-ds.length) none
theorem SR.start(r:aS K H ds vs):SR K H H (ds.map (fun d=>some (.sh d))++List.replicate n none) (vs.map some++List.replicate n none) []:=by
 induction ds generalizing vs with
 |nil =>
  rw[r.n0]
  induction n with
  |zero=>exact .nil
  |succ n ih=>exact .non ih
 |cons d ds ih =>
  obtain⟨u,us,rfl,r,rs⟩:=r.c
  exact .sh r (ih rs)
theorem za(h:au K sp vs H Qv E)(hp:∀ ds Q,sp ds Q->t { nx:=fun _=>Q .sh .non,rt:=Q } (aP N.length ds)) :
  xh K L0 t { nx:=fun _ H'=>Qv .non H',rt:=Qv } (start N vs) H:=by
 obtain⟨ds,Qd,rs,hs,fin⟩:=h
 have hl:=rs.length
 refine⟨H,aP N.length ds,[],{ nx:=fun _=>Qd .sh .non,rt:=Qd },⟨?_,⟨aE.refl _,fun _ _ e=>e⟩,nK,fun a h=>nomatch h⟩,hp ds Qd hs,?_,?_,?_,?_,fun _ _ _ _=>trivial⟩
 ·unfold aP start
  rw[hl]
  exact SR.start rs
 ·exact fun aT H' aw bS bT s sr q=>fin .non H' aw .sh .non [] s sr.wf ⟨rfl,.non⟩ nK (fun a h=>nomatch h) q
 ·exact fun aT H' aw bS bT s sr q=>q.elim
 ·exact fun aT H' aw bS bT s sr q=>q.elim
 ·exact fun v H' aw m d As s w r nd own q=>fin v H' aw m d As s w r nd own q
theorem kz.ok{P:Program}{st:Stmt}{N ps:List Str}(F:fA K x qual st f fd)(S:g9 N ps (bq st))(len:∀ ds Q,sp ds Q->ds.length=ps.length)
  (AI:∀ (cq:Value) (A:Around) (outer:List PySem.Env) (s:Shared) (H:Hp) (E:XK),kC k (A.deeper (envOfC qual (bq st) s.heap.objs.size f cq))->sq (se gu P w K mg base N qual (bq st) f cq A outer s H E).LJ K L0 (fE st) t)
  (hp:∀ ds Q,sp ds Q->t { nx:=fun _=>Q .sh .non,rt:=Q } (aP N.length ds)):ft P w K mg base gu (k+1) f fd ps (au K sp) :=
 F.ok S (fun vs H Q E ⟨ds,Qd,rs,hs,_⟩=>by rw[<- rs.length];exact len ds Qd hs) fun cq A outer s H vs Q E hr hs=>⟨_,AI cq A outer s H E hr,za hs hp⟩
def aY(sp:fF)(t:WA):WE:=fun ρ Q=>t ρ fun ps=>sp (ps.map (·.2)) fun m d=>bp (m,d) (f:=fun p=>Q (A7 p.1 p.2) p.2) ⟨⟩
theorem Br{sp:fF}{t:WA}{σ:St}{H:Hp}{Qv:VK}{E:XK}(h:mz K (aY sp t) σ H Qv):LW (au K sp) [] E (UX K t) σ H Qv:=by
 obtain⟨Hs,ρ,ag,Q,sr,h,f⟩:=h
 refine⟨Hs,ρ,ag,_,sr,h,fun vs H1 ax ps As g1 r1 f1 q1=>?_⟩
 refine⟨_,_,by rw[mh];exact r1.reps g1.wf,q1,fun v H' aw m d As s w r nd own q=>?_⟩
 obtain⟨gX,r',fr⟩:=uP g1.wf s w r nd own
 exact Fin.after f g1 v H' _ (A7 m d) d gX (jh g1.wf s w) r' fr q
theorem bx {k:Nat} {x:Str} {ps:List Str} {sp:fF} {p:Pos} {es:List Expr} {t:WA} (C:dr X.prog X.w X.K X.mg X.base k x ps (au K sp)) (hr:kC k X.A) (ha:QA X K (e :: es) t) (hg:Gl X x:=by rfl) (jI:(x == ("__debug__" : Str))=false:=by decide) (he:starEach (e :: es) X.env=(false,eval e X.env) :: starEach es X.env:=by rfl)
  (ja:(backTo pos (starEach es X.env)).any (·.1)=false:=by rfl):QE X K (.Call (.Name x p) (e :: es) [] pos) (aY sp t):=PE.imp (Ig C hr ha hg jI he ja) fun σ H Qv h=>Br h
end
abbrev WG:=D->Env->(Env->Prop)->Prop
def Z6(K:PySem.W.Frag)(g:WG):TG:=fun v σ H Qv=>∃ Hs ρ ag d Q,dy K Hs ρ σ H ag/\Rep K Hs d v/\g d ρ Q/\∀ aT bS bT,dy K Hs bS aT H bT->(∀ a∈bT,a∈ag)->Q bS->Qv aT H
abbrev QG(X:Cx)(K:PySem.W.Frag)(e:Expr)(g:WG):Prop:=PG X e (Z6 K g)
def gN(i:Nat):WG:=fun d ρ Q=>Q (ρ.set i (some (.sh d)))
abbrev E3:=List D->Env->(Env->Prop)->Prop
def gK'(K:PySem.W.Frag)(g:E3):FX:=fun vs σ H Qv=>∃ Hs ρ ag ds Q,dy K Hs ρ σ H ag/\aS K Hs ds vs/\g ds ρ Q/\∀ aT bS bT,dy K Hs bS aT H bT->(∀ a∈bT,a∈ag)->Q bS->Qv aT H
abbrev R9(X:Cx)(K:PySem.W.Frag)(es:List Expr)(g:E3):Prop:=yi X es (gK' K g)
def um:E3:=fun ds ρ Q=>ds=[]/\Q ρ
def eG(g:WG)(gs:E3):E3:=fun ds ρ Q=>match ds with
 |d :: ds=>g d ρ fun bS=>gs ds bS Q
 |[]=>False
def gT(n:Nat)(gs:E3):WG:=fun d ρ Q=>match d with
 |.tup ds=>ds.length=n/\gs ds ρ Q
 |_=>False
section
variable {X:Cx}{K:PySem.W.Frag}{e:Expr}{es:List Expr}{g:WG}{gs:E3}{pos:Pos}
theorem PG.imp(h:PG X e t)(i:∀ v σ H Q,t' v σ H Q->t v σ H Q):PG X e t':=fun pins s σ H v u Q I r q=>h pins s σ H v u Q I r (i v σ H Q q)
theorem yi.imp(h:yi X es t)(i:∀ v σ H Q,t' v σ H Q->t v σ H Q):yi X es t':=fun pins s σ H v u Q I r q=>h pins s σ H v u Q I r (i v σ H Q q)
theorem dy.Gg(i:Nat)(s:dy K Hs ρ σ H ag)(r:Rep K Hs d v):∃ bT,(∀ a∈bT,a∈ag)/\dy K Hs (ρ.set i (some (.sh d))) (σ.set i (some v)) H bT:=by
 obtain⟨t,a,b⟩:=s.sr.D_ r i
 exact⟨t,fun x hx=>a.subset hx,b,s.wf,a.nodup s.rj,fun x hx=>s.own x (a.subset hx)⟩
theorem aB(hN:X.N.Nodup)(hi:X.N[i]? = some x)(hx:Loc X.env.scope x)(hf:X.fn x=true\/X.env.scope.names.lookup x=some .local:=by first|exact .inl rfl|exact .inr rfl|assumption):QG X K (.Name x pos) (gN i) :=
 PG.imp (TH hN hi hx hf) fun v σ H Qv da=>by
  obtain⟨Hs,ρ,ag,d,Q,sr,r,h,k⟩:=da
  obtain⟨t,m,s⟩:=sr.Gg i r
  exact k _ _ t s m h
theorem nG:R9 X K [] um:=yi.imp Yh fun v σ H Qv da=>by
 obtain⟨Hs,ρ,ag,ds,Q,sr,r,h,k⟩:=da
 obtain⟨rfl,h⟩:=h
 cases r
 exact⟨rfl,k σ ρ ag sr (fun _ z=>z) h⟩
theorem cu(h1:QG X K e g)(h2:R9 X K es gs)(hs:(assignEach (e :: es) X.env).map (·.2)=assign e X.env :: (assignEach es X.env).map (·.2):=by rfl):R9 X K (e :: es) (eG g gs) :=
 yi.imp (TJ h1 h2 hs) fun v σ H Qv da=>by
  obtain⟨Hs,ρ,ag,ds,Q,sr,r,h,k⟩:=da
  cases r with
  |nil=>exact h.elim
  |cons r rs=>exact⟨_,_,rfl,Hs,ρ,ag,_,_,sr,r,h,fun kM iA fo pz m2 q2=>⟨Hs,iA,fo,_,Q,pz,rs,q2,fun yk HM gL' sr3 m3=>k yk HM gL' sr3 fun a h=>m2 a (m3 a h)⟩⟩
theorem sU(hc:X.calm=true)(h:R9 X K es gs)(hn:(assignEach es X.env).length=n:=by rfl)(lI:(assignEach es X.env).findIdx? (·.1)=none:=by rfl):QG X K (.Tuple es k pos) (gT n gs) :=
 PG.imp (Yi hc h hn lI) fun v σ H Qv da=>by
  obtain⟨Hs,ρ,ag,d,Q,sr,r,h,k⟩:=da
  cases r with
  |tup z e rs=>exact⟨_,_,rfl,.inl (.inl (sr.wf.sub _ _ e)),by rw[<- rs.length];exact h.1,Hs,ρ,ag,_,Q,sr,rs,h.2,k⟩
  |_=>exact h.elim
end
abbrev WI:=Env->(List D->Prop)->Prop
structure m7(K:PySem.W.Frag)(J:It)(ds:List D)(C:Hp->Hp->Prop):Prop where
 go:∀ i Hs H,C Hs H->Wf Hs H->i<ds.length->J.go i H
 lP:∀ i Hs H x H' d,C Hs H->Wf Hs H->ds[i]? = some d->J.lP i H x H'->∃ aw,ez Hs H aw H'/\Rep K aw d x
 stop:∀ Hs H,C Hs H->Wf Hs H->J.stop ds.length H
abbrev zY(K:PySem.W.Frag)(Hs:Hp)(J:It)(ds:List D):Prop:=m7 K J ds fun G _=>aE Hs G
def lW(xs:List D):List D:=xs.mapIdx fun i x=>.tup [.int i,x]
def CY(xs ys:List D):List D:=List.zipWith (fun x y=>.tup [x,y]) xs ys
section
variable {K:PySem.W.Frag}{Hs:Hp}{J:It}{ds es:List D}{C C':Hp->Hp->Prop}{a b:Addr}
theorem m7.imp(S:m7 K J ds C)(h:∀ Hs H,C' Hs H->C Hs H):m7 K J ds C':=⟨fun i Hs H c=>S.go i Hs H (h _ _ c),fun i Hs H x H' d c=>S.lP i Hs H x H' d (h _ _ c),fun Hs H c=>S.stop Hs H (h _ _ c)⟩
theorem m7.seq(rs:aS K Hs ds vs)(S:jK J vs fun H=>aE Hs H):zY K Hs J ds where
 go:=fun i G H s w h=>S.go i H (s.trans w.sub) (by rw[<- rs.length];exact h)
 lP:=fun i G H x H' d s w h y=>by
  have hi:i<ds.length:=by
   rcases Nat.lt_or_ge i ds.length with q|q
   ·exact q
   ·rw[xC q] at h;cases h
  obtain⟨e,z⟩:=S.lP i H x H' (s.trans w.sub) (by rw[<- rs.length];exact hi) y
  subst e
  obtain⟨d',ed,rd⟩:=rs.ND z
  rw[h] at ed;cases ed
  exact⟨G,ez.refl w,rd.same s⟩
 stop:=fun G H s w=>by rw[rs.length];exact S.stop H (s.trans w.sub)
abbrev uc(K:PySem.W.Frag)(a:Addr)(ds:List D)(C:Hp->Hp->Prop):Prop:=∀ Hs H,C Hs H->Wf Hs H->∃ vs,dn K H a vs/\aS K Hs ds vs
theorem m7.list(h:uc K a ds C):m7 K (Ra K a) ds C where
 go:=fun i G H c w hi=>by
  obtain⟨vs,q,rs⟩:=h G H c w
  exact⟨vs,vs[i]'(by rw[<- rs.length];exact hi),q,by simp⟩
 lP:=fun i G H x H' d c w hd y=>by
  obtain⟨vs,q,rs⟩:=h G H c w
  obtain⟨rfl,y⟩:=y
  obtain⟨d',ed,rd⟩:=rs.ND (y vs q)
  rw[hd] at ed;cases ed
  exact⟨G,ez.refl w,rd⟩
 stop:=fun G H c w=>by
  obtain⟨vs,q,rs⟩:=h G H c w
  exact⟨vs,q,by rw[rs.length];exact bP _⟩
theorem m7.enum(h:uc K a ds C):m7 K (UC K a) (lW ds) C where
 go:=fun i G H c w hi=>by
  obtain⟨vs,q,rs⟩:=h G H c w
  have hi:i<ds.length:=by simpa[lW] using hi
  exact⟨vs,vs[i]'(by rw[<- rs.length];exact hi),q,by simp⟩
 lP:=fun i G H x H' d c w hd y=>by
  obtain⟨vs,q,rs⟩:=h G H c w
  obtain⟨p,v,rfl,hp,rfl,y⟩:=y
  obtain⟨d',ed,rd⟩:=rs.ND (y vs q)
  have:d=.tup [.int i,d']:=by
   simp only[lW,S6,ed,K2] at hd
   cases hd;rfl
  subst this
  have g:=HK (vs:=[.int i,v]) w hp
  exact⟨_,g,.tup (vs:=[.int i,v]) xg iN (.cons (.int _) (.cons (rd.same g.sh) .nil))⟩
 stop:=fun G H c w=>by
  obtain⟨vs,q,rs⟩:=h G H c w
  exact⟨vs,q,by rw[lW,List.length_mapIdx,rs.length];exact bP _⟩
theorem m7.zip(h:uc K a ds C)(h2:uc K b es C):m7 K (UD K a b) (CY ds es) C where
 go:=fun i G H c w hi=>by
  obtain⟨vs,q,rs⟩:=h G H c w
  obtain⟨us,q2,A8⟩:=h2 G H c w
  rw[CY,S7] at hi
  have:=rs.length
  have:=A8.length
  exact⟨vs,us,vs[i]'(by lia),us[i]'(by lia),q,q2,by simp,by simp⟩
 lP:=fun i G H x H' d c w hd y=>by
  obtain⟨vs,q,rs⟩:=h G H c w
  obtain⟨us,q2,A8⟩:=h2 G H c w
  obtain⟨p,u,v,rfl,hp,rfl,y,y2⟩:=y
  obtain⟨d1,ed,rd⟩:=rs.ND (y vs q)
  obtain⟨d2,ed2,rd2⟩:=A8.ND (y2 us q2)
  have:d=.tup [d1,d2]:=by
   simp only[CY,List.getElem?_zipWith,ed,ed2] at hd
   cases hd;rfl
  subst this
  have g:=HK (vs:=[u,v]) w hp
  exact⟨_,g,.tup (vs:=[u,v]) xg iN (.cons (rd.same g.sh) (.cons (rd2.same g.sh) .nil))⟩
 stop:=fun G H c w=>by
  obtain⟨vs,q,rs⟩:=h G H c w
  obtain⟨us,q2,A8⟩:=h2 G H c w
  have:=rs.length
  have:=A8.length
  exact⟨vs,us,q,q2,by rw[CY,S7];lia⟩
theorem jx(s:dn K Hs a vs)(rs:aS K Hs ds vs):uc K a ds fun G _=>aE Hs G:=fun G H c w=>⟨vs,aE.seq (c.trans w.sub) s,rs.same c⟩
end
def tpI(K:PySem.W.Frag)(wi:WI):TI:=fun σ H R=>∃ Hs ρ ag Q,dy K Hs ρ σ H ag/\wi ρ Q/\∀ J H' aw ds,ez Hs H aw H'->zY K aw J ds->ds.length<=sizeLine->Q ds->R J H'
abbrev QI(X:Cx)(K:PySem.W.Frag)(tg iter:Expr)(wi:WI):Prop:=PI X tg iter (tpI K wi)
def lM:Md->Prop
 |.bo=>False
 |_=>True
def oF(te:WE):WI:=fun ρ Q=>te ρ fun m d=>lM m/\match d with
 |.list xs=>Q xs
 |_=>False
def U9(z:Str):List D:=z.cps.toList.map fun c=>.str ⟨#[c]⟩
def Cw(te:WE):WI:=fun ρ Q=>te ρ fun _ d=>match d with
 |.str z=>Q (U9 z)
 |_=>False
def i_(lo:Int)(n:Nat):List D:=(List.range n).map fun i=>.int (lo+(i:Nat))
def fV(te:WE):WI:=fun ρ Q=>te ρ fun _ d=>match d with
 |.int j=>j<=16777216/\-(2 ^ 62)<=j/\Q (i_ 0 j.toNat)
 |_=>False
def wR(ta tb:WE):WI:=fun ρ Q=>ta ρ fun _ x=>tb ρ fun _ y=>match x,y with
 |.int i,.int j=>j-i<=16777216/\(-(2 ^ 62)<=i/\i<2 ^ 62/\-(2 ^ 62)<=j/\j<2 ^ 62)/\Q (i_ i (j-i).toNat)
 |_,_=>False
section
variable {X:Cx}{K:PySem.W.Frag}{e e2 tg:Expr}{te y6:WE}{pos p:Pos}
theorem PI.imp(h:PI X tg iter t)(i:∀ σ H R,t' σ H R->t σ H R):PI X tg iter t':=fun pins s σ H R I q=>h pins s σ H R I (i σ H R q)
theorem jK.imp{J:It}(s:jK J vs c)(h:∀ H,c' H->c H):jK J vs c':=⟨fun i H q=>s.go i H (h H q),fun i H x H' q=>s.lP i H x H' (h H q),fun H q=>s.stop H (h H q)⟩
theorem RM.uY(g:ez Hs H ax H1)(r:RM K ax H1 m d v As)(f:di ax H As)(h:lM m):∃ aC,ez Hs H aC H1/\Rep K aC d v:=by
 cases m with
 |sh=>exact⟨ax,g,r.2⟩
 |bo=>exact h.elim
 |ow fl =>
  have n:∀ a∈As,ax a=none:=fun a ha=>(f.2 a ha).1
  have o:=r.own
  refine⟨sD ax H1 As,⟨g.all,g.sh.trans (ju n),zV g.wf o,fun a h=>?_⟩,bG.rep (ju n) r.1 fun a ha=>by unfold sD;rw[if_pos ha]⟩
  unfold sD at h
  by_cases m:a∈As
  ·exact .inr (f.2 a m).2
  ·rw[if_neg m] at h;exact g.new a h
theorem qQ(he:QE X K e te)(hK:X.K=K:=by rfl):QI X K tg e (oF te):=by
 subst hK
 refine PI.imp (Yk he) fun σ H R hx=>gS hx fun Hs ρ ag Q sr h k=>⟨Hs,ρ,ag,_,sr,h,fun v H1 ax m d As g1 r1 f1 q1=>?_⟩
 obtain⟨nb,q1⟩:=q1
 obtain⟨aC,g2,r2⟩:=r1.uY g1 f1 nb
 cases r2 with
 |list z s rs=>exact⟨_,rfl,⟨_,aE.seq g2.wf.sub s⟩,k _ H1 aC _ g2 (.seq rs (jK.imp (Ck X.K _ _) fun H' s'=>aE.seq s' s)) (by rw[rs.length];exact z) q1⟩
 |_=>exact q1.elim
theorem xj:∀ (l:List Nat),aS K H (l.map fun c=>.str ⟨#[c]⟩) (l.map fun c=>V.str ⟨#[c]⟩)
 |[]=>.nil
 |c :: l=>.cons (.str (Ax c)) (xj l)
theorem Jf(he:QE X K e te):QI X K tg e (Cw te):=by
 refine PI.imp (Hx he) fun σ H R hx=>gS hx fun Hs ρ ag Q sr h k=>⟨Hs,ρ,ag,_,sr,h,fun v H1 ax m d As g1 r1 f1 q1=>?_⟩
 have r:=r1.rep g1.wf
 cases r with
 |str hz=>exact⟨_,rfl,k _ H1 ax _ g1 (.seq (xj _) (jK.imp (Hc _) fun _ _=>trivial)) (by rw[cE,uk];exact hz) q1⟩
 |_=>exact q1.elim
theorem nj(lo:Int):∀ (l:List Nat),aS K H (l.map fun i=>.int (lo+(i:Nat))) (l.map fun i=>V.int (lo+(i:Nat)))
 |[]=>.nil
 |c :: l=>.cons (.int _) (nj lo l)
theorem eV (hm:X.mg "range" = none) (he:QE X K e te) (hg:Gl X "range" := by rfl) (hs:starEach [e] X.env=(false,eval e X.env) :: starEach [] X.env:=by rfl) (fP:starEach [e] X.env=[(false,eval e X.env)]:=by rfl):QI X K tg (.Call (.Name "range" p) [e] [] pos) (fV te):=by
 refine PI.imp (de' hg hm (kN he oQ hs) fP) fun σ H R hx=>gS hx fun Hs ρ ag Q sr h k=>⟨Hs,ρ,ag,_,sr,h,fun v H1 ax m d As g1 r1 f1 q1=>?_⟩
 have r:=r1.rep g1.wf
 cases r with
 |int j =>
  obtain⟨h1,h2,q1⟩:=q1
  exact⟨j,rfl,h2,by lia,k _ H1 ax _ g1 (.seq (nj 0 _) (jK.imp (Bm _ _) fun _ _=>trivial)) (by rw[cE,Qy,sizeLine_eq];lia) q1⟩
 |_=>exact q1.elim
theorem Ek (hm:X.mg "range" = none) (he:QE X K e te) (ML:QE X K e2 y6) (hg:Gl X "range" := by rfl) (hs:starEach (e :: [e2]) X.env=(false,eval e X.env) :: starEach [e2] X.env:=by rfl) (g0:starEach (e2 :: []) X.env=(false,eval e2 X.env) :: starEach [] X.env:=by rfl)
  (fP:starEach [e,e2] X.env=[(false,eval e X.env),(false,eval e2 X.env)]:=by rfl) (U_:starEach [e2] X.env=[(false,eval e2 X.env)]:=by rfl):QI X K tg (.Call (.Name "range" p) [e,e2] [] pos) (wR te y6):=by
 refine PI.imp (df' hg hm (kN he (kN ML oQ g0) hs) fP U_) fun σ H R hx=>gS hx fun Hs ρ ag Q sr h k=>⟨Hs,ρ,ag,_,sr,h,fun v H1 ax m d As g1 r1 f1 q1=>⟨ax,ρ,ag,_,sr.grow g1,q1,fun u H2 aC n y Bs g2 r2 f2 q2=>?_⟩⟩
 have r:=(r1.grow g2).rep g2.wf
 have r':=r2.rep g2.wf
 cases r with
 |int i=>cases r' with
  |int j =>
   obtain⟨h1,h2,q2⟩:=q2
   exact⟨i,j,rfl,h2,k _ H2 aC _ (g1.trans g2) (.seq (nj i _) (jK.imp (Bm _ _) fun _ _=>trivial)) (by rw[cE,Qy,sizeLine_eq];lia) q2⟩
  |_=>exact q2.elim
 |_=>cases r'<;>exact q2.elim
section
variable {X:Cx}{K:PySem.W.Frag}{e tg:Expr}{te:WE}{pos p:Pos}
def Z7(K:PySem.W.Frag)(wi:WI):TI:=fun σ H R=>∃ Hs ρ ag Q,dy K Hs ρ σ H ag/\wi ρ Q/\∀ J H' aw ds,ez Hs H aw H'->zY K H' J ds->ds.length<=sizeLine->Q ds->R J H'
abbrev HP(X:Cx)(K:PySem.W.Frag)(tg iter:Expr)(wi:WI):Prop:=PI X tg iter (Z7 K wi)
theorem lE(h:QI X K tg iter wi):HP X K tg iter wi:=PI.imp h fun σ H R hx=>gS hx fun Hs ρ ag Q sr h k=>⟨Hs,ρ,ag,Q,sr,h,fun J H' aw ds g w z q=>k J H' aw ds g (w.imp fun G H s=>g.wf.sub.trans s) z q⟩
def gU(te:WE):WI:=fun ρ Q=>te ρ fun _ d=>match d with
 |.list xs=>Q xs
 |_=>False
def tH(te:WE):WI:=fun ρ Q=>te ρ fun _ d=>match d with
 |.tup xs=>Q xs
 |_=>False
def tV(te:WE):WI:=fun ρ Q=>te ρ fun _ d=>match d with
 |.list xs=>Q (lW xs)
 |_=>False
theorem gO(he:QE X K e te)(hK:X.K=K:=by rfl):HP X K tg e (gU te):=by
 subst hK
 refine PI.imp (Yk he) fun σ H R hx=>gS hx fun Hs ρ ag Q sr h k=>⟨Hs,ρ,ag,_,sr,h,fun v H1 ax m d As g1 r1 f1 q1=>?_⟩
 have r:=r1.rep g1.wf
 cases r with
 |list z s rs=>exact⟨_,rfl,⟨_,s⟩,k _ H1 ax _ g1 (.list (jx s rs)) (by rw[rs.length];exact z) q1⟩
 |_=>exact q1.elim
theorem sI(he:QE X K e te)(hK:X.K=K:=by rfl):HP X K tg e (tH te):=by
 subst hK
 refine PI.imp (da' he) fun σ H R hx=>gS hx fun Hs ρ ag Q sr h k=>⟨Hs,ρ,ag,_,sr,h,fun v H1 ax m d As g1 r1 f1 q1=>?_⟩
 have r:=r1.rep g1.wf
 cases r with
 |tup z s rs=>exact⟨_,rfl,⟨_,.inl (.inl s)⟩,k _ H1 ax _ g1 (.seq rs (jK.imp (Hg X.K _ _) fun H' s'=>.inl (.inl (s' _ _ s)))) (by rw[rs.length];exact z) q1⟩
 |_=>exact q1.elim
theorem Ao (hm:X.mg "enumerate" = none) (he:QE X K e te) (hK:X.K=K:=by rfl) (hg:Gl X "enumerate" := by rfl) (hs:starEach [e] X.env=(false,eval e X.env) :: starEach [] X.env:=by rfl) (fP:starEach [e] X.env=[(false,eval e X.env)]:=by rfl) :
  HP X K (.Tuple elts kk tp) (.Call (.Name "enumerate" p) [e] [] pos) (tV te):=by
 subst hK
 refine PI.imp (Gk hg hm (kN he oQ hs) fP) fun σ H R hx=>gS hx fun Hs ρ ag Q sr h k=>⟨Hs,ρ,ag,_,sr,h,fun v H1 ax m d As g1 r1 f1 q1=>?_⟩
 have r:=r1.rep g1.wf
 cases r with
 |list z s rs=>exact⟨_,rfl,⟨_,s⟩,k _ H1 ax _ g1 (.enum (jx s rs)) (by rw[lW,List.length_mapIdx,rs.length];exact z) q1⟩
 |_=>exact q1.elim
end
section
variable {X:Cx}{K:PySem.W.Frag}{e e2:Expr}{te y6:WE}{pos p:Pos}
def Dn(te y6:WE):WI:=fun ρ Q=>te ρ fun m d=>lM m/\y6 ρ fun m2 d2=>lM m2/\match d,d2 with
 |.list xs,.list ys=>Q (CY xs ys)
 |_,_=>False
theorem Jc (hm:X.mg "zip" = none) (he:QE X K e te) (ML:QE X K e2 y6) (hK:X.K=K:=by rfl) (hg:Gl X "zip" := by rfl) (hs:starEach (e :: [e2]) X.env=(false,eval e X.env) :: starEach [e2] X.env:=by rfl) (g0:starEach (e2 :: []) X.env=(false,eval e2 X.env) :: starEach [] X.env:=by rfl)
  (fP:starEach [e,e2] X.env=[(false,eval e X.env),(false,eval e2 X.env)]:=by rfl) (U_:starEach [e2] X.env=[(false,eval e2 X.env)]:=by rfl):QI X K (.Tuple elts kk tp) (.Call (.Name "zip" p) [e,e2] [] pos) (Dn te y6):=by
 subst hK
 refine PI.imp (JT hg hm (kN he (kN ML oQ g0) hs) fP U_) fun σ H R hx=>gS hx fun Hs ρ ag Q sr h k=>⟨Hs,ρ,ag,_,sr,h,fun v H1 ax m d As g1 r1 f1 q1=>?_⟩
 obtain⟨nb,q1⟩:=q1
 obtain⟨aC,g2,r⟩:=r1.uY g1 f1 nb
 refine⟨aC,ρ,ag,_,sr.grow g2,q1,fun u H3 eW n y Bs g3 r3 f3 q3=>?_⟩
 obtain⟨nb3,q3⟩:=q3
 obtain⟨CH,g4,r'⟩:=r3.uY g3 f3 nb3
 have r:=r.same g4.sh
 cases r with
 |list z s rs=>cases r' with
  |list z2 s2 A8=>exact⟨_,_,rfl,⟨_,aE.seq g4.wf.sub s⟩,⟨_,aE.seq g4.wf.sub s2⟩,k _ H3 CH _ (g2.trans g4) (.zip (jx s rs) (jx s2 A8)) (by rw[CY,S7];have:=rs.length;lia) q3⟩
  |_=>exact q3.elim
 |_=>cases r'<;>exact q3.elim
end
def tL(g:WG)(b:WS)(E:rA):List D->Env->Prop
 |[],ρ=>E.nx ρ
 |x :: xs,ρ=>g x ρ fun ox=>b { E with nx:=tL g b E xs,ct:=tL g b E xs,bk:=E.nx } ox
def xl(wi:WI)(g:WG)(b:WS):WS:=fun E ρ=>wi ρ fun ds=>tL g b E ds ρ
variable {wi:WI}{g:WG}{b:WS}{body:List Stmt}
theorem ji(hp:PassesOwn (model X.prog X.w) X.A X.env X.xe)(hc:X.calm=true)(hi:QI X K tg iter wi)(hg:QG X K tg g)(hb:sq X K L body b)(hs:∀ x,foldedSetIterable iter X.env x=pure x:=by intro _;rfl) :
  QS X K L (.For tg iter body [] pos) (xl wi g b):=by
 refine PS.imp (dh' hp hc hi hg hb hs) fun D σ H hx=>oh hx fun Hs ρ ag E sr h k1 k2 k3 k4 kx=>?_
 rw[Es]
 refine⟨Hs,ρ,ag,_,sr,h,fun J H1 ax ds g1 S hz q1=>?_⟩
 refine⟨fun i m σ H=>m=ds.length-i/\i<=ds.length/\∃ aw bS bT,aE ax aw/\dy K aw bS σ H bT/\tL g b E (ds.drop i) bS,⟨ds.length,by simp,eu _,ax,ρ,ag,aE.refl _,sr.grow g1,by simpa using q1⟩,?_⟩
 rintro i m kM H2 ⟨rfl,hi,aC,iA,fo,s2,pz,q2⟩
 by_cases fi:i<ds.length
 ·refine .inr ⟨S.go i aC H2 s2 pz.wf fi,fun yk H3=>∃ aw bS bT,aE ax aw/\dy K aw bS yk H3 bT/\tL g b E (ds.drop (i+1)) bS,fun yk H3 h3=>⟨ds.length-(i+1),by lia,rfl,fi,h3⟩,fun x H3 y=>?_⟩
  obtain⟨eW,g3,rd⟩:=S.lP i aC H2 x H3 ds[i] s2 pz.wf (by simp[fi]) y
  rw[DS fi] at q2
  have s3:=s2.trans g3.sh
  refine⟨eW,iA,fo,ds[i],_,pz.grow g3,rd,q2,fun σ4 tP Va R_ _ q4=>?_⟩
  refine⟨eW,tP,Va,_,R_,q4,?_,?_,?_,?_,fun n H5 s5=>kx n H5 ((g1.sh.trans s3).trans s5)⟩
  ·exact fun Vb H5 y8 N0 N3 s5 N4 q5=>⟨y8,N0,N3,s3.trans s5,N4,q5⟩
  ·exact fun Vb H5 y8 N0 N3 s5 N4 q5=>k1 Vb H5 y8 N0 N3 ((g1.sh.trans s3).trans s5) N4 q5
  ·exact fun Vb H5 y8 N0 N3 s5 N4 q5=>⟨y8,N0,N3,s3.trans s5,N4,q5⟩
  ·exact fun v H5 y8 m d As s5=>k4 v H5 y8 m d As ((g1.sh.trans s3).trans s5)
 ·have e:i=ds.length:=by lia
  subst e
  refine .inl ⟨S.stop aC H2 s2 pz.wf,?_⟩
  rw[Tf] at q2
  exact k1 kM H2 aC iA fo (g1.sh.trans s2) pz q2
theorem ie(xs:List D)(Pv:Nat->Env->Prop)(h0:Pv 0 ρ)
  (hs:∀ i x ρ,xs[i]? = some x->Pv i ρ->∀ N:Env->Prop,(∀ bS,Pv (i+1) bS->N bS)->g x ρ fun ox=>b { E with nx:=N,ct:=N,bk:=E.nx } ox)
  (hd:∀ ρ,Pv xs.length ρ->E.nx ρ):tL g b E xs ρ:=by
 have go:∀ (k i:Nat) (ρ:Env),i+k=xs.length->Pv i ρ->tL g b E (xs.drop i) ρ:=by
  intro k
  induction k with
  |zero =>
   intro i ρ e p
   have:i=xs.length:=by lia
   subst this
   rw[Tf]
   exact hd ρ p
  |succ k ih =>
   intro i ρ e p
   have hi:i<xs.length:=by lia
   rw[DS hi]
   exact hs i xs[i] ρ (by simp[hi]) p _ fun iA h2=>ih (i+1) iA (by lia) h2
 have:=go xs.length 0 ρ (by lia) h0
 simpa using this
end
def oy:WT:=fun _ Q=>Q true
def Sb(m:Md)(d:D):Prop:=d.flat=true\/m=.ow true
def iT(g:WG)(tc:WT)(te:WE):List D->Env->(List D->Prop)->Prop
 |[],_,k=>k []
 |x :: xs,ρ,k=>g x ρ fun ox=>tc ox fun b=>if b=true then te ox fun m d=>Sb m d/\iT g tc te xs ox (fun out=>k (d :: out)) else iT g tc te xs ox k
def Hm(tn:Nat)(ix:List Nat)(ρ:Env):Env:=List.replicate tn none++ix.map fun j=>(ρ[j]?).join.map U8
def dq(wi:WI)(g:WG)(tc:WT)(te:WE)(tn:Nat)(ix:List Nat):WE:=fun ρ Q=>wi ρ fun ds=>iT g tc te ds (Hm tn ix ρ) fun out=>Q (.ow true) (.list out)
section
variable {X:Cx}{K:PySem.W.Frag}
theorem qb{Hs H G:Hp}(sr:dy K Hs ρ σ H ag)(G':Hp):∀ (ix:List Nat),SR K H G' (ix.map fun j=>(ρ[j]?).join.map U8) (ix.map fun j=>(σ[j]?).join) []
 |[]=>.nil
 |j :: ix=>by
  have ih:=qb sr G' ix (G:=G)
  simp only[iF]
  cases e:ρ[j]? with
  |none=>exact .non ih
  |some o =>
   cases o with
   |none=>exact .non ih
   |some sl =>
    obtain⟨v,e1,r⟩:=sr.sr.get e
    rw[e1]
    cases sl with
    |sh d=>exact .sh (Rep.same sr.wf.sub r) ih
    |xc a=>subst r;exact .xc ih
    |ow fl d =>
     obtain⟨As,_,r,_⟩:=r
     exact .sh (r.rep sr.wf.sub fun _ _=>rfl) ih
    |lk a fl d =>
     obtain⟨As,_,r,_⟩:=r
     exact .sh (r.rep sr.wf.sub fun _ _=>rfl) ih
theorem tR(s:SR K H G ρ σ []):∀ (n:Nat),SR K H G (List.replicate n none++ρ) (List.replicate n none++σ) []
 |0=>s
 |n+1=>.non (tR s n)
theorem SR.heap(s:SR K Hs H ρ σ []):SR K Hs H' ρ σ []:=s.gi (aE.refl _) fun a h=>nomatch h
theorem Bu(w:Wf Hs H)(n:Hs p=none)(ho:∀ vs,o≠.tup vs):Wf Hs (upd H p o):=⟨fun b u q=>by
  rw[fh (fun z=>by subst z;rw[n] at q;cases q)];exact w.sub b u q,fun b us q=>by
  by_cases hb:b=p
  ·subst hb;rw[iN] at q;exact absurd (Option.some.inj q) (ho us)
  ·rw[fh hb] at q;exact w.kB b us q⟩
structure CompI(K:PySem.W.Frag)(H1:Hp)(b:Addr)(acc:List D)(ys:List V)(As:List Addr)(Hs:Hp)(ρ:Env)(τ:St)(H:Hp):Prop where
 sm:aE H1 Hs
 sr:dy K Hs ρ τ H []
 eD:H b=some (.lst ys)
 nD:Hs b=none
 ra:aF K Hs H true acc ys As
 nd:(b :: As).Nodup
 own:∀ a∈As,Hs a=none
theorem CompI.grow(c:CompI K H1 b acc ys As Hs ρ τ H)(g:ez Hs H aw H'):CompI K H1 b acc ys As aw ρ τ H' :=
 ⟨c.sm.trans g.sh,c.sr.grow g,g.all _ _ c.eD,g.n4 c.nD (by rw[c.eD];exact fun z=>nomatch z),c.ra.grow g.sh g.all,c.nd,fun a ha=>g.n4 (c.own a ha) (c.ra.own a ha).ne⟩
theorem CompI.push(c:CompI K H1 b acc ys As Hs ρ τ H)(r:RM K Hs H m d v Bs)(ok:Sb m d)(nb:Bs.Nodup)(fb:∀ a∈Bs,Hs a=none/\a∉b :: As):∃ gX,CompI K H1 b (acc++[d]) (ys++[v]) gX Hs ρ τ (upd H b (.lst (ys++[v]))):=by
 obtain⟨B,sb,rb⟩:∃ B,B.Sublist Bs/\bG K Hs H true d v B:=by
  rcases ok with hf|rfl
  ·exact⟨[],BM _,.sh (fun _=>hf) (r.flat c.sr.wf hf)⟩
  ·exact⟨Bs,List.Sublist.refl _,r.1⟩
 obtain⟨na,nA⟩:=nE.mp c.nd
 have Sd:=fun a ha=>fb a (sb.subset ha)
 refine⟨As++(B++[]),c.sm,⟨c.sr.sr.heap,Bu c.sr.wf c.nD (fun _ z=>nomatch z),nK,fun a h=>nomatch h⟩,iN,c.nD,(c.ra.gi (H':=upd H b (.lst (ys++[v]))) (aE.refl _) fun a ha=>fh fun z=>na (by subst z;exact ha)).append (.cons (rb.gi (aE.refl _) fun a ha=>fh fun z=>(Sd a ha).2 (by subst z;exact dQ)) .nil),?_,?_⟩
 ·rw[mh]
  refine nE.mpr ⟨fun m=>(eJ.mp m).elim na fun m=>(Sd b m).2 dQ,iP.mpr ⟨nA,sb.nodup nb,fun x hx y hy e=>(Sd y hy).2 (e ▸ dz _ hx)⟩⟩
 ·rw[mh]
  exact fun a ha=>(eJ.mp ha).elim (c.own a) fun m=>(Sd a m).1
theorem ur(h:mz K (dq wi g tc te tn ix) σ H Qv):zJ (Z7 K wi) (Z6 K g) (A4 K tc) (mz K te) tn ix σ H Qv:=by
 obtain⟨Hs,ρ,ag,Q,sr,h,f⟩:=h
 rw[BZ]
 refine⟨Hs,ρ,ag,_,sr,h,fun J H1 ax ds g1 S hz q1 b hb=>?_⟩
 have st:CompI K H1 b [] [] [] H1 (Hm tn ix ρ) (rO tn ix σ) (upd H1 b (.lst [])):=by
  refine⟨aE.refl _,⟨tR (qb (G:=H1) (sr.grow g1) _ ix) tn,⟨(aE.refl H1).upd hb,fun a xs e=>?_⟩,nK,fun a h=>nomatch h⟩,iN,hb,.nil,by simp,fun a h=>nomatch h⟩
  by_cases ha:a=b
  ·subst ha;rw[iN] at e;cases e
  ·rw[fh ha] at e;exact e
 refine⟨fun i m τ H2=>m=ds.length-i/\i<=ds.length/\∃ aC iA acc ys As,CompI K H1 b acc ys As aC iA τ H2/\acc.length<=i/\iT g tc te (ds.drop i) iA (fun out=>Q (.ow true) (.list (acc++out))),
  ⟨ds.length,by simp,eu _,H1,_,[],[],[],st,bP _,by simpa using q1⟩,?_⟩
 rintro i m τ H2 ⟨rfl,hi,aC,iA,acc,ys,As,c,la,q2⟩
 by_cases fi:i<ds.length
 ·refine .inr ⟨S.go i aC H2 c.sm c.sr.wf fi,
   fun HV v H4=>∃ CH tP d,CompI K H1 b acc ys As CH tP HV H4/\(∃ gX,CompI K H1 b (acc++[d]) (ys++[v]) gX CH tP HV (upd H4 b (.lst (ys++[v]))))/\iT g tc te (ds.drop (i+1)) tP (fun out=>Q (.ow true) (.list (acc++d :: out))),
   fun HV H3=>∃ eW HM,CompI K H1 b acc ys As eW HM HV H3/\iT g tc te (ds.drop (i+1)) HM (fun out=>Q (.ow true) (.list (acc++out))),?_,?_,?_⟩
  ·rintro HV v H4 ⟨CH,tP,d,c4,⟨gX,c5⟩,q4⟩
   have lya:=c4.ra.length
   exact⟨ys,ds.length-(i+1),c4.eD,by lia,by lia,rfl,fi,CH,tP,acc++[d],ys++[v],gX,c5,by rw[md];simpa using la,by simpa using q4⟩
  ·rintro HV H3 ⟨eW,HM,c3,q3⟩
   exact⟨ds.length-(i+1),by lia,rfl,fi,eW,HM,acc,ys,As,c3,by lia,q3⟩
  ·intro x H3 y
   obtain⟨eW,g3,rd⟩:=S.lP i aC H2 x H3 ds[i] c.sm c.sr.wf (by simp[fi]) y
   rw[DS fi] at q2
   have c3:=c.grow g3
   refine⟨eW,iA,[],ds[i],_,c3.sr,rd,q2,fun τ4 tP Va R_ m4 q4=>?_⟩
   have t4:Va=[]:=List.eq_nil_iff_forall_not_mem.mpr fun a ha=>nomatch m4 a ha
   subst t4
   have c4:CompI K H1 b acc ys As eW tP τ4 H3:=⟨c3.sm,R_,c3.eD,c3.nD,c3.ra,c3.nd,c3.own⟩
   refine⟨eW,tP,[],_,R_,q4,fun k H5 y8 g5 q5=>?_⟩
   have c5:=c4.grow g5
   cases k with
   |false=>exact⟨y8,tP,c5,q5⟩
   |true =>
    refine⟨y8,tP,[],_,c5.sr,q5,fun v H6 Hs6 m6 d6 As6 g6 r6 f6 q6=>?_⟩
    have c6:=c5.grow g6
    refine⟨Hs6,tP,d6,c6,c6.push r6 q6.1 f6.1 fun a ha=>⟨(f6.2 a ha).1,fun m=>?_⟩,q6.2⟩
    rcases dA.mp m with rfl|m
    ·have:=(f6.2 _ ha).2
     rw[c5.eD] at this;cases this
    ·exact(c5.ra.own a m).ne (f6.2 a ha).2
 ·have e:i=ds.length:=by lia
  subst e
  refine .inl ⟨S.stop aC H2 c.sm c.sr.wf,?_⟩
  rw[Tf] at q2
  have q2:Q (.ow true) (.list (acc++[])):=q2
  rw[mh] at q2
  have lya:=c.ra.length
  have rm:RM K aC H2 (.ow true) (.list acc) (.ref b) (b :: As):=⟨.list (by lia) c.eD c.ra,by simp⟩
  obtain⟨gX,r',fr⟩:=uP g1.wf c.sm c.sr.wf rm c.nd fun a ha=>(dA.mp ha).elim (fun z=>z ▸ c.nD) (c.own a)
  exact Fin.after f g1 (.ref b) H2 _ (.ow true) (.list acc) gX (jh g1.wf c.sm c.sr.wf) r' fr q2
theorem yA.imp(h:yA X ifs t)(i:∀ σ H Q,t' σ H Q->t σ H Q):yA X ifs t':=fun pins s σ H Q I q=>h pins s σ H Q I (i σ H Q q)
abbrev Se(X:Cx)(K:PySem.W.Frag)(ifs:List Expr)(t:WT):Prop:=yA X ifs (A4 K t)
theorem cD:Se X K [] oy:=yA.imp Fd fun σ H Qv hx=>gS hx fun Hs ρ ag Q sr h k=>k true H Hs (ez.refl sr.wf) h
theorem il(h:QT X K c t):Se X K [c] t:=Gq h
theorem cg(hc:X.calm=true)(hi:HP X K tg iter wi)(O:aW X scope tn cn ix)
  (hg:∀ C fp gI hZ,QG (bj X scope C (tn++cn) fp gI hZ) K tg g) (sf:∀ C fp gI hZ,Se (bj X scope C (tn++cn) fp gI hZ) K ifs tc) (he:∀ C fp gI hZ,QE (bj X scope C (tn++cn) fp gI hZ) K elt te)
  (hs:∀ x,foldedSetIterable iter X.env x=pure x:=by intro _;rfl):QE X K (.ListComp elt [⟨tg,iter,ifs,0⟩] scope pos) (dq wi g tc te tn.length ix) :=
 PE.imp (GC hc hi O hg sf he hs) fun σ H Qv h=>ur h
end
theorem aQ(p:D->Bool)(f:D->D)(Iv:Env->Prop):∀ (xs:List D) (ρ:Env) (k:List D->Prop),Iv ρ ->
  (∀ x∈xs,∀ ρ,Iv ρ->∀ N1:Env->Prop,∀ N2:Env->D->Prop,(∀ bS,Iv bS->p x=false->N1 bS)->(∀ bS,Iv bS->p x=true->N2 bS (f x))->g x ρ fun ox=>tc ox fun b=>if b=true then te ox fun m d=>Sb m d/\N2 ox d else N1 ox) ->
  k ((xs.filter p).map f)->iT g tc te xs ρ k
 |[],_,k,_,_,h=>h
 |x :: xs,ρ,k,iv,hs,h=>by
  refine hs x dQ ρ iv _ _ (fun bS N9 hp=>?_) (fun bS N9 hp=>?_)
  ·exact aQ p f Iv xs bS k N9 (fun y hy=>hs y (dz _ hy)) (by simpa[hp] using h)
  ·exact aQ p f Iv xs bS _ N9 (fun y hy=>hs y (dz _ hy)) (by simpa[hp] using h)
def Upd(K:PySem.W.Frag)(Hs H:Hp)(σ:St)(fl:Bool)(v:V)(up:Bool->D->Env)(gX:List Addr):Prop:=∀ aC H2 fl2 d2 fS,aE Hs aC->Wf aC H2->(∀ a,Hs a=none->H a≠none->aC a=none)->(fl2=true->fl=true) ->
  bG K aC H2 fl2 d2 v fS->fS≠[]->fS.Nodup->(∀ a∈fS,aC a=none/\(a∈gX\/H a=none))->(∀ a,H a≠none->a∉gX->H2 a=H a)->∃ fo,dy K aC (up fl2 d2) σ H2 fo
structure Place(K:PySem.W.Frag)(Hs H:Hp)(σ:St)(fl:Bool)(d:D)(v:V)(up:Bool->D->Env):Prop where
 ex:∃ gX,bG K Hs H fl d v gX/\gX≠[]/\gX.Nodup/\(∀ a∈gX,Hs a=none)/\Upd K Hs H σ fl v up gX
theorem Upd.node{K:PySem.W.Frag}(k:Upd K Hs H σ fl (.ref a) up (a :: A))(g:ez Hs H aC H2)(own:∀ x∈a :: A,Hs x=none/\H x≠none)(ho:∀ vs,o≠.tup vs)(hf:fl2=true->fl=true)
  (r:bG K aC (upd H2 a o) fl2 d2 (.ref a) (a :: C)) (nC:C.Nodup) (Sf:a∉C) (hC:∀ x∈C,x∈A\/(aC x=none/\H x=none)):∃ fo,dy K aC (up fl2 d2) σ (upd H2 a o) fo:=by
 have hn:∀ x∈a :: A,aC x=none:=fun x hx=>g.n4 (own x hx).1 (own x hx).2
 refine k aC _ fl2 d2 (a :: C) g.sh (Bu g.wf (hn a dQ) ho) (fun b h1 h2=>g.n4 h1 h2) hf r (QD _ _) (nE.mpr ⟨Sf,nC⟩) (fun b hb=>?_) fun b h1 h2=>?_
 ·rcases dA.mp hb with rfl|hb
  ·exact⟨hn _ dQ,.inl dQ⟩
  ·exact(hC b hb).elim (fun q=>⟨hn b (dz _ q),.inl (dz _ q)⟩) fun q=>⟨q.1,.inr q.2⟩
 ·rw[fh fun z=>h2 (by subst z;exact dQ)]
  cases q:H b with
  |none=>exact absurd q h1
  |some o=>exact g.all b o q
abbrev WP:=Env->(Bool->D->(Bool->D->Env)->Prop)->Prop
def tpP(K:PySem.W.Frag)(t:WP):TE:=fun σ H Qv=>∃ Hs ρ ag Q,dy K Hs ρ σ H ag/\t ρ Q/\∀ v H' aw fl d up,ez Hs H aw H'->Place K aw H' σ fl d v up->Q fl d up->Qv v H'
abbrev QP(X:Cx)(K:PySem.W.Frag)(e:Expr)(t:WP):Prop:=PE X e (tpP K t)
section
variable {K:PySem.W.Frag}{Hs H aw H':Hp}{σ:St}{fl:Bool}{d:D}{v:V}{up:Bool->D->Env}
theorem Place.grow(p:Place K Hs H σ fl d v up)(g:ez Hs H aw H'):Place K aw H' σ fl d v up:=by
 obtain⟨gX,r,ne,nd,own,k⟩:=p.ex
 refine⟨gX,r.grow g.sh g.all,ne,nd,fun a h=>g.n4 (own a h) (r.own a h).ne,fun aC H2 fl2 d2 fS s2 w2 n2 hf r2 ne2 kG o2 st=>?_⟩
 refine k aC H2 fl2 d2 fS (g.sh.trans s2) w2 (fun a h1 h2=>n2 a (g.n4 h1 h2) ?_) hf r2 ne2 kG (fun a h=>⟨(o2 a h).1,(o2 a h).2.imp id g.all.free⟩) fun a h1 h2=>?_
 ·cases e:H a with
  |none=>exact absurd e h2
  |some o=>rw[g.all a o e];exact fun z=>nomatch z
 ·cases e:H a with
  |none=>exact absurd e h1
  |some o =>
   have:=g.all a o e
   rw[<- this]
   exact st a (by rw[this];exact fun z=>nomatch z) h2
theorem bG.ne2:(∀ {d:D} {v:V} {As:List Addr},bG K Hs H true d v As->d.flat=false->As≠[])/\∀ {ds:List D} {vs:List V} {As:List Addr},aF K Hs H true ds vs As->cw ds=false->As≠[] :=
 bG.ind (m1:=fun d _ As=>d.flat=false->As≠[]) (m2:=fun ds _ As=>cw ds=false->As≠[]) (fun _ _ f _ h=>by rw[f rfl] at h;cases h) (fun _ _ _ _ _ _ _ _ _=>QD _ _) (fun _ _ _ _ _ _ n _ ih _=>ih n) (fun _ _ _ _ _ _ _ _ _=>QD _ _) (fun _ _ _ _ _ _ _ _ _=>QD _ _)
  (fun h=>by simp[cw] at h) fun d _ _ _ _ _ _ _ i1 i2 h=>by
   cases e:d.flat with
   |false=>exact fun z=>i1 e (Jn.mp z).1
   |true =>
    simp only[cw,e,Bool.true_and] at h
    exact fun z=>i2 h (Jn.mp z).2
theorem bG.ne(r:bG K Hs H true d v As)(h:d.flat=false):As≠[]:=bG.ne2.1 r h
theorem aF.ne(r:aF K Hs H true ds vs As)(h:cw ds=false):As≠[]:=bG.ne2.2 r h
theorem bG.nil_of(r:bG K Hs H fl d v As)(h:d.flat=true):As=[]:=by
 cases r with
 |sh _ _=>rfl
 |tup _ _ n _=>simp[D.flat,n] at h
 |_=>simp[D.flat] at h
def vw(i:Nat):WP:=fun ρ Q=>match ρ[i]? with
 |some (some (.ow fl d))=>Q fl d fun fl2 d2=>ρ.set i (some (.ow fl2 d2))
 |_=>False
theorem SR.put(i:Nat)(s:SR K Hs H ρ σ ag):ρ[i]? = some (some (.ow fl d))->ag.Nodup ->
  ∃ (v:V) (As bT:List Addr),σ[i]? = some (some v)/\As≠[]/\bG K Hs H fl d v As/\As.Sublist ag/\∀ aC H2 fl2 d2 fS,aE Hs aC->bG K aC H2 fl2 d2 v fS->fS≠[]->fS.Nodup->(∀ a∈fS,a∈ag->a∈As)->(∀ a∈ag,a∉As->H2 a=H a) ->
   ∃ fo,fo.Nodup/\(∀ a∈fo,a∈ag\/a∈fS)/\SR K aC H2 (ρ.set i (some (.ow fl2 d2))) σ fo:=by
 induction s generalizing i with
 |nil=>intro e;simp at e
 |@non ρ σ ag o q ih =>
  intro e n
  cases i with
  |zero=>simp at e
  |succ i =>
   obtain⟨v,As,t,a,b,c,d,g⟩:=ih i (by simpa using e) n
   refine⟨v,As,t,by simpa using a,b,c,d,fun aC H2 fl2 d2 fS s2 r2 ne2 kG dj st=>?_⟩
   obtain⟨t2,x,y,z⟩:=g aC H2 fl2 d2 fS s2 r2 ne2 kG dj st
   exact⟨t2,x,y,.non z⟩
 |sh r q ih =>
  intro e n
  cases i with
  |zero=>simp at e
  |succ i =>
   obtain⟨v,As,t,a,b,c,d,g⟩:=ih i (by simpa using e) n
   refine⟨v,As,t,by simpa using a,b,c,d,fun aC H2 fl2 d2 fS s2 r2 ne2 kG dj st=>?_⟩
   obtain⟨t2,x,y,z⟩:=g aC H2 fl2 d2 fS s2 r2 ne2 kG dj st
   exact⟨t2,x,y,.sh (r.same s2) z⟩
 |xc q ih =>
  intro e n
  cases i with
  |zero=>simp at e
  |succ i =>
   obtain⟨v,As,t,a,b,c,d,g⟩:=ih i (by simpa using e) n
   refine⟨v,As,t,by simpa using a,b,c,d,fun aC H2 fl2 d2 fS s2 r2 ne2 kG dj st=>?_⟩
   obtain⟨t2,x,y,z⟩:=g aC H2 fl2 d2 fS s2 r2 ne2 kG dj st
   exact⟨t2,x,y,.xc z⟩
 |@ow ρ σ t2 B fl0 d0 v ne r q ih =>
  intro e n
  obtain⟨n1,n2,n3⟩:=iP.mp n
  cases i with
  |zero =>
   simp at e
   obtain⟨rfl,rfl⟩:=e
   refine⟨v,B,t2,rfl,ne,r,Fs _ _,fun aC H2 fl2 d2 fS s2 r2 ne2 kG dj st=>⟨fS++t2,iP.mpr ⟨kG,n2,fun a ha b hb e=>?_⟩,fun a h=>?_,.ow ne2 r2 (q.gi s2 fun a h=>st a (fT _ h) fun z=>n3 a z a h rfl)⟩⟩
   ·subst e
    exact n3 a (dj a ha (fT _ hb)) a hb rfl
   ·exact(eJ.mp h).symm.imp (fun z=>fT _ z) id
  |succ i =>
   obtain⟨v,As,t,a,b,c,d,g⟩:=ih i (by simpa using e) n2
   have hB:∀ x∈B,x∉As:=fun x hx m=>n3 x hx x (d.subset m) rfl
   refine⟨v,As,B++t,by simpa using a,b,c,d.trans (oC _ _),fun aC H2 fl2 d2 fS s2 r2 ne2 kG dj st=>?_⟩
   obtain⟨t2,x,y,z⟩:=g aC H2 fl2 d2 fS s2 r2 ne2 kG (fun a ha m=>dj a ha (fT _ m)) fun a ha m=>st a (fT _ ha) m
   refine⟨B++t2,iP.mpr ⟨n1,x,fun a ha b hb e=>?_⟩,fun a h=>?_,.ow ne (r.gi s2 fun a h=>st a (kK _ h) (hB a h)) z⟩
   ·subst e
    rcases y a hb with w|w
    ·exact n3 a ha a w rfl
    ·exact hB a ha (dj a w (kK _ ha))
   ·rcases eJ.mp h with w|w
    ·exact .inl (kK _ w)
    ·exact(y a w).imp (fun w=>fT _ w) id
 |@lk ρ σ t2 B a0 fl0 d0 ne r q ih =>
  intro e n
  obtain⟨n1,n2,n3⟩:=iP.mp n
  cases i with
  |zero=>simp at e
  |succ i =>
   obtain⟨v,As,t,a,b,c,d,g⟩:=ih i (by simpa using e) n2
   have hB:∀ x∈B,x∉As:=fun x hx m=>n3 x hx x (d.subset m) rfl
   refine⟨v,As,B++t,by simpa using a,b,c,d.trans (oC _ _),fun aC H2 fl2 d2 fS s2 r2 ne2 kG dj st=>?_⟩
   obtain⟨t2,x,y,z⟩:=g aC H2 fl2 d2 fS s2 r2 ne2 kG (fun a ha m=>dj a ha (fT _ m)) fun a ha m=>st a (fT _ ha) m
   refine⟨B++t2,iP.mpr ⟨n1,x,fun a ha b hb e=>?_⟩,fun a h=>?_,.lk ne (r.gi s2 fun a h=>st a (kK _ h) (hB a h)) z⟩
   ·subst e
    rcases y a hb with w|w
    ·exact n3 a ha a w rfl
    ·exact hB a ha (dj a w (kK _ ha))
   ·rcases eJ.mp h with w|w
    ·exact .inl (kK _ w)
    ·exact(y a w).imp (fun w=>fT _ w) id
theorem gw{X:Cx}(h:PE X e (AG i)):QP X K e (vw i):=PE.imp h fun σ H Qv hx=>gS hx fun Hs ρ ag Q sr h f=>by
 unfold vw at h
 split at h
 ·rename_i fl d e1
  obtain⟨v,As,t,e2,ne,r,sb,g⟩:=SR.put i sr.sr e1 sr.rj
  refine⟨v,e2,f v H Hs fl d _ (ez.refl sr.wf) ⟨As,r,ne,sb.nodup sr.rj,fun a h=>sr.own a (sb.subset h),fun aC H2 fl2 d2 fS s2 w2 n2 _ r2 ne2 kG o2 st=>?_⟩ h⟩
  obtain⟨t2,x,y,z⟩:=g aC H2 fl2 d2 fS s2 r2 ne2 kG (fun a ha m=>(o2 a ha).2.elim id fun q=>absurd q (sr.sr.own a m).ne) fun a ha m=>st a (sr.sr.own a ha).ne m
  exact⟨t2,z,w2,x,fun a h=>(y a h).elim (fun q=>n2 a (sr.own a q) (sr.sr.own a q).ne) fun q=>(o2 a q).1⟩
 ·exact h.elim
theorem bG.wk(h:fl2=true->fl=true)(r:bG K Hs H fl d v As):bG K Hs H fl2 d v As:=by
 cases fl2 with
 |false=>exact r.RZ
 |true=>rw[h rfl] at r;exact r
theorem aF.wk{fl fl2:Bool}{d:List D}{v:List V}{As:List Addr}(h:fl2=true->fl=true)(r:aF K Hs H fl d v As):aF K Hs H fl2 d v As:=by
 cases fl2 with
 |false=>exact r.RZ
 |true=>rw[h rfl] at r;exact r
theorem aF.at(r:aF K Hs H fl ds vs As)(e:ds[j]? = some d)(n:As.Nodup) :
  ∃ (v:V) (B:List Addr),vs[j]? = some v/\bG K Hs H fl d v B/\B.Sublist As/\∀ aC H2 fl2 d2 B2,aE Hs aC->(fl2=true->fl=true)->bG K aC H2 fl2 d2 v B2->B2.Nodup->(∀ a∈B2,a∈As->a∈B)->(∀ a∈As,a∉B->H2 a=H a) ->
   ∃ fS,fS.Nodup/\(∀ a∈fS,(a∈As/\a∉B)\/a∈B2)/\(B2≠[]->fS≠[])/\aF K aC H2 fl2 (ds.set j d2) vs fS:=by
 induction ds generalizing vs As j with
 |nil=>simp at e
 |cons x ds ih =>
  obtain⟨v,us,A,B,rfl,rfl,r,rs⟩:=r.c
  obtain⟨n1,n2,n3⟩:=iP.mp n
  cases j with
  |zero =>
   simp at e
   subst e
   refine⟨v,A,rfl,r,Fs _ _,fun aC H2 fl2 d2 B2 s2 hf r2 kG dj st=>⟨B2++B,iP.mpr ⟨kG,n2,fun a ha b hb e=>?_⟩,fun a h=>?_,fun ne z=>ne (Jn.mp z).1,.cons r2 ((rs.wk hf).gi s2 fun a h=>st a (fT _ h) fun z=>n3 a z a h rfl)⟩⟩
   ·subst e
    exact n3 a (dj a ha (fT _ hb)) a hb rfl
   ·rcases eJ.mp h with w|w
    ·exact .inr w
    ·exact .inl ⟨fT _ w,fun z=>n3 a z a w rfl⟩
  |succ j =>
   obtain⟨v,C,a,b,c,g⟩:=ih (j:=j) rs (by simpa using e) n2
   have hA:∀ x∈A,x∉C:=fun x hx m=>n3 x hx x (c.subset m) rfl
   refine⟨v,C,by simpa using a,b,c.trans (oC _ _),fun aC H2 fl2 d2 B2 s2 hf r2 kG dj st=>?_⟩
   obtain⟨fS,x,y,w,z⟩:=g aC H2 fl2 d2 B2 s2 hf r2 kG (fun a ha m=>dj a ha (fT _ m)) fun a ha m=>st a (fT _ ha) m
   refine⟨A++fS,iP.mpr ⟨n1,x,fun a ha b hb e=>?_⟩,fun a h=>?_,fun ne q=>w ne (Jn.mp q).2,.cons ((r.wk hf).gi s2 fun a h=>st a (kK _ h) (hA a h)) z⟩
   ·subst e
    rcases y a hb with q|q
    ·exact n3 a ha a q.1 rfl
    ·exact hA a ha (dj a q (kK _ ha))
   ·rcases eJ.mp h with q|q
    ·exact .inl ⟨kK _ q,hA a q⟩
    ·exact(y a q).imp (fun q=>⟨fT _ q.1,q.2⟩) id
def Oy(p:WP)(t:WE):WP:=fun ρ Q=>p ρ fun fl d up=>t ρ fun _ y=>fl=true/\match y with
 |.int i=>match d with
  |.list ds=>∃ j d',mn ds.length i=some j/\ds[j]? = some d'/\d'.flat=false/\Q true d' fun fl2 d2=>up fl2 (.list (ds.set j d2))
  |.tup ds=>∃ j d',mn ds.length i=some j/\ds[j]? = some d'/\d'.flat=false/\Q true d' fun fl2 d2=>up fl2 (.tup (ds.set j d2))
  |_=>False
 |_=>False
theorem HB{α:Type}{xs:List α}{i:Int}{j:Nat}{x:α}(h:mn xs.length i=some j)(e:xs[j]? = some x):eK xs i=some x:=by unfold L2.eK;rw[h];exact e
theorem CQ{ds:List D}{j:Nat}{d:D}(e:ds[j]? = some d)(h:d.flat=false):cw ds=false:=by
 cases q:cw ds with
 |false=>rfl
 |true=>rw[nQ.mp q d (ui e)] at h;cases h
theorem zx{ds:List D}{j:Nat}{d d2:D}(e:ds[j]? = some d)(h:d2.flat=false):cw (ds.set j d2)=false:=by
 have hj:j<ds.length:=(lh.mp e).1
 exact CQ (j:=j) (d:=d2) (by simp[hj]) h
theorem IV{X:Cx}{a b:Expr}{p:WP}{t:WE}{pos:Pos}(hu:X.A.units+64<cLine)(ha:QP X K a p)(hb:QE X K b t)(hs:Uc b:=by exact fun _ _=>rfl)(hK:X.K=K:=by rfl):QP X K (.Subscript a b pos) (Oy p t):=by
 refine PE.imp (YN (Z0 hu hK) ha hb hs) fun σ H Qv hx=>gS hx fun Hs ρ ag Q sr h f=>?_
 refine⟨Hs,ρ,ag,_,sr,h,fun v H1 ax fl d up g1 p1 q1=>⟨ax,ρ,ag,_,sr.grow g1,q1,fun u H2 aC m y As g2 r2 f2 q2=>?_⟩⟩
 have p2:=p1.grow g2
 have gg:=g1.trans g2
 obtain⟨rfl,q2⟩:=q2
 have ry:=r2.rep g2.wf
 cases ry with
 |int i =>
  obtain⟨gX,r,ne,nd,own,k⟩:=p2.ex
  cases r with
  |sh hf _=>exact absurd rfl ne
  |@list a0 vs0 ds0 A0 hz e rs =>
   obtain⟨j,d',e1,e2,hd,q⟩:=q2
   obtain⟨na,nb⟩:=nE.mp nd
   obtain⟨w,B,e3,r3,sb,g⟩:=rs.at e2 nb
   refine .inl (.inl ⟨_,w,.inl (.inl e),HB (by rw[<- rs.length];exact e1) e3,f w H2 aC true d' _ gg ⟨B,r3,r3.ne hd,sb.nodup nb,fun a h=>own a (dz _ (sb.subset h)),fun eW H3 OB d3 R3 s3 w3 n3 hf r4 ne3 Vc o3 st=>?_⟩ q⟩)
   have ah:∀ x∈A0,x∉B->H3 x=H2 x:=fun x hx m=>st x (rs.own x hx).ne m
   obtain⟨HL,x4,y4,z4,r5⟩:=g eW H3 OB d3 R3 s3 hf r4 Vc (fun a ha m=>(o3 a ha).2.elim id fun q=>absurd q (rs.own a m).ne) ah
   have eA:H3 a0=H2 a0:=st a0 (by rw[e];exact fun z=>nomatch z) fun m=>na (sb.subset m)
   have cl:∀ a∈HL,eW a=none/\(a∈a0 :: A0\/H2 a=none):=fun a h=>by
    rcases y4 a h with⟨m,_⟩|m
    ·exact⟨n3 a (own a (dz _ m)) (rs.own a m).ne,.inl (dz _ m)⟩
    ·exact⟨(o3 a m).1,(o3 a m).2.imp (fun q=>dz _ (sb.subset q)) id⟩
   refine k eW H3 OB (.list _) (_ :: HL) s3 w3 n3 hf (.list hz (eA.trans e) r5) (by simp) (nE.mpr ⟨fun m=>?_,x4⟩) (fun a h=>?_) fun a h1 h2=>st a h1 fun m=>h2 (dz _ (sb.subset m))
   ·rcases y4 _ m with⟨q,_⟩|q
    ·exact na q
    ·rcases (o3 _ q).2 with q|q
     ·exact na (sb.subset q)
     ·rw[e] at q;cases q
   ·rcases dA.mp h with rfl|h
    ·exact⟨n3 _ (own _ dQ) (by rw[e];exact fun z=>nomatch z),.inl dQ⟩
    ·exact cl a h
  |tup hz e hn rs =>
   obtain⟨j,d',e1,e2,hd,q⟩:=q2
   obtain⟨w,B,e3,r3,sb,g⟩:=rs.at e2 nd
   refine .inl (.inr ⟨_,w,.inl (.inl (g2.wf.sub _ _ e)),HB (by rw[<- rs.length];exact e1) e3,f w H2 aC true d' _ gg ⟨B,r3,r3.ne hd,sb.nodup nd,fun a h=>own a (sb.subset h),fun eW H3 OB d3 R3 s3 w3 n3 hf r4 ne3 Vc o3 st=>?_⟩ q⟩)
   obtain⟨HL,x4,y4,z4,r5⟩:=g eW H3 OB d3 R3 s3 hf r4 Vc (fun a ha m=>(o3 a ha).2.elim id fun q=>absurd q (rs.own a m).ne) (fun x hx m=>st x (rs.own x hx).ne m)
   have GL:cw (List.set _ j d3)=false:=zx e2 (by
    cases hh:d3.flat with
    |false=>rfl
    |true=>exact absurd (r4.nil_of hh) ne3)
   refine k eW H3 OB (.tup _) HL s3 w3 n3 hf (.tup hz (s3 _ _ e) GL r5) (z4 ne3) x4 (fun a h=>?_) fun a h1 h2=>st a h1 fun m=>h2 (sb.subset m)
   rcases y4 a h with⟨m,_⟩|m
   ·exact⟨n3 a (own a m) (rs.own a m).ne,.inl m⟩
   ·exact⟨(o3 a m).1,(o3 a m).2.imp (fun q=>sb.subset q) id⟩
  |_=>exact q2.elim
 |_=>exact q2.elim
end
section
variable {X:Cx}{K:PySem.W.Frag}{e:Expr}{p:WP}{te:WE}{apos dS pos:Pos}
def qi(fl:Bool)(m:Md)(d:D):Option Bool:=match m with
 |.sh=>some (fl && d.flat)
 |.ow b=>some (fl && b)
 |.bo=>bif d.flat then some fl else none
def xo(p:WP)(te:WE):WS:=fun E ρ=>p ρ fun fl d up=>match d with
 |.list xs=>te ρ fun m x=>xs.length<sizeLine/\match qi fl m x with
  |some fl2=>E.nx (up fl2 (.list (xs++[x])))
  |none=>False
 |_=>False
theorem CZ(w:Wf Hs H)(r:RM K Hs H m d v As)(h:qi fl m d=some fl2):(fl2=true->fl=true)/\∃ B,B.Sublist As/\bG K Hs H fl2 d v B:=by
 cases m with
 |sh =>
  cases h
  exact⟨fun z=>by cases fl<;>simp_all,[],BM _,.sh (fun z=>by cases fl<;>simp_all) r.2⟩
 |ow b =>
  cases h
  refine⟨fun z=>by cases fl<;>simp_all,As,List.Sublist.refl _,r.1.wk fun z=>by cases fl<;>simp_all⟩
 |bo =>
  cases hf:d.flat with
  |true =>
   simp only[qi,hf,cond_true,Option.some.injEq] at h
   subst h
   exact⟨id,[],BM _,.sh (fun _=>hf) (r.flat w hf)⟩
  |false=>simp[qi,hf] at h
theorem Place.put(pl:Place K ax H1 σ fl (.list xs) v up)(g:ez ax H1 aC H2) :
  ∃ a vs A,v=.ref a/\H2 a=some (.lst vs)/\H1 a=some (.lst vs)/\aF K aC H2 fl xs vs A/\(a :: A).Nodup/\(∀ x∈a :: A,aC x=none/\H1 x≠none) /\
   ∀ fl2 ys ws C,(fl2=true->fl=true)->aF K aC H2 fl2 ys ws C->ws.length<=sizeLine->C.Nodup->a∉C->(∀ x∈C,x∈A\/(aC x=none/\H1 x=none))->∃ fo,dy K aC (up fl2 (.list ys)) σ (upd H2 a (.lst ws)) fo:=by
 obtain⟨gX,r,ne,nd,own,k⟩:=pl.ex
 cases r with
 |sh hf _=>exact absurd rfl ne
 |@list a vs _ A hz e rs =>
  have e2:=g.all _ _ e
  have A8:=rs.grow g.sh g.all
  have hw:∀ x∈a :: A,ax x=none/\H1 x≠none:=fun x hx=>⟨own x hx,by
   rcases dA.mp hx with rfl|hx
   ·rw[e];exact fun z=>nomatch z
   ·exact(rs.own x hx).ne⟩
  exact⟨a,vs,A,rfl,e2,e,A8,nd,fun x hx=>⟨g.n4 (hw x hx).1 (hw x hx).2,(hw x hx).2⟩,fun fl2 ys ws C hf tj hz ndC Sf hC=>k.node g hw (fun _ z=>by cases z) hf (.list hz iN (tj.gi (aE.refl _) fun b hb=>fh fun z=>Sf (by subst z;exact hb))) ndC Sf hC⟩
theorem Place.isL(w:Wf ax H1)(pl:Place K ax H1 σ fl (.list xs) v up):∃ a vs,v=.ref a/\dn K H1 a vs:=by
 obtain⟨gX,r,ne,nd,own,k⟩:=pl.ex
 cases r with
 |sh hf _=>exact absurd rfl ne
 |list hz e rs=>exact⟨_,_,rfl,.inl (.inl e)⟩
theorem lA (ho:QP X K e p) (he:QE X K e2 te) (hK:X.K=K:=by rfl) (hs:swapsWith (.Call (.Attribute e "append" apos) [e2] [] dS) none pos.line X.env=pure false:=by rfl)
  (wo:attributeBase e "append" X.env (eval e X.env)=eval e X.env:=by rfl)
  (wq:((backTo dS (starEach [e2] X.env)).all (fun x=>!x.1) && (backToKw dS (keywordEach [] X.env)).all (fun x=>x.1.isSome)
   && decide ([e2].length+([]:List Keyword).length+(if ([]:List Keyword).isEmpty then 0 else 1)<30))=true:=by rfl)
  (hline:(apos.endLine == dS.line)=true:=by rfl) (i6:starEach (e2 :: []) X.env=(false,eval e2 X.env) :: starEach [] X.env:=by rfl) (EE:(backTo dS (starEach [] X.env)).any (·.1)=false:=by rfl) :
  QS X K L (.Expr (.Call (.Attribute e "append" apos) [e2] [] dS) pos) (xo p te):=by
 subst hK
 refine PS.imp (LM (Ue PySem.F.plainAttrs_list PySem.F.slot_list_append PySem.F.type_list_append Ug ho (kN he oQ i6) wo wq hline i6 EE) hs) fun D σ H hx=>gB hx fun Hs ρ ag E sr h k1 k2 k3 k4=>?_
 refine⟨Hs,ρ,ag,_,sr,h,fun v H1 ax fl d up g1 p1 q1=>?_⟩
 cases d with
 |list xs =>
  obtain⟨a1,vs1,e1,s1⟩:=p1.isL g1.wf
  subst e1
  refine⟨.inl ⟨rfl,_,s1⟩,ax,ρ,ag,_,sr.grow g1,q1,fun y H2 aC m x As g2 r2 f2 q2=>?_⟩
  obtain⟨hz,q2⟩:=q2
  obtain⟨a,vs,A,ea,e2,_,rs,nd,hn,k⟩:=p1.put g2
  cases ea
  have hl:=rs.length
  refine⟨a1,vs,y,rfl,rfl,e2,by lia,?_⟩
  cases hp:qi fl m x with
  |none=>rw[hp] at q2;exact q2.elim
  |some fl2 =>
   rw[hp] at q2
   obtain⟨hf,B,sb,rb⟩:=CZ g2.wf r2 hp
   obtain⟨na,nA⟩:=nE.mp nd
   have fB:∀ x∈B,aC x=none/\H1 x=none:=fun x hx=>f2.2 x (sb.subset hx)
   have c1:(A++(B++[])).Nodup:=by
    rw[mh]
    exact iP.mpr ⟨nA,sb.nodup f2.1,fun x hx z hz e=>by subst e;exact(hn x (dz _ hx)).2 (fB x hz).2⟩
   have c2:a1∉A++(B++[]):=by
    rw[mh]
    intro m
    rcases eJ.mp m with m|m
    ·exact na m
    ·exact(hn _ dQ).2 (fB _ m).2
   have c3:∀ x∈A++(B++[]),x∈A\/(aC x=none/\H1 x=none):=by
    rw[mh]
    intro x hx
    exact(eJ.mp hx).imp id fun z=>fB x z
   obtain⟨fo,pz⟩:=k fl2 (xs++[x]) (vs++[y]) (A++(B++[])) hf ((rs.wk hf).append (.cons rb .nil)) (by rw[md];simp;lia) c1 c2 c3
   exact k1 σ _ aC _ fo (g1.sh.trans g2.sh) pz q2
 |_=>exact q1.elim
def wV(p:WP):WS:=fun E ρ=>p ρ fun fl d up=>match d with
 |.list xs=>E.nx (up fl (.list []))
 |_=>False
theorem CT (ho:QP X K e p) (hK:X.K=K:=by rfl) (hs:swapsWith (.Call (.Attribute e "clear" apos) [] [] dS) none pos.line X.env=pure false:=by rfl)
  (wo:attributeBase e "clear" X.env (eval e X.env)=eval e X.env:=by rfl) (hline:(apos.endLine == dS.line)=true:=by rfl):QS X K L (.Expr (.Call (.Attribute e "clear" apos) [] [] dS) pos) (wV p):=by
 subst hK
 refine PS.imp (LM (eL' PySem.F.plainAttrs_list PySem.F.slot_list_clear PySem.F.type_list_clear eN' ho wo hline) hs) fun D σ H hx=>gB hx fun Hs ρ ag E sr h k1 k2 k3 k4=>?_
 refine⟨Hs,ρ,ag,_,sr,h,fun v H1 ax fl d up g1 p1 q1=>?_⟩
 cases d with
 |list xs =>
  obtain⟨a,vs,A,ea,e2,_,rs,nd,hn,k⟩:=p1.put (ez.refl g1.wf)
  subst ea
  refine⟨.inl ⟨rfl,_,.inl (.inl e2)⟩,a,vs,rfl,rfl,e2,?_⟩
  obtain⟨fo,pz⟩:=k fl [] [] [] id .nil (eu _) nK (by simp) (fun x hx=>nomatch hx)
  exact k1 σ _ ax _ fo g1.sh pz q1
 |_=>exact q1.elim
def xm:WE:=fun _ Q=>Q (.ow true) (.dT [])
theorem Bj:QE X K (.Dict [] [] pos) xm:=PE.imp fc' fun σ H Qv hx=>gS hx fun Hs ρ ag Q sr h f=>fun a ha =>
 f _ _ Hs (.ow true) (.dT []) [a] (NH sr.wf ha fun _ z=>nomatch z) ⟨.dT (vs:=[]) ⟨eu _,fun p hp=>nomatch hp⟩ iN .nil,by simp⟩ ⟨by simp,fun b hb=>by
  obtain rfl:b=a:=by simpa using hb
  exact⟨sr.wf.sub.free ha,ha⟩⟩ h
section
variable {κ:Type}[DecidableEq κ]
theorem J4{β:Type}{kvs:List (κ × β)}{k:κ}{v:β}{p:κ × β}(h:p∈ZW kvs k v):p.1=k\/p.1∈kvs.map (·.1):=by
 unfold ZW at h
 split at h
 ·obtain⟨q,hq,e⟩:=dP.mp h
  by_cases hk:q.1=k
  ·rw[if_pos hk] at e;subst e;exact .inl hk
  ·rw[if_neg hk] at e;subst e;exact .inr (dP.mpr ⟨q,hq,rfl⟩)
 ·rcases eJ.mp h with h|h
  ·exact .inr (dP.mpr ⟨p,h,rfl⟩)
  ·have:p=(k,v):=by simpa using h
   subst this;exact .inl rfl
end
theorem Gx(r:Rep K H d v)(h:d.key1=some k):w9 k=true:=by
 cases r<;>simp[D.key1] at h<;>subst h
 ·rfl
 ·rename_i hz;simp[w9,hz]
theorem BJ(r:aS K H ds vs)(h:gC ds=some ks):ks.length=ds.length/\∀ k∈ks,w9 k=true:=by
 induction ds generalizing vs ks with
 |nil=>simp[gC] at h;subst h;exact⟨rfl,fun k hk=>nomatch hk⟩
 |cons d ds ih =>
  obtain⟨u,us,rfl,r,rs⟩:=r.c
  unfold gC at h
  cases e1:d.key1 with
  |none=>rw[e1] at h;simp at h
  |some k =>
   cases e2:gC ds with
   |none=>rw[e1,e2] at h;simp at h
   |some dv =>
    rw[e1,e2] at h
    simp at h
    subst h
    obtain⟨a,b⟩:=ih rs e2
    refine⟨by simp[a],fun j hj=>?_⟩
    rcases dA.mp hj with rfl|hj
    ·exact Gx r e1
    ·exact b j hj
end
abbrev WJ:=Env->Str->(Str->Prop)->Prop
section
variable {X:Cx}{K:PySem.W.Frag}{e:Expr}{te:WE}{j:WJ}
def mL:List D->Option (List Str)
 |[]=>some []
 |.str x :: xs=>(mL xs).map (x :: ·)
 |_ :: _=>none
def wN(to te:WE):WE:=fun ρ Q=>to ρ fun _ x=>match x with
 |.str z=>te ρ fun _ y=>match y with
  |.list ys=>∃ zs,mL ys=some zs/\(zs.map (·.length)).sum+zs.length*z.length<=16777216/\Q .sh (.str (Str.join z zs))
  |_=>False
 |_=>False
theorem Cp(r:aS K H ds vs)(q:Vals vs us)(h:mL ds=some zs):StrsAre us zs:=by
 induction ds generalizing vs us zs with
 |nil =>
  simp[mL] at h
  subst h
  have:=r.n0
  subst this
  rw[Paired.n0 q];exact .nil
 |cons d ds ih =>
  obtain⟨v,vs,rfl,r1,rs⟩:=r.c
  obtain⟨u,us,rfl,q1,qs⟩:=Paired.c q
  cases r1 with
  |str hz =>
   simp only[mL] at h
   cases e:mL ds with
   |none=>rw[e] at h;cases h
   |some ys =>
    rw[e] at h
    cases h
    obtain⟨t,rfl⟩:=q1
    exact .cons _ t (ih rs qs e)
  |_=>simp[mL] at h
theorem Hj (hK:X.K=K:=by rfl):Ud X "str.join" (fun x xs H Q=>∃ z a ds vs zs,x=.str z/\xs=[.ref a]/\dn K H a vs/\aS K H ds vs/\mL ds=some zs/\(zs.map (·.length)).sum+zs.length*z.length<=16777216/\Q (.str (Str.join z zs)) H):=by
 subst hK
 intro pins s σ H x xs v us Q I rx rs h
 obtain⟨z,a,ds,vs,zs,rfl,rfl,hs,rr,e,hz,q⟩:=h
 obtain⟨t,rfl⟩:=rx
 obtain⟨u,rfl,ru⟩:=Vals.one rs
 cases ru
 obtain⟨its,rv,pl,_⟩:=I.list hs
 exact join_list pl.isList (by simpa using Cp rr rv e) hz fun t' k=>⟨.str _,H,I.tok _,⟨t',rfl⟩,by rw[show Txt.join z zs=Str.join z zs from StrLaws.glued_eq_join z zs];exact q⟩
theorem wJ:∀ {zs:List Str},(Str.join z zs).length<=(zs.map (·.length)).sum+zs.length*z.length
 |[]=>by show Str.empty.length<=_;exact kg (show Str.empty.length<=0 by decide) (eu _)
 |[x]=>by simp[Str.join]
 |x :: y :: r=>by
  have ih:=wJ (z:=z) (zs:=y :: r)
  show(x++z++Str.join z (y :: r)).length<=_
  rw[cF,cF]
  simp only[iF,List.sum_cons,pT,Nat.add_mul,Nat.one_mul] at ih ⊢
  lia
theorem Ji(ho:QE X K o to)(he:QE X K e te)(hK:X.K=K:=by rfl)
  (wo:attributeBase o "join" X.env (eval o X.env)=eval o X.env:=by rfl)
  (wq:((backTo dS (starEach [e] X.env)).all (fun x=>!x.1) && (backToKw dS (keywordEach [] X.env)).all (fun x=>x.1.isSome)
   && decide ([e].length+([]:List Keyword).length+(if ([]:List Keyword).isEmpty then 0 else 1)<30))=true:=by rfl)
  (hline:(apos.endLine == dS.line)=true:=by rfl) (i6:starEach (e :: []) X.env=(false,eval e X.env) :: starEach [] X.env:=by rfl) (EE:(backTo dS (starEach [] X.env)).any (·.1)=false:=by rfl) :
  QE X K (.Call (.Attribute o "join" apos) [e] [] dS) (wN to te):=by
 subst hK
 refine PE.imp (Ue PySem.F.plainAttrs_str PySem.F.slot_str_join PySem.F.type_str_join Hj ho (kN he oQ i6) wo wq hline i6 EE) fun σ H Qv hx=>gS hx fun Hs ρ ag Q sr h f=>?_
 refine⟨Hs,ρ,ag,_,sr,h,fun v H1 ax m x As g1 r1 f1 q1=>?_⟩
 have r:=r1.rep g1.wf
 cases r with
 |str hz =>
  refine⟨rfl,ax,ρ,ag,_,sr.grow g1,q1,fun y H2 aC m2 x2 fS g2 r2 f2 q2=>?_⟩
  have rr:=r2.rep g2.wf
  cases rr with
  |list z s rs =>
   obtain⟨zs,e,hz,q⟩:=q2
   exact⟨_,_,_,_,zs,rfl,rfl,s,rs,e,hz,Fin.sh (Fin.after f (g1.trans g2)) g2.wf (.str (kg wJ (by rw[sizeLine_eq];exact hz))) q⟩
  |_=>exact q2.elim
 |_=>exact q1.elim
def qk(k:List Key):D:=.tup (k.map px)
def Nj:W1:=fun _ x Q=>match x with
 |.list xs=>∃ ks sh,xs=ks.map qk/\(∀ k∈ks,i3 k=true :: sh)/\∀ ms:List (List Key),ms.Perm ks->(ms.Pairwise fun a b=>hV b a=false)->Q (.ow true) (.list (ms.map qk))
 |_=>False
theorem Ab{H:Hp}{ks:List Key}{vs:List V}(r:aS K H (ks.map px) vs):vs=ks.map kV/\∀ k∈ks,w9 k=true:=by
 induction ks generalizing vs with
 |nil=>exact⟨r.n0,fun k h=>nomatch h⟩
 |cons k ks ih =>
  obtain⟨u,us,rfl,r1,rs⟩:=aS.c (d:=px k) r
  obtain⟨e,o⟩:=ih rs
  subst e
  cases k with
  |inl i=>cases r1;exact⟨rfl,fun j hj=>by rcases dA.mp hj with rfl|hj;rfl;exact o j hj⟩
  |inr x =>
   cases r1 with
   |str hz=>exact⟨rfl,fun j hj=>by rcases dA.mp hj with rfl|hj;simp[w9,hz];exact o j hj⟩
theorem G8{H:Hp}{ks:List (List Key)}{vs:List V}(r:aS K H (ks.map qk) vs):fL H vs ks/\∀ k∈ks,k.length<=sizeLine/\∀ j∈k,w9 j=true:=by
 induction ks generalizing vs with
 |nil=>rw[r.n0];exact⟨.nil,fun k h=>nomatch h⟩
 |cons k ks ih =>
  obtain⟨u,us,rfl,r1,rs⟩:=aS.c (d:=qk k) r
  obtain⟨t,o⟩:=ih rs
  cases r1 with
  |tup hz e q =>
   obtain⟨e2,o2⟩:=Ab q
   subst e2
   exact⟨.cons ⟨_,rfl,e⟩ t,fun j hj=>by
    rcases dA.mp hj with rfl|hj
    ·exact⟨by simpa using hz,o2⟩
    ·exact o j hj⟩
theorem sZ:bootBuiltins "sorted" = some (.builtin "sorted"):=by decide +kernel
end
def Z8(A:List Addr)(F:Nat->List Addr):Nat->List Addr
 |0=>A
 |i+1=>F i
def E4(K:PySem.W.Frag)(Hs H:Hp)(ρ:Env)(σ:St)(ag:List Addr)(F:Nat->List Addr):Prop:=(∀ i fl d,ρ[i]? = some (some (.ow fl d))->∃ v,σ[i]? = some (some v)/\F i≠[]/\bG K Hs H fl d v (F i)) /\
  (∀ i,(F i).Sublist ag)/\∀ i j,i≠j->∀ a∈F i,a∉F j
theorem E4.skip{K:PySem.W.Frag}{F:Nat->List Addr}(h:E4 K Hs H ρ σ ag F)(no:∀ fl d,o≠some (.ow fl d)):E4 K Hs H (o :: ρ) (u :: σ) ag (Z8 [] F):=by
 obtain⟨a,b,c⟩:=h
 refine⟨fun i fl d e=>?_,fun i=>?_,fun i j ne x hx=>?_⟩
 ·cases i with
  |zero=>simp at e;exact absurd e (no fl d)
  |succ i=>exact a i fl d (by simpa using e)
 ·cases i with
  |zero=>exact BM _
  |succ i=>exact b i
 ·cases i with
  |zero=>exact w_ hx
  |succ i =>
   cases j with
   |zero=>exact fun z=>w_ z
   |succ j=>exact c i j (fun z=>ne (by rw[z])) x hx
theorem E4.own{K:PySem.W.Frag}{ag B:List Addr}{F:Nat->List Addr}(h:E4 K Hs H ρ σ ag F)(n:(B++ag).Nodup)(hs:∀ fl d,sl=.ow fl d->B≠[]/\bG K Hs H fl d v B):E4 K Hs H (some sl :: ρ) (some v :: σ) (B++ag) (Z8 B F):=by
 obtain⟨a,b,c⟩:=h
 obtain⟨n1,n2,n3⟩:=iP.mp n
 refine⟨fun i fl d e=>?_,fun i=>?_,fun i j ne x hx=>?_⟩
 ·cases i with
  |zero=>simp at e;exact⟨v,rfl,hs fl d e⟩
  |succ i=>exact a i fl d (by simpa using e)
 ·cases i with
  |zero=>exact Fs _ _
  |succ i=>exact(b i).trans (oC _ _)
 ·cases i with
  |zero =>
   cases j with
   |zero=>exact absurd rfl ne
   |succ j=>exact fun z=>n3 x hx x ((b j).subset z) rfl
  |succ i =>
   cases j with
   |zero=>exact fun z=>n3 x z x ((b i).subset hx) rfl
   |succ j=>exact c i j (fun z=>ne (by rw[z])) x hx
theorem SR.addrs{K:PySem.W.Frag}(s:SR K Hs H ρ σ ag):ag.Nodup->∃ F:Nat->List Addr,E4 K Hs H ρ σ ag F:=by
 induction s with
 |nil=>exact fun _=>⟨fun _=>[],fun i fl d e=>by simp at e,fun i=>BM _,fun i j _ a h=>w_ h⟩
 |non s ih =>
  intro n
  obtain⟨F,h⟩:=ih n
  exact⟨_,h.skip fun fl d z=>by cases z⟩
 |sh r s ih =>
  intro n
  obtain⟨F,h⟩:=ih n
  exact⟨_,h.skip fun fl d z=>by cases z⟩
 |xc s ih =>
  intro n
  obtain⟨F,h⟩:=ih n
  exact⟨_,h.skip fun fl d z=>by cases z⟩
 |ow ne r s ih =>
  intro n
  obtain⟨F,h⟩:=ih (iP.mp n).2.1
  exact⟨_,h.own n fun fl d e=>by cases e;exact⟨ne,r⟩⟩
 |lk ne r s ih =>
  intro n
  obtain⟨F,h⟩:=ih (iP.mp n).2.1
  exact⟨_,h.own n fun fl d e=>by cases e⟩
abbrev Plan:=List (WE ⊕ Nat)
def Sg:Plan->List Nat
 |[]=>[]
 |.inl _ :: r=>Sg r
 |.inr i :: r=>i :: Sg r
def Sh:Option (Option Sl)->Option (Md × D)
 |some (some (.sh d))=>some (.sh,d)
 |some (some (.ow fl d))=>some (.ow fl,d)
 |_=>none
def n_:Plan->Env->(List (Md × D)->Prop)->Prop
 |[],_,Q=>Q []
 |.inl t :: r,ρ,Q=>t ρ fun m x=>n_ r ρ fun ps=>Q ((m,x) :: ps)
 |.inr i :: r,ρ,Q=>match Sh ρ[i]? with
  |some p=>n_ r ρ fun ps=>Q (p :: ps)
  |none=>False
def tpM(K:PySem.W.Frag)(pl:Plan):TA:=fun σ H Qv=>∃ (Hs:Hp) (ρ:Env) (ag:List Addr) (F:Nat->List Addr) (Q:List (Md × D)->Prop),dy K Hs ρ σ H ag/\(∀ i fl d,ρ[i]? = some (some (.ow fl d))->∃ v,σ[i]? = some (some v)/\F i≠[]/\bG K Hs H fl d v (F i))/\(∀ i,(F i).Sublist ag)/\(∀ i j,i≠j->∀ a∈F i,a∉F j) /\
 n_ pl ρ Q/\∀ vs H' aw ps As,ez Hs H aw H'->xa K aw H' ps vs As->As.Nodup->(∀ a∈As,aw a=none/\(H a=none\/∃ i∈Sg pl,a∈F i))->Q ps->Qv vs H'
abbrev QM(X:Cx)(K:PySem.W.Frag)(es:List Expr)(pl:Plan):Prop:=PA X es (tpM K pl)
section
variable {X:Cx}{K:PySem.W.Frag}{e:Expr}{es:List Expr}{te:WE}{pl:Plan}{pos:Pos}
theorem Du:QM X K [] []:=PA.imp oQ fun σ H Qv hx=>by
 obtain⟨Hs,ρ,ag,F,Q,sr,h1,h2,h3,h,f⟩:=hx
 exact f [] H Hs [] [] (ez.refl sr.wf) .nil nK (fun a h=>w_ h) h
theorem Vd(ha:QE X K e te)(hr:QM X K es pl)(hs:starEach (e :: es) X.env=(false,eval e X.env) :: starEach es X.env:=by rfl):QM X K (e :: es) (.inl te :: pl):=by
 refine PA.imp (kN ha hr hs) fun σ H Qv da=>?_
 obtain⟨Hs,ρ,ag,F,Q,sr,h1,h2,h3,h,f⟩:=da
 refine⟨Hs,ρ,ag,_,sr,h,fun v H1 ax m x As g1 r1 f1 q1=>⟨ax,ρ,ag,F,_,sr.grow g1,(fun i fl d e=>?_),h2,h3,q1,fun vs H2 aC ps Bs g2 r2 kG o2 q2=>?_⟩⟩
 ·obtain⟨v,a,b,c⟩:=h1 i fl d e
  exact⟨v,a,b,c.grow g1.sh g1.all⟩
 ·refine f (v :: vs) H2 aC _ _ (g1.trans g2) (.cons (r1.grow g2) r2) (iP.mpr ⟨f1.1,kG,fun a ha b hb e=>?_⟩) (fun a ha=>?_) q2
  ·subst e
   rcases (o2 a hb).2 with z|⟨i,_,z⟩
   ·exact(r1.own a ha).ne z
   ·exact(sr.sr.own a ((h2 i).subset z)).ne (f1.2 a ha).2
  ·rcases eJ.mp ha with z|z
   ·exact⟨g2.n4 (f1.2 a z).1 (r1.own a z).ne,.inl (f1.2 a z).2⟩
   ·exact⟨(o2 a z).1,(o2 a z).2.imp g1.all.free id⟩
theorem Z9(ha:PE X e (AG i))(hr:QM X K es pl)(hi:i∉Sg pl:=by decide)(hs:starEach (e :: es) X.env=(false,eval e X.env) :: starEach es X.env:=by rfl):QM X K (e :: es) (.inr i :: pl):=by
 refine PA.imp (kN ha hr hs) fun σ H Qv da=>?_
 obtain⟨Hs,ρ,ag,F,Q,sr,h1,h2,h3,h,f⟩:=da
 unfold n_ at h
 cases hm:Sh ρ[i]? with
 |none=>rw[hm] at h;exact h.elim
 |some p =>
  rw[hm] at h
  have key:∃ v A,σ[i]? = some (some v)/\RM K Hs H p.1 p.2 v A/\A.Nodup/\∀ a∈A,a∈F i:=by
   cases e1:ρ[i]? with
   |none=>rw[e1] at hm;cases hm
   |some o =>
    cases o with
    |none=>rw[e1] at hm;cases hm
    |some sl =>
     cases sl with
     |sh d =>
      rw[e1] at hm;cases hm
      obtain⟨v,a,b⟩:=sr.sr.get e1
      exact⟨v,[],a,⟨rfl,b⟩,nK,fun a h=>nomatch h⟩
     |lk a fl d=>rw[e1] at hm;cases hm
     |xc a=>rw[e1] at hm;cases hm
     |ow fl d =>
      rw[e1] at hm;cases hm
      obtain⟨v,a,b,c⟩:=h1 i fl d e1
      exact⟨v,F i,a,⟨c,b⟩,(h2 i).nodup sr.rj,fun a h=>h⟩
  obtain⟨v,A,ev,rm,ndA,hA⟩:=key
  refine⟨v,ev,Hs,ρ,ag,F,_,sr,h1,h2,h3,h,fun vs H2 aC ps Bs g2 r2 kG o2 q2=>?_⟩
  refine f (v :: vs) H2 aC _ _ g2 (.cons (rm.grow g2) r2) (iP.mpr ⟨ndA,kG,fun a ha b hb e=>?_⟩) (fun a ha=>?_) q2
  ·subst e
   rcases (o2 a hb).2 with z|⟨j,hj,z⟩
   ·exact(rm.own a ha).ne z
   ·exact h3 i j (fun z=>hi (by rw[z];exact hj)) a (hA a ha) z
  ·rcases eJ.mp ha with z|z
   ·have:a∈ag:=(h2 i).subset (hA a z)
    exact⟨g2.n4 (sr.own a this) (sr.sr.own a this).ne,.inr ⟨i,dQ,hA a z⟩⟩
   ·exact⟨(o2 a z).1,(o2 a z).2.imp id fun⟨j,hj,q⟩=>⟨j,dz _ hj,q⟩⟩
def CV(pl:Plan):WS:=fun E ρ=>n_ pl ρ fun ps=>ps.length<=sizeLine/\E.rt (yr ps) (.tup (ps.map (·.2)))
theorem Bk{x1}(h:QM X K es pl):QS X K L (.Return (some (.Tuple es x1 lL')) pos) (CV pl):=by
 refine PS.imp (TC (T7 h)) fun D σ H hx=>gB hx fun Hs ρ ag E sr h k1 k2 k3 k4=>?_
 obtain⟨F,h1,h2,h3⟩:=sr.sr.addrs sr.rj
 refine⟨Hs,ρ,ag,F,_,sr,h1,h2,h3,h,fun vs H1 ax ps As g1 r1 nd1 o1 q1=>?_⟩
 obtain⟨hz,q⟩:=q1
 have rl:=r1.reps g1.wf
 have hl:=rl.length
 rw[cE] at hl
 refine⟨by lia,fun p hp=>?_⟩
 have g2:=HK (vs:=vs) g1.wf hp
 have sm:aE Hs (upd ax p (.tup vs)):=g1.sh.trans g2.sh
 unfold yr at q
 cases e1:ps.all xk with
 |true =>
  rw[e1] at q
  exact k4 _ _ _ .sh _ [] sm g2.wf ⟨rfl,.tup (by lia) iN ((r1.sh g1.wf e1).same g2.sh)⟩ nK (fun a h=>nomatch h) q
 |false =>
  rw[e1] at q
  cases e2:ps.all E2 with
  |false =>
   rw[e2] at q
   exact k4 _ _ _ .bo _ [] sm g2.wf ⟨rfl,.tup (by lia) iN (rl.same g2.all)⟩ nK (fun a h=>nomatch h) q
  |true =>
   rw[e2] at q
   obtain⟨Bs,sb,nz,ro⟩:=r1.ow (fl:=ps.all CL) g1.wf e2 fun z=>z
   have ic:cw (ps.map (·.2))=false:=by
    cases hf:cw (ps.map (·.2)) with
    |false=>rfl
    |true=>rw[qL hf] at e1;cases e1
   exact k4 _ _ _ (.ow _) _ Bs sm g2.wf ⟨.tup (by lia) iN ic (ro.grow g2.sh g2.all),nz e1⟩ (sb.nodup nd1) (fun a ha=>g2.n4 (o1 a (sb.subset ha)).1 (ro.own a ha).ne) q
end
def Z_:fF:=fun ds Q=>∃ ns:List Int,ds=[.list (ns.map .int)]/\ns.length<=63/\∀ m,Q m (.bl true)
theorem ints_rep{K:PySem.W.Frag}:∀ (ns:List Int),aS K H (ns.map .int) (ns.map V.int)
 |[]=>.nil
 |n :: ns=>.cons (.int n) (ints_rep ns)
theorem Cq{K:PySem.W.Frag}{H:Hp}{a:Addr}{ns:List Int}{E:XK}(hl:ns.length<=63)(hS:dn K H a (ns.map V.int)):au K Z_ [.ref a] H (fun v _=>v=.bl true) E:=by
 refine⟨[.list (ns.map .int)],fun _ d=>d=.bl true,.cons (.list (by rw[cE];exact kg hl (by decide)) hS (ints_rep ns)) .nil,⟨ns,rfl,hl,fun _=>rfl⟩,?_⟩
 intro v H' aw m d As s w r nd own q
 subst q
 have:=r.rep w
 cases this
 rfl
abbrev sg(x:Str):List Nat:=x.cps.toList
theorem wU(x y:Str):sg (x++y)=sg x++sg y:=by
 show(x.cps++y.cps).toList=_
 simp[sg]
theorem empty_app(x:Str):Str.empty++x=x:=Bp (by rw[<- sg,wU];rfl)
def okS(x:Str):Prop:=∀ c∈sg x,c<0x110000
theorem GF(x:Str):PyData.strOk x=true↔okS x:=by
 unfold PyData.strOk okS sg
 rw[Array.all_eq_true']
 simp
theorem hf'(x:α)(l:List α):eK (x :: l) 0=some x:=by simp[L2.eK,mn]
theorem hg'(x y:α)(l:List α):eK (x :: y :: l) 1=some y:=by
 have:=vk (xs:=x :: y :: l) (j:=1) (v:=y) rfl
 exact this
theorem hr'(x y z:α)(l:List α):eK (x :: y :: z :: l) 2=some z:=by
 have:=vk (xs:=x :: y :: z :: l) (j:=2) (v:=z) rfl
 exact this
theorem I_:Str.empty.length=0:=by decide
end L2.Q
namespace L2.Q.R
open PySem PySem.Spec PyProof.Rows L2.Q
section
variable {f:D->Prop}{k:Kt f}
theorem Mm:bp .non k=f .non:=rfl
theorem Pa:bp (.bl b) k=f (.bl b):=rfl
theorem Mh:bp (.int i) k=f (.int i):=rfl
theorem Od:bp (.str x) k=f (.str x):=rfl
theorem KN:bp (.list xs) k=f (.list xs):=rfl
theorem Ma:bp (.tup xs) k=f (.tup xs):=rfl
theorem O9:bp (.dK xs) k=f (.dK xs):=rfl
theorem Ql:bp (.dT xs) k=f (.dT xs):=rfl
end
theorem KH{f:Bool->Prop}{k:Kt f}:bp true k=f true:=rfl
theorem J0{f:Bool->Prop}{k:Kt f}:bp false k=f false:=rfl
theorem Oh{d:D}{f:Md × D->Prop}{k:Kt f}:bp (Md.sh,d) k=f (.sh,d):=rfl
theorem Nk{b:Bool}{d:D}{f:Md × D->Prop}{k:Kt f}:bp (Md.ow b,d) k=f (.ow b,d):=rfl
theorem N5{d:D}{f:Md × D->Prop}{k:Kt f}:bp (Md.bo,d) k=f (.bo,d):=rfl
theorem Mq{d:D}{f:Option Sl->Prop}{k:Kt f}:bp (some (.sh d)) k=f (some (.sh d)):=rfl
theorem Nf{b:Bool}{d:D}{f:Option Sl->Prop}{k:Kt f}:bp (some (.ow b d)) k=f (some (.ow b d)):=rfl
theorem Nm{p:Md × D}{f:Option (Md × D)->Prop}{k:Kt f}:bp (some p) k=f (some p):=rfl
theorem Pg{p:Bool}{f:Option Bool->Prop}{k:Kt f}:bp (some p) k=f (some p):=rfl
theorem NB{d:D}{f:Option (Option Sl)->Prop}{k:Kt f}:bp (some (some (.sh d))) k=f (some (some (.sh d))):=rfl
theorem N6{b:Bool}{d:D}{f:Option (Option Sl)->Prop}{k:Kt f}:bp (some (some (.ow b d))) k=f (some (some (.ow b d))):=rfl
section
variable {E:rA}{ρ:Env}{Q:Md->D->Prop}{B:Bool->Prop}{t u:WS}{te ta tb tc to':WE}{tt tu:WT}{tar:WA}{i j n:Nat}{m m':Md}{d d':D}{sp:fF}{p:WP}{R:List (Md × D)->Prop}
theorem M9:bM E ρ=E.nx ρ:=rfl
theorem Oq:bI t u E ρ=t { E with nx:=u E } ρ:=rfl
theorem PQ:eI te E ρ=te ρ E.rt:=rfl
theorem Ml:Cr te E ρ=te ρ fun _ _=>E.nx ρ:=rfl
def put(sl:Option Sl)(k:Sl->Prop):Prop:=match sl with
 |some s=>k s
 |none=>False
theorem Ni:put (some (.sh d)) k=k (.sh d):=rfl
theorem MJ:put (some (.ow b d)) k=k (.ow b d):=rfl
theorem Qq:dE i te E ρ=te ρ fun m d=>bp (asg m d) (f:=fun o=>put o fun sl=>E.nx (ρ.set i (some sl))) ⟨⟩:=rfl
theorem Qu:gv tt t u E ρ=tt ρ fun b=>bp b (f:=fun b=>if b=true then t E ρ else u E ρ) ⟨⟩:=rfl
theorem Lp:yO E ρ=False:=rfl
theorem N8:qI i E ρ=bp ρ[i]? (f:=fun o=>match o with
 |some (some (.sh d))=>E.rt .sh d
 |some (some (.ow fl d))=>E.rt (.ow fl) d
 |_=>False) ⟨⟩:=rfl
theorem NZ:CV pl E ρ=n_ pl ρ fun ps=>ps.length<=sizeLine/\E.rt (yr ps) (.tup (ps.map (·.2))):=rfl
theorem Iz:n_ [] ρ R=R []:=rfl
theorem Kc:n_ (.inl te :: r) ρ R=te ρ fun m x=>n_ r ρ fun ps=>R ((m,x) :: ps):=rfl
def mov(o:Option (Md × D))(k:Md × D->Prop):Prop:=match o with
 |some p=>k p
 |none=>False
theorem J3{p:Md × D}{k:Md × D->Prop}:mov (some p) k=k p:=rfl
theorem Lh:n_ (.inr i :: r) ρ R=bp (Sh ρ[i]?) (f:=fun o=>mov o fun p=>n_ r ρ fun ps=>R (p :: ps)) ⟨⟩:=rfl
theorem Pn:kF i t E ρ=t E (NX i ρ):=rfl
-- tests
def bol(d:D)(B:Bool->Prop):Prop:=match d with
 |.bl b=>B b
 |_=>False
theorem Ob:bol (.bl b) B=B b:=rfl
theorem wB_:wB te ρ B=te ρ fun _ x=>bp x (f:=fun x=>bol x B) ⟨⟩:=rfl
theorem Qn:R6 te ρ B=te ρ fun _ x=>bp x (f:=fun x=>∃ b,R5 x=some b/\B b) ⟨⟩:=rfl
theorem Qi:pf tt ρ B=tt ρ fun c=>B (!c):=rfl
theorem O4:U0 tt tu ρ B=tt ρ fun c=>bp c (f:=fun c=>if c=true then tu ρ B else B false) ⟨⟩:=rfl
theorem hx':rp tt tu ρ B=tt ρ fun c=>bp c (f:=fun c=>if c=true then B true else tu ρ B) ⟨⟩:=rfl
theorem PL:oy ρ B=B true:=rfl
-- expressions
theorem Qj:ae i ρ Q=bp ρ[i]? (f:=fun o=>NJ o Q) ⟨⟩:=rfl
theorem Lw:NJ (some (some (.sh d))) Q=Q .sh d:=rfl
theorem Lb:NJ (some (some (.ow b d))) Q=Q .bo d:=rfl
theorem wC_:wC d ρ Q=Q .sh d:=rfl
theorem hA':av f ta tb ρ Q=ta ρ fun m x=>tb ρ fun n y=>f m x n y Q:=rfl
theorem hC':de f ta ρ Q=ta ρ fun m x=>f m x Q:=rfl
theorem Lr:jo f g ta tb tc ρ Q=ta ρ fun m x=>tb ρ fun n y=>f m x n y fun _ z=>bp z (f:=fun z=>bol z fun k=>bp k (f:=fun k=>if k=true then tc ρ fun l w=>g n y l w Q else Q .sh (.bl false)) ⟨⟩) ⟨⟩:=by
 unfold jo bp bol
 rfl
theorem Nr:jO ta tb ρ Q=ta ρ fun _ x=>bp x (f:=fun x=>bol x fun c=>bp c (f:=fun c=>if c=true then tb ρ Q else Q .sh (.bl false)) ⟨⟩) ⟨⟩:=by unfold jO bp bol;rfl
theorem O6:R4 ta tb ρ Q=ta ρ fun _ x=>bp x (f:=fun x=>bol x fun c=>bp c (f:=fun c=>if c=true then Q .sh (.bl true) else tb ρ Q) ⟨⟩) ⟨⟩:=by unfold R4 bp bol;rfl
theorem M6:yf ta ρ Q=ta ρ fun _ x=>bp x (f:=fun x=>bol x fun c=>Q .sh (.bl (!c))) ⟨⟩:=by unfold yf bp bol;rfl
theorem hD':U4 tt ta tb ρ Q=tt ρ fun c=>bp c (f:=fun c=>if c=true then ta ρ Q else tb ρ Q) ⟨⟩:=rfl
theorem Mz:ak te tar ρ R=te ρ fun m x=>tar ρ fun ps=>R ((m,x) :: ps):=rfl
theorem Oz:bX ρ R=R []:=rfl
theorem Qs:ng tar ρ Q=tar ρ fun ps=>ps.length<=sizeLine/\Q (yr ps) (.tup (ps.map (·.2))):=rfl
theorem Ov:mE tar ρ Q=tar ρ fun ps=>ps.length<=sizeLine/\Q (Fy ps) (.list (ps.map (·.2))):=rfl
theorem Nu:aY sp tar ρ Q=tar ρ fun ps=>sp (ps.map (·.2)) fun m d=>bp (m,d) (f:=fun p=>Q (A7 p.1 p.2) p.2) ⟨⟩:=rfl
-- operators
section
variable {x y:Str}{a b:Int}{xs ys:List D}{kvs:List (Key × D)}{A9:List (List Key × D)}
theorem Ky:i5 m (.int a) m' (.int b) Q=Q .sh (.int (a+b)):=rfl
theorem Kv:i5 m (.str x) m' (.str y) Q=(x.length+y.length<=sizeLine/\Q .sh (.str (x++y))):=rfl
theorem Kq:i5 m (.list xs) m' (.list ys) Q=(xs.length+ys.length<=sizeLine/\((cw xs=true/\cw ys=true/\Q (.ow true) (.list (xs++ys)))\/(m=.sh/\m'=.sh/\Q (.ow false) (.list (xs++ys))))):=rfl
theorem Kr:i5 m (.tup xs) m' (.tup ys) Q=(xs≠[]/\xs.length+ys.length<=sizeLine/\cw xs=true/\cw ys=true/\Q .sh (.tup (xs++ys))):=rfl
theorem LC:y3 m (.int a) m' (.int b) Q=Q .sh (.int (a-b)):=rfl
theorem KY:sA m (.int a) m' (.int b) Q=(EB a b/\Q .sh (.int (a*b))):=rfl
theorem Ln:oa m (.int a) m' (.int b) Q=((0<b/\b<1073741824)/\Q .sh (.int (a / b))):=rfl
theorem Lq:gV m (.int a) m' (.int b) Q=(0<b/\Q .sh (.int (a % b))):=rfl
theorem Ls:R7 m (.int a) m' (.int b) Q=(FY a b/\Q .sh (.int (a ^ b.toNat))):=rfl
theorem Ny:EZ m (.int a) m' (.int b) Q=Q .sh (.bl (decide (a<b))):=rfl
theorem Oa:EZ m (.str x) m' (.str y) Q=Q .sh (.bl (pd x y)):=rfl
theorem MK:A5 m (.int a) m' (.int b) Q=Q .sh (.bl (decide (a<=b))):=rfl
theorem Mx:A5 m (.str x) m' (.str y) Q=Q .sh (.bl (!pd y x)):=rfl
theorem MP:NR m (.int a) m' (.int b) Q=Q .sh (.bl (decide (b<a))):=rfl
theorem Oj:fR m (.int a) m' (.int b) Q=Q .sh (.bl (decide (a=b))):=rfl
theorem M_:fR m (.str x) m' (.str y) Q=Q .sh (.bl (decide (x=y))):=rfl
theorem Mu:fR m (.bl k) m' (.bl l) Q=Q .sh (.bl (decide (k=l))):=rfl
theorem Ph:fR m (.list xs) m' d Q=(cy 12 (.list xs)=true/\cy 12 d=true/\Q .sh (.bl (jS (.list xs) d))):=by cases d<;>rfl
theorem Pz:fR m (.tup xs) m' d Q=(cy 12 (.tup xs)=true/\cy 12 d=true/\Q .sh (.bl (jS (.tup xs) d))):=by cases d<;>rfl
theorem O7:fR m .non m' d Q=(cy 12 .non=true/\cy 12 d=true/\Q .sh (.bl (jS .non d))):=by cases d<;>rfl
theorem Mr:rq m (.int a) m' (.int b) Q=Q .sh (.bl (!decide (a=b))):=rfl
theorem Oi:rq m (.str x) m' (.str y) Q=Q .sh (.bl (!decide (x=y))):=rfl
theorem Om:rq m (.list xs) m' d Q=(cy 12 (.list xs)=true/\cy 12 d=true/\Q .sh (.bl (!jS (.list xs) d))):=by cases d<;>rfl
theorem Pu:rq m (.tup xs) m' d Q=(cy 12 (.tup xs)=true/\cy 12 d=true/\Q .sh (.bl (!jS (.tup xs) d))):=by cases d<;>rfl
theorem Ot:rq m .non m' d Q=(cy 12 .non=true/\cy 12 d=true/\Q .sh (.bl (!jS .non d))):=by cases d<;>rfl
theorem Qm:sC neg m (.str x) m' (.str y) Q=Q .sh (.bl (if neg then !yT x y else yT x y)):=rfl
theorem Qw:sC neg m d m' (.list ys) Q=(gD d=true/\ys.all gD=true/\Q .sh (.bl (if neg then !inD d ys else inD d ys))):=rfl
theorem Pk:sC neg m d m' (.tup ys) Q=(gD d=true/\ys.all gD=true/\Q .sh (.bl (if neg then !inD d ys else inD d ys))):=rfl
theorem Qp:sC neg m d m' (.dK kvs) Q = ∃ k,d.key1=some k/\Q .sh (.bl (if neg then !(eS kvs k).isSome else (eS kvs k).isSome)):=rfl
theorem P0:sC neg m (.tup xs) m' (.dT A9) Q = ∃ ks,gC xs=some ks/\Q .sh (.bl (if neg then !(eS A9 ks).isSome else (eS A9 ks).isSome)):=rfl
theorem Qc:xi m (.int a) Q=Q .sh (.int (-a)):=rfl
theorem Px:ck m (.list xs) m' (.int a) Q = ∃ d,eK xs a=some d/\bp d (f:=fun d=>Q (lT m d) d) ⟨⟩:=rfl
theorem O5:ck m (.tup xs) m' (.int a) Q = ∃ d,eK xs a=some d/\bp d (f:=fun d=>Q (lT m d) d) ⟨⟩:=rfl
theorem O1:ck m (.str x) m' (.int a) Q = ∃ c,eK x.cps.toList a=some c/\Q .sh (.str ⟨#[c]⟩):=rfl
theorem PJ:ck m (.dK kvs) m' d Q = ∃ k d',d.key1=some k/\eS kvs k=some d'/\bp d' (f:=fun d'=>Q (lT m d') d') ⟨⟩:=rfl
theorem Qa:ck m (.dT A9) m' (.tup ys) Q = ∃ ks d',gC ys=some ks/\eS A9 ks=some d'/\bp d' (f:=fun d'=>Q (lT m d') d') ⟨⟩:=rfl
theorem M7:ky m (.str x) Q=Q .sh (.int x.length):=rfl
theorem N_:ky m (.list xs) Q=Q .sh (.int xs.length):=rfl
theorem Nq:ky m (.tup xs) Q=Q .sh (.int xs.length):=rfl
theorem N7:ky m (.dK kvs) Q=Q .sh (.int kvs.length):=rfl
theorem MN:ky m (.dT A9) Q=Q .sh (.int A9.length):=rfl
theorem Oo{T:String}:rL T m d Q=Q .sh (.bl (GO d.ty T)):=rfl
theorem J_:uK m (.list xs) Q=((cw xs=true/\Q (.ow true) (.list xs))\/(m=.sh/\Q (.ow false) (.list xs))):=rfl
theorem KR:uK m (.tup xs) Q=((cw xs=true/\Q (.ow true) (.list xs))\/(m=.sh/\Q (.ow false) (.list xs))):=rfl
theorem K4:uK m (.dT A9) Q=Q (.ow true) (.list (A9.map fun kv=>.tup (kv.1.map px))):=rfl
theorem hE':A6 te tl th ρ Q=te ρ fun m x=>tl ρ fun lo=>th ρ fun hi=>NS m x lo hi Q:=rfl
theorem J2:gM ρ O=O none:=rfl
def int'(d:D)(k:Int->Prop):Prop:=match d with
 |.int i=>k i
 |_=>False
theorem Mp:int' (.int a) k=k a:=rfl
theorem MF:jJ te ρ O=te ρ fun _ x=>bp x (f:=fun x=>int' x fun i=>O (some i)) ⟨⟩:=by unfold jJ bp int';rfl
theorem O8{lo hi:Option Int}:NS m (.str x) lo hi Q=Q .sh (.str (kU x lo hi)):=rfl
theorem Qf{lo hi:Option Int}:NS m (.list xs) lo hi Q=((cw xs=true/\Q (.ow true) (.list (kE xs lo hi)))\/(m=.sh/\Q (.ow false) (.list (kE xs lo hi)))):=rfl
theorem OJ{lo hi:Option Int}:NS m (.tup xs) lo hi Q=(cw xs=true/\¬ (HT.bE xs.length 0 lo=0/\HT.bE xs.length xs.length hi=xs.length)/\Q .sh (.tup (kE xs lo hi))):=rfl
end
-- texts
def OG(d:D)(k:Str->Prop):Prop:=match d with
 |.str x=>k x
 |_=>False
theorem Nx:OG (.str x) k=k x:=rfl
def qq(d:D)(k:List D->Prop):Prop:=match d with
 |.list x=>k x
 |_=>False
theorem Kp:qq (.list x) k=k x:=rfl
theorem Kf:wN to' te ρ Q=to' ρ fun _ x=>bp x (f:=fun x=>OG x fun z=>te ρ fun _ y=>bp y (f:=fun y=>qq y fun ys=>∃ zs,mL ys=some zs/\(zs.map (·.length)).sum+zs.length*z.length<=16777216/\Q .sh (.str (Str.join z zs))) ⟨⟩) ⟨⟩:=by unfold wN bp OG qq;rfl
-- places
theorem hF'{P:Bool->D->(Bool->D->Env)->Prop}:vw i ρ P=bp ρ[i]? (f:=fun o=>match o with
 |some (some (.ow fl d))=>P fl d fun fl2 d2=>ρ.set i (some (.ow fl2 d2))
 |_=>False) ⟨⟩:=rfl
def Ve(o:Option Bool)(k:Bool->Prop):Prop:=match o with
 |some b=>k b
 |none=>False
theorem J1:Ve (some b) k=k b:=rfl
theorem Ow:xo p te E ρ=p ρ fun fl d up=>bp d (f:=fun d=>qq d fun xs=>te ρ fun m x=>xs.length<sizeLine/\bp (qi fl m x) (f:=fun o=>Ve o fun fl2=>E.nx (up fl2 (.list (xs++[x])))) ⟨⟩) ⟨⟩:=by unfold xo bp qq Ve;rfl
theorem Km:wV p E ρ=p ρ fun fl d up=>bp d (f:=fun d=>qq d fun xs=>E.nx (up fl (.list []))) ⟨⟩:=by unfold wV bp qq;rfl
theorem KQ:xm ρ Q=Q (.ow true) (.dT []):=rfl
def dct(d y:D)(k1:List (Key × D)->Prop)(k2:List (List Key × D)->List D->Prop):Prop:=match d with
 |.dK kvs=>k1 kvs
 |.dT kvs=>match y with
  |.tup ys=>k2 kvs ys
  |_=>False
 |_=>False
theorem O_:dct (.dK kvs) y k1 k2=k1 kvs:=rfl
theorem OD:dct (.dT kvs) (.tup ys) k1 k2=k2 kvs ys:=rfl
-- loops
variable {LQ:List D->Prop}
theorem Qk:xl wi g b E ρ=wi ρ fun ds=>tL g b E ds ρ:=rfl
theorem Lj:oF te ρ LQ=te ρ fun m d=>lM m/\bp d (f:=fun d=>qq d LQ) ⟨⟩:=by unfold oF bp qq;rfl
def OL(d:D)(k:List D->Prop):Prop:=match d with
 |.tup x=>k x
 |_=>False
theorem Nv:OL (.tup x) k=k x:=rfl
theorem Mv:Cw te ρ LQ=te ρ fun _ d=>bp d (f:=fun d=>OG d fun z=>LQ (U9 z)) ⟨⟩:=by unfold Cw bp OG;rfl
theorem Li:fV te ρ LQ=te ρ fun _ d=>bp d (f:=fun d=>int' d fun j=>j<=16777216/\-(2 ^ 62)<=j/\LQ (i_ 0 j.toNat)) ⟨⟩:=by unfold fV bp int';rfl
theorem J8:wR ta tb ρ LQ=ta ρ fun _ x=>tb ρ fun _ y=>bp x (f:=fun x=>int' x fun i=>bp y (f:=fun y=>int' y fun j=>j-i<=16777216/\(-(2 ^ 62)<=i/\i<2 ^ 62/\-(2 ^ 62)<=j/\j<2 ^ 62)/\LQ (i_ i (j-i).toNat)) ⟨⟩) ⟨⟩:=by
 unfold wR bp int'
 congr 1
 funext _ x
 congr 1
 funext _ y
 cases x<;>cases y<;>rfl
theorem JX:lM .sh=True:=rfl
theorem JZ:lM (.ow b)=True:=rfl
theorem J5:lM .bo=False:=rfl
theorem gN_:gN i d ρ N=N (ρ.set i (some (.sh d))):=rfl
theorem gT_:gT n gs d ρ N=bp d (f:=fun d=>OL d fun ds=>ds.length=n/\gs ds ρ N) ⟨⟩:=by unfold gT bp OL;rfl
theorem Oe:eG g gs (d :: ds) ρ N=g d ρ fun bS=>gs ds bS N:=rfl
theorem Pj:um [] ρ N=N ρ:=by simp[um]
theorem NT:dq wi g tt te tn ix ρ Q=wi ρ fun ds=>iT g tt te ds (Hm tn ix ρ) fun out=>Q (.ow true) (.list out):=rfl
end
theorem B{c:Bool}{f:Bool->Prop}{k:Kt f}(h1:c=true->f true)(h2:c=false->f false):bp c k:=by
 cases c with
 |true=>exact h1 rfl
 |false=>exact h2 rfl
theorem D{p:Prop}[Decidable p]{f:Bool->Prop}{k:Kt f}(h1:p->f true)(h2:¬ p->f false):bp (decide p) k :=
 B (fun h=>h1 (of_decide_eq_true h)) fun h=>h2 (of_decide_eq_false h)
theorem T{c:Bool}{f:Bool->Prop}{k:Kt f}(h:c=true)(h1:f true):bp c k:=by subst h;exact h1
theorem F{c:Bool}{f:Bool->Prop}{k:Kt f}(h:c=false)(h1:f false):bp c k:=by subst h;exact h1
end L2.Q.R
namespace L2
open PySem PySem.Spec PyProof.Rows
end L2
namespace L2.Q
open PySem PySem.Spec PyProof.Rows
section
variable {p:Pos}
def M8:W1:=fun _ x Q=>match x with
 |.list xs=>∃ ks b,xs=ks.map px/\(∀ k∈ks,ot k=b)/\∀ ms:List Key,ms.Perm ks->(ms.Pairwise fun a b=>nS b a=false)->Q (.ow true) (.list (ms.map px))
 |.dK kvs=>∃ b,(∀ p∈kvs,ot p.1=b)/\∀ ms:List Key,ms.Perm (kvs.map (·.1))->(ms.Pairwise fun a b=>nS b a=false)->Q (.ow true) (.list (ms.map px))
 |_=>False
end
abbrev WIL:=Env->(List D->Prop)->Prop
section
variable {X:Cx}{K:PySem.W.Frag}
theorem pM(hN:X.N.Nodup)(AO:X.N[i]? = some x)(hx:Loc X.env.scope x)(hc:X.calm=true)
  (hi:HP X K tg iter wi) (O:aW X scope tn cn ix)
  (hg:∀ C fp gI hZ,QG (bj X scope C (tn++cn) fp gI hZ) K tg g) (sf:∀ C fp gI hZ,Se (bj X scope C (tn++cn) fp gI hZ) K ifs tc) (he:∀ C fp gI hZ,QE (bj X scope C (tn++cn) fp gI hZ) K elt te)
  (Us:swapsWith (.ListComp elt [⟨tg,iter,ifs,0⟩] scope pos) (some (.Name x pos')) Ut.line X.env=pure true:=by rfl)
  (hs:∀ x,foldedSetIterable iter X.env x=pure x:=by intro _;rfl) (hf:X.fn x=true\/X.env.scope.names.lookup x=some .local:=by first|exact .inl rfl|exact .inr rfl|assumption) :
  QS X K L (.Assign [.Name x pos'] (.ListComp elt [⟨tg,iter,ifs,0⟩] scope pos) Ut) (dE i (dq wi g tc te tn.length ix)) :=
 PS.imp (yc hN AO hx hc hi O hg sf he Us hs hf) fun D σ H hx=>gB hx fun Hs ρ ag E sr h k1 k2 k3 k4=>by
  refine ur ⟨Hs,ρ,ag,_,sr,h,fun v H1 ax m d As g1 r1 f1 q1=>?_⟩
  have q1:match asg m d with
   |some sl=>E.nx (ρ.set i (some sl))
   |none=>False:=q1
  cases e:asg m d with
  |none=>rw[e] at q1;exact q1.elim
  |some sl =>
   rw[e] at q1
   obtain⟨bT,s'⟩:=(sr.grow g1).set i r1 f1.1 (fun a ha=>⟨(f1.2 a ha).1,fun m=>(sr.sr.own a m).ne (f1.2 a ha).2⟩) e
   exact k1 _ H1 ax _ bT g1.sh s' q1
end
end L2.Q
namespace L2.Q.R
open PySem PySem.Spec PyProof.Rows L2.Q
section
variable {ρ:Env}{Q:Md->L2.Q.D->Prop}{te y6:WE}{i:Nat}{d:L2.Q.D}{p:WP}{a:Addr}{b:Bool}{LQ:List L2.Q.D->Prop}
theorem Nh{f:Option Sl->Prop}{k:Kt f}:bp (some (.lk a b d)) k=f (some (.lk a b d)):=rfl
theorem NQ{f:Option (Option Sl)->Prop}{k:Kt f}:bp (some (some (.lk a b d))) k=f (some (some (.lk a b d))):=rfl
theorem Kw:NJ (some (some (.lk a b d))) Q=Q .bo d:=rfl
def hI'(o:Option (Option Sl))(k:Bool->L2.Q.D->Prop):Prop:=match o with
 |some (some (.ow fl d))=>k fl d
 |_=>False
theorem Lf:hI' (some (some (.ow b d))) k=k b d:=rfl
theorem KD:tV te ρ LQ=te ρ fun _ d=>bp d (f:=fun d=>qq d fun xs=>LQ (lW xs)) ⟨⟩:=by unfold tV bp qq;rfl
theorem K9:gU te ρ LQ=te ρ fun _ d=>bp d (f:=fun d=>qq d LQ) ⟨⟩:=by unfold gU bp qq;rfl
theorem Mw:tH te ρ LQ=te ρ fun _ d=>bp d (f:=fun d=>OL d LQ) ⟨⟩:=by unfold tH bp OL;rfl
theorem Nz:Dn te y6 ρ LQ=te ρ fun m x=>lM m/\y6 ρ fun m2 y=>lM m2/\bp x (f:=fun x=>qq x fun xs=>bp y (f:=fun y=>qq y fun ys=>LQ (CY xs ys)) ⟨⟩) ⟨⟩:=by
 unfold Dn bp qq
 congr 1
 funext _ x
 congr 2
 funext _ y
 cases x<;>cases y<;>rfl
def wpAt(d:L2.Q.D)(i:Int)(P:Bool->L2.Q.D->(Bool->L2.Q.D->Env)->Prop)(up:Bool->L2.Q.D->Env):Prop:=match d with
 |.list ds=>∃ j d',mn ds.length i=some j/\ds[j]? = some d'/\d'.flat=false/\bp d' (f:=fun d'=>P true d' fun fl2 d2=>up fl2 (.list (ds.set j d2))) ⟨⟩
 |.tup ds=>∃ j d',mn ds.length i=some j/\ds[j]? = some d'/\d'.flat=false/\bp d' (f:=fun d'=>P true d' fun fl2 d2=>up fl2 (.tup (ds.set j d2))) ⟨⟩
 |_=>False
section
variable {P:Bool->L2.Q.D->(Bool->L2.Q.D->Env)->Prop}{up:Bool->L2.Q.D->Env}{ds:List L2.Q.D}{j:Int}
theorem Np:wpAt (.list ds) j P up = ∃ k d',mn ds.length j=some k/\ds[k]? = some d'/\d'.flat=false/\bp d' (f:=fun d'=>P true d' fun fl2 d2=>up fl2 (.list (ds.set k d2))) ⟨⟩:=rfl
theorem MT:wpAt (.tup ds) j P up = ∃ k d',mn ds.length j=some k/\ds[k]? = some d'/\d'.flat=false/\bp d' (f:=fun d'=>P true d' fun fl2 d2=>up fl2 (.tup (ds.set k d2))) ⟨⟩:=rfl
theorem Ou:Oy p te ρ P=p ρ fun fl d up=>te ρ fun _ y=>fl=true/\bp y (f:=fun y=>int' y fun i=>bp d (f:=fun d=>wpAt d i P up) ⟨⟩) ⟨⟩:=by
 unfold Oy bp int' wpAt
 rfl
end
end
end L2.Q.R
namespace L2
open PySem PySem.Spec PyProof.Rows Builtin Builtin.Str Builtin.Int
section
variable {prog:Program}{w:World}{A:Around}{E:Value->Shared->Prop}{s:Shared}{x:Str}{n:Int}{t u:Tok}
theorem uW(aI:MulOk x n)(h:∀ t' k,Q (.str (Txt.mul x n) t') { s with toks:=k }):wpAny (model prog w) A (binaryOp .Mult (.int n u) (.str x t)) Q E s:=by
 refine lm_binaryOp_repeat_right (T := "str") (U := "int") (by decide) (fun s'=>typeIs_int s' n u) (typeIs_str s x t) F.fills_int_mul noFill_str_mul F.slot_int_mul lm_noRepeat_int repeat_str F.slot_int_index.lookup
  (call_gives F.slot_int_mul (typeIs_int s n u) F.entry_int_mul (F.args_int_mul_2 _ _) (AutoIntG3.int___mul___int_str_0 n u x t)
   ⟨rfl,typeIs_str _ x t,call_gives F.slot_str_mul (typeIs_str _ x t) F.entry_str_mul (F.args_str_mul_2 _ _) (gives_str_mul x n t u aI.1 aI.2.1 aI.2.2) ?_⟩)
 unfold Txt.mul at h
 by_cases h1:n<1
 ·rw[if_pos h1];have h':=h s.toks (s.toks+1);rw[if_pos h1] at h';exact⟨by decide,h'⟩
 ·rw[if_neg h1];refine post_val_or_made (fun hc=>fits_reps (aI.2.2 h1 (by simpa using hc))) fun t' k=>?_
  have h':=h t' k;rw[if_neg h1] at h';exact h'
end
def sF(n:Int)(z:Str):Str:=⟨(List.replicate n.toNat z.cps.toList).flatten.toArray⟩
theorem qe(xs:Array Nat):∀ (k:Nat) (acc:Array Nat),(List.replicate k xs).foldl (· ++ ·) acc=acc++(List.replicate k xs.toList).flatten.toArray
 |0,acc=>by simp
 |k+1,acc=>by
  rw[Kb,QH,qe xs k,Kb,Qr]
  apply Array.ext'
  simp
theorem Eu(h:1<=n):Txt.mul z n=sF n z:=by
 unfold Txt.mul sF
 rw[if_neg (by lia)]
 by_cases h1:n=1
 ·subst h1
  simp
 ·by_cases h0:z.length=0
  ·have hz:z.cps = #[]:=KS h0
   rw[if_pos (by simp[h0])]
   obtain⟨c⟩:=z
   cases hz
   simp
  ·rw[if_neg (by simp[h1,h0]),qe]
   simp
def Gp:R2:=fun x y H Q=>match x,y with
 |.int n,.str z=>(1<=n/\n<=100/\z.length<=100)/\Q (.str (sF n z)) H
 |_,_=>False
section
variable {X:Cx}
theorem Fj:dc X (binaryOp .Mult) Gp:=by
 intro pins s σ H x y v u Q I rx ry h
 unfold Gp at h
 split at h
 ·rename_i n z
  obtain⟨⟨h1,h2,h3⟩,q⟩:=h
  obtain⟨t,rfl⟩:=rx
  obtain⟨t',rfl⟩:=ry
  refine uW ⟨?_,fun _ _=>?_,fun _ _=>?_⟩ fun t' k=>⟨.str (sF n z),H,I.tok _,⟨_,by rw[Eu h1]⟩,q⟩
  ·have a1:¬ n < -(2 ^ 63:Int):=by lia
   have a2:¬ n >= 2 ^ 63:=by lia
   rw[decide_eq_false a1,decide_eq_false a2];rfl
  ·have:(2 ^ 63-1:Int) / 100<=(2 ^ 63-1) / n:=by
    apply Int.le_ediv_of_mul_le (by lia)
    have:(2 ^ 63-1:Int) / 100*n<=(2 ^ 63-1:Int) / 100*100:=Int.mul_le_mul_of_nonneg_left h2 (by decide)
    lia
   have e:(2 ^ 63-1:Int) / 100=92233720368547758:=by decide
   lia
  ·have:z.length*n.toNat<=100*100:=Nat.mul_le_mul h3 (by lia)
   have hs:=sizeLine_eq
   simp only[tooLong,decide_eq_false_iff_not]
   generalize z.length*n.toNat=m at this ⊢
   lia
 ·exact h.elim
def mxP(ns:List Int):Nat->Int
 |0=>0
 |1=>ns.getD 0 0
 |j+2=>if ns.getD (j+1) 0>mxP ns (j+1) then ns.getD (j+1) 0 else mxP ns (j+1)
end
end L2
namespace L2
open PySem PySem.Spec PyProof.Rows
end L2
namespace L2.Q
open PySem PySem.Spec PyProof.Rows
section
variable {X:Cx}{K:PySem.W.Frag}{e a b:Expr}{ta tb:WE}{p pos:Pos}{x:Str}{id:String}
def Dp:W1:=fun _ x Q=>match x with
 |.list xs=>∃ bs:List Bool,xs=bs.map D.bl/\Q .sh (.bl (bs.all (fun b=>b)))
 |_=>False
theorem Dw{H:Hp}{bs:List Bool}{vs:List V}(r:aS K H (bs.map D.bl) vs):vs=bs.map V.bl:=by
 induction bs generalizing vs with
 |nil=>exact r.n0
 |cons b bs ih =>
  obtain⟨u,us,rfl,r1,rs⟩:=aS.c (d:=D.bl b) r
  cases r1
  rw[ih rs];rfl
theorem pG:CM K (RG K) Dp:=by
 intro Hs H m x v As Qd Qv w rx h f
 have r1:=rx.rep w
 cases r1 with
 |list z s q =>
  obtain⟨bs,rfl,h⟩:=h
  cases Dw q
  exact⟨bs,s,f.sh w (.bl _) h⟩
 |_=>exact h.elim
def Aa:W1:=fun _ x Q=>match x with
 |.list xs=>cw xs=true/\Q .sh (.tup xs)
 |_=>False
theorem Df:CM K (fun xs H Q=>∃ p ys,xs=[.ref p]/\((dn K H p ys/\∀ l,H l=none->Q (.ref l) (upd H l (.tup ys)))\/(iS K H p ys/\Q (.ref p) H))) Aa:=by
 intro Hs H m x v As Qd Qv w rx h f
 have r1:=rx.rep w
 cases r1 with
 |list z s q =>
  have hl:=q.length
  exact⟨_,_,rfl,.inl ⟨s,f.tup w (by lia) q h.1 h.2⟩⟩
 |_=>exact h.elim
theorem JH (hK:X.K=K:=by rfl):ki X (.type "tuple") (fun xs H Q=>∃ p ys,xs=[.ref p]/\((dn K H p ys/\∀ l,H l=none->Q (.ref l) (upd H l (.tup ys)))\/(iS K H p ys/\Q (.ref p) H))):=by subst hK;exact eI'
theorem wX(n:Int)(z:Str):(sF n z).length=n.toNat*z.length:=by
 unfold sF Str.length
 rw[hX,len_rep,uk]
def Dg:W2:=fun _ x _ y Q=>match x,y with
 |.int n,.str z=>(1<=n/\n<=100/\z.length<=100)/\Q .sh (.str (sF n z))
 |_,_=>False
theorem Fz:ku K Gp Dg:=by
 intro Hs H m x v As n y u Bs Qd Qv w rx ry h f
 have r1:=rx.rep w
 have r2:=ry.rep w
 cases r1 with
 |int i=>cases r2 with
  |str hz =>
   refine⟨h.1,Ak f w ?_ h.2⟩
   obtain⟨⟨h1,h2,h3⟩,_⟩:=h
   rw[wX,sizeLine_eq]
   have:=Nat.mul_le_mul (show i.toNat<=100 by lia) h3
   lia
  |_=>exact h.elim
 |_=>cases r2<;>exact h.elim
theorem HQ(ha:QE X K a ta)(hb:QE X K b tb):QE X K (.BinOp a .Mult b pos) (av Dg ta tb):=EW Fj Fz ha hb
theorem Jq:bootBuiltins "min" = some (.builtin "min"):=by decide +kernel
def Ex:R2:=fun x y H Q=>match x,y with
 |.int i,.int j=>Q (.int (if j<i then j else i)) H
 |_,_=>False
def Ey:W2:=fun _ x _ y Q=>match x,y with
 |.int i,.int j=>Q .sh (.int (if j<i then j else i))
 |_,_=>False
theorem Fp:ku K Ex Ey:=by
 intro Hs H m x v As n y u Bs Qd Qv w rx ry h f
 have r1:=rx.rep w
 have r2:=ry.rep w
 cases r1 with
 |int i=>cases r2 with
  |int j=>exact f.sh w (.int _) h
  |_=>exact h.elim
 |_=>cases r2<;>exact h.elim
theorem Gm(hc:ki X (.builtin id) fun xs H Q=>∃ x y,xs=[x,y]/\r x y H Q)(br:ku K r f)(hg:Gl X x)(hm:X.mg x=none)(hv:bootBuiltins x=some (.builtin id))(ha:QE X K a ta)(hb:QE X K b tb)
  (hs:starEach [a,b] X.env=(false,eval a X.env) :: starEach [b] X.env:=by rfl) (g0:starEach [b] X.env=(false,eval b X.env) :: starEach [] X.env:=by rfl) (hn:x ≠ "__name__" := by decide) (jI:(x == ("__debug__" : Str))=false:=by decide)
  (ja:(backTo pos (starEach [b] X.env)).any (·.1)=false:=by rfl):QE X K (.Call (.Name x p) [a,b] [] pos) (av f ta tb):=by
 refine PE.imp (L4 hc hg hm hv (kN ha (kN hb oQ g0) hs) hn jI hs ja) fun σ H Qv h=>?_
 obtain⟨Hs,ρ,ag,Q,sr,h,fin⟩:=nq br σ H Qv h
 exact⟨Hs,ρ,ag,Q,sr,h,fun v H1 ax m x As g1 r1 f1 q1=>by
  obtain⟨aC,iA,fo,Q2,pz,h2,fin2⟩:=fin v H1 ax m x As g1 r1 f1 q1
  exact⟨aC,iA,fo,Q2,pz,h2,fun u H2 eW n y Bs g2 r2 f2 q2=>⟨v,u,rfl,fin2 u H2 eW n y Bs g2 r2 f2 q2⟩⟩⟩
theorem IK (hc:X.calm=true:=by rfl):ki X (.builtin "min") fun xs H Q=>∃ x y,xs=[x,y]/\Ex x y H Q:=fun pins s σ H xs us Q I r da=>by
 obtain⟨x,y,e,q⟩:=da
 subst e
 unfold Ex at q
 split at q
 ·exact dQ' hc pins s σ H _ us Q I r ⟨_,_,rfl,q⟩
 ·exact q.elim
end
end L2.Q
namespace L2.Q.R
open PySem PySem.Spec PyProof.Rows L2.Q
section
variable {Q:Md->L2.Q.D->Prop}{m m':Md}{xs:List L2.Q.D}{a b:Int}{x:Str}
theorem PX:Dp m (.list xs) Q = ∃ bs:List Bool,xs=bs.map L2.Q.D.bl/\Q .sh (.bl (bs.all (fun b=>b))):=rfl
theorem K1:Aa m (.list xs) Q=(cw xs=true/\Q .sh (.tup xs)):=rfl
theorem Mf:Dg m (.int a) m' (.str x) Q=((1<=a/\a<=100/\x.length<=100)/\Q .sh (.str (sF a x))):=rfl
theorem Mj:Ey m (.int a) m' (.int b) Q=Q .sh (.int (if b<a then b else a)):=rfl
end
end L2.Q.R
namespace L2.Q
open PySem PySem.Spec PyProof.Rows
theorem jw(O:Nat->List D->Prop)(Iv:Env->Prop):∀ (xs:List D) (i:Nat) (pre:List D) (ρ:Env) (k:List D->Prop),Iv ρ->O i pre ->
  (∀ j x,xs[j]? = some x->∀ ρ,Iv ρ->∀ out,O (i+j) out->∀ N1:Env->Prop,∀ N2:Env->D->Prop,(∀ bS d,Iv bS->O (i+j+1) (out++[d])->N2 bS d)->g x ρ fun ox=>tc ox fun b=>if b=true then te ox fun m d=>Sb m d/\N2 ox d else N1 ox) ->
  (∀ out,O (i+xs.length) (pre++out)->k out)->iT g tc te xs ρ k
 |[],i,pre,_,k,_,h0,_,h=>h [] (by simpa using h0)
 |x :: xs,i,pre,ρ,k,iv,h0,hs,h=>by
  refine hs 0 x rfl ρ iv pre h0 _ _ (fun bS d N9 o'=>?_)
  refine jw O Iv xs (i+1) (pre++[d]) bS _ N9 o' (fun j y hy ρ iv out ho=>?_) fun out ho=>?_
  ·have:=hs (j+1) y (by simpa using hy) ρ iv out (by rwa[show i+(j+1)=i+1+j by lia])
   rwa[show i+(j+1)+1=i+1+j+1 by lia] at this
  ·refine h (d :: out) ?_
   rw[vF] at ho
   rwa[pT,show i+(xs.length+1)=i+1+xs.length by lia]
end L2.Q
namespace TS
open PySem PySem.SetTable
def fk:Nat->Nat->Nat
 |0,s=>s
 |k+1,s=>5*fk k s+1
theorem Iw(a b s:Nat):fk (a+b) s=fk b (fk a s):=by
 induction b with
 |zero=>rfl
 |succ b ih=>show 5*fk (a+b) s+1=5*fk b (fk a s)+1;rw[ih]
theorem z7(n s:Nat):4*fk n s+1=5 ^ n*(4*s+1):=by
 induction n with
 |zero=>simp[fk]
 |succ n ih =>
  show 4*(5*fk n s+1)+1=5 ^ (n+1)*(4*s+1)
  rw[xS,QK (5 ^ n) 5,FH,<- ih];lia
theorem CG(m:Nat):∃ q,5 ^ 2 ^ m=1+2 ^ (m+2)*q/\q % 2=1:=by
 induction m with
 |zero=>exact⟨1,by decide,by decide⟩
 |succ m ih =>
  obtain⟨q,e,o⟩:=ih
  refine⟨q+2 ^ (m+1)*(q*q),?_,?_⟩
  ·have hp:5 ^ 2 ^ (m+1)=(5 ^ 2 ^ m) ^ 2:=by rw[xS 2 m,Nat.pow_mul]
   rw[hp,e]
   clear e hp
   have e1:2 ^ (m+1+2)=2*2 ^ (m+2):=by rw[show m+1+2=(m+2)+1 by exact Nat.add_assoc ..,xS];lia
   have e2:2 ^ (m+2)=2*2 ^ (m+1):=by rw[show m+2=(m+1)+1 by rfl,xS];lia
   rw[e1,e2]
   generalize 2 ^ (m+1)=y
   rw[Nat.pow_two]
   simp only[Nat.mul_add,Nat.add_mul,Nat.one_mul,Nat.mul_one]
   have a1:2*y*q*(2*y*q)=2*(2*y)*(y*(q*q)):=by
    simp only[FH,Nat.mul_left_comm,QK]
   have a2:2*(2*y)*q=2*y*q+2*y*q:=by
    rw[FH 2 (2*y) q];lia
   rw[a1,a2];lia
  ·have:2 ^ (m+1)*(q*q) % 2=0:=by
    rw[xS,QK (2 ^ m) 2,FH,Nat.mul_mod_right]
   lia
theorem FW(m x:Nat):∃ r,fk (2 ^ m) x=x+2 ^ m*r/\r % 2=1:=by
 obtain⟨q,e,o⟩:=CG m
 have c:=z7 (2 ^ m) x
 rw[e] at c
 refine⟨q*(4*x+1),?_,?_⟩
 ·have e2:2 ^ (m+2)=4*2 ^ m:=by rw[Nat.pow_add];lia
  rw[e2,Nat.add_mul,Nat.one_mul,FH,FH] at c
  lia
 ·rw[Nat.mul_mod,o,Nat.one_mul];lia
theorem Jh(m s e:Nat):∃ k,k+1<=2 ^ m/\fk k s % 2 ^ m=e % 2 ^ m:=by
 induction m with
 |zero=>exact⟨0,by decide,by simp[Nat.mod_one]⟩
 |succ m ih =>
  obtain⟨k,hk,h⟩:=ih
  have hp:2 ^ (m+1)=2 ^ m*2:=xS ..
  have ae':0<2 ^ m:=Nat.pow_pos (by decide)
  have key:∀ a:Nat,a % (2 ^ m*2)=a % 2 ^ m+2 ^ m*(a / 2 ^ m % 2):=fun a=>Nat.mod_mul
  by_cases c:fk k s / 2 ^ m % 2=e / 2 ^ m % 2
  ·exact⟨k,by walk_at "s4",by rw[hp,key,key,h,c]⟩
  ·refine⟨k+2 ^ m,by lia,?_⟩
   obtain⟨r,er,ro⟩:=FW m (fk k s)
   rw[Iw,er,hp,key,key,Nat.add_mul_mod_self_left,h,Nat.add_mul_div_left _ _ ae']
   have:(fk k s / 2 ^ m+r) % 2=e / 2 ^ m % 2:=by lia
   rw[this]
def qA(M:Nat)(p:Probe):Probe :=
 if p.more>0 then { p with j:=p.j+1,more:=p.more-1 } else
 { p with j:=(leap M p.i p.perturb).1,more:=runEnd M (leap M p.i p.perturb).1-(leap M p.i p.perturb).1,i:=(leap M p.i p.perturb).1,perturb:=(leap M p.i p.perturb).2 }
def ps(M:Nat)(h:Int):Nat->Probe
 |0=>{ j:=bits h % (M+1),more:=runEnd M (bits h % (M+1))-bits h % (M+1),i:=bits h % (M+1),perturb:=bits h,dummy:=none }
 |n+1=>qA M (ps M h n)
def J(M:Nat)(h:Int)(n:Nat):Nat:=(ps M h n).j
theorem wM(h:i<=M):i<=runEnd M i/\runEnd M i<=M/\runEnd M i<=i+9:=by
 unfold runEnd;split<;>lia
theorem G9(M:Nat)(h:Int):∀ n,(ps M h n).i<=M/\(ps M h n).j+(ps M h n).more<=M/\(ps M h n).dummy=none/\(ps M h n).more<=9
 |0=>by
  have h0:bits h % (M+1)<=M:=QJ (FL _ (QL _))
  have:=wM h0
  exact⟨h0,by show bits h % (M+1)+(runEnd M (bits h % (M+1))-bits h % (M+1))<=M;lia,rfl,by show runEnd M (bits h % (M+1))-bits h % (M+1)<=9;lia⟩
 |n+1=>by
  obtain⟨a,b,c,d⟩:=G9 M h n
  show(qA M (ps M h n)).i<=M/\_/\(qA M (ps M h n)).dummy=none/\_
  unfold qA
  by_cases hm:(ps M h n).more>0
  ·simp only[hm,if_true]
   show _/\(qA M (ps M h n)).j+(qA M (ps M h n)).more<=M/\_/\(qA M (ps M h n)).more<=9
   simp only[qA,hm,if_true]
   exact⟨a,by lia,c,by walk_at "s4"⟩
  ·simp only[hm,if_false]
   show _/\(qA M (ps M h n)).j+(qA M (ps M h n)).more<=M/\_/\(qA M (ps M h n)).more<=9
   simp only[qA,hm,if_false]
   have h0:(leap M (ps M h n).i (ps M h n).perturb).1<=M:=QJ (FL _ (QL _))
   have:=wM h0
   exact⟨h0,by lia,c,by lia⟩
theorem Si(M:Nat)(h:Int)(n:Nat):J M h n<=M:=by
 have:=G9 M h n
 unfold J;lia
theorem yW(M:Nat)(h:Int)(n:Nat):∀ r,r<=(ps M h n).more->ps M h (n+r)={ ps M h n with j:=(ps M h n).j+r,more:=(ps M h n).more-r }
 |0,_=>rfl
 |r+1,hr=>by
  show qA M (ps M h (n+r))=_
  rw[yW M h n r (by exact ll ‹_›)]
  unfold qA
  rw[if_pos (show(ps M h n).more-r>0 by lia)]
  simp only[Probe.mk.injEq,true_and,and_true]
  walk_at "s1"
def lp(M:Nat)(h:Int):Nat->Nat × Nat
 |0=>(bits h % (M+1),bits h)
 |k+1=>leap M (lp M h k).1 (lp M h k).2
def kc(M:Nat)(h:Int):Nat->Nat
 |0=>0
 |k+1=>kc M h k+(runEnd M (lp M h k).1-(lp M h k).1)+1
theorem Em(M:Nat)(h:Int):∀ k,(lp M h k).1<=M
 |0=>QJ (FL _ (QL _))
 |k+1=>QJ (FL _ (QL _))
theorem Bo(M:Nat)(h:Int):∀ k,kc M h k<=10*k
 |0=>bP _
 |k+1=>by
  have:=Bo M h k
  have:=wM (Em M h k)
  show kc M h k+_+1<=_;lia
theorem xF(M:Nat)(h:Int):∀ k,ps M h (kc M h k)={ j:=(lp M h k).1,more:=runEnd M (lp M h k).1-(lp M h k).1,i:=(lp M h k).1,perturb:=(lp M h k).2,dummy:=none }
 |0=>rfl
 |k+1=>by
  have ih:=xF M h k
  have e:=yW M h (kc M h k) (runEnd M (lp M h k).1-(lp M h k).1) (by rw[ih];exact bP _)
  show qA M (ps M h (kc M h k+(runEnd M (lp M h k).1-(lp M h k).1)))=_
  rw[e,ih]
  unfold qA
  rw[if_neg (by simp)]
  rfl
theorem Eb(M:Nat)(h:Int):∀ k,(lp M h k).2=bits h / 32 ^ k
 |0=>by simp[lp]
 |k+1=>by
  show(lp M h k).2 / 32=_
  rw[Eb M h k,Nat.div_div_eq_div_mul,xS]
theorem Fo(h:Int):bits h<2 ^ 64:=by
 unfold bits
 have h1:=oj h (show(2 ^ 64:Int)≠0 by decide)
 have h2:=oI h (show(0:Int)<2 ^ 64 by decide)
 lia
theorem yX(M:Nat)(h:Int):∀ k,(lp M h (13+k)).1 % (M+1)=fk k (lp M h 13).1 % (M+1)
 |0=>rfl
 |k+1=>by
  have e:(lp M h (13+k)).2=0:=by
   rw[Eb]
   refine Nat.div_eq_of_lt (mI (Fo h) ?_)
   exact kg (by decide:2 ^ 64<=32 ^ 13) (Nat.pow_le_pow_right (by decide) (by exact Nat.le_add_right _ _))
  show(leap M (lp M h (13+k)).1 (lp M h (13+k)).2).1 % (M+1)=_
  unfold leap
  rw[e]
  show((lp M h (13+k)).1*5+1+0 / 32) % (M+1) % (M+1)=(5*fk k (lp M h 13).1+1) % (M+1)
  rw[Nat.mod_mod,Nat.zero_div,FK,Nat.add_mod,Nat.mul_mod,yX M h k,<- Nat.mul_mod,<- Nat.add_mod,QK]
theorem cover(hM:M+1=2 ^ m)(h:Int)(he:e<=M):∃ k,k<=M+13/\(lp M h k).1=e:=by
 obtain⟨k,hk,q⟩:=Jh m (lp M h 13).1 e
 rw[<- hM] at hk q
 refine⟨13+k,by lia,?_⟩
 have:=yX M h k
 rw[q] at this
 rwa[Nat.mod_eq_of_lt (FG (Em M h _)),Nat.mod_eq_of_lt (FG he)] at this
theorem Hy(M:Nat)(h:Int)(k:Nat):J M h (kc M h k)=(lp M h k).1:=by unfold J;rw[xF]
theorem pY(hM:M+1=2 ^ m)(h:Int)(i7:Nat->Bool)(he:e<=M)(hf:i7 e=false):∃ n,n<=10*(M+13)/\i7 (J M h n)=false/\∀ k<n,i7 (J M h k)=true:=by
 obtain⟨k,hk,q⟩:=cover hM h he
 have hb:=Bo M h k
 have hB:i7 (J M h (kc M h k))=false:=by rw[Hy,q];exact hf
 generalize kc M h k=b at hb hB
 have go:∀ b,i7 (J M h b)=false->∃ n,n<=b/\i7 (J M h n)=false/\∀ k<n,i7 (J M h k)=true:=by
  intro b
  induction b using Nat.strongRecOn with
  |ind b ih =>
   intro hB
   by_cases c:∃ k,k<b/\i7 (J M h k)=false
   ·obtain⟨k,h1,h2⟩:=c
    obtain⟨n,a1,a2,a3⟩:=ih k h1 h2
    exact⟨n,by lia,a2,a3⟩
   ·refine⟨b,bP _,hB,fun k hk=>?_⟩
    cases z:i7 (J M h k) with
    |true=>rfl
    |false=>exact absurd ⟨k,hk,z⟩ c
 obtain⟨n,a1,a2,a3⟩:=go b hB
 exact⟨n,by lia,a2,a3⟩
def Up(xs:Array Nat):Prop:=∀ i j:Nat,i<j->j<xs.size->xs.getD i 0<xs.getD j 0
theorem vU{xs:Array Nat}{i d d':Nat}(h:i<xs.size):xs.getD i d=xs.getD i d':=by simp[Array.getD,h]
theorem qU{xs:Array Nat}(U:Up xs)(j:Nat):∀ (fuel lo hi:Nat),hi-lo<=fuel->lo<=hi->hi<=xs.size->(∀ i<lo,xs.getD i 0<j)->(∀ i,hi<=i->i<xs.size->j<=xs.getD i 0) ->
  below.go xs j fuel lo hi<=xs.size/\(∀ i<below.go xs j fuel lo hi,xs.getD i 0<j)/\(∀ i,below.go xs j fuel lo hi<=i->i<xs.size->j<=xs.getD i 0)
 |0,lo,hi,hf,h1,h2,h3,h4=>by
  obtain rfl:lo=hi:=by lia
  exact⟨h2,h3,h4⟩
 |fuel+1,lo,hi,hf,h1,h2,h3,h4=>by
  unfold below.go
  by_cases c:lo<hi
  ·rw[if_pos c]
   dsimp only
   have hm:(lo+hi) / 2<xs.size:=by lia
   by_cases d:xs.getD ((lo+hi) / 2) j<j
   ·rw[if_pos d]
    rw[vU (d':=0) hm] at d
    refine qU U j fuel _ _ (by lia) (by lia) h2 (fun i mw=>?_) h4
    by_cases e:i=(lo+hi) / 2
    ·rw[e];exact d
    ·exact Ti (U i _ (by lia) hm) d
   ·rw[if_neg d]
    rw[vU (d':=0) hm] at d
    refine qU U j fuel _ _ (by lia) (by lia) (by exact ll ‹_›) h3 fun i mw hs=>?_
    by_cases e:i=(lo+hi) / 2
    ·rw[e];exact Kj ‹_›
    ·have:=U ((lo+hi) / 2) i (by lia) hs;lia
  ·rw[if_neg c]
   obtain rfl:lo=hi:=by lia
   exact⟨h2,h3,h4⟩
theorem aU(U:Up xs)(j:Nat):below xs j<=xs.size/\(∀ i<below xs j,xs.getD i 0<j)/\(∀ i,below xs j<=i->i<xs.size->j<=xs.getD i 0) :=
 qU U j xs.size 0 xs.size (by lia) (by lia) (bP _) (fun i h=>absurd h (DV i)) fun i h1 h2=>by lia
theorem below_at(U:Up xs)(h:i<xs.size):below xs (xs.getD i 0)=i:=by
 obtain⟨a,b,c⟩:=aU U (xs.getD i 0)
 by_cases h1:below xs (xs.getD i 0)<i
 ·have:=c _ (bP _) (by lia)
  have:=U _ i h1 h
  lia
 ·by_cases h2:i<below xs (xs.getD i 0)
  ·have:=b i h2;lia
  ·lia
theorem yo(U:Up xs)(h:i<xs.size):below xs (xs.getD i 0+1)=i+1:=by
 obtain⟨a,b,c⟩:=aU U (xs.getD i 0+1)
 by_cases h1:below xs (xs.getD i 0+1)<i+1
 ·have:=c i (by lia) h;lia
 ·by_cases h2:i+1<below xs (xs.getD i 0+1)
  ·have:=b (i+1) h2
   have:=U i (i+1) (by lia) (by lia);lia
  ·lia
def taken(xs:Array Nat)(j:Nat):Bool:=xs[below xs j]? == some j
theorem Bd{xs:Array Nat}{i j:Nat}(h:xs[i]? = some j):i<xs.size/\xs.getD i 0=j:=by
 obtain⟨h1,h2⟩:=FP.mp h
 exact⟨h1,by simp[Array.getD,h1,h2]⟩
theorem zT{xs:Array Nat}{i:Nat}(h:i<xs.size):xs[i]? = some (xs.getD i 0):=by simp[Array.getD,h]
theorem gH{xs:Array Nat}(U:Up xs){j:Nat}:taken xs j=true↔∃ i,i<xs.size/\xs.getD i 0=j:=by
 unfold taken
 rw[beq_iff_eq]
 constructor
 ·intro h;exact⟨_,Bd h⟩
 ·rintro⟨i,h,rfl⟩
  rw[below_at U h]
  exact zT h
theorem mj{xs:Array Nat}(U:Up xs){j:Nat}(h:taken xs j=true):below xs j<xs.size/\xs.getD (below xs j) 0=j:=by
 unfold taken at h
 rw[beq_iff_eq] at h
 exact Bd h
theorem bZ(xs:Array α)(x:α)(h:p<=xs.size):(insertAt xs p x).size=xs.size+1:=by
 unfold insertAt
 simp
 lia
theorem Ri(xs:Array α)(x:α)(h:p<=xs.size)(i:Nat):(insertAt xs p x)[i]? = if i<p then xs[i]? else if i=p then some x else xs[i-1]? := by
 unfold insertAt
 have hs:((xs.extract 0 p).push x).size=p+1:=by simp;lia
 by_cases h1:i<p
 ·rw[if_pos h1,Array.getElem?_append_left (by lia),Array.getElem?_push,if_neg (by simp;lia),QV]
  rw[if_pos (by lia)];simp
 ·rw[if_neg h1]
  by_cases h2:i=p
  ·rw[if_pos h2,Array.getElem?_append_left (by lia),Array.getElem?_push,if_pos (by simp;lia)]
  ·rw[if_neg h2,Array.getElem?_append_right (by lia),hs,QV]
   by_cases h3:i-(p+1)<min xs.size xs.size-p
   ·rw[if_pos h3]
    congr 1;lia
   ·rw[if_neg h3,FR (by lia)]
theorem eN(h:p<=xs.size)(i:Nat):(insertAt xs p x).getD i 0=if i<p then xs.getD i 0 else if i=p then x else xs.getD (i-1) 0:=by
 have e:∀ (ys:Array Nat) (k:Nat),ys.getD k 0=ys[k]?.getD 0:=fun ys k=>by
  simp[BU]
 rw[e,Ri xs x h]
 split
 ·rw[e]
 ·split
  ·rfl
  ·rw[e]
theorem DR(U:Up xs)(hj:taken xs j=false):Up (insertAt xs (below xs j) j):=by
 obtain⟨a,b,c⟩:=aU U j
 have ne:∀ i,i<xs.size->xs.getD i 0≠j:=fun i hi e=>by
  have:=(gH U (j:=j)).mpr ⟨i,hi,e⟩
  rw[hj] at this;cases this
 intro i k hik hk
 rw[bZ xs j a] at hk
 rw[eN a,eN a]
 by_cases h1:k<below xs j
 ·rw[if_pos (by lia),if_pos h1];exact U i k hik (by lia)
 ·rw[if_neg h1]
  by_cases h2:k=below xs j
  ·rw[if_pos h2,if_pos (by lia)];exact b i (by lia)
  ·rw[if_neg h2]
   by_cases h3:i<below xs j
   ·rw[if_pos h3];exact U i (k-1) (by lia) (by lia)
   ·rw[if_neg h3]
    by_cases h4:i=below xs j
    ·rw[if_pos h4]
     have:=c (k-1) (by lia) (by lia)
     have:=ne (k-1) (by lia)
     lia
    ·rw[if_neg h4];exact U (i-1) (k-1) (by lia) (by lia)
theorem zU(U:Up xs)(hj:taken xs j=false):taken (insertAt xs (below xs j) j) k=(decide (k=j) || taken xs k):=by
 have a:=(aU U j).1
 have U':=DR U hj
 apply sP.mpr
 rw[gH U',Bool.or_eq_true,decide_eq_true_eq,gH U]
 rw[bZ xs j a]
 constructor
 ·rintro⟨i,hi,e⟩
  rw[eN a] at e
  by_cases h1:i<below xs j
  ·rw[if_pos h1] at e;exact .inr ⟨i,by lia,e⟩
  ·rw[if_neg h1] at e
   by_cases h2:i=below xs j
   ·rw[if_pos h2] at e;exact .inl e.symm
   ·rw[if_neg h2] at e;exact .inr ⟨i-1,by lia,e⟩
 ·rintro(rfl|⟨i,hi,e⟩)
  ·exact⟨below xs k,by lia,by rw[eN a,if_neg (by lia),if_pos rfl]⟩
  ·by_cases h1:i<below xs j
   ·exact⟨i,by lia,by rw[eN a,if_pos h1];exact e⟩
   ·exact⟨i+1,by lia,by rw[eN a,if_neg (by lia),if_neg (by lia)];exact e⟩
def Reach(M:Nat)(place:Array Nat)(h:Int)(j:Nat):Prop:=∃ n,n<=10*(M+13)/\J M h n=j/\∀ k<n,taken place (J M h k)=true
structure TI{α:Type}(t:SetTable)(es:Array (Int × α)):Prop where
 pw:∃ m,t.mask+1=2 ^ m/\3<=m
 sz:t.place.size=es.size
 up:Up t.place
 le:∀ i,i<t.place.size->t.place.getD i 0<=t.mask
 dm:t.dummies = #[]
 few:es.size*5<t.mask*3
 path:∀ i h x,es[i]? = some (h,x)->Reach t.mask t.place h (t.place.getD i 0)
section
variable {α:Type}{t:SetTable}{es:Array (Int × α)}
theorem TI.slot(T:TI t es)(j:Nat):t.slot j=if taken t.place j then .live (below t.place j) else .empty:=by
 unfold SetTable.slot taken
 dsimp only
 split
 ·rfl
 ·have:has t.dummies j=false:=by rw[T.dm];rfl
  rw[this];rfl
theorem TI.fits(T:TI t es):t.fits es.size=true:=by
 have:=T.few
 simp only[SetTable.fits,fill,T.dm,T.sz,ly,beq_iff_eq,decide_eq_true_eq,true_and]
 simp;lia
theorem TI.odd(T:TI t es):t.gaveWay=false:=by
 obtain⟨m,h,h3⟩:=T.pw
 unfold SetTable.gaveWay
 rw[beq_eq_false_iff_ne]
 have:2 ^ m=2*2 ^ (m-1):=by
  rw[show m=(m-1)+1 by lia,xS];simp;lia
 lia
theorem TI.free(T:TI t es):∃ e,e<=t.mask/\taken t.place e=false:=by
 have hf:=T.few
 have hs:=T.sz
 by_cases c:∃ e,e<=t.mask/\taken t.place e=false
 ·exact c
 ·exfalso
  have all:∀ e,e<=t.mask->taken t.place e=true:=fun e he=>by
   cases z:taken t.place e with
   |true=>rfl
   |false=>exact absurd ⟨e,he,z⟩ c
  -- slot e stands at place at most e
  have go:∀ e,e<=t.mask->e<=below t.place e:=by
   intro e
   induction e with
   |zero=>intro _;exact eu _
   |succ e ih =>
    intro he
    have h1:=mj T.up (all e (by exact ll ‹_›))
    have h2:=mj T.up (all (e+1) he)
    have:=ih (by exact ll ‹_›)
    obtain⟨_,b,c⟩:=aU T.up (e+1)
    by_cases z:below t.place e<below t.place (e+1)
    ·walk_at "s1"
    ·have:=c (below t.place e) (by exact Kj ‹_›) h1.1
     lia
  have:=go t.mask (bP _)
  have:=(mj T.up (all t.mask (bP _))).1
  lia
theorem TI.put(T:TI t es)(hj:j<=t.mask)(hn:taken t.place j=false)(hr:Reach t.mask t.place h j)(ht:t'.mask=t.mask)(hp:t'.place=insertAt t.place (below t.place j) j)(hd:t'.dummies = #[])
  (hf:(es.size+1)*5<t.mask*3):TI t' (insertAt es (below t.place j) (h,x)):=by
 have a:=(aU T.up j).1
 have a':below t.place j<=es.size:=by rw[<- T.sz];exact a
 refine⟨by rw[ht];exact T.pw,by rw[hp,bZ _ _ a,bZ _ _ a',T.sz],by rw[hp];exact DR T.up hn,fun i hi=>?_,hd,by rw[bZ _ _ a',ht];exact hf,fun i g y e=>?_⟩
 ·rw[hp,bZ _ _ a] at hi
  rw[hp,eN a,ht]
  split
  ·exact T.le i (by lia)
  ·split
   ·exact hj
   ·exact T.le (i-1) (by lia)
 ·have mono:∀ {g:Int} {k:Nat},Reach t.mask t.place g k->Reach t'.mask t'.place g k:=fun {g k} ⟨n,h1,h2,h3⟩=>⟨n,by rw[ht];exact h1,by rw[ht];exact h2,fun q hq=>by
   rw[hp,ht,zU T.up hn,h3 q hq,Bool.or_true]⟩
  rw[Ri es _ a'] at e
  rw[hp,eN a,<- hp]
  by_cases h1:i<below t.place j
  ·rw[if_pos h1] at e ⊢
   exact mono (T.path i g y e)
  ·rw[if_neg h1] at e ⊢
   by_cases h2:i=below t.place j
   ·rw[if_pos h2] at e ⊢
    cases e
    exact mono hr
   ·rw[if_neg h2] at e ⊢
    exact mono (T.path (i-1) g y e)
end
theorem dX[DecidableEq α]:∀ {l m:List α},l.Nodup->(∀ x∈l,x∈m)->l.length<=m.length
 |[],_,_,_=>eu _
 |x :: l,m,nd,h=>by
  rw[nE] at nd
  have hx:=h x dQ
  have:=dX (l:=l) (m:=m.erase x) nd.2 fun y hy=>(List.mem_erase_of_ne (fun e=>nd.1 (by rw[<- e];exact hy))).mpr (h y (dz _ hy))
  rw[List.length_erase_of_mem hx] at this
  have:0<m.length:=P6 hx
  simp only[pT];lia
def i7(owner:Array (Option Nat))(j:Nat):Bool:=(owner.getD j (some 0)).isSome
theorem tE(h:Int)(owner:Array (Option Nat)):∀ (fuel k:Nat),(∀ q<kc M h k,i7 owner (J M h q)=true)->(∃ K,k<=K/\K<k+fuel/\K<=M+13/\i7 owner (lp M h K).1=false) ->
  ∃ j n,layClean.free M owner fuel (lp M h k).1 (lp M h k).2=some j/\J M h n=j/\n<=10*(M+13)/\i7 owner j=false/\∀ q<n,i7 owner (J M h q)=true
 |0,k,_,⟨K,h1,h2,_⟩=>by lia
 |fuel+1,k,hq,⟨K,h1,h2,h3,h4⟩=>by
  have Vf:∀ r,r<=runEnd M (lp M h k).1-(lp M h k).1->J M h (kc M h k+r)=(lp M h k).1+r:=fun r hr=>by
   unfold J
   rw[yW M h (kc M h k) r (by rw[xF];exact hr),xF]
  have hle:=wM (Em M h k)
  have e:∀ r,(owner.getD ((lp M h k).1+r) (some 0)).isNone = !i7 owner ((lp M h k).1+r):=fun r=>by
   unfold i7;cases owner.getD ((lp M h k).1+r) (some 0)<;>rfl
  unfold layClean.free
  cases hf:(List.range (runEnd M (lp M h k).1+1-(lp M h k).1)).find? fun r=>(owner.getD ((lp M h k).1+r) (some 0)).isNone with
  |some r =>
   obtain⟨a1,a2,a3⟩:=List.find?_range_eq_some.mp hf
   have a2:r<runEnd M (lp M h k).1+1-(lp M h k).1:=by simpa using a2
   rw[e] at a1
   have a1:i7 owner ((lp M h k).1+r)=false:=by simpa using a1
   have occs:∀ q<kc M h k+r,i7 owner (J M h q)=true:=fun q Sj=>by
    by_cases z:q<kc M h k
    ·exact hq q z
    ·have:=a3 (q-kc M h k) (by lia)
     rw[e] at this
     have hj:=Vf (q-kc M h k) (by lia)
     rw[show kc M h k+(q-kc M h k)=q by lia] at hj
     rw[hj]
     simpa using this
   refine⟨_,kc M h k+r,rfl,Vf r (by lia),?_,a1,occs⟩
   have hb:=Bo M h K
   by_cases z:kc M h k+r<=kc M h K
   ·lia
   ·have:=occs (kc M h K) (by lia)
    rw[Hy,h4] at this;cases this
  |none =>
   have hn:=List.find?_eq_none.mp hf
   have af':∀ r,r<=runEnd M (lp M h k).1-(lp M h k).1->i7 owner ((lp M h k).1+r)=true:=fun r hr=>by
    have:=hn r (by simp;lia)
    rw[e] at this
    simpa using this
   dsimp only
   have hK:K≠k:=fun z=>by
    subst z
    have:=af' 0 (eu _)
    rw[FK,h4] at this;cases this
   refine tE h owner fuel (k+1) (fun q Sj=>?_) ⟨K,by lia,by lia,h3,h4⟩
   by_cases z:q<kc M h k
   ·exact hq q z
   ·have Sj:q<kc M h k+(runEnd M (lp M h k).1-(lp M h k).1)+1:=Sj
    have hj:=Vf (q-kc M h k) (by lia)
    rw[show kc M h k+(q-kc M h k)=q by lia] at hj
    rw[hj]
    exact af' _ (by lia)
structure OI(M:Nat)(hs:List Int)(owner:Array (Option Nat)):Prop where
 sz:owner.size=M+1
 lt:∀ j v:Nat,owner[j]? = some (some v)->v<hs.length
 inj:∀ j j' v:Nat,owner[j]? = some (some v)->owner[j']? = some (some v)->j=j'
 all:∀ v:Nat,v<hs.length->∃ j:Nat,owner[j]? = some (some v)
 path:∀ j v:Nat,owner[j]? = some (some v)->∃ n,n<=10*(M+13)/\J M (hs.getD v 0) n=j/\∀ q<n,i7 owner (J M (hs.getD v 0) q)=true
theorem uQ(h:j<owner.size):i7 owner j=true↔∃ v,owner[j]? = some (some v):=by
 unfold i7
 rw[x3 h]
 simp only[Array.getD,h,dite_true,Option.some.injEq]
 cases hh:owner[j] with
 |none =>
  have:owner.getInternal j h=none:=hh
  rw[this];simp
 |some v =>
  have:owner.getInternal j h=some v:=hh
  rw[this];simp
theorem OI.free(O:OI M hs owner)(hl:hs.length<=M):∃ e,e<=M/\i7 owner e=false:=by
 by_cases c:∃ e,e<=M/\i7 owner e=false
 ·exact c
 ·exfalso
  have all:∀ e,e<=M->∃ v,owner[e]? = some (some v):=fun e he=>by
   refine(uQ (by rw[O.sz];lia)).mp ?_
   cases z:i7 owner e with
   |true=>rfl
   |false=>exact absurd ⟨e,he,z⟩ c
  have nd:((List.range (M+1)).map fun j=>(owner.getD j none).getD 0).Nodup:=by
   rw[SW,zD]
   refine List.Pairwise.imp_of_mem ?_ (SW.mp List.nodup_range)
   intro a b ha hb ic z
   obtain⟨va,ea⟩:=all a (by have:=nI.mp ha;lia)
   obtain⟨vb,eb⟩:=all b (by have:=nI.mp hb;lia)
   rw[BU,BU,ea,eb] at z
   have z:va=vb:=z
   subst z
   exact ic (O.inj _ _ _ ea eb)
  have:=dX (m:=List.range hs.length) nd fun x hx=>by
   obtain⟨j,hj,rfl⟩:=dP.mp hx
   obtain⟨v,e⟩:=all j (by have:=nI.mp hj;lia)
   rw[BU,e]
   exact nI.mpr (O.lt _ _ e)
  simp at this
  lia
theorem OI.lay(hM:M+1=2 ^ m)(O:OI M hs owner)(hl:hs.length<=M)(h:Int) :
  ∃ j,layClean.free M owner (turns M) (bits h % (M+1)) (bits h)=some j/\OI M (hs++[h]) (owner.setIfInBounds j (some hs.length)):=by
 obtain⟨e,he,hf⟩:=O.free hl
 obtain⟨K,hK,hKe⟩:=cover hM h he
 obtain⟨j,n,e1,e2,e3,e4,e5⟩:=tE h owner (turns M) 0 (fun q hq=>absurd hq (DV q)) ⟨K,eu _,by unfold turns;lia,hK,by rw[hKe];exact hf⟩
 refine⟨j,e1,?_⟩
 have hj:j<owner.size:=by rw[O.sz,<- e2];exact FG (Si M h n)
 have get:∀ i,(owner.setIfInBounds j (some hs.length))[i]? = if j=i then some (some hs.length) else owner[i]? := fun i=>by
  rw[Array.getElem?_setIfInBounds]
  by_cases z:j=i
  ·subst z;simp[hj]
  ·simp[z]
 have oc:∀ i,i7 owner i=true->i7 (owner.setIfInBounds j (some hs.length)) i=true:=fun i hi=>by
  unfold i7 at hi ⊢
  rw[BU] at hi ⊢
  rw[get]
  split
  ·rfl
  ·exact hi
 have ic:∀ v,owner[j]?≠some (some v):=fun v z=>by
  have:=(uQ hj).mpr ⟨v,z⟩
  rw[e4] at this;cases this
 refine⟨by rw[Array.size_setIfInBounds];exact O.sz,fun i v z=>?_,fun i i' v z z'=>?_,fun v hv=>?_,fun i v z=>?_⟩
 ·rw[get] at z
  split at z
  ·cases z;simp
  ·have:=O.lt i v z;simp;lia
 ·rw[get] at z z'
  split at z
  ·cases z
   split at z'
   ·lia
   ·exact absurd (O.lt _ _ z') (rV _)
  ·split at z'
   ·cases z'
    exact absurd (O.lt _ _ z) (rV _)
   ·exact O.inj i i' v z z'
 ·simp at hv
  by_cases c:v=hs.length
  ·exact⟨j,by rw[get,if_pos rfl,c]⟩
  ·obtain⟨i,hi⟩:=O.all v (by lia)
   refine⟨i,?_⟩
   rw[get,if_neg (fun z=>ic v (by rw[z];exact hi))]
   exact hi
 ·rw[get] at z
  split at z
  ·rename_i hji
   cases z
   refine⟨n,e3,?_,fun q hq=>oc _ ?_⟩
   ·rw[vx,ub (bP _)]
    simp[e2,hji]
   ·have:=e5 q hq
    rw[vx,ub (bP _)]
    simpa using this
  ·have hv:=O.lt i v z
   obtain⟨n',a1,a2,a3⟩:=O.path i v z
   have eg:(hs++[h]).getD v 0=hs.getD v 0:=by
    rw[vx,vx,BH hv]
   rw[eg]
   exact⟨n',a1,a2,fun q hq=>oc _ (a3 q hq)⟩
theorem OI.nil(M:Nat):OI M [] (Array.replicate (M+1) none):=by
 have no:∀ (j v:Nat),¬ (Array.replicate (M+1) (none:Option Nat))[j]? = some (some v):=fun j v z=>by
  rw[Array.getElem?_replicate] at z
  split at z<;>cases z
 exact⟨by simp,fun j v z=>absurd z (no j v),fun j j' v z _=>absurd z (no j v),fun v hv=>absurd hv (DV v),fun j v z=>absurd z (no j v)⟩
theorem Ew(hM:M+1=2 ^ m)(hs:Array Int)(hl:hs.size<=M):∃ owner,layClean M hs=some owner/\OI M hs.toList owner:=by
 have go:∀ (l pre:List Int) (owner:Array (Option Nat)),OI M pre owner->pre.length+l.length<=M->∃ ag',l.foldl (fun acc h=>do
   let (owner,k) ← acc
   let j ← layClean.free M owner (turns M) (bits h % (M+1)) (bits h)
   pure (owner.setIfInBounds j (some k),k+1)) (some (owner,pre.length))=some (ag',pre.length+l.length)/\OI M (pre++l) ag':=by
  intro l
  induction l with
  |nil=>intro pre owner O _;exact⟨owner,rfl,by rw[mh];exact O⟩
  |cons h l ih =>
   intro pre owner O hz
   rw[pT] at hz
   obtain⟨j,e,O'⟩:=O.lay hM (by lia) h
   obtain⟨o2,e2,O2⟩:=ih (pre++[h]) _ O' (by simp;lia)
   refine⟨o2,?_,by rw[vF] at O2;exact O2⟩
   rw[QH]
   have:(do
    let (owner,k) ← (some (owner,pre.length):Option (Array (Option Nat) × Nat))
    let j ← layClean.free M owner (turns M) (bits h % (M+1)) (bits h)
    pure (owner.setIfInBounds j (some k),k+1))=some (owner.setIfInBounds j (some pre.length),(pre++[h]).length):=by
    simp[e]
   rw[this,e2]
   simp;lia
 obtain⟨o,e,O⟩:=go hs.toList [] _ (OI.nil M) (by simpa using hl)
 refine⟨o,?_,by simpa using O⟩
 unfold layClean
 rw[<- Array.foldl_toList]
 have e':=e
 simp only[QF] at e'
 rw[e']
 rfl
theorem kO:∀ (fuel a:Nat),3<=a->n<2 ^ (a+fuel)->∃ b,3<=b/\sizeAbove.go n fuel (2 ^ a)=2 ^ b/\n<2 ^ b/\(2 ^ b<=2*n\/b=a)
 |0,a,ha,h=>⟨a,ha,rfl,by simpa using h,.inr rfl⟩
 |fuel+1,a,ha,h=>by
  unfold sizeAbove.go
  by_cases c:2 ^ a<=n
  ·rw[if_pos c]
   obtain⟨b,h1,h2,h3,h4⟩:=kO fuel (a+1) (by lia) (by rw[show a+1+fuel=a+(fuel+1) by lia];exact h)
   refine⟨b,h1,by rw[xS] at h2;exact h2,h3,?_⟩
   rcases h4 with h4|h4
   ·exact .inl h4
   ·left
    rw[h4,xS];lia
  ·rw[if_neg c]
   exact⟨a,ha,rfl,by lia,.inr rfl⟩
theorem pC(h:n<2 ^ 60):∃ b,3<=b/\sizeAbove n=2 ^ b/\n<2 ^ b/\(2 ^ b<=2*n\/b=3) :=
 kO 64 3 (bP _) (Ti h (by decide))
section
variable {α:Type}
def bN(M:Nat)(owner:Array (Option Nat)):List (Nat × Nat):=(List.range (M+1)).filterMap fun j=>(owner.getD j none).map (j,·)
theorem gj:p∈bN M owner↔p.1<M+1/\owner[p.1]? = some (some p.2):=by
 unfold bN
 rw[S9]
 constructor
 ·rintro⟨j,hj,e⟩
  rw[BU] at e
  cases h:owner[j]? with
  |none=>rw[h] at e;cases e
  |some o =>
   rw[h] at e
   cases o with
   |none=>cases e
   |some v =>
    cases e
    exact⟨nI.mp hj,h⟩
 ·rintro⟨h1,h2⟩
  exact⟨p.1,nI.mpr h1,by rw[BU,h2];rfl⟩
theorem vL(M:Nat)(owner:Array (Option Nat)):((bN M owner).map (·.1)).Pairwise (· < ·):=by
 unfold bN
 rw[zD,List.pairwise_filterMap]
 refine List.Pairwise.imp ?_ List.pairwise_lt_range
 intro a b E5 p hp q hq
 cases h1:owner.getD a none with
 |none=>rw[h1] at hp;cases hp
 |some x =>
  cases h2:owner.getD b none with
  |none=>rw[h2] at hq;cases hq
  |some y =>
   rw[h1] at hp;rw[h2] at hq
   cases hp;cases hq
   exact E5
theorem wu{l:List Nat}(h:l.Pairwise (· < ·)):Up l.toArray:=fun i j kr hj=>by
 have hj:j<l.length:=by simpa using hj
 have:=I0.mp h i j (by walk_at "s1") hj kr
 have e:∀ k (hk:k<l.length),l.toArray.getD k 0=l[k]:=fun k hk=>by simp[Array.getD,hk]
 rw[e i (by walk_at "s1"),e j hj]
 exact this
theorem wD{β:Type}{f:α->Option β}:∀ {l:List α},(∀ x∈l,(f x).isSome=true)->(l.filterMap f).length=l.length/\∀ i:Nat,(l.filterMap f)[i]? = (l[i]?).bind f
 |[],_=>⟨rfl,fun i=>by simp⟩
 |x :: l,h=>by
  obtain⟨a,b⟩:=wD (f:=f) (l:=l) fun y hy=>h y (dz _ hy)
  have hx:=h x dQ
  cases e:f x with
  |none=>rw[e] at hx;cases hx
  |some y =>
   rw[xD,e]
   refine⟨by simp[a],fun i=>?_⟩
   cases i with
   |zero=>simp[e]
   |succ i=>simpa using b i
theorem xJ(es:Array (Int × α)):(List.range es.size).filterMap (fun i=>es[i]?)=es.toList:=by
 apply DT
 intro i
 rw[(wD (l:=List.range es.size) fun x hx=>by
  have:=nI.mp hx
  simp[this]).2 i]
 by_cases h:i<es.size
 ·rw[Qb h,og];rfl
 ·rw[xC (by simpa using h),xC (by simpa using h)];rfl
theorem Fe{M m finger moves:Nat}{led plain:Bool}(hM:M+1=2 ^ m)(hm:3<=m){es:Array (Int × α)}(hf:es.size*5<M*3) :
  ∃ t order,laid M finger moves led plain (es.map (·.1))=some (t,order)/\t.plain=plain/\t.led=led/\t.mask=M/\TI t (order.filterMap fun i=>es[i]?)/\(order.filterMap fun i=>es[i]?).size=es.size/\(order.filterMap fun i=>es[i]?).toList.Perm es.toList/\order.toList.Perm (List.range es.size):=by
 obtain⟨owner,e,O⟩:=Ew hM (es.map (·.1)) (by rw[Array.size_map];lia)
 have hn:(es.map (·.1)).toList.length=es.size:=by simp
 refine⟨{ mask:=M,place:=((bN M owner).map (·.1)).toArray,dummies:=#[],finger,led,moves,plain },((bN M owner).map (·.2)).toArray,?_,rfl,rfl,rfl,?_⟩
 ·unfold laid
  rw[e];rfl
 have vlt:∀ p∈bN M owner,p.2<es.size:=fun p hp=>by
  have:=O.lt _ _ (gj.mp hp).2
  lia
 have nd:((bN M owner).map (·.2)).Nodup:=by
  rw[SW,zD]
  have:=vL M owner
  rw[zD] at this
  refine List.Pairwise.imp_of_mem ?_ this
  intro p q hp hq fi z
  have:=O.inj _ _ _ (gj.mp hp).2 (by rw[z];exact(gj.mp hq).2)
  lia
 have pm:((bN M owner).map (·.2)).Perm (List.range es.size):=by
  refine(List.perm_ext_iff_of_nodup nd List.nodup_range).mpr fun v=>⟨fun hv=>?_,fun hv=>?_⟩
  ·obtain⟨p,hp,rfl⟩:=dP.mp hv
   exact nI.mpr (vlt p hp)
  ·obtain⟨j,hj⟩:=O.all v (by rw[hn];exact nI.mp hv)
   have hjs:=(FP.mp hj).1
   rw[O.sz] at hjs
   exact dP.mpr ⟨(j,v),gj.mpr ⟨hjs,hj⟩,rfl⟩
 have hlen:(bN M owner).length=es.size:=by
  have:=pm.length_eq
  simpa using this
 have Bi:(((bN M owner).map (·.2)).toArray.filterMap fun i=>es[i]?).toList=(bN M owner).filterMap fun p=>es[p.2]? := by
  rw[Array.toList_filterMap,S_];rfl
 obtain⟨f1,f2⟩:=wD (l:=bN M owner) (f:=fun p=>es[p.2]?) fun p hp=>by simp[vlt p hp]
 have hN':∀ i:Nat,(((bN M owner).map (·.2)).toArray.filterMap fun i=>es[i]?)[i]? = ((bN M owner)[i]?).bind fun p=>es[p.2]? := fun i=>by
  rw[<- og,Bi];exact f2 i
 have fN:(((bN M owner).map (·.2)).toArray.filterMap fun i=>es[i]?).size=es.size:=by
  rw[<- uk,Bi,f1,hlen]
 have ja:∀ i:Nat,∀ p,(bN M owner)[i]? = some p->((bN M owner).map (·.1)).toArray.getD i 0=p.1:=fun i p hp=>by
  rw[BU]
  simp[hp]
 have tk:∀ j,i7 owner j=true->j<=M->taken ((bN M owner).map (·.1)).toArray j=true:=fun j hj hM'=>by
  obtain⟨v,hv⟩:=(uQ (by rw[O.sz];exact FG ‹_›)).mp hj
  obtain⟨i,hi⟩:=JA.mp (gj.mpr (show((j,v):Nat × Nat).1<M+1/\owner[((j,v):Nat × Nat).1]? = some (some ((j,v):Nat × Nat).2) from⟨by show j<M+1;exact FG ‹_›,hv⟩))
  exact(gH (wu (vL M owner))).mpr ⟨i,by
   have:=(lh.mp hi).1
   simpa using this,ja i _ hi⟩
 refine⟨?_,fN,?_,by simpa using pm⟩
 ·refine⟨⟨m,hM,hm⟩,?_,wu (vL M owner),fun i hi=>?_,rfl,by rw[fN];exact hf,fun i h x hx=>?_⟩
  ·rw[fN];simp[hlen]
  ·have hi:i<(bN M owner).length:=by simpa using hi
   have e1:=vE hi
   show((bN M owner).map (·.1)).toArray.getD i 0<=M
   rw[ja i _ e1]
   have:=(gj.mp (ui e1)).1
   lia
  ·rw[hN'] at hx
   cases hp:(bN M owner)[i]? with
   |none=>rw[hp] at hx;cases hx
   |some p =>
    rw[hp] at hx
    have hx:es[p.2]? = some (h,x):=hx
    have hm':=gj.mp (ui hp)
    obtain⟨n,a1,a2,a3⟩:=O.path _ _ hm'.2
    have hh:(es.map (·.1)).toList.getD p.2 0=h:=by
     rw[vx,og,Array.getElem?_map,hx];rfl
    rw[hh] at a2 a3
    refine⟨n,a1,?_,fun q hq=>tk _ (a3 q hq) (Si M h q)⟩
    show J M h n=((bN M owner).map (·.1)).toArray.getD i 0
    rw[ja i _ hp];exact a2
 ·rw[Bi]
  have:=pm.filterMap fun i=>es[i]?
  rw[xJ,S_] at this
  exact this
theorem tM{t:SetTable}{es:Array (Int × α)}(hn:es.size<=10000) :
  ∃ t' order,t.relaid (es.map (·.1)) (grown es.size)=some (t',order)/\t'.plain=t.plain/\t'.led=t.led/\sizeAbove (grown es.size)<=16777216/\(es.size<=1000->t'.mask<=8191)/\TI t' (order.filterMap fun i=>es[i]?)/\(order.filterMap fun i=>es[i]?).size=es.size/\(order.filterMap fun i=>es[i]?).toList.Perm es.toList/\order.toList.Perm (List.range es.size):=by
 have hg:grown es.size=es.size*4:=by unfold grown;rw[if_neg (by lia)]
 obtain⟨b,h3,e,fi,hle⟩:=pC (n:=es.size*4) (by lia)
 have h8:8<=2 ^ b:=Nat.pow_le_pow_right (n:=2) (by decide) h3
 unfold relaid
 rw[hg,e]
 obtain⟨t',order,q1,q2,q3,qm,q4⟩:=Fe (M:=2 ^ b-1) (m:=b) (finger:=t.finger) (moves:=t.movedTo (2 ^ b-1)) (led:=t.led) (plain:=t.plain) (by lia) h3 (es:=es) (by lia)
 refine⟨t',order,q1,q2,q3,?_,fun hz=>?_,q4⟩
 ·rcases hle with hle|rfl
  ·lia
  ·decide
 ·rw[qm]
  rcases hle with hle|rfl
  ·lia
  ·decide
end
section
variable {α:Type}{t:SetTable}{es:Array (Int × α)}
theorem rK(T:TI t es)(hashAt:Nat->Int)(h:Int):∀ (fuel n:Nat),(∃ N,n<=N/\N<n+fuel/\taken t.place (J t.mask h N)=false) ->
  ∃ n',n<=n'/\n'<n+fuel/\(∀ q,n<=q->q<n'->taken t.place (J t.mask h q)=true/\hashAt (below t.place (J t.mask h q))≠h) /\
   ((taken t.place (J t.mask h n')=false/\probe.go t hashAt h fuel (ps t.mask h n)=some (.empty (J t.mask h n') none)) \/
    (taken t.place (J t.mask h n')=true/\hashAt (below t.place (J t.mask h n'))=h/\probe.go t hashAt h fuel (ps t.mask h n)=some (.candidate (J t.mask h n') (below t.place (J t.mask h n')) (ps t.mask h (n'+1)))))
 |0,n,⟨N,h1,h2,_⟩=>by lia
 |fuel+1,n,⟨N,h1,h2,h3⟩=>by
  unfold probe.go
  have hs:=T.slot (J t.mask h n)
  have hd:=(G9 t.mask h n).2.2.1
  by_cases c:taken t.place (J t.mask h n)=true
  ·rw[if_pos c] at hs
   have hs:t.slot (ps t.mask h n).j=.live (below t.place (J t.mask h n)):=hs
   rw[hs]
   dsimp only
   by_cases e:hashAt (below t.place (J t.mask h n))=h
   ·rw[if_pos (by simpa using e)]
    exact⟨n,bP _,by lia,fun q a b=>by lia,.inr ⟨c,e,rfl⟩⟩
   ·rw[if_neg (by simpa using e)]
    have hN:N≠n:=fun z=>by rw[z,c] at h3;cases h3
    obtain⟨n',a1,a2,a3,a4⟩:=rK T hashAt h fuel (n+1) ⟨N,by lia,by lia,h3⟩
    refine⟨n',by exact ll ‹_›,by lia,fun q b1 b2=>?_,a4⟩
    by_cases z:q=n
    ·subst z;exact⟨c,e⟩
    ·exact a3 q (by lia) b2
  ·have c:taken t.place (J t.mask h n)=false:=by simpa using c
   rw[if_neg (by rw[c];exact kA)] at hs
   have hs:t.slot (ps t.mask h n).j=.empty:=hs
   rw[hs]
   dsimp only
   rw[hd]
   exact⟨n,bP _,by lia,fun q a b=>by lia,.inl ⟨c,rfl⟩⟩
end
section
variable {prog:Program}{w:World}{K:Type}[DecidableEq K]{knd:KeyKind prog w K}
abbrev aV(knd:KeyKind prog w K)(k:List K):Int:=tupleKeyHash knd k
def CK(knd:KeyKind prog w K)(p:List K × Addr):Int × Value:=(aV knd p.1,.ref p.2)
structure HZ(knd:KeyKind prog w K)(h:Heap)(a:Addr)(ks:List (List K × Addr)):Prop where
 ob:∃ o es ep t,h.get? a=some o/\o.ExactSet/\o.data=.set es ep t/\TI t es/\t.mask<=8191/\t.led=(!w.params.followText "set-order")/\es.toList=ks.map (CK knd)
 nd:(ks.map (·.1)).Nodup
 is:∀ p∈ks,IsTupleKey knd h p.1 p.2
variable {A:Around}{E:Value->Shared->Prop}{s:Shared}
theorem nP(hk:IsTupleKey knd s.heap k a)(h:Q false s):wpAny (model prog w) A (ofAClassStatement 8 (.ref a)) Q E s:=by
 have hT:=hk.typeIs
 obtain⟨o,items,n,ho,_,hd,hi⟩:=hk
 unfold ofAClassStatement
 refine ai (wpAny_typeOf hT ?_)
 dsimp only
 refine ai ?_
 refine ay ?_
 simp only[QR,iL,if_false]
 refine ai (wpAny_seqItems ho hd ?_)
 dsimp only
 refine ai ?_
 rw[<- Array.forIn_toList]
 refine wpAny_forIn_list _ (fun rest r s'=>r.1=none/\s'=s/\∀ v∈rest,carriedByValue v=true) _ ?_ ?_ _ _ ⟨rfl,rfl,hi.byValue⟩
 ·rintro v rest r s' ⟨hr,rfl,oS⟩
  have hv:=oS v dQ
  have e:ofAClassStatement 7 v=pure false:=by
   cases v with
   |ref a=>cases hv
   |_=>rfl
  rw[e]
  refine ai (ay ?_)
  simp only[iL,if_false]
  exact ay ⟨rfl,rfl,fun u E6=>oS u (dz _ E6)⟩
 ·rintro⟨r1,r2⟩ s' ⟨hr,rfl,_⟩
  simp only at hr
  subst hr
  exact ay h
theorem jT(hk:IsTupleKey knd s.heap k a)(rh:∀ k v,knd.is k v=true->v.scannable=true)(h:∀ b,Q b s):wpAny (model prog w) A (hashByValue 8 (.ref a)) Q E s:=by
 have hT:=hk.typeIs
 obtain⟨o,items,n,ho,_,hd,hi⟩:=hk
 have hQ':∀ v∈items.toList,v.scannable=true:=by
  clear ho hd
  generalize items.toList=l at hi
  induction hi with
  |nil=>intro v hv;cases hv
  |cons h1 _ ih =>
   intro v hv
   rcases dA.mp hv with rfl|hv
   ·exact rh _ _ h1
   ·exact ih v hv
 unfold hashByValue
 refine ai (wpAny_specialOf hT F.slot_tuple_hash.lookup ?_)
 dsimp only
 refine ai (wpAny_seqItems ho hd ?_)
 dsimp only[Option.getD]
 refine ai ?_
 rw[<- Array.forIn_toList]
 refine wpAny_forIn_list _ (fun rest r s'=>s'=s/\∀ v∈rest,v.scannable=true) _ ?_ ?_ _ _ ⟨rfl,hQ'⟩
 ·rintro v rest r s' ⟨rfl,oS⟩
  rw[hashByValue_scannable 7 (oS v dQ)]
  refine ai (ay ?_)
  split
  ·exact ay (ay (h _))
  ·exact ay ⟨rfl,fun u E6=>oS u (dz _ E6)⟩
 ·rintro⟨r1,r2⟩ s' ⟨rfl,_⟩
  cases r1 with
  |none=>exact ay (h true)
  |some b=>exact ay (h b)
end
local macro_rules | `(tactic| walk_at $s:str) => do
 let x:=s.getString
 if x.startsWith "PV" then `(tactic| exact $(Lean.mkIdent (.str (.str (.num (.str (.str (.str .anonymous "_private") "PySem") "SetOps") 0) "PySem") (x.drop 2).toString)))
 else Lean.Macro.throwUnsupported
abbrev zW:Array (Int × Value)->Nat->Int:=by walk_at "PVstoredHashAt"
abbrev F_:Array (Int × Value)->Option (SetTable × Array Nat)->Sem (Array (Int × Value) × SetTable):=by walk_at "PVreordered"
abbrev rT:Array (Int × Value)->SetTable->Bool:=by walk_at "PVdrawn"
abbrev J7:Array (Int × Value)->SetTable->Sem Unit:=by walk_at "PVmustBeLedForItsPlaces"
abbrev Jb:Bool->Sem Unit:=by walk_at "PVgaveWayHere"
def vA:Array (Int × Value)->Nat->Int:=zW
theorem uG(es:Array (Int × Value))(i:Nat):vA es i=(es[i]?.map (·.1)).getD 0:=rfl
section
variable {prog:Program}{w:World}{K:Type}[DecidableEq K]{knd:KeyKind prog w K}{A:Around}{E:Value->Shared->Prop}{s:Shared}
theorem yp(hk:IsTupleKey knd s.heap k a)(hy:∀ y∈ys,∃ k' b,y=.ref b/\IsTupleKey knd s.heap k' b)(h:Q false s):wpAny (model prog w) A (searchCouldBeSeen (.ref a) ys) Q E s:=by
 unfold searchCouldBeSeen
 refine ai ?_
 refine wpAny_forIn_list _ (fun rest r s'=>r.1=none/\s'=s/\∀ y∈rest,∃ k' b,y=.ref b/\IsTupleKey knd s.heap k' b) _ ?_ ?_ _ _ ⟨rfl,rfl,hy⟩
 ·rintro y rest r s' ⟨hr,rfl,oS⟩
  obtain⟨k',b,rfl,hb⟩:=oS y dQ
  have go:∀ (P:Prop),P->P:=fun _ p=>p
  dsimp only
  split
  ·exact ay ⟨rfl,rfl,fun u E6=>oS u (dz _ E6)⟩
  ·refine ai (wpAny_eqIsQuiet_tuple hk ?_)
   simp only[QR,iL,if_false]
   refine ai (wpAny_eqIsQuiet_tuple hb ?_)
   simp only[QR,iL,if_false]
   refine ai (nP hk ?_)
   simp only[iL,if_false]
   refine ai (nP hb ?_)
   simp only[iL,if_false]
   exact ay ⟨rfl,rfl,fun u E6=>oS u (dz _ E6)⟩
 ·rintro⟨r1,r2⟩ s' ⟨hr,rfl,_⟩
  simp only at hr
  subst hr
  exact ay h
theorem K7{K G:Prop}(pk:K)(h:K->G):G:=h pk
theorem tX{a x:Addr}{k:List K}{ks:List (List K × Addr)}{o:Obj}{es:Array (Int × Value)}{ep:Nat}{t:SetTable}(hu:A.units<cLine)(ho:s.heap.get? a=some o)(hd:o.data=.set es ep t)(T:TI t es)(he:es.toList=ks.map (CK knd))
  (oz:∀ p∈ks,IsTupleKey knd s.heap p.1 p.2) (hx:IsTupleKey knd s.heap k x) {Q:SetFound->Shared->Prop} (aj':k∈ks.map (·.1)->Q (.there none) s)
  (nf:Nat) (hnf:nf<=10*(t.mask+13)) (Cb:taken t.place (J t.mask (aV knd k) nf)=false) (hbf:∀ q<nf,taken t.place (J t.mask (aV knd k) q)=true)
  (Ro:k∉ks.map (·.1)->Q (.free (J t.mask (aV knd k) nf) false) s) :
  ∀ (fuel n:Nat) (stand:Option Probe),stand.getD (t.probeStart (aV knd k))=ps t.mask (aV knd k) n->n<=nf->nf<n+fuel ->
   (∀ q<n,∀ p,ks[below t.place (J t.mask (aV knd k) q)]? = some p->p.1≠k)->wpAny (model prog w) A (setSearchFrom a (.ref x) (aV knd k) true fuel stand) Q E s
 |0,n,stand,_,h1,h2,_=>by lia
 |fuel+1,n,stand,lI,h1,h2,hq=>by
  have Ic:∀ i:Nat,es[i]? = (ks[i]?).map (CK knd):=fun i=>by rw[<- og,he,kf]
  unfold setSearchFrom
  refine ai (wpAny_setState_of ho hd T.fits ?_)
  dsimp only
  rw[if_neg (by rw[T.odd];exact kA)]
  obtain⟨n',a1,a2,a3,a4⟩:=rK T (vA es) (aV knd k) (10*turns t.mask) n ⟨nf,h1,by unfold turns;lia,Cb⟩
  have FU:n'<=nf:=by
   by_cases z:n'<=nf
   ·exact z
   ·have:=(a3 nf h1 (by exact Nat.lt_of_not_le ‹_›)).1
    rw[Cb] at this;cases this
  rcases a4 with⟨c1,c2⟩|⟨c1,c2,c3⟩
  ·have c2:t.probe (vA es) (aV knd k) (stand.getD (t.probeStart (aV knd k)))=some (.empty (J t.mask (aV knd k) n') none):=by rw[lI];exact c2
   have e:n'=nf:=by
    by_cases z:n'<nf
    ·have:=hbf n' z
     rw[c1] at this;cases this
    ·lia
   have c2:t.probe (zW es) (aV knd k) (stand.getD (t.probeStart (aV knd k)))=some (.empty (J t.mask (aV knd k) n') none):=c2
   rw[c2]
   dsimp only
   rw[e]
   refine ay (Ro fun hm=>?_)
   obtain⟨p,hp,rfl⟩:=dP.mp hm
   obtain⟨i,hi⟩:=JA.mp hp
   have ei:es[i]? = some (aV knd p.1,.ref p.2):=by rw[Ic,hi];rfl
   have al':i<t.place.size:=by rw[T.sz];exact(FP.mp ei).1
   obtain⟨ni,b1,b2,b3⟩:=T.path i _ _ ei
   have bt:below t.place (J t.mask (aV knd p.1) ni)=i:=by rw[b2];exact below_at T.up al'
   have tk:taken t.place (J t.mask (aV knd p.1) ni)=true:=by rw[b2];exact(gH T.up).mpr ⟨i,al',rfl⟩
   have fi:ni<nf:=by
    by_cases z:nf<ni
    ·have:=b3 nf z
     rw[Cb] at this;cases this
    ·have:ni≠nf:=fun z=>by rw[z,Cb] at tk;cases tk
     lia
   by_cases z:ni<n
   ·exact hq ni z p (by rw[bt];exact hi) rfl
   ·refine(a3 ni (by exact Kj ‹_›) (by lia)).2 ?_
    rw[bt,uG,ei];rfl
  ·have c3:t.probe (zW es) (aV knd k) (stand.getD (t.probeStart (aV knd k)))=some (.candidate (J t.mask (aV knd k) n') (below t.place (J t.mask (aV knd k) n')) (ps t.mask (aV knd k) (n'+1))):=by rw[lI];exact c3
   rw[c3]
   dsimp only
   have tk:=mj T.up c1
   have kP:t.slot (J t.mask (aV knd k) n')=.live (below t.place (J t.mask (aV knd k) n')):=by rw[T.slot,if_pos c1]
   generalize hi:below t.place (J t.mask (aV knd k) n')=i at tk c2 kP ⊢
   have hil:i<es.size:=by rw[<- T.sz];exact tk.1
   obtain⟨p,hp⟩:∃ p,ks[i]? = some p:=by
    have:i<ks.length:=by
     have:=congrArg List.length he
     simp at this;lia
    exact⟨_,vE this⟩
   have ei:es[i]? = some (aV knd p.1,.ref p.2):=by rw[Ic,hp];rfl
   have hpm:=ui hp
   have ic:n'≠nf:=fun z=>by rw[z,Cb] at c1;cases c1
   have again:¬ p.1=k->wpAny (model prog w) A (setSearchFrom a (.ref x) (aV knd k) true fuel (some (ps t.mask (aV knd k) (n'+1)))) Q E s:=fun hpk =>
    tX hu ho hd T he oz hx aj' nf hnf Cb hbf Ro fuel (n'+1) (some (ps t.mask (aV knd k) (n'+1))) rfl (by lia) (by lia) fun q Sj p' gd=>by
     by_cases z:q<n
     ·exact hq q z p' gd
     ·by_cases z2:q=n'
      ·subst z2
       rw[hi,hp] at gd
       cases gd
       exact hpk
      ·intro e'
       have:=(a3 q (by exact Kj ‹_›) (by lia)).2
       refine this ?_
       rw[uG,Ic,gd]
       show aV knd p'.1=_
       rw[e']
   have cK:p.1=k->k∈ks.map (·.1):=fun e=>e ▸ dP.mpr ⟨p,hpm,rfl⟩
   have seen:∀ y∈List.map (fun x=>x.snd) (Array.filter (fun x=>x.fst == aV knd k) es).toList,∃ k' b,y=.ref b/\IsTupleKey knd s.heap k' b:=fun y hy=>by
    obtain⟨e',RN,rfl⟩:=dP.mp hy
    rw[Array.toList_filter] at RN
    have:=(xI.mp RN).1
    rw[he] at this
    obtain⟨p',gd,rfl⟩:=dP.mp this
    exact⟨p'.1,p'.2,rfl,oz p' gd⟩
   refine K7 ?pk (K:=?K) fun key=>?main
   case main =>
    split
    ·refine ai (yp hx seen ?_)
     rw[if_neg kA]
     exact key
    ·exact key
   rw[ei]
   dsimp only
   refine ai (wpAny_holding (wpAny_eqBool_tuple hu (oz p hpm) hx ?_))
   refine ai (wpAny_setState_of ho hd T.fits ?_)
   dsimp only
   by_cases e:p.1=k
   ·rw[if_pos (by simp[e])]
    exact ay (aj' (cK e))
   ·rw[if_neg (by simp[e])]
    have UJ:t.sameMemory t.moves t.mask=some true:=by unfold sameMemory;rw[if_pos (by simp)]
    rw[UJ]
    dsimp only
    rw[if_pos rfl,kP]
    dsimp only
    rw[ei]
    dsimp only
    refine ai (m:=isSame (.ref p.2) (.ref p.2)) ?_
    unfold isSame
    dsimp only
    rw[if_pos (by simp)]
    refine ay (ai (ay ?_))
    rw[if_pos rfl]
    dsimp only
    rw[if_neg (by simp[e])]
    exact again e
end
theorem lq:∀ {l l2:List β},l.Perm l2->∀ {m:List α},l2=m.map f->∃ m':List α,l=m'.map f/\m'.Perm m:=by
 intro l l2 p
 induction p with
 |nil=>intro m e;exact⟨m,by rw[<- e],.refl _⟩
 |cons x _ ih =>
  intro m e
  cases m with
  |nil=>cases e
  |cons y m =>
   simp only[iF,List.cons.injEq] at e
   obtain⟨m',e1,p1⟩:=ih e.2
   exact⟨y :: m',by rw[iF,<- e1,e.1],p1.cons _⟩
 |swap x y l =>
  intro m e
  match m,e with
  |a :: b :: m,e =>
   simp only[iF,List.cons.injEq] at e
   exact⟨b :: a :: m,by simp[e.1,e.2.1,e.2.2],.swap ..⟩
 |trans _ _ ih1 UY =>
  intro m e
  obtain⟨m',e1,p1⟩:=UY e
  obtain⟨m2,e2,p2⟩:=ih1 e1
  exact⟨m2,e2,p2.trans p1⟩
theorem pZ(xs:Array α)(p:Nat)(x:α):(insertAt xs p x).toList=xs.toList.take p++x :: xs.toList.drop p:=by
 unfold insertAt
 simp
 rw[P5 (by simp)]
theorem tO(hz:(order.filterMap fun i=>es[i]?).size=es.size)
  (h:Q (order.filterMap fun i=>es[i]?,t) s):wpAny (model prog w) A (F_ es (some (t,order))) Q E s:=by
 show wpAny _ _ (if ((order.filterMap fun i=>es[i]?).size != es.size)=true then (do unsupported "internal:set-table-lost-an-element";pure (order.filterMap fun i=>es[i]?,t)) else pure (order.filterMap fun i=>es[i]?,t)) _ _ _
 rw[if_neg (by simp[hz])]
 exact ay h
section
variable {prog:Program}{w:World}{K:Type}[DecidableEq K]{knd:KeyKind prog w K}{A:Around}{E:Value->Shared->Prop}{s:Shared}
theorem IsTupleKey.gi(hk:IsTupleKey knd h k a)(e:∀ o,h.get? a=some o->h'.get? a=some o):IsTupleKey knd h' k a:=by
 obtain⟨o,items,n,ho,r⟩:=hk
 exact⟨o,items,n,e o ho,r⟩
theorem HZ.ne(S:HZ knd h a ks)(hx:IsTupleKey knd h k x):x≠a:=by
 obtain⟨⟨o,es,ep,t,ho,hex,_⟩,_,_⟩:=S
 obtain⟨o',items,n,kL,hc,_⟩:=hx
 intro z
 subst z
 rw[ho] at kL
 cases kL
 rw[hex.1] at hc
 exact absurd hc (by decide)
theorem Iu(S:HZ knd s.heap a ks)(hx:IsTupleKey knd s.heap k x)(hz:ks.length<1000)(hu:A.units<cLine)(rh:∀ k v,knd.is k v=true->v.scannable=true)
  (h:∀ (b:Bool) (h':Heap) (dv:List (List K × Addr)),Heap.SameBut a s.heap h'->HZ knd h' a dv->(k∈ks.map (·.1)/\dv=ks\/k∉ks.map (·.1)/\dv.Perm ((k,x) :: ks))->Q b { s with heap:=h' }) :
  wpAny (model prog w) A (setAddHashed a (.ref x) (aV knd k)) Q E s:=by
 obtain⟨⟨o,es,ep,t,ho,hex,hd,T,hM,hL,he⟩,nd,is⟩:=id S
 have hlen:es.size=ks.length:=by
  have:=congrArg List.length he
  simpa using this
 obtain⟨m,hm,_⟩:=T.pw
 obtain⟨e0,Vg,Vh⟩:=T.free
 obtain⟨nf,n1,n2,n3⟩:=pY hm (aV knd k) (taken t.place) Vg Vh
 unfold setAddHashed setAddHashedIn
 refine wpAny_holding (ai (wpAny_setState_of ho hd T.fits ?_))
 dsimp only
 have hbs:byScan (.ref x) es=false:=by simp[byScan,Value.scannable]
 rw[hbs]
 simp only[iL,if_false]
 refine ai ?_
 unfold setSearch
 refine tX hu ho hd T he is hx (fun cK=>?_) nf n1 n2 n3 (fun AZ=>?_) 100000 0 none rfl (eu _) (by lia) fun q hq=>absurd hq (DV q)
 ·dsimp only
  refine ay ?_
  have e:s={ s with heap:=s.heap }:=by cases s;rfl
  rw[e]
  exact h _ _ ks (Heap.SameBut.refl a s.heap) S (.inl ⟨cK,rfl⟩)
 ·dsimp only
  generalize hj:J t.mask (aV knd k) nf=j at n2 ⊢
  have Vi:j<=t.mask:=by rw[<- hj];exact Si ..
  have Vj:Reach t.mask t.place (aV knd k) j:=⟨nf,n1,hj,n3⟩
  refine ai (wpAny_setState_of ho hd T.fits ?_)
  dsimp only
  have Vk:t.put j=({ t with place:=insertAt t.place (below t.place j) j,dummies:=#[] },below t.place j):=by
   unfold SetTable.put
   have:has t.dummies j=false:=by rw[T.dm];rfl
   simp only[this,iL,if_false]
   rw[T.dm]
  rw[Vk]
  dsimp only
  have cK:(insertAt es (below t.place j) (aV knd k,.ref x)).toList=(ks.take (below t.place j)++(k,x) :: ks.drop (below t.place j)).map (CK knd):=by
   rw[pZ,he,oD,iF,List.map_take,List.map_drop];rfl
  have tS:(ks.take (below t.place j)++(k,x) :: ks.drop (below t.place j)).Perm ((k,x) :: ks):=by
   refine List.perm_middle.trans ?_
   rw[Fu]
  have Dx:below t.place j<=es.size:=by rw[<- T.sz];exact(aU T.up j).1
  have y9:(insertAt es (below t.place j) (aV knd k,Value.ref x)).size=es.size+1:=bZ _ _ Dx
  have hxa:=S.ne hx
  have OO:∀ h',Heap.SameBut a s.heap h'->∀ dv:List (List K × Addr),dv.Perm ((k,x) :: ks)->∀ p∈dv,IsTupleKey knd h' p.1 p.2:=fun h' sb dv pm p hp=>by
   have:IsTupleKey knd s.heap p.1 p.2:=by
    rcases dA.mp (pm.mem_iff.mp hp) with rfl|hp
    ·exact hx
    ·exact is p hp
   exact IsTupleKey.gi this fun o' kL=>sb.extBut _ _ (S.ne this) kL
  have OQ:∀ dv:List (List K × Addr),dv.Perm ((k,x) :: ks)->(dv.map (·.1)).Nodup:=fun dv pm=>by
   rw[(pm.map _).nodup_iff,iF,nE]
   exact⟨AZ,nd⟩
  -- behind the flag
  have main:∀ pl:Bool,wpAny (model prog w) A (do
    storeSet a (insertAt es (below t.place j) (aV knd k,.ref x)) { t with place:=insertAt t.place (below t.place j) j,dummies:=#[],plain:=pl }
    if (!false && ({ t with place:=insertAt t.place (below t.place j) j,dummies:=#[],plain:=pl }:SetTable).tooFull)=true then do
      setRelay a (grown (es.size+1))
      pure true
     else pure true) Q E s:=fun pl=>by
   generalize OS:({ t with place:=insertAt t.place (below t.place j) j,dummies:=#[],plain:=pl }:SetTable)=t'
   have tm:t'.mask=t.mask:=by rw[<- OS]
   have tp:t'.place=insertAt t.place (below t.place j) j:=by rw[<- OS]
   have td:t'.dummies = #[]:=by rw[<- OS]
   have Sn:t'.fill=es.size+1:=by
    unfold SetTable.fill
    rw[tp,td,bZ _ _ (aU T.up j).1,T.sz];simp
   refine ai (wpAny_storeSet_of ho hd ?_ (by rw[y9,sizeLine_eq];lia))
   have sj:(s.heap.update a (Obj.putSet (insertAt es (below t.place j) (aV knd k,.ref x)) t')).get? a=some { o with data:=.set (insertAt es (below t.place j) (aV knd k,.ref x)) (ep+1) t' }:=by
    have:=BQ (Obj.putSet (insertAt es (below t.place j) (aV knd k,.ref x)) t') ho (by rw[putSet_of _ _ hd];rfl)
    rw[putSet_of _ _ hd] at this;exact this
   have sL:=Heap.SameBut.update s.heap a (Obj.putSet (insertAt es (below t.place j) (aV knd k,.ref x)) t')
   by_cases c:t'.tooFull=true
   ·rw[if_pos (by rw[c];rfl)]
    have R8:t'.fits (insertAt es (below t.place j) (aV knd k,Value.ref x)).size=true:=by
     have:=T.few
     simp only[SetTable.fits,Sn,ly,beq_iff_eq,decide_eq_true_eq]
     rw[tp,bZ _ _ (aU T.up j).1,y9,T.sz,tm]
     exact⟨rfl,by lia⟩
    obtain⟨t2,order,r1,r2,r3,r4,r5,r6,r7,r8,_⟩:=tM (t:=t') (es:=insertAt es (below t.place j) (aV knd k,Value.ref x)) (by lia)
    rw[y9] at r1 r4
    unfold setRelay
    refine ai (ai (wpAny_setState_of sj rfl R8 ?_))
    dsimp only
    rw[if_neg (by rw[sizeLine_eq];lia)]
    refine ai ?_
    rw[r1]
    obtain⟨dv,ek,pk⟩:=lq r8 cK
    refine tO r7 ?_
    dsimp only
    refine wpAny_storeSet_of sj rfl ?_ (by rw[r7,y9,sizeLine_eq];lia)
    refine ay ?_
    have DB:=sL.trans (Heap.SameBut.update _ a (Obj.putSet (order.filterMap fun i=>(insertAt es (below t.place j) (aV knd k,Value.ref x))[i]?) t2))
    have ti:=BQ (Obj.putSet (order.filterMap fun i=>(insertAt es (below t.place j) (aV knd k,Value.ref x))[i]?) t2) sj (by rw[putSet_of _ _ rfl];rfl)
    rw[putSet_of _ _ rfl] at ti
    exact h true _ dv DB ⟨⟨_,_,_,_,ti,hex,rfl,r6,r5 (by lia),by rw[r3,<- OS];exact hL,ek⟩,OQ dv (pk.trans tS),OO _ DB dv (pk.trans tS)⟩ (.inr ⟨AZ,pk.trans tS⟩)
   ·rw[if_neg (by simpa using c)]
    refine ay ?_
    have wq:(es.size+1)*5<t.mask*3:=by
     unfold SetTable.tooFull at c
     rw[Sn,tm] at c
     simpa using c
    exact h true _ _ sL ⟨⟨_,_,_,_,sj,hex,rfl,T.put Vi n2 Vj tm tp td wq,by rw[tm];exact hM,by rw[<- OS];exact hL,cK⟩,OQ _ tS,OO _ sL _ tS⟩ (.inr ⟨AZ,tS⟩)
  split
  ·refine ai (jT hx rh fun b=>?_)
   cases b with
   |true=>exact main t.plain
   |false=>exact main false
  ·exact ai (ay (main t.plain))
end
end TS
namespace TS
open PySem PySem.SetTable PyProof.Rows
section
variable {prog:Program}{w:World}{A:Around}{R:Result->Shared->Prop}{I:Addr}{fp wr:List Addr}{n:Nat}{P:Nat->Value->Prop}{St:Nat->Heap->Prop}
theorem Dq(W:Walks prog w A.in1 I fp wr n P St)(S:Addr)(E7:S∉fp)(SI:Nat->Heap->Prop)(keep:∀ i h h',SI i h->(∀ b o,b∉wr->h.get? b=some o->h'.get? b=some o)->SI i h')
  (step:∀ (i:Nat) (v:Value) (s':Shared) (E':Value->Shared->Prop) (Q:Bool->Shared->Prop),P i v->SI i s'.heap->(∀ b h' tk,Heap.SameBut S s'.heap h'->SI (i+1) h'->Q b { s' with heap:=h',toks:=tk })->wpAny (model prog w) A.in1 (setAdd S v) Q E' s') :
  ∀ (k i:Nat) (s:Shared),n-i=k->i<=n->St i s.heap->SI i s.heap ->
   (∀ h' tk,SI n h'->(∀ b o,b∉wr->b≠S->s.heap.get? b=some o->h'.get? b=some o)->R (.ok (.ret .none)) { s with heap:=h',toks:=tk }) ->
   codeAny (model prog w) A (.builtin "set.update.loop" ⟨[.ref S,.ref I],[]⟩) R s:=by
 have hSw:S∉wr:=fun h=>E7 (W.sub _ h)
 intro k
 induction k with
 |zero =>
  intro i s hk hi lI hS hR
  have cK:i=n:=by lia
  subst cK
  refine codeAny_builtin F.entry_set_update_loop ?_
  rw[Around.under_plainId F.plain_set_update_loop _]
  show wpAny _ A.in1 (pyNext (.ref I) >>= _) _ _ s
  refine ai (W.done s _ _ lI fun h' tk nV=>?_)
  show wpAny _ A.in1 (ret Value.none) _ _ _
  exact ay (hR h' tk (keep _ _ _ hS nV) fun b o hb _ e=>nV b o hb e)
 |succ k ih =>
  intro i s hk hi lI hS hR
  have fi:i<n:=by lia
  refine codeAny_builtin F.entry_set_update_loop ?_
  rw[Around.under_plainId F.plain_set_update_loop _]
  show wpAny _ A.in1 (pyNext (.ref I) >>= _) _ _ s
  refine ai (W.item i s _ _ fi lI fun v h' tk hP hW' nV=>?_)
  show wpAny _ A.in1 (holding [v] (setAdd S v) >>= _) _ _ _
  refine ai (wpAny_holding (step i v _ _ _ hP (keep _ _ _ hS nV) fun b h2 tk2 sb hS2=>?_))
  refine ay ⟨plainId_quiet F.plain_set_update_loop _,ih (i+1) _ (by lia) fi (W.frame _ _ _ hW' fun b hb o e=>?_) hS2 fun h3 tk3 hS3 EV=>?_⟩
  ·exact sb.extBut b o (fun z=>E7 (by rw[<- z];exact hb)) e
  ·exact hR h3 tk3 hS3 fun b o hb OU e=>EV b o hb OU (sb.extBut b o OU (nV b o hb e))
end
section
variable {prog:Program}{w:World}{A:Around}{E:Value->Shared->Prop}{s:Shared}
theorem Ar(a:Value)
  (h:Q₁ (.ref s.heap.objs.size) { s with heap:=s.heap.push { cls:=.type "set",dict:=none,data:=.set #[] 0 (.fresh 0 0 (!w.params.followText "set-order")) } }) :
  codeAny (model prog w) A (.call (.builtin "set.__new__") ⟨[.type "set",a],[]⟩) (wants Q₁ E) s:=by
 refine codeAny_of_tree ?_
 show wpAny _ A.in1 (do checkBuiltinCall "set.__new__" ⟨[.type "set",a],[]⟩;again (.builtin "set.__new__" ⟨[.type "set",a],[]⟩)) _ _ s
 refine ai (wpAny_of_eq (F.newCall_set_1 a) (ay ⟨plainId_quiet F.plain_set_new _,codeAny_builtin F.entry_set_new ?_⟩))
 rw[Around.under_plainId F.plain_set_new _]
 unfold Builtin.«set.__new__» Builtin.Frozenset.newClass
 have Vl:=sub_set_self
 obtain⟨hp,g,d,tk,os⟩:=s
 dsimp only
 wp_walk
 refine wpAny_askSetting (ay ?_)
 dsimp only
 simp only[newObj]
 refine ai (wpAny_alloc (ay ?_))
 exact ay h
theorem lu(hh:A.handled=none)(hl:s.heap.IsList l items)(SI:Nat->Heap->Prop)
  (h0:∀ h,h.get? s.heap.objs.size=some { cls:=.type "set",dict:=none,data:=.set #[] 0 (.fresh 0 0 (!w.params.followText "set-order")) }->(∀ b o,s.heap.get? b=some o->h.get? b=some o)->SI 0 h)
  (keep:∀ i h h',SI i h->(∀ b o,b<=s.heap.objs.size->h.get? b=some o->h'.get? b=some o)->SI i h')
  (step:∀ (i:Nat) (v:Value) (s':Shared) (E':Value->Shared->Prop) (Q:Bool->Shared->Prop),items[i]? = some v->SI i s'.heap->(∀ b h' tk,Heap.SameBut s.heap.objs.size s'.heap h'->SI (i+1) h'->Q b { s' with heap:=h',toks:=tk }) ->
   wpAny (model prog w) A.in1.in1.in1 (setAdd s.heap.objs.size v) Q E' s')
  (h:∀ (h':Heap) (tk:Nat),SI items.size h'->(∀ b o,b<s.heap.objs.size->s.heap.get? b=some o->h'.get? b=some o)->Q (.ref s.heap.objs.size) { s with heap:=h',toks:=tk }) :
  wpAny (model prog w) A (call (.type "set") [.ref l]) Q E s:=by
 obtain⟨c,tl,lR'⟩:=F.called_set.mro
 have lS':=F.called_set.made
 have Vl:=F.called_set.sub
 refine wpAny_call (codeAny_of_tree ?_)
 show wpAny _ _ (callAny (.type "set") _) _ _ _
 refine ay ⟨Code.quiet_builtin _ (by decide +kernel),codeAny_builtin F.entry_type_call ?_⟩
 rw[Around.under_plain (weight_type_call_type "set" [.ref l] []) rfl]
 have h1:=F.called_set.notType
 have h2:=F.called_set.canCreate
 have hct:=F.typeCall_set_1 (.ref l)
 repeat (any_goals (first|assumption|wp_step))
 refine codeAny_mono (Ar (.ref l) (E:=E) (Q₁:=fun obj eB=>obj=.ref s.heap.objs.size/\eB={ s with heap:=s.heap.push { cls:=.type "set",dict:=none,data:=.set #[] 0 (.fresh 0 0 (!w.params.followText "set-order")) } }) ⟨rfl,rfl⟩) fun r eB hr=>?_
 cases r with
 |error e=>exact hr
 |ok fl =>
  cases fl with
  |ret obj =>
   obtain⟨rfl,rfl⟩:=hr
   generalize lU':(!w.params.followText "set-order")=led at h0 ⊢
   have hS:(s.heap.push { cls:=.type "set",dict:=none,data:=.set #[] 0 (.fresh 0 0 led) }).get? s.heap.objs.size=some { cls:=.type "set",dict:=none,data:=.set #[] 0 (.fresh 0 0 led) }:=jv _ rfl
   have hT:Shared.TypeIs { s with heap:=s.heap.push { cls:=.type "set",dict:=none,data:=.set #[] 0 (.fresh 0 0 led) } } (.ref s.heap.objs.size) "set" := ⟨_,hS,rfl⟩
   have hli:=F.called_set.init.lookup
   have hbi:=F.called_set.init.bind (.ref s.heap.objs.size)
   repeat (any_goals (first|assumption|wp_step))
   refine codeAny_mono (codeAny_call_builtin (R:=wants (fun r EA=>r=.none/\∃ h' tk,EA={ s with heap:=h',toks:=tk }/\SI items.size h' /\
     (∀ b o,b<s.heap.objs.size->s.heap.get? b=some o->h'.get? b=some o)) E) F.called_set.init.plain F.entry_set_init (check_set_init_1 hT ?_)) fun ic' EA Vm=>?_
   ·obtain⟨ol,iO,mS,nl,hdl⟩:=hl
    obtain⟨lX',ie',lY',ig'⟩:=ol
    simp only at mS hdl
    subst mS;subst hdl
    have ih':(s.heap.push { cls:=.type "set",dict:=none,data:=.set #[] 0 (.fresh 0 0 led) }).get? l=some { cls:=.type "list",dict:=ie',data:=.seq items nl,slots:=ig' }:=fe _ iO
    have lZ':=F.sub_list_set
    have ma':=F.sub_list_frozenset
    have ic:(Value.type "list" == Value.type "dict")=false:=by decide
    have He:(s.heap.push { cls:=.type "set",dict:=none,data:=.set #[] 0 (.fresh 0 0 led) }).IsList l items:=⟨_,ih',rfl,nl,rfl⟩
    unfold Builtin.«set.__init__» noKeywords Builtin.Frozenset.updateFrom
    generalize hPI:pyIter=PI
    wp_walk
    subst hPI
    refine wpAny_pyIter_list He ?_
    refine ai (wpAny_runValue ?_)
    have hlS:l<s.heap.objs.size:=dk iO
    have hh3:A.in1.in1.in1.handled=none:=by simp[hh]
    have fN:(s.heap.push { cls:=.type "set",dict:=none,data:=.set #[] 0 (.fresh 0 0 led) }).objs.size=s.heap.objs.size+1:=Heap.size_push ..
    have ik':l≠(s.heap.push { cls:=.type "set",dict:=none,data:=.set #[] 0 (.fresh 0 0 led) }).objs.size:=by
     rw[fN];exact eM (zS hlS)
    have E7:s.heap.objs.size∉[(s.heap.push { cls:=.type "set",dict:=none,data:=.set #[] 0 (.fresh 0 0 led) }).objs.size,l]:=by
     rw[fN];simp only[dA,uj,xE,or_false,not_or]
     exact⟨eM (Nat.lt_succ_self _),Kx hlS⟩
    refine Dq (Walks.list hh3 _ l ik' items) s.heap.objs.size E7 SI (fun i h h' hi hk=>keep i h h' hi fun b o hb e=>hk b o ?_ e) (fun i v s' E' Q' hP hi hq=>step i v s' E' Q' hP hi hq) (items.size-0) 0 _ (by lia) (eu _)
     ⟨⟨_,jv _ rfl,rfl,rfl⟩,(He.push _)⟩ ?hS0 ?hR
    ·rw[fN]
     simp only[dA,xE,or_false]
     exact eM (FG hb)
    case hS0 =>
     exact h0 _ (fe _ hS) fun b o e=>fe _ (fe _ e)
    case hR =>
     intro h' Bn OV nV
     show wpAny _ _ _ _ _ _
     refine ay ?_
     show wpAny _ _ (ret Value.none) _ _ _
     refine ay ⟨rfl,h',Bn,rfl,OV,fun b o hb e=>?_⟩
     refine nV b o ?_ (eM hb) (fe _ (fe _ e))
     rw[fN]
     simp only[dA,xE,or_false]
     exact eM (zS hb)
   ·cases ic' with
    |error e=>exact Vm
    |ok im' =>
     cases im' with
     |ret r =>
      obtain⟨rfl,h',tk,rfl,OV,nV⟩:=Vm
      repeat (any_goals (first|assumption|wp_step))
      exact h _ _ OV nV
     |_=>exact Vm.elim
  |_=>exact hr.elim
end
theorem tU:Manifest.owners.lookup (String.ofList ['r','o','t','a','r','e','t','i','_','t','e','s'].reverse)=some Manifest.sig_set_iterator:=by kernel_rfl
theorem bR:Slot "set_iterator" "__next__" "set_iterator.__next__" :=
 .of (owner := "set_iterator") (n := "__next__") (by rw[typeLookup_type,builtinLookup_eq_fast];kernel_rfl) (by decide +kernel) (by decide +kernel) (by decide +kernel)
  (by first|exact .inl (by decide +kernel)|exact .inr (by decide +kernel)) (by rw[isSubtype_type];kernel_rfl)
theorem oR:entryFor table "set_iterator.__next__" = some Builtin.«set_iterator.__next__» := entryFor_of_tree (by kernel_rfl)
theorem rG (a:Value):argsOk "set_iterator.__next__" ⟨[a],[]⟩:=by
 unfold argsOk;rw[signature?_of (id := "set_iterator.__next__") (n:=['_','_','t','x','e','n','_','_']) (o:=['r','o','t','a','r','e','t','i','_','t','e','s']) (by kernel_rfl) tU];kernel_rfl
theorem jD:Slot "set_iterator" "__iter__" "set_iterator.__iter__" :=
 .of (owner := "set_iterator") (n := "__iter__") (by rw[typeLookup_type,builtinLookup_eq_fast];kernel_rfl) (by decide +kernel) (by decide +kernel) (by decide +kernel)
  (by first|exact .inl (by decide +kernel)|exact .inr (by decide +kernel)) (by rw[isSubtype_type];kernel_rfl)
theorem oY:entryFor table "set.__iter__" = some Builtin.«frozenset.__iter__» :=
 entryFor_alias (id' := "frozenset.__iter__") (by kernel_rfl) rfl (by decide +kernel) (by kernel_rfl)
theorem kJ:∀ (l:List α) (i:Nat) (h:i<l.length),(l[i] :: l.eraseIdx i).Perm l
 |x :: l,0,_=>.refl _
 |x :: l,i+1,h=>by
  have ih:=kJ l i (by simpa using h)
  exact(List.Perm.swap _ _ _).trans (ih.cons x)
theorem zX(next:Nat->Nat):∀ (fuel k:Nat) (left:List α) (out:Array α),left.length=fuel->(pickOrder.go next fuel k left out).toList.Perm (out.toList++left)
 |0,k,left,out,h=>by
  have:left=[]:=P4.mp h
  subst this
  unfold pickOrder.go
  rw[mh]
 |fuel+1,k,left,out,h=>by
  unfold pickOrder.go
  have fi:next k % left.length<left.length:=FL _ (by lia)
  rw[vE fi]
  dsimp only
  refine(zX next fuel (k+1) _ _ (by rw[List.length_eraseIdx];split<;>lia)).trans ?_
  rw[oi,vF]
  refine List.Perm.append_left _ ?_
  exact kJ _ _ fi
theorem mK(next:Nat->Nat)(xs:Array α):(pickOrder next xs).toList.Perm xs.toList:=by
 unfold pickOrder
 have:=zX next xs.size 0 xs.toList #[] (by simp)
 simpa using this
section
variable {prog:Program}{w:World}{A:Around}{E:Value->Shared->Prop}{s:Shared}
theorem uh(hn:n≠0)(h:∀ i d,i<n->Q i { s with drawn:=d }):wpAny M A (choose src n) Q E s:=fun Γ p _=>⟨hn,h _ _ (FL _ (Nat.pos_of_ne_zero hn))⟩
theorem Hf(n:Nat):∀ (xs:List α) (s:Shared) (Q:List α->Shared->Prop),xs.length=n->(∀ ys d,ys.Perm xs->Q ys { s with drawn:=d })->wpAny (model prog w) A (drawOrder n xs) Q E s:=by
 induction n with
 |zero =>
  intro xs s Q h q
  have:xs=[]:=P4.mp h
  subst this
  unfold drawOrder
  exact ay (q [] s.drawn (.refl _))
 |succ n ih =>
  intro xs s Q h q
  cases xs with
  |nil=>cases h
  |cons x xs =>
   unfold drawOrder
   refine ai (uh (by simp) fun i d hi=>?_)
   rw[vE hi]
   dsimp only
   refine ai (ih _ _ _ (by rw[List.length_eraseIdx,if_pos hi];simp at h ⊢;lia) fun ys d' py=>?_)
   refine ay ?_
   exact q _ d' ((py.cons _).trans (kJ _ _ hi))
def qB(h:Heap)(I:Addr)(first:Value)(i:Nat)(a:Addr)(n ep:Nat):Prop :=
 h.get? I=some { cls:=.type "set_iterator",dict:=none,data:=.fields #[first,.int i 0,.ref a,.int n 0,.int ep 0],slots:=#[] }
def zh(h:Heap)(a:Addr)(es:Array (Int × Value))(ep:Nat)(t:SetTable):Prop:=∃ o,h.get? a=some o/\o.data=.set es ep t
variable {a I:Addr}{es:Array (Int × Value)}{ep:Nat}{t:SetTable}{first:Value}{i n:Nat}
theorem qB.typeIs (h:qB s.heap I first i a n ep):s.TypeIs (.ref I) "set_iterator" := ⟨_,h,rfl⟩
theorem Aq(hit:qB s.heap I first i a n ep)
  (h:wpAny (model prog w) A.in1 (Builtin.«set_iterator.__next__» ⟨[.ref I],[]⟩) (fun fin s'=>∃ v,fin=.done (.ret v)/\Q (some v) s') (fun e s'=>wpAny (model prog w) A (isInstance e (.type "StopIteration")) (fun b B6=>b=true/\Q none B6) E s') s) :
  wpAny (model prog w) A (pyNext (.ref I)) Q E s:=by
 unfold pyNext
 refine ai (wpAny_attempt (wpAny_callSpecial?_slot (name:=Str.ofString "__next__") hit.typeIs bR
  (wpAny_call_entry bR hit.typeIs oR ?_ (rG _))))
 refine pS h (fun fin s' ⟨v,e,q⟩=>⟨v,e,ay q⟩) fun e s' q=>?_
 refine ai (pS q (fun b B6 da=>?_) fun _ _ x=>x)
 obtain⟨e,q⟩:=da
 subst e
 rw[if_pos rfl]
 exact ay q
theorem yM{P:Fin->Shared->Prop}{Q:Option Value->Shared->Prop}(hh:A.handled=none)(hQ:∀ h',(∀ b o,s.heap.get? b=some o->h'.get? b=some o)->Q none { s with heap:=h' }) :
  wpAny (model prog w) A.in1 (newExc (.type "StopIteration") [] >>= fun e=>raiseNew e) P (fun e s'=>wpAny (model prog w) A (isInstance e (.type "StopIteration")) (fun b B6=>b=true/\Q none B6) E s') s:=by
 refine ai ?_
 simp only[newExc,newTuple]
 refine ai (wpAny_newObj_type ?_ (by size_fits))
 refine ai (m:=firstArgMember _ _) (wpAny_of_eq (a:=Value.none) (by first|rfl|(simp only[firstArgMember];rfl)) ?_)
 refine wpAny_newObj_type ?_ (by size_fits)
 simp only[raiseNew]
 refine ai (wpAny_handled ?_)
 rw[show A.in1.handled=none from hh]
 refine ai (ay (wpAny_throw ?_))
 refine wpAny_isInstance (T := "StopIteration") (b:=true) ⟨_,jv _ rfl,rfl⟩ isSubtype_stop ⟨rfl,?_⟩
 exact hQ _ fun b o e=>fe _ (fe _ e)
theorem jk{Q:Option Value->Shared->Prop}{slot:Nat}{r:Option (Value × Nat)}(hh:A.handled=none)(ic:a≠I)(hit:qB s.heap I (.int slot 0) i a es.size ep)(E8:zh s.heap a es ep t)(hf:t.fits es.size=true)
  (hr:∀ (A':Around) (E':Value->Shared->Prop) (Q':Option (Value × Nat)->Shared->Prop),Q' r s->wpAny (model prog w) A' (setNext a slot i ep) Q' E' s)
  (h1:∀ x nx h',r=some (x,nx)->qB h' I (.int nx 0) (i+1) a es.size ep->Heap.SameBut I s.heap h'->Q (some x) { s with heap:=h' })
  (h2:∀ h',r=none->(∀ b o,b≠I->s.heap.get? b=some o->h'.get? b=some o)->Q none { s with heap:=h' }) :
  wpAny (model prog w) A (pyNext (.ref I)) Q E s:=by
 obtain⟨o,ho,hd⟩:=E8
 refine Aq hit ?_
 unfold Builtin.«set_iterator.__next__»
 refine ai (m:=slotArgs "__next__" 0 ⟨[.ref I],[]⟩) (wpAny_of_eq (a:=(.ref I,[])) rfl ?_)
 dsimp only
 refine ai (wpAny_fieldsOf hit rfl ?_)
 dsimp only
 refine ai (wpAny_setEntries_of ho hd hf ?_)
 rw[if_neg (by simp)]
 simp only[K0]
 refine ai (hr _ _ _ ?_)
 cases r with
 |some p =>
  obtain⟨x,nx⟩:=p
  dsimp only
  refine ai (wpAny_setField_rec hit (by simp) fun g1 e1 sL=>?_)
  refine ai (wpAny_setField_rec (s:={ s with heap:=g1 }) e1 (by simp) fun g2 e2 DB=>?_)
  exact ay ⟨x,rfl,h1 x nx g2 rfl (by unfold qB;simpa[rawInt] using e2) (sL.trans DB)⟩
 |none =>
  dsimp only
  refine ai (wpAny_setField_rec hit (by simp) fun g1 e1 sL=>?_)
  exact yM (s:={ s with heap:=g1 }) hh fun h' k=>h2 h' rfl fun b o hb e=>k b o (sL.extBut b o hb e)
theorem pD{Q:Option Value->Shared->Prop}{T:Addr}{ix:List Nat}{oT:Obj}{kT:Nat}(hh:A.handled=none)(hit:qB s.heap I (.ref T) i a es.size ep)(E8:zh s.heap a es ep t)(hf:t.fits es.size=true)
  (hT:s.heap.get? T=some oT) (hTd:oT.data=.seq (ix.map fun(k:Nat)=>Value.int k 0).toArray kT)
  (h1:∀ k e h',ix[i]? = some k->es[k]? = some e->qB h' I (.ref T) (i+1) a es.size ep->Heap.SameBut I s.heap h'->Q (some e.2) { s with heap:=h' }) (EK:∀ k∈ix,k<es.size)
  (h2:∀ h',ix[i]? = none->(∀ b o,b≠I->s.heap.get? b=some o->h'.get? b=some o)->Q none { s with heap:=h' }) :
  wpAny (model prog w) A (pyNext (.ref I)) Q E s:=by
 obtain⟨o,ho,hd⟩:=E8
 refine Aq hit ?_
 unfold Builtin.«set_iterator.__next__»
 refine ai (m:=slotArgs "__next__" 0 ⟨[.ref I],[]⟩) (wpAny_of_eq (a:=(.ref I,[])) rfl ?_)
 dsimp only
 refine ai (wpAny_fieldsOf hit rfl ?_)
 dsimp only
 refine ai (wpAny_setEntries_of ho hd hf ?_)
 rw[if_neg (by simp)]
 refine ai (wpAny_seqItems hT hTd ?_)
 dsimp only
 simp only[K0,List.getElem?_toArray,kf]
 cases hk:ix[i]? with
 |some k =>
  dsimp only[Option.map]
  have hkl:=EK k (ui hk)
  refine ai ?_
  unfold setNextDrawn
  refine ai (wpAny_setState_of ho hd hf ?_)
  dsimp only
  simp only[K0]
  rw[if_neg (by simp),x3 hkl]
  refine ay ?_
  refine ai (wpAny_setField_rec hit (by simp) fun g1 e1 sL=>?_)
  exact ay ⟨_,rfl,h1 k es[k] g1 hk (x3 hkl) (by unfold qB;simpa[rawInt] using e1) sL⟩
 |none =>
  dsimp only[Option.map]
  refine ai (wpAny_setField_rec hit (by simp) fun g1 e1 sL=>?_)
  refine ai (wpAny_setField_rec (s:={ s with heap:=g1 }) e1 (by simp) fun g2 e2 DB=>?_)
  exact yM (s:={ s with heap:=g2 }) hh fun h' k=>h2 h' hk fun b o hb e=>k b o ((sL.trans DB).extBut b o hb e)
theorem qD (a:Value):argsOk "set_iterator.__iter__" ⟨[a],[]⟩:=by
 unfold argsOk;rw[signature?_of (id := "set_iterator.__iter__") (n:=['_','_','r','e','t','i','_','_']) (o:=['r','o','t','a','r','e','t','i','_','t','e','s']) (by kernel_rfl) tU];kernel_rfl
theorem pq:entryFor table "set_iterator.__iter__" = some Builtin.«dict_keyiterator.__iter__» :=
 entryFor_alias (id' := "dict_keyiterator.__iter__") (by kernel_rfl) rfl (by decide +kernel) (by kernel_rfl)
theorem mY(hit:qB s.heap I first i a n ep)(h:Q (.ref I) s):wpAny (model prog w) A (pyIter (.ref I)) Q E s:=by
 refine wpAny_pyIter_slot hit.typeIs jD (wpAny_call_entry jD hit.typeIs pq ?_ (qD _))
 show wpAny _ _ (ret (.ref I)) _ _ s
 exact ay ⟨_,rfl, "set_iterator",_,hit.typeIs,bR.lookup,h⟩
theorem uo {slot:Nat} {Q:Option (Value × Nat)->Shared->Prop} (hb:w.params.followText "set-order" = true) (E8:zh s.heap a es ep t) (hf:t.fits es.size=true)
  (h:Q (((pickOrder (w.params.setOrder a ep) es)[i]?).map fun e=>(e.2,slot)) s):wpAny (model prog w) A (setNext a slot i ep) Q E s:=by
 obtain⟨o,ho,hd⟩:=E8
 unfold setNext
 refine ai (wpAny_setState_of ho hd hf ?_)
 dsimp only
 unfold setsByText
 refine ai (ai (wpAny_askSetting (ay ?_)))
 dsimp only
 rw[if_pos (by exact hb),if_neg (by simp)]
 refine ai ?_
 unfold setWalk
 refine ai (wpAny_setState_of ho hd hf ?_)
 dsimp only
 unfold setsByText
 refine ai (ai (wpAny_askSetting (ay ?_)))
 dsimp only
 rw[if_pos (by exact hb)]
 refine ai (wpAny_askSetting (ay ?_))
 exact ay h
theorem qg {slot:Nat} {Q:Option (Value × Nat)->Shared->Prop} (hb:w.params.followText "set-order" = false) (hl:t.led=true) (Iq:(!t.plain && decide (es.size>1))=false) (E8:zh s.heap a es ep t) (hf:t.fits es.size=true)
  (h:Q (match es[below t.place slot]?,t.place[below t.place slot]? with
  |some (_,x),some j=>some (x,j+1)
  |_,_=>none) s):wpAny (model prog w) A (setNext a slot i ep) Q E s:=by
 obtain⟨o,ho,hd⟩:=E8
 unfold setNext
 refine ai (wpAny_setState_of ho hd hf ?_)
 dsimp only
 unfold setsByText
 refine ai (ai (wpAny_askSetting (ay ?_)))
 dsimp only
 rw[if_neg (by rw[show(model prog w).w.params.followText "set-order" = false from hb];exact kA)]
 have e0:rT es t=(!t.plain && decide (es.size>1)):=rfl
 unfold rT at e0
 rw[e0,Iq,if_neg kA]
 refine ai (m:=J7 es t) ?_
 show wpAny _ _ (if (!t.led && !es.isEmpty)=true then unsupported "set:maker-not-led" else pure ()) _ _ s
 rw[if_neg (by rw[hl];simp)]
 exact ay (ay h)
def PV(ys:List (Int × Value))(i:Nat)(v:Value):Prop:=∃ e,ys[i]? = some e/\v=e.2
theorem qB.keep(x:qB h I first i a n ep)(e:∀ o,h.get? I=some o->h'.get? I=some o):qB h' I first i a n ep:=e _ x
theorem zh.keep(x:zh h a es ep t)(e:∀ o,h.get? a=some o->h'.get? a=some o):zh h' a es ep t:=let ⟨o,ho,r⟩:=x;⟨o,e _ ho,r⟩
theorem Be (hh:A.handled=none) (ic:a≠I) (hb:w.params.followText "set-order" = true) (hf:t.fits es.size=true) :
  Walks prog w A I [I,a] [I] es.size (PV (pickOrder (w.params.setOrder a ep) es).toList) (fun i h=>(∃ slot:Nat,qB h I (.int slot 0) i a es.size ep)/\zh h a es ep t) where
 sub:=fun b hb=>by simp at hb;simp[hb]
 frame:=fun _ _ _ ⟨⟨sl,x⟩,y⟩ hk=>⟨⟨sl,x.keep fun o e=>hk I (by simp) o e⟩,y.keep fun o e=>hk a (by simp) o e⟩
 item:=fun i s Q E hi ⟨⟨sl,x⟩,y⟩ hQ=>by
  have hlen:(pickOrder (w.params.setOrder a ep) es).size=es.size:=by
   have:=(mK (w.params.setOrder a ep) es).length_eq
   simpa using this
  refine jk hh ic x y hf (r:=((pickOrder (w.params.setOrder a ep) es)[i]?).map fun e=>(e.2,sl)) (fun A' E' Q' q=>uo hb y hf q) (fun v nx h' e x' sb=>?_) fun h' e k=>?_
  ·rw[x3 (by lia)] at e
   cases e
   exact hQ _ h' s.toks ⟨_,by rw[og];exact x3 (by lia),rfl⟩ ⟨⟨_,x'⟩,y.keep fun o e=>sb.extBut _ _ ic e⟩ fun b o hb e=>sb.extBut b o (fun h=>hb (by simp[h])) e
  ·rw[x3 (by lia)] at e
   cases e
 done:=fun s Q E ⟨⟨sl,x⟩,y⟩ hQ=>by
  have hlen:(pickOrder (w.params.setOrder a ep) es).size=es.size:=by
   have:=(mK (w.params.setOrder a ep) es).length_eq
   simpa using this
  refine jk hh ic x y hf (r:=((pickOrder (w.params.setOrder a ep) es)[es.size]?).map fun e=>(e.2,sl)) (fun A' E' Q' q=>uo hb y hf q) (fun v nx h' e x' sb=>?_) fun h' e k=>?_
  ·rw[FR (by lia)] at e
   cases e
  ·exact hQ h' s.toks fun b o hb e=>k b o (fun h=>hb (by simp[h])) e
 self:=fun _ _ _ _ ⟨⟨sl,x⟩,y⟩ hQ=>mY x hQ
def slotAt(t:SetTable):Nat->Nat
 |0=>0
 |i+1=>t.place.getD i 0+1
theorem k_(U:Up t.place)(h:i<=t.place.size):below t.place (slotAt t i)=i:=by
 cases i with
 |zero =>
  obtain⟨_,b,_⟩:=aU U 0
  by_cases z:below t.place 0=0
  ·exact z
  ·exact absurd (b 0 (Nat.pos_of_ne_zero z)) (DV _)
 |succ i=>exact yo U (by lia)
theorem yq (hh:A.handled=none) (ic:a≠I) (hb:w.params.followText "set-order" = false) (hl:t.led=true) (Iq:(!t.plain && decide (es.size>1))=false) (U:Up t.place) (hz:t.place.size=es.size) (hf:t.fits es.size=true) :
  Walks prog w A I [I,a] [I] es.size (PV es.toList) (fun i h=>qB h I (.int (slotAt t i:Nat) 0) i a es.size ep/\zh h a es ep t) where
 sub:=fun b hb=>by simp at hb;simp[hb]
 frame:=fun _ _ _ ⟨x,y⟩ hk=>⟨x.keep fun o e=>hk I (by simp) o e,y.keep fun o e=>hk a (by simp) o e⟩
 item:=fun i s Q E hi ⟨x,y⟩ hQ=>by
  have Dx:=k_ (t:=t) U (i:=i) (by lia)
  have e1:es[below t.place (slotAt t i)]? = some es[i]:=by rw[Dx];exact x3 hi
  have e2:t.place[below t.place (slotAt t i)]? = some (t.place.getD i 0):=by rw[Dx];exact zT (by lia)
  refine jk hh ic x y hf (r:=some (es[i].2,t.place.getD i 0+1)) (fun A' E' Q' q=>qg hb hl Iq y hf (by rw[e1,e2];exact q)) (fun v nx h' e x' sb=>?_) fun h' e k=>nomatch e
  cases e
  exact hQ _ h' s.toks ⟨_,by rw[og];exact x3 hi,rfl⟩ ⟨x',y.keep fun o e=>sb.extBut _ _ ic e⟩ fun b o hb e=>sb.extBut b o (fun h=>hb (by simp[h])) e
 done:=fun s Q E ⟨x,y⟩ hQ=>by
  have Dx:=k_ (t:=t) U (i:=es.size) (by lia)
  have e1:es[below t.place (slotAt t es.size)]? = none:=by rw[Dx];exact FR (bP _)
  refine jk hh ic x y hf (r:=none) (fun A' E' Q' q=>qg hb hl Iq y hf (by rw[e1];exact q)) (fun v nx h' e x' sb=>nomatch e) fun h' e k=>?_
  exact hQ h' s.toks fun b o hb e=>k b o (fun h=>hb (by simp[h])) e
 self:=fun _ _ _ _ ⟨x,y⟩ hQ=>mY x hQ
theorem yz{T:Addr}{ix:List Nat}{kT:Nat}(hh:A.handled=none)(ic:a≠I)(tI:T≠I)(hf:t.fits es.size=true)(hp:ix.Perm (List.range es.size)) :
  Walks prog w A I [I,a,T] [I] es.size (PV (ix.filterMap fun k=>es[k]?)) (fun i h=>qB h I (.ref T) i a es.size ep/\zh h a es ep t/\∃ o,h.get? T=some o/\o.data=.seq (ix.map fun(k:Nat)=>Value.int k 0).toArray kT):=by
 have hlen:ix.length=es.size:=by simpa using hp.length_eq
 have EK:∀ k∈ix,k<es.size:=fun k hk=>nI.mp (hp.mem_iff.mp hk)
 obtain⟨f1,f2⟩:=wD (l:=ix) (f:=fun k=>es[k]?) fun k hk=>by simp[EK k hk]
 exact {
  sub:=fun b hb=>by simp at hb;simp[hb]
  frame:=fun _ _ _ ⟨x,y,o,z,zd⟩ hk=>⟨x.keep fun o e=>hk I (by simp) o e,y.keep fun o e=>hk a (by simp) o e,o,hk T (by simp) o z,zd⟩
  item:=fun i s Q E hi ⟨x,y,o,z,zd⟩ hQ=>by
   refine pD hh x y hf z zd (fun k e h' e1 e2 x' sb=>?_) EK fun h' e k=>?_
   ·refine hQ _ h' s.toks ⟨e,by rw[f2,e1];exact e2,rfl⟩ ⟨x',y.keep fun o e=>sb.extBut _ _ ic e,o,sb.extBut _ _ tI z,zd⟩ fun b o hb e=>sb.extBut b o (fun h=>hb (by simp[h])) e
   ·rw[vE (by lia)] at e;cases e
  done:=fun s Q E ⟨x,y,o,z,zd⟩ hQ=>by
   refine pD hh x y hf z zd (fun k e h' e1 e2 x' sb=>?_) EK fun h' e k=>?_
   ·rw[xC (by lia)] at e1;cases e1
   ·exact hQ h' s.toks fun b o hb e=>k b o (fun h=>hb (by simp[h])) e
  self:=fun _ _ _ _ ⟨x,_⟩ hQ=>mY x hQ }
end
section
variable {prog:Program}{w:World}{A:Around}{E:Value->Shared->Prop}{s:Shared}{a:Addr}{o:Obj}{es:Array (Int × Value)}{ep:Nat}{t:SetTable}
theorem Dc (hh:A.handled=none) (ho:s.heap.get? a=some o) (hex:o.ExactSet) (hd:o.data=.set es ep t) (hf:t.fits es.size=true) (U:Up t.place) (hz:t.place.size=es.size) (hl:t.led=(!w.params.followText "set-order")) (hn:es.size<=sizeLine)
  (h:∀ (I:Addr) (h2:Heap) d (fp:List Addr) (St:Nat->Heap->Prop) (ys:List (Int × Value)),(∀ b o,s.heap.get? b=some o->h2.get? b=some o)->s.heap.objs.size<=I->(∀ b∈fp,b=a\/s.heap.objs.size<=b)->ys.Perm es.toList ->
   Walks prog w A I fp [I] es.size (PV ys) St->St 0 h2->Q (.ref I) { s with heap:=h2,drawn:=d }):wpAny (model prog w) A (pyIter (.ref a)) Q E s:=by
 have hT:s.TypeIs (.ref a) "set" := ⟨o,ho,hex.1⟩
 have fi:a<s.heap.objs.size:=dk ho
 refine wpAny_pyIter_slot hT F.slot_set_iter (wpAny_call_entry F.slot_set_iter hT oY ?_ (F.args_set_iter_1 _))
 unfold Builtin.«frozenset.__iter__»
 refine ai (m:=Builtin.Frozenset.slot0 "__iter__" ⟨[.ref a],[]⟩) (wpAny_of_eq (a:=a) rfl ?_)
 refine ai ?_
 unfold Builtin.Frozenset.sizeOf
 refine ai (wpAny_setEntries_of ho hd hf (ay ?_))
 refine ai ?_
 unfold setDrawn
 refine ai (wpAny_setState_of ho hd hf ?_)
 dsimp only
 unfold setsByText
 refine ai (ai (wpAny_askSetting (ay ?_)))
 refine ay ?_
 have e0:rT es t=(!t.plain && decide (es.size>1)):=rfl
 unfold rT at e0
 rw[e0]
 show wpAny _ _ (if (!w.params.followText "set-order" && (!t.plain && decide (es.size>1)))=true then _ else _) _ _ s
 cases hb:w.params.followText "set-order" with
 |true =>
  rw[if_neg (by simp)]
  refine ai (ay ?_)
  refine ai (wpAny_setEpoch_of ho hd hf ?_)
  refine ai (wpAny_newObj_type ?_)
  refine ay ⟨_,rfl, "set_iterator",_,⟨_,jv _ rfl,rfl⟩,bR.lookup,?_⟩
  have kL:(s.heap.push { cls:=.type "set_iterator",data:=.fields #[rawInt 0,rawInt 0,.ref a,rawInt es.size,rawInt ep] }).get? a=some o:=fe _ ho
  exact h s.heap.objs.size _ s.drawn _ _ _ (fun b o e=>fe _ e) (bP _) (fun b hb=>by
   rcases dA.mp hb with rfl|hb
   ·exact .inr (bP _)
   ·exact .inl (uj.mp hb)) (mK _ _) (Be (ep:=ep) hh (eM fi) hb hf) ⟨⟨0,jv _ rfl⟩,o,kL,hd⟩
 |false =>
  cases Iq:(!t.plain && decide (es.size>1)) with
  |false =>
   rw[if_neg (by simp)]
   refine ai (ay ?_)
   refine ai (wpAny_setEpoch_of ho hd hf ?_)
   refine ai (wpAny_newObj_type ?_)
   refine ay ⟨_,rfl, "set_iterator",_,⟨_,jv _ rfl,rfl⟩,bR.lookup,?_⟩
   have kL:(s.heap.push { cls:=.type "set_iterator",data:=.fields #[rawInt 0,rawInt 0,.ref a,rawInt es.size,rawInt ep] }).get? a=some o:=fe _ ho
   exact h s.heap.objs.size _ s.drawn _ _ _ (fun b o e=>fe _ e) (bP _) (fun b hb=>by
    rcases dA.mp hb with rfl|hb
    ·exact .inr (bP _)
    ·exact .inl (uj.mp hb)) (.refl _) (yq (ep:=ep) hh (eM fi) hb (by rw[hl,hb];rfl) Iq U hz hf) ⟨jv _ rfl,o,kL,hd⟩
  |true =>
   rw[if_pos (by simp)]
   refine ai (Hf es.size (List.range es.size) s _ (by simp) fun ix d hp=>?_)
   refine ai (wpAny_newObj_type ?_ ?hzz)
   case hzz =>
    have:=hp.length_eq
    rw[Qy] at this
    show(ix.map fun(i:Nat)=>rawInt i).toArray.size<=sizeLine
    rw[hX,cE,this];exact hn
   have sj:(s.heap.push { cls:=.type "tuple",data:=.seq (ix.map fun(i:Nat)=>rawInt i).toArray }).get? a=some o:=fe _ ho
   refine ai (wpAny_setEpoch_of sj hd hf ?_)
   refine ai (wpAny_newObj_type ?_)
   refine ay ⟨_,rfl, "set_iterator",_,⟨_,jv _ rfl,rfl⟩,bR.lookup,?_⟩
   have Sq:(s.heap.push { cls:=.type "tuple",data:=.seq (ix.map fun(i:Nat)=>rawInt i).toArray }).objs.size=s.heap.objs.size+1:=Heap.size_push ..
   refine h (s.heap.push { cls:=.type "tuple",data:=.seq (ix.map fun(i:Nat)=>rawInt i).toArray }).objs.size _ d [(s.heap.push { cls:=.type "tuple",data:=.seq (ix.map fun(i:Nat)=>rawInt i).toArray }).objs.size,a,s.heap.objs.size] _ (ix.filterMap fun k=>es[k]?) (fun b o e=>fe _ (fe _ e)) (by rw[Sq];exact Nat.le_succ _) (fun b hb=>?_) ?_
    (yz (ep:=ep) (kT:=0) (T:=s.heap.objs.size) (ix:=ix) (t:=t) hh (by rw[Sq];exact eM (zS fi)) (by rw[Sq];exact eM (Nat.lt_succ_self _)) hf hp) ⟨jv _ rfl,⟨o,fe _ sj,hd⟩,_,fe _ (jv _ rfl),rfl⟩
   ·rcases dA.mp hb with rfl|hb
    ·exact .inr (by rw[Sq];exact Nat.le_succ _)
    ·rcases dA.mp hb with rfl|hb
     ·exact .inl rfl
     ·rw[uj.mp hb];exact .inr (bP _)
   ·have:=hp.filterMap fun k=>es[k]?
    rw[xJ] at this
    exact this
theorem Cm (hT:s.TypeIs (.ref a) "set") (h:Q false s):wpAny (model prog w) A (Builtin.List.listLengthHint (.ref a)) Q E s:=by
 unfold Builtin.List.listLengthHint
 refine ai (wpAny_specialOf hT PySem.F.slot_set_len.lookup ?_)
 generalize hid:("set.__len__" : String)=id0
 wp_delta
 rw[show splitId id0=some ("set", "__len__") from by subst hid;decide +kernel]
 subst hid
 refine ai (wpAny_isInstance (T := "set") (b:=true) hT (by rw[isSubtype_type];kernel_rfl) ?_)
 refine wpAny_ite_split (fun E5=>absurd E5 (by decide)) (fun _=>?_)
 refine wpAny_ite_split (fun _=>?_) (fun E5=>absurd (by decide +kernel) E5)
 refine ai (wpAny_typeOf hT ?_)
 exact ay h
theorem Fq {R:Result->Shared->Prop} (hh:A.handled=none) (ho:s.heap.get? a=some o) (hex:o.ExactSet) (hd:o.data=.set es ep t) (hf:t.fits es.size=true) (U:Up t.place) (hz:t.place.size=es.size) (hl:t.led=(!w.params.followText "set-order")) (hn:es.size<=sizeLine)
  (S:Addr) (hSa:S≠a) (res:Value) (c₀:Nat) (hS:s.heap.get? S=some { cls:=.type "list",data:=.seq #[] c₀ })
  (hR:∀ h' tk d Bz c' ys,(∀ b o,b≠S->s.heap.get? b=some o->h'.get? b=some o)->h'.get? S=some { cls:=.type "list",dict:=none,data:=.seq Bz c',slots:=#[] }->ys.Perm es.toList->ItemsOf (PV ys) Bz es.size->R (.ok (.ret res)) { s with heap:=h',toks:=tk,drawn:=d }) :
  wpAny (model prog w) A.in1 (Builtin.List.listExtendWith (.ref S) (.ref a) res)
   (fun fin s'=>match fin with|.done f=>R (.ok f) s'|.again c'=>c'.quiet=true/\codeAny (model prog w) A c' R s') (fun e s'=>R (.error e) s') s:=by
 have hT:s.TypeIs (.ref a) "set" := ⟨o,ho,hex.1⟩
 have hSl:=dk hS
 unfold Builtin.List.listExtendWith
 refine ai (wpAny_typeOf hT ?_)
 have h1:Builtin.List.listSameRef (.ref S) (.ref a)=false:=by simp[Builtin.List.listSameRef,hSa]
 simp only[h1,show(Value.type "set" == Value.type "list")=false by decide,show(Value.type "set" == Value.type "tuple")=false by decide,Bool.or_false,iL,if_false]
 refine ai (Dc (A:=A.in1) hh ho hex hd hf U hz hl hn fun I h2 d fp St ys kp hI hfp hp W st=>?_)
 have E7:S∉fp:=fun hm=>by
  rcases hfp S hm with z|z
  ·exact hSa z
  ·exact absurd hSl (Nat.not_lt.mpr z)
 have key:∀ (h:Heap) (c₁ tk:Nat),St 0 h->(∀ b o,b≠S->s.heap.get? b=some o->h.get? b=some o) ->
   h.get? S=some { cls:=.type "list",data:=.seq #[] c₁ }->codeAny (model prog w) A (.builtin "list.extend.loop" ⟨[.ref S,.ref I,res],[]⟩) R { s with heap:=h,toks:=tk,drawn:=d }:=by
  intro h c₁ tk lI hk OW
  refine codeAny_extend_loopS W.toS hn S E7 res es.size 0 _ #[] c₁ rfl (eu _) lI OW (ItemsOf.nil _) fun s' Bz c' hm OV MX=>?_
  rw[Moved.eq_with hm]
  refine hR s'.heap s'.toks d Bz c' ys (fun b o hb e=>hm.heap b o (fun NC=>?_) (hk b o hb e)) OV hp MX
  rcases dA.mp NC with e'|NC
  ·exact hb e'
  ·exact absurd (dk e) (by rw[uj.mp NC];exact Nat.not_lt.mpr hI)
 have OW:h2.get? S=some { cls:=.type "list",data:=.seq #[] c₀ }:=kp _ _ hS
 refine ai (wpAny_holding (Cm (s:={ s with heap:=h2,drawn:=d }) ⟨o,kp _ _ ho,hex.1⟩ ?_))
 refine wpAny_ite_split (fun _=>?_) (fun _=>ay ⟨plainId_quiet PySem.F.plain_extend_loop _,key _ c₀ _ st (fun b o _ e=>kp b o e) OW⟩)
 refine ai (wpAny_rule ?_)
 refine ai ?_
 show wpAny _ _ (updateSeq S (·.push .none) >>= fun _=>updateSeq S (·.pop)) _ _ _
 refine ai (wpAny_updateSeq OW rfl ?_)
 have av':=BQ (Obj.mapSeq (·.push Value.none)) OW rfl
 refine wpAny_updateSeq (hz:=by seq_fits) av' rfl ?_
 have it':=BQ (Obj.mapSeq (·.pop)) av' rfl
 refine ay ⟨plainId_quiet PySem.F.plain_extend_loop _,key _ _ _ ?_ (fun b o hb e=>?_) it'⟩
 ·refine W.frame 0 _ _ st fun b hb o e=>?_
  have OU:b≠S:=fun h=>E7 (h ▸ hb)
  exact(KP _ _ (Ne.symm OU)).trans ((KP _ _ (Ne.symm OU)).trans e)
 ·exact(KP _ _ (Ne.symm hb)).trans ((KP _ _ (Ne.symm hb)).trans (kp _ _ e))
theorem yE(h:ItemsOf (PV ys) acc n)(hn:ys.length=n):acc.toList=ys.map (·.2):=by
 apply DT
 intro i
 rw[kf]
 by_cases hi:i<n
 ·have mw:i<acc.size:=by rw[h.1];exact hi
  have e1:acc[i]? = some acc[i]:=x3 mw
  obtain⟨e,he,hv⟩:=h.2 i acc[i] e1
  rw[og,e1,he,hv];rfl
 ·rw[xC (by rw[uk,h.1];lia),xC (by lia)];rfl
theorem lO {R:Result->Shared->Prop} (hh:A.handled=none) (ho:s.heap.get? a=some o) (hex:o.ExactSet) (hd:o.data=.set es ep t) (hf:t.fits es.size=true) (U:Up t.place) (hz:t.place.size=es.size) (hl:t.led=(!w.params.followText "set-order")) (hn:es.size<=sizeLine)
  (hR:∀ h' tk d Bz c' ys,(∀ b o,s.heap.get? b=some o->h'.get? b=some o)->h'.get? s.heap.objs.size=some { cls:=.type "list",dict:=none,data:=.seq Bz c',slots:=#[] }->ys.Perm es.toList->ItemsOf (PV ys) Bz es.size->R (.ok (.ret (.ref s.heap.objs.size))) { s with heap:=h',toks:=tk,drawn:=d }) :
  codeAny (model prog w) A (.builtin "proto.collect" ⟨[.ref a],[]⟩) R s:=by
 have fi:a<s.heap.objs.size:=dk ho
 have hS:(s.heap.push { cls:=.type "list",data:=.seq ([]:List Value).toArray }).get? s.heap.objs.size=some { cls:=.type "list",data:=.seq ([]:List Value).toArray }:=jv _ rfl
 refine codeAny_builtin F.entry_proto_collect ?_
 rw[Around.under_plainId F.plain_proto_collect _]
 show wpAny _ A.in1 (newList [] >>= fun l=>again (.builtin "list.__iadd__" ⟨[l,.ref a],[]⟩)) _ _ s
 refine ai (wpAny_newObj_type ?_)
 refine ay ⟨plainId_quiet F.plain_list_iadd _,codeAny_builtin F.entry_list_iadd ?_⟩
 rw[Around.under_plainId F.plain_list_iadd _]
 show wpAny _ A.in1 (Builtin.List.listExtendWith (.ref s.heap.objs.size) (.ref a) (.ref s.heap.objs.size)) _ _ _
 exact Fq (R:=R) (s:={ s with heap:=s.heap.push { cls:=.type "list",data:=.seq ([]:List Value).toArray } }) hh (fe _ ho) hex hd hf U hz hl hn s.heap.objs.size (Kx fi) _ 0 hS fun h' tk d Bz c' ys kp eo hp ia =>
  hR h' tk d Bz c' ys (fun b o e=>kp b o (eM (dk e)) (fe _ e)) eo hp ia
theorem nO (hh:A.handled=none) (ho:s.heap.get? a=some o) (hex:o.ExactSet) (hd:o.data=.set es ep t) (hf:t.fits es.size=true) (U:Up t.place) (hz:t.place.size=es.size) (hl:t.led=(!w.params.followText "set-order")) (hn:es.size<=sizeLine)
  (hQ:∀ h' tk d vs,(∀ b o,s.heap.get? b=some o->h'.get? b=some o)->s.heap.objs.size<=h'.objs.size->vs.Perm (es.toList.map (·.2))->Q vs { s with heap:=h',toks:=tk,drawn:=d }):wpAny (model prog w) A (collect (.ref a)) Q E s:=by
 unfold collect
 refine ai (wpAny_runValue (lO hh ho hex hd hf U hz hl hn fun h' tk d acc c ys kp eo hp ia=>?_))
 show wpAny _ A (load s.heap.objs.size >>= _) _ _ { s with heap:=h',toks:=tk,drawn:=d }
 refine ai (wpAny_load eo ?_)
 refine ay (hQ h' tk d _ kp (ll (dk eo)) ?_)
 rw[yE ia (by rw[hp.length_eq];simp)]
 exact hp.map _
end
end TS
namespace AU
open PySem PyProof.Rows
section
variable {prog:Program}{w:World}{A:Around}{E:Value->Shared->Prop}{s:Shared}{κ:SortKind}{r:Value->Int}{P:Value->Prop}
theorem m_{R:List Value->Prop}
  (iu':∀ (A':Around) (E':Value->Shared->Prop) (Q':List Value->Shared->Prop),A'.handled=A.handled->(∀ vs h1 tk d,R vs->(∀ b o,s.heap.get? b=some o->h1.get? b=some o)->s.heap.objs.size<=h1.objs.size->Q' vs { s with heap:=h1,toks:=tk,drawn:=d })->wpAny (model prog w) A' (collect v) Q' E' s)
  (fN:∀ vs,R vs->vs.length<=sizeLine) (hP:∀ vs,R vs->∀ v∈vs,P v)
  (hk:∀ vs,R vs->2<=vs.length->∀ (A':Around) (E':Value->Shared->Prop) (s':Shared),(∀ b o,s.heap.get? b=some o->s'.heap.get? b=some o)->∀ (Q:SortKind->Shared->Prop),Q κ s'->wpAny (model prog w) A' (keyKind' vs.toArray) Q E' s')
  (C:∀ (s':Shared),(∀ b o,s.heap.get? b=some o->s'.heap.get? b=some o)->nX prog w A.in1.in1 s' κ r P)
  (h:∀ (vs:List Value) (h':Heap) (a:Addr) (out:List Value) (n tk:Nat) d,R vs->out.Perm vs->(out.Pairwise fun x y=>r x<=r y)->(∀ b o,s.heap.get? b=some o->h'.get? b=some o)->s.heap.objs.size<=a->h'.get? a=some (seqObj "list" out.toArray n)->Q (.ref a) { s with heap:=h',toks:=tk,drawn:=d }) :
  wpAny (model prog w) A (call (.builtin "sorted") [v]) Q E s:=by
 refine Calls.call_function_entry kind_sorted plain_sorted entry_sorted (args_sorted1 _) ?_
 unfold Builtin.«sorted»
 refine ai (m:=checkCount "sorted" 1 1 _) (ay ?_)
 refine ai (iu' _ _ _ rfl fun vs h1 tk d hR kp hz=>?_)
 have y9:=fN vs hR
 refine ai (wpAny_newList ?_ (by simpa using y9))
 have LH:(h1.push (seqObj "list" vs.toArray 0)).get? h1.objs.size=some (seqObj "list" vs.toArray 0):=jv _ rfl
 have old:∀ b o,s.heap.get? b=some o->(gh (h1.push (seqObj "list" vs.toArray 0)) h1.objs.size vs).get? b=some o:=fun b o e=>by
  have fi:b<h1.objs.size:=dk (kp b o e)
  rw[uI (eM fi) (by rw[size_push'];exact zS fi)]
  exact fe _ (kp b o e)
 show wpAny _ _ _ _ _ { s with heap:=h1.push (seqObj "list" vs.toArray 0),toks:=tk,drawn:=d }
 refine ai (wpAny_holding (wpAny_call_entry slot_list_sort ⟨_,LH,rfl⟩ entry_list_sort (sG (r:=r) (s:={ s with heap:=h1.push (seqObj "list" vs.toArray 0),toks:=tk,drawn:=d }) LH y9 (hP vs hR)
  (fun h2=>hk vs hR h2 _ _ _ old) (fun h2=>C _ old) fun out a1 a2=>⟨_,rfl,?_⟩) (args_list_sort _)))
 obtain⟨n,e⟩:=sortedHeap_at (out:=out) LH
 refine ay ⟨_,rfl,h vs _ h1.objs.size out.toList n tk d hR a1 a2 (fun b o e=>?_) hz (by rw[Array.toArray_toList];exact e)⟩
 have fi:b<h1.objs.size:=dk (kp b o e)
 rw[sortedHeap_old (eM fi) (by rw[size_push'];exact zS fi)]
 exact fe _ (kp b o e)
end
end AU
namespace TS
open PySem PySem.SetTable PyProof.Rows
section
variable {prog:Program}{w:World}{K:Type}[DecidableEq K]{knd:KeyKind prog w K}{A:Around}{E:Value->Shared->Prop}{s:Shared}
theorem xq(led:Bool):TI (α:=α) (SetTable.fresh 0 0 led) #[] :=
 ⟨⟨3,rfl,bP _⟩,rfl,fun i j h hj=>absurd hj (DV _),fun i hi=>absurd hi (DV _),rfl,(by show 0*5<7*3;decide),fun i h x e=>by simp at e⟩
theorem tW{l:Addr}{items:Array Value}{xs:List (List K × Addr)}{Q:Value->Shared->Prop}(hh:A.handled=none)(hu:A.units+8<cLine)(hl:s.heap.IsList l items)(hi:items.toList=xs.map fun p=>Value.ref p.2)
  (oz:∀ p∈xs,IsTupleKey knd s.heap p.1 p.2) (hz:xs.length<=1000) (rh:∀ k v,knd.is k v=true->v.scannable=true)
  (h:∀ h' tk ks,HZ knd h' s.heap.objs.size ks->(∀ k,k∈ks.map (·.1)↔k∈xs.map (·.1))->(∀ p∈ks,p∈xs)->(∀ b o,s.heap.get? b=some o->h'.get? b=some o)->Q (.ref s.heap.objs.size) { s with heap:=h',toks:=tk }) :
  wpAny (model prog w) A (call (.type "set") [.ref l]) Q E s:=by
 have lt:∀ p∈xs,p.2<s.heap.objs.size:=fun p hp=>by
  obtain⟨o,_,_,ho,_⟩:=oz p hp
  exact dk ho
 refine lu hh hl (fun i h=>∃ ks,HZ knd h s.heap.objs.size ks/\(∀ k,k∈ks.map (·.1)↔k∈(xs.take i).map (·.1))/\(∀ p∈ks,p∈xs)/\ks.length<=i/\∀ p∈xs,IsTupleKey knd h p.1 p.2) (fun h e k=>?_) (fun i h h' ⟨ks,S,m1,m2,m3,m4⟩ k=>?_) (fun i v s' E' Q' hv ⟨ks,S,m1,m2,m3,m4⟩ q=>?_) fun h' tk ⟨ks,S,m1,m2,m3,m4⟩ k=>?_
 ·exact⟨[],⟨⟨_,#[],0,_,e,⟨rfl,rfl,rfl⟩,rfl,xq _,(by show 7<=8191;decide),rfl,rfl⟩,nK,fun p hp=>nomatch hp⟩,fun k=>by simp,(fun p hp=>nomatch hp),bP _,fun p hp=>IsTupleKey.gi (oz p hp) fun o ho=>k _ _ ho⟩
 ·obtain⟨⟨o,es,ep,t,ho,r⟩,nd,is⟩:=S
  exact⟨ks,⟨⟨o,es,ep,t,k _ _ (bP _) ho,r⟩,nd,fun p hp=>IsTupleKey.gi (is p hp) fun o ho=>k _ _ (ll (lt p (m2 p hp))) ho⟩,m1,m2,m3,fun p hp=>IsTupleKey.gi (m4 p hp) fun o ho=>k _ _ (ll (lt p hp)) ho⟩
 ·have pe:items.toList[i]? = some v:=by rw[og];exact hv
  rw[hi,kf] at pe
  cases ex:xs[i]? with
  |none=>rw[ex] at pe;cases pe
  |some p =>
   rw[ex] at pe
   cases pe
   have hp:=ui ex
   have hil:i<xs.length:=(lh.mp ex).1
   have Vn:(xs.take (i+1)).map (·.1)=(xs.take i).map (·.1)++[p.1]:=by
    rw[BI,ex,oD];rfl
   unfold setAdd
   refine wpAny_holding (ai (wpAny_pyHash_tuple (by show A.units+3<cLine;lia) (m4 p hp) ?_))
   refine Iu (s:={ s' with toks:=s'.toks+(p.1.length+1) }) S (m4 p hp) (by lia) (by show A.units+3<cLine;lia) rh fun b h' dv sb S' c=>?_
   refine q b h' _ sb ⟨dv,S',fun k=>?_,fun p' gd=>?_,?_,fun p' gd=>IsTupleKey.gi (m4 p' gd) fun o ho=>sb.extBut _ _ (eM (lt p' gd)) ho⟩
   ·rw[Vn,eJ,uj,<- m1]
    rcases c with⟨c1,rfl⟩|⟨c1,c2⟩
    ·exact⟨.inl,fun z=>z.elim id fun e=>e ▸ c1⟩
    ·rw[(c2.map _).mem_iff,iF,dA]
     exact⟨fun z=>z.symm,fun z=>z.symm⟩
   ·rcases c with⟨c1,rfl⟩|⟨c1,c2⟩
    ·exact m2 p' gd
    ·rcases dA.mp (c2.mem_iff.mp gd) with rfl|z
     ·exact hp
     ·exact m2 p' z
   ·rcases c with⟨c1,rfl⟩|⟨c1,c2⟩
    ·exact Nat.le_succ_of_le ‹_›
    ·rw[c2.length_eq];simp;lia
 ·have e:items.size=xs.length:=by
   have:=congrArg List.length hi
   simpa using this
  rw[e,FD] at m1
  exact h h' tk ks S m1 m2 fun b o ho=>k b o (dk ho) ho
end
end TS
namespace L2
open PySem PySem.Spec PyProof.Rows
section
variable {X:Cx}{pins:List (Addr × Obj)}{σ:St}{H:Hp}{s:Shared}
theorem Inv.drawn{d}(I:Inv X pins σ H s):Inv X pins σ H { s with drawn:=d }:=⟨I.ok,I.os,I.bare,I.base,I.loc,I.cell,I.free,I.om,I.pin,I.aI,I.len⟩
theorem xH:∀ (k:Key) (v:Value),(kR prog w).is k v=true->v.scannable=true:=fun k v h=>by
 rcases x5 h with⟨i,t,rfl,rfl⟩|⟨x,t,rfl,rfl⟩<;>rfl
def jq(K:PySem.W.Frag):V->Hp->VK->Prop:=fun x H Q=>match x with
 |.ref p=>∃ ys ks b0 sh,dn K H p ys/\ys.length<=1000/\fL H ys ks/\(∀ k∈ks,i3 k=b0 :: sh) /\
   ∀ zs ms l,fL H zs ms->ms.Nodup->(∀ k,k∈ms↔k∈ks)->(ms.Pairwise fun a b=>hV b a=false)->H l=none->Q (.ref l) (upd H l (.lst zs))
 |_=>False
theorem fL.pairs(h:fL H ys ks)(hv:Vals ys vs):∃ xs:List (List Key × Addr),vs=xs.map (fun p=>Value.ref p.2)/\xs.map (·.1)=ks/\∀ p∈xs,H p.2=some (.tup (p.1.map kV)):=by
 induction ys generalizing ks vs with
 |nil=>exact⟨[],Paired.n0 hv,(show ks=[] from Paired.n0 h).symm,fun p hp=>nomatch hp⟩
 |cons y ys ih =>
  obtain⟨k,ks,rfl,⟨b,rfl,g⟩,t⟩:=Paired.c h
  obtain⟨v,vs,rfl,rfl,rs⟩:=Paired.c hv
  obtain⟨xs,e1,e2,e3⟩:=ih t rs
  refine⟨(k,b) :: xs,by rw[e1];rfl,by rw[<- e2];rfl,fun p hp=>?_⟩
  rcases dA.mp hp with rfl|hp
  ·exact g
  ·exact e3 p hp
end
section
variable {X:Cx}{e:Expr}{te:TE}{p p2 pos sM:Pos}
theorem uM (hc:X.calm=true) (hu:X.A.units+64<cLine) (hg:Gl X "sorted") (hm:X.mg "sorted" = none) (E9:Gl X "set") (oq:X.mg "set" = none) (he:PE X e te)
  (hv:bootBuiltins "sorted" = some (.builtin "sorted")) (Vo:bootBuiltins "set" = some (.type "set"))
  (g0:starEach [e] X.env=(false,eval e X.env) :: starEach [] X.env:=by rfl)
  (hs:starEach [.Call (.Name "set" p2) [e] [] sM] X.env=(false,eval (.Call (.Name "set" p2) [e] [] sM) X.env) :: starEach [] X.env:=by rfl) :
  PE X (.Call (.Name "sorted" p) [.Call (.Name "set" p2) [e] [] sM] [] pos) (TQ (jq X.K) te):=by
 intro pins s σ H Q I h
 refine wpAny_Call_Name_kw (wd I hg hm hv ?_ (by decide) (by decide))
 refine PyProof.Rows.callWith_builtin1 ?_ hs rfl
 rw[hs]
 refine Calls.spliced_cons ?_
 refine wpAny_Call_Name_kw (wd I E9 oq Vo ?_ (by decide) (by decide))
 refine PyProof.Rows.callWith_type1 ?_ g0 rfl
 rw[g0]
 refine Calls.spliced_cons (cf (he pins s σ H _ I h) fun u s1 b9=>L2.fw b9 fun x H1 I1 r1 q1=>Calls.spliced_nil ?_)
 have q1:jq X.K x H1 Q:=q1
 obtain⟨a,rfl⟩:∃ a,x=.ref a:=by
  unfold jq at q1
  split at q1
  ·exact⟨_,rfl⟩
  ·exact q1.elim
 obtain⟨ys,ks,b0,sh,hl,hz1,ht,yy,q⟩:=q1
 cases r1
 obtain⟨vs,rv,pl,hz⟩:=I1.list hl
 obtain⟨xs,ex,ek,hx⟩:=ht.pairs rv
 have AR:X.A.handled=none:=I1.ok.hd hc
 have hlen:xs.length=ys.length:=by rw[rv.length,ex,cE]
 have oz:∀ p∈xs,IsTupleKey (kR X.prog X.w) s1.heap p.1 p.2:=fun p hp=>by
  obtain⟨us,ru,o,e1,c1,n1,d1⟩:=I1.tup (hx p hp)
  exact⟨o,us.toArray,n1,e1,c1,d1,by simpa using Uh ru⟩
 refine TS.tW (knd:=kR X.prog X.w) AR (by lia) pl.isList (by simpa using ex) oz (by lia) xH fun h2 tk dv S m1 m2 kp=>?_
 refine Calls.spliced_nil ?_
 obtain⟨⟨o,es,ep,t,ho,hex,hd,T,hM,hL,Bi⟩,nd,is⟩:=S
 have Vp:es.toList.map (·.2)=dv.map fun p=>Value.ref p.2:=by rw[Bi,hJ];rfl
 have ix':dv.length<=1000:=by
  have:=TS.dX nd (m:=ks) fun k hk=>by rw[<- ek];exact(m1 k).mp hk
  rw[cE] at this
  have:ks.length=xs.length:=by rw[<- ek,cE]
  lia
 have Vq:es.size=dv.length:=by
  have:=congrArg List.length Bi
  simpa using this
 have Vr:∀ p∈dv,p.1∈ks:=fun p hp=>by rw[<- ek];exact dP.mpr ⟨p,m2 p hp,rfl⟩
 have mem:∀ hG:List Value,hG.Perm (dv.map fun p=>Value.ref p.2)->∀ v∈hG,∃ b k,v=.ref b/\H1 b=some (.tup (k.map kV))/\k∈ks:=fun hG pv v hv=>by
  obtain⟨p,hp,rfl⟩:=dP.mp (pv.mem_iff.mp hv)
  exact⟨p.2,p.1,rfl,hx p (m2 p hp),Vr p hp⟩
 have OX:s1.heap.objs.size<=h2.objs.size:=ll (dk ho)
 refine AU.m_ (s:={ s1 with heap:=h2,toks:=tk }) (κ:=tuples' true) (R:=fun hG=>hG.Perm (dv.map fun p=>Value.ref p.2)) (r:=fun v=>A3 ks (vK H1 v)) (P:=fun v=>∃ b k,v=.ref b/\H1 b=some (.tup (k.map kV))/\i3 k=b0 :: sh/\k∈ks)
  (fun A' E' Q' hA hQ=>TS.nO (s:={ s1 with heap:=h2,toks:=tk }) (hA.trans AR) ho hex hd T.fits T.up T.sz hL (by rw[Vq,sizeLine_eq];lia) fun h' Bn d hG tT Vs pv=>hQ hG h' Bn d (by rw[<- Vp];exact pv) tT Vs)
  (fun hG pv=>by rw[pv.length_eq,cE,sizeLine_eq];lia) (fun hG pv v hv=>?_) (fun hG pv RJ A' E' s' tT Q' q'=>?_) (fun s' tT=>Bw I1 fun b o e=>tT b o (kp b o e)) fun hG h' a' out n Bn d pv pm pw tT ha eo=>?_
 ·obtain⟨b,k,e1,e2,e3⟩:=mem hG pv v hv
  exact⟨b,k,e1,e2,yy k e3,e3⟩
 ·obtain⟨zs,z1,z2⟩:=fL.of (H:=H1) (ks:=ks) hG (mem hG pv)
  obtain⟨fs,f1,f2,f3⟩:=kat_tups I1 (s':=s') (fun b o e=>tT b o (kp b o e)) z1 z2 fun k hk=>by
   obtain⟨v,hv,rfl⟩:=dP.mp hk
   obtain⟨b,k,rfl,e2,e3⟩:=mem hG pv v hv
   rw[fX e2];exact yy k e3
  cases b0 with
  |true =>
   refine PySem.W.kat_kind (T:=.type "int") f1 (by lia) (fun f hf=>?_) (by decide) q'
   obtain⟨i,t,rfl⟩:=(f3 f hf).1 rfl
   exact .now
  |false =>
   refine PySem.W.kat_kind (T:=.type "str") f1 (by lia) (fun f hf=>?_) (by decide) q'
   obtain⟨i,t,rfl⟩:=(f3 f hf).2 rfl
   exact .now
 ·have DC:=pm.trans pv
  obtain⟨zs,z1,z2⟩:=fL.of (H:=H1) (ks:=ks) out fun v hv=>mem _ DC v hv
  have zl:=z2.length
  have ol:=DC.length_eq
  rw[cE] at ol
  have Vt:(dv.map fun p=>Value.ref p.2).map (vK H1)=dv.map (·.1):=by
   rw[hJ]
   exact FC fun p hp=>fX (hx p (m2 p hp))
  have pms:(out.map (vK H1)).Perm (dv.map (·.1)):=by rw[<- Vt];exact DC.map _
  refine⟨.ref a',_,(I1.laid (a:=a') (t':=Bn) (fun b o e=>tT b o (kp b o e)) (kg OX ha) (show fI X.prog X.w _ h' _ (.lst zs) from⟨by rw[sizeLine_eq];lia,out,n,z2,eo⟩)).drawn,rfl,
   q zs _ _ z1 (pms.nodup_iff.mpr nd) (fun k=>by rw[pms.mem_iff,m1,ek]) ?_ (I1.aI.fresh (kg OX ha))⟩
  rw[zD]
  refine pw.imp_of_mem fun {x y} mx my hle=>?_
  obtain⟨b,k,rfl,hb,kk⟩:=mem _ DC x mx
  obtain⟨c,m,rfl,D5,km⟩:=mem _ DC y my
  rw[fX hb,fX D5] at *
  have:=xM (L:=ks) ((yy m km).trans (yy k kk).symm) km
  rw[<- this]
  exact decide_eq_false (by lia)
end
end L2
namespace TS
open PySem PySem.SetTable PyProof.Rows
section
variable {t:SetTable}{es:Array (Int × Value)}
theorem y_(T:TI t es)(h:Int)(x:Value):∃ j,j<=t.mask/\taken t.place j=false/\Reach t.mask t.place h j /\
  layNew t es h x=(insertAt es (below t.place j) (h,x),{ t with place:=insertAt t.place (below t.place j) j,dummies:=#[] },false,false):=by
 obtain⟨m,hm,_⟩:=T.pw
 obtain⟨e0,Vg,Vh⟩:=T.free
 obtain⟨nf,n1,n2,n3⟩:=pY hm h (taken t.place) Vg Vh
 obtain⟨n',a1,a2,a3,a4⟩:=rK T (fun _=>h+1) h (10*turns t.mask) 0 ⟨nf,eu _,by unfold turns;lia,n2⟩
 rcases a4 with⟨c1,c2⟩|⟨_,c2,_⟩
 ·have FU:n'<=nf:=by
   by_cases z:n'<=nf
   ·exact z
   ·have:=(a3 nf (eu _) (by exact Nat.lt_of_not_le ‹_›)).1
    rw[n2] at this;cases this
  refine⟨J t.mask h n',Si ..,c1,⟨n',by walk_at "s1",rfl,fun q hq=>(a3 q (eu _) hq).1⟩,?_⟩
  have Ul:t.freeSlot h=some (J t.mask h n',false):=by
   unfold SetTable.freeSlot
   have:t.probe (fun _=>h+1) h (t.probeStart h)=some (.empty (J t.mask h n') none):=c2
   rw[this];rfl
  have Vk:t.put (J t.mask h n')=({ t with place:=insertAt t.place (below t.place (J t.mask h n')) (J t.mask h n'),dummies:=#[] },below t.place (J t.mask h n')):=by
   unfold SetTable.put
   have:has t.dummies (J t.mask h n')=false:=by rw[T.dm];rfl
   simp only[this,iL,if_false]
   rw[T.dm]
  have hb:=(aU T.up (J t.mask h n')).1
  have R8:({ t with place:=insertAt t.place (below t.place (J t.mask h n')) (J t.mask h n'),dummies:=#[] }:SetTable).fits (insertAt es (below t.place (J t.mask h n')) (h,x)).size=true:=by
   have:=T.few
   have fN:(insertAt es (below t.place (J t.mask h n')) (h,x)).size=es.size+1:=bZ _ _ (by rw[<- T.sz];exact hb)
   simp only[SetTable.fits,SetTable.fill,fN,bZ _ _ hb,T.sz,ly,beq_iff_eq,decide_eq_true_eq,true_and]
   simp;lia
  unfold layNew
  rw[Ul]
  dsimp only
  rw[Vk]
  dsimp only
  unfold SetTable.orStandIn
  rw[R8]
  rfl
 ·exact absurd c2 (by lia)
end
section
variable {prog:Program}{w:World}{K:Type}[DecidableEq K]{knd:KeyKind prog w K}
def OY(knd:KeyKind prog w K)(p:K × Value):Int × Value:=(knd.hash p.1,p.2)
structure Sr(knd:KeyKind prog w K)(h:Heap)(a:Addr)(ks:List (K × Value)):Prop where
 ob:∃ o es ep t,h.get? a=some o/\o.ExactSet/\o.data=.set es ep t/\TI t es/\t.mask<=8191/\t.led=(!w.params.followText "set-order")/\es.toList=ks.map (OY knd)
 nd:(ks.map (·.1)).Nodup
 is:∀ p∈ks,knd.is p.1 p.2=true
variable {A:Around}{E:Value->Shared->Prop}{s:Shared}
theorem GQ(S:Sr knd s.heap a ks)(hx:knd.is k x=true)(hz:ks.length<1000)(rh:∀ k v,knd.is k v=true->v.scannable=true)
  (h:∀ (b:Bool) (h':Heap) (dv:List (K × Value)),Heap.SameBut a s.heap h'->Sr knd h' a dv->(k∈ks.map (·.1)/\dv=ks\/k∉ks.map (·.1)/\dv.Perm ((k,x) :: ks))->Q b { s with heap:=h' }) :
  wpAny (model prog w) A (setAddHashed a x (knd.hash k)) Q E s:=by
 obtain⟨⟨o,es,ep,t,ho,hex,hd,T,hM,hL,he⟩,nd,is⟩:=id S
 have hlen:es.size=ks.length:=by
  have:=congrArg List.length he
  simpa using this
 have Ic:ElemsOf knd es.toList:=fun e hm=>by
  rw[he] at hm
  obtain⟨p,hp,rfl⟩:=dP.mp hm
  exact⟨⟨p.1,is p hp,rfl⟩,rh _ _ (is p hp)⟩
 have Ry:scanBound=4096:=rfl
 unfold setAddHashed setAddHashedIn
 refine wpAny_holding (ai (wpAny_setState_of ho hd T.fits ?_))
 dsimp only
 rw[byScan_of (rh _ _ hx) (by lia) Ic]
 simp only[↓reduceIte]
 unfold setAddByScan
 refine ai ?_
 refine ai (wpAny_rule ?_)
 refine ai (wpAny_setScan_of hx ho hd T.fits Ic ?_)
 cases hr:List.findIdx? (fun e=>knd.is k e.2) es.toList with
 |some j =>
  dsimp only
  refine ay (ay ?_)
  obtain⟨hj,hpj,_⟩:=List.findIdx?_eq_some_iff_getElem.mp hr
  have hm:es.toList[j]∈ks.map (OY knd):=by rw[<- he];exact QB hj
  obtain⟨p,hp,LG⟩:=dP.mp hm
  rw[<- LG] at hpj
  have hk:k=p.1:=knd.inj p.2 k p.1 hpj (is p hp)
  have e:s={ s with heap:=s.heap }:=by cases s;rfl
  rw[e]
  exact h _ _ ks (Heap.SameBut.refl a s.heap) S (.inl ⟨dP.mpr ⟨p,hp,hk.symm⟩,rfl⟩)
 |none =>
  dsimp only
  have AZ:k∉ks.map (·.1):=fun hm=>by
   obtain⟨p,hp,rfl⟩:=dP.mp hm
   have:=List.findIdx?_eq_none_iff.mp hr (OY knd p) (by rw[he];exact dP.mpr ⟨p,hp,rfl⟩)
   rw[show knd.is p.1 (OY knd p).2=true from is p hp] at this
   cases this
  obtain⟨j,Vi,n2,Vj,hlay⟩:=y_ T (knd.hash k) x
  rw[hlay]
  dsimp only
  refine ai (ay ?_)
  have cK:(insertAt es (below t.place j) (knd.hash k,x)).toList=(ks.take (below t.place j)++(k,x) :: ks.drop (below t.place j)).map (OY knd):=by
   rw[pZ,he,oD,iF,List.map_take,List.map_drop];rfl
  have tS:(ks.take (below t.place j)++(k,x) :: ks.drop (below t.place j)).Perm ((k,x) :: ks):=by
   refine List.perm_middle.trans ?_
   rw[Fu]
  have Dx:below t.place j<=es.size:=by rw[<- T.sz];exact(aU T.up j).1
  have y9:(insertAt es (below t.place j) (knd.hash k,x)).size=es.size+1:=bZ _ _ Dx
  have OO:∀ dv:List (K × Value),dv.Perm ((k,x) :: ks)->∀ p∈dv,knd.is p.1 p.2=true:=fun dv pm p hp=>by
   rcases dA.mp (pm.mem_iff.mp hp) with rfl|hp
   ·exact hx
   ·exact is p hp
  have OQ:∀ dv:List (K × Value),dv.Perm ((k,x) :: ks)->(dv.map (·.1)).Nodup:=fun dv pm=>by
   rw[(pm.map _).nodup_iff,iF,nE]
   exact⟨AZ,nd⟩
  have main:∀ t':SetTable,t'.mask=t.mask->t'.place=insertAt t.place (below t.place j) j->t'.dummies = #[]->t'.led=t.led->wpAny (model prog w) A (do
    storeSet a (insertAt es (below t.place j) (knd.hash k,x)) t'
    if (!false && t'.tooFull)=true then do
      Jb (relayAll t' (insertAt es (below t.place j) (knd.hash k,x)) (grown (insertAt es (below t.place j) (knd.hash k,x)).size)).2.2
      storeSet a (relayAll t' (insertAt es (below t.place j) (knd.hash k,x)) (grown (insertAt es (below t.place j) (knd.hash k,x)).size)).1 (relayAll t' (insertAt es (below t.place j) (knd.hash k,x)) (grown (insertAt es (below t.place j) (knd.hash k,x)).size)).2.1
      pure (some true)
     else pure (some true)) (fun r s'=>wpAny (model prog w) A (match r with|some added=>pure added|none=>setAddHashedIn a x (knd.hash k) 99999) Q E s') E s:=fun t' tm tp td tl=>by
   have Sn:t'.fill=es.size+1:=by
    unfold SetTable.fill
    rw[tp,td,bZ _ _ (aU T.up j).1,T.sz];simp
   refine ai (wpAny_storeSet_of ho hd ?_ (by rw[y9,sizeLine_eq];lia))
   have sj:(s.heap.update a (Obj.putSet (insertAt es (below t.place j) (knd.hash k,x)) t')).get? a=some { o with data:=.set (insertAt es (below t.place j) (knd.hash k,x)) (ep+1) t' }:=by
    have:=BQ (Obj.putSet (insertAt es (below t.place j) (knd.hash k,x)) t') ho (by rw[putSet_of _ _ hd];rfl)
    rw[putSet_of _ _ hd] at this;exact this
   have sL:=Heap.SameBut.update s.heap a (Obj.putSet (insertAt es (below t.place j) (knd.hash k,x)) t')
   by_cases c:t'.tooFull=true
   ·rw[if_pos (by rw[c];rfl)]
    obtain⟨t2,order,r1,r2,r3,r4,r5,r6,r7,r8,r9⟩:=tM (t:=t') (es:=insertAt es (below t.place j) (knd.hash k,x)) (by lia)
    have iy':relayAll t' (insertAt es (below t.place j) (knd.hash k,x)) (grown (insertAt es (below t.place j) (knd.hash k,x)).size)=(order.filterMap fun i=>(insertAt es (below t.place j) (knd.hash k,x))[i]?,t2,false):=by
     unfold relayAll
     rw[r1]
     dsimp only
     rw[if_pos]
     rw[ly]
     refine⟨?_,r6.fits⟩
     unfold coversAll
     rw[List.isPerm_iff];exact r9
    rw[iy']
    dsimp only
    refine ai (ay ?_)
    obtain⟨dv,ek,pk⟩:=lq r8 cK
    refine ai (wpAny_storeSet_of sj rfl ?_ (by rw[r7,y9,sizeLine_eq];lia))
    refine ay (ay ?_)
    have DB:=sL.trans (Heap.SameBut.update _ a (Obj.putSet (order.filterMap fun i=>(insertAt es (below t.place j) (knd.hash k,x))[i]?) t2))
    have ti:=BQ (Obj.putSet (order.filterMap fun i=>(insertAt es (below t.place j) (knd.hash k,x))[i]?) t2) sj (by rw[putSet_of _ _ rfl];rfl)
    rw[putSet_of _ _ rfl] at ti
    exact h true _ dv DB ⟨⟨_,_,_,_,ti,hex,rfl,r6,r5 (by lia),by rw[r3,tl];exact hL,ek⟩,OQ dv (pk.trans tS),OO dv (pk.trans tS)⟩ (.inr ⟨AZ,pk.trans tS⟩)
   ·rw[if_neg (by simpa using c)]
    refine ay (ay ?_)
    have wq:(es.size+1)*5<t.mask*3:=by
     unfold SetTable.tooFull at c
     rw[Sn,tm] at c
     simpa using c
    exact h true _ _ sL ⟨⟨_,_,_,_,sj,hex,rfl,T.put Vi n2 Vj tm tp td wq,by rw[tm];exact hM,by rw[tl];exact hL,cK⟩,OQ _ tS,OO _ tS⟩ (.inr ⟨AZ,tS⟩)
  split
  ·refine ai ?_
   rw[hashByValue_scannable 8 (rh _ _ hx)]
   refine ay ?_
   split
   ·exact main _ rfl rfl rfl rfl
   ·exact main _ rfl rfl rfl rfl
  ·refine ai (ay ?_)
   rw[if_pos rfl]
   exact main _ rfl rfl rfl rfl
end
section
variable {prog:Program}{w:World}{K:Type}[DecidableEq K]{knd:KeyKind prog w K}{A:Around}{E:Value->Shared->Prop}{s:Shared}
theorem qX{l:Addr}{items:Array Value}{xs:List (K × Value)}{Q:Value->Shared->Prop}(hh:A.handled=none)(hl:s.heap.IsList l items)(hi:items.toList=xs.map (·.2))
  (oz:∀ p∈xs,knd.is p.1 p.2=true) (hz:xs.length<=1000) (rh:∀ k v,knd.is k v=true->v.scannable=true)
  (h:∀ h' tk ks,Sr knd h' s.heap.objs.size ks->(∀ k,k∈ks.map (·.1)↔k∈xs.map (·.1))->(∀ p∈ks,p∈xs)->(∀ b o,s.heap.get? b=some o->h'.get? b=some o)->Q (.ref s.heap.objs.size) { s with heap:=h',toks:=tk }) :
  wpAny (model prog w) A (call (.type "set") [.ref l]) Q E s:=by
 refine lu hh hl (fun i h=>∃ ks,Sr knd h s.heap.objs.size ks/\(∀ k,k∈ks.map (·.1)↔k∈(xs.take i).map (·.1))/\(∀ p∈ks,p∈xs)/\ks.length<=i) (fun h e k=>?_) (fun i h h' ⟨ks,S,m1,m2,m3⟩ k=>?_) (fun i v s' E' Q' hv ⟨ks,S,m1,m2,m3⟩ q=>?_) fun h' tk ⟨ks,S,m1,m2,m3⟩ k=>?_
 ·exact⟨[],⟨⟨_,#[],0,_,e,⟨rfl,rfl,rfl⟩,rfl,xq _,(by show 7<=8191;decide),rfl,rfl⟩,nK,fun p hp=>nomatch hp⟩,fun k=>by simp,(fun p hp=>nomatch hp),bP _⟩
 ·obtain⟨⟨o,es,ep,t,ho,r⟩,nd,is⟩:=S
  exact⟨ks,⟨⟨o,es,ep,t,k _ _ (bP _) ho,r⟩,nd,is⟩,m1,m2,m3⟩
 ·have pe:items.toList[i]? = some v:=by rw[og];exact hv
  rw[hi,kf] at pe
  cases ex:xs[i]? with
  |none=>rw[ex] at pe;cases pe
  |some p =>
   rw[ex] at pe
   cases pe
   have hp:=ui ex
   have hil:i<xs.length:=(lh.mp ex).1
   have Vn:(xs.take (i+1)).map (·.1)=(xs.take i).map (·.1)++[p.1]:=by
    rw[BI,ex,oD];rfl
   unfold setAdd
   refine wpAny_holding (ai (knd.pyHash (k:=p.1) (oz p hp) ?_))
   refine GQ (s:={ s' with toks:=s'.toks+1 }) S (oz p hp) (by lia) rh fun b h' dv sb S' c=>?_
   refine q b h' _ sb ⟨dv,S',fun k=>?_,fun p' gd=>?_,?_⟩
   ·rw[Vn,eJ,uj,<- m1]
    rcases c with⟨c1,rfl⟩|⟨c1,c2⟩
    ·exact⟨.inl,fun z=>z.elim id fun e=>e ▸ c1⟩
    ·rw[(c2.map _).mem_iff,iF,dA]
     exact⟨fun z=>z.symm,fun z=>z.symm⟩
   ·rcases c with⟨c1,rfl⟩|⟨c1,c2⟩
    ·exact m2 p' gd
    ·rcases dA.mp (c2.mem_iff.mp gd) with rfl|z
     ·exact hp
     ·exact m2 p' z
   ·rcases c with⟨c1,rfl⟩|⟨c1,c2⟩
    ·exact Nat.le_succ_of_le ‹_›
    ·rw[c2.length_eq];simp;lia
 ·have e:items.size=xs.length:=by
   have:=congrArg List.length hi
   simpa using this
  rw[e,FD] at m1
  exact h h' tk ks S m1 m2 fun b o ho=>k b o (dk ho) ho
end
end TS
namespace L2
open PySem PySem.Spec PyProof.Rows
def jG(K:PySem.W.Frag):V->Hp->VK->Prop:=fun x H Q=>match x with
 |.ref p=>∃ (ks:List Key) (b:Bool),dn K H p (ks.map kV)/\ks.length<=1000/\(∀ k∈ks,ot k=b) /\
   ∀ (ms:List Key) (l:Addr),ms.Nodup->(∀ k,k∈ms↔k∈ks)->(ms.Pairwise fun a b=>nS b a=false)->H l=none->Q (.ref l) (upd H l (.lst (ms.map kV)))
 |_=>False
theorem yL(h:Vals (ks.map kV) vs):∃ xs:List (Key × Value),vs=xs.map (·.2)/\xs.map (·.1)=ks/\∀ p∈xs,RelV (kV p.1) p.2:=by
 induction ks generalizing vs with
 |nil=>exact⟨[],Paired.n0 h,rfl,fun p hp=>nomatch hp⟩
 |cons k ks ih =>
  obtain⟨v,vs,rfl,r,rs⟩:=Paired.c h
  obtain⟨xs,e1,e2,e3⟩:=ih rs
  refine⟨(k,v) :: xs,by rw[e1];rfl,by rw[<- e2];rfl,fun p hp=>?_⟩
  rcases dA.mp hp with rfl|hp
  ·exact r
  ·exact e3 p hp
section
variable {X:Cx}{e:Expr}{te:TE}{p p2 pos sM:Pos}
theorem vf (hc:X.calm=true) (hg:Gl X "sorted") (hm:X.mg "sorted" = none) (E9:Gl X "set") (oq:X.mg "set" = none) (he:PE X e te)
  (hv:bootBuiltins "sorted" = some (.builtin "sorted")) (Vo:bootBuiltins "set" = some (.type "set"))
  (g0:starEach [e] X.env=(false,eval e X.env) :: starEach [] X.env:=by rfl)
  (hs:starEach [.Call (.Name "set" p2) [e] [] sM] X.env=(false,eval (.Call (.Name "set" p2) [e] [] sM) X.env) :: starEach [] X.env:=by rfl) :
  PE X (.Call (.Name "sorted" p) [.Call (.Name "set" p2) [e] [] sM] [] pos) (TQ (jG X.K) te):=by
 intro pins s σ H Q I h
 refine wpAny_Call_Name_kw (wd I hg hm hv ?_ (by decide) (by decide))
 refine PyProof.Rows.callWith_builtin1 ?_ hs rfl
 rw[hs]
 refine Calls.spliced_cons ?_
 refine wpAny_Call_Name_kw (wd I E9 oq Vo ?_ (by decide) (by decide))
 refine PyProof.Rows.callWith_type1 ?_ g0 rfl
 rw[g0]
 refine Calls.spliced_cons (cf (he pins s σ H _ I h) fun u s1 b9=>L2.fw b9 fun x H1 I1 r1 q1=>Calls.spliced_nil ?_)
 have q1:jG X.K x H1 Q:=q1
 obtain⟨a,rfl⟩:∃ a,x=.ref a:=by
  unfold jG at q1
  split at q1
  ·exact⟨_,rfl⟩
  ·exact q1.elim
 obtain⟨ks,b,hl,hz1,hb,q⟩:=q1
 cases r1
 obtain⟨vs,rv,pl,hz⟩:=I1.list hl
 obtain⟨xs,ex,ek,hx⟩:=yL rv
 have AR:X.A.handled=none:=I1.ok.hd hc
 have hlen:xs.length=ks.length:=by rw[<- ek,cE]
 have oz:∀ p∈xs,(kR X.prog X.w).is p.1 p.2=true:=fun p hp=>by
  obtain⟨k,v⟩:=p
  have r:=hx _ hp
  rw[bW']
  cases k with
  |inl i=>obtain⟨t,e⟩:=r;rw[show v=_ from e];exact XS ..
  |inr x=>obtain⟨t,e⟩:=r;rw[show v=_ from e];exact XX ..
 refine TS.qX (knd:=kR X.prog X.w) AR pl.isList (by simpa using ex) oz (by lia) xH fun h2 tk dv S m1 m2 kp=>?_
 refine Calls.spliced_nil ?_
 obtain⟨⟨o,es,ep,t,ho,hex,hd,T,hM,hL,Bi⟩,nd,is⟩:=S
 have Vp:es.toList.map (·.2)=dv.map (·.2):=by rw[Bi,hJ];rfl
 have ix':dv.length<=1000:=by
  have:=TS.dX nd (m:=ks) fun k hk=>by rw[<- ek];exact(m1 k).mp hk
  rw[cE] at this
  walk_at "s1"
 have Vq:es.size=dv.length:=by
  have:=congrArg List.length Bi
  simpa using this
 have Vr:∀ p∈dv,p.1∈ks:=fun p hp=>by rw[<- ek];exact dP.mpr ⟨p,m2 p hp,rfl⟩
 have mem:∀ hG:List Value,hG.Perm (dv.map (·.2))->∀ v∈hG,∃ k,RelV (kV k) v/\k∈ks:=fun hG pv v hv=>by
  obtain⟨p,hp,rfl⟩:=dP.mp (pv.mem_iff.mp hv)
  exact⟨p.1,hx p (m2 p hp),Vr p hp⟩
 have OX:s1.heap.objs.size<=h2.objs.size:=ll (dk ho)
 refine AU.m_ (s:={ s1 with heap:=h2,toks:=tk }) (κ:=oneType') (R:=fun hG=>hG.Perm (dv.map (·.2))) (r:=fun v=>A3 (ks.map fun k=>[k]) (kZ v)) (P:=fun v=>∃ k,RelV (kV k) v/\ot k=b/\k∈ks)
  (fun A' E' Q' hA hQ=>TS.nO (s:={ s1 with heap:=h2,toks:=tk }) (hA.trans AR) ho hex hd T.fits T.up T.sz hL (by rw[Vq,sizeLine_eq];walk_at "s4") fun h' Bn d hG tT Vs pv=>hQ hG h' Bn d (by rw[<- Vp];exact pv) tT Vs)
  (fun hG pv=>by rw[pv.length_eq,cE,sizeLine_eq];walk_at "s4") (fun hG pv v hv=>?_) (fun hG pv RJ A' E' s' tT Q' q'=>?_) (fun s' tT=>Cz) fun hG h' a' out n Bn d pv pm pw tT ha eo=>?_
 ·obtain⟨k,rk,mk⟩:=mem hG pv v hv
  exact⟨k,rk,hb k mk,mk⟩
 ·obtain⟨ms,rm⟩:=uq (ks:=ks) hG (mem hG pv)
  refine zF (b:=b) rm (fun k hk=>?_) RJ q'
  have:(hG.map kZ)=ms.map fun k=>[k]:=keys_map rm
  have CD:[k]∈hG.map kZ:=by rw[this];exact dP.mpr ⟨k,hk,rfl⟩
  obtain⟨v,hv,e⟩:=dP.mp CD
  obtain⟨k',rk,mk⟩:=mem hG pv v hv
  rw[nR rk] at e
  cases e
  exact hb _ mk
 ·have DC:=pm.trans pv
  obtain⟨ms,rm⟩:=uq (ks:=ks) out (mem _ DC)
  have Vt:(dv.map (·.2)).map kZ=(dv.map (·.1)).map fun k=>[k]:=by
   rw[hJ,hJ]
   exact FC fun p hp=>nR (hx p (m2 p hp))
  have pk:ms.Perm (dv.map (·.1)):=zG (by rw[<- keys_map rm,<- Vt];exact DC.map _)
  have hml:ms.length=dv.length:=by simpa using pk.length_eq
  have ay':∀ k∈ms,k∈ks:=fun k hk=>by rw[<- ek];exact(m1 k).mp (pk.mem_iff.mp hk)
  refine⟨.ref a',_,(I1.laid (a:=a') (t':=Bn) (fun b o e=>tT b o (kp b o e)) (kg OX ha) (show fI X.prog X.w _ h' _ (.lst (ms.map kV)) from⟨by rw[cE,sizeLine_eq];lia,out,n,rm,eo⟩)).drawn,rfl,
   q ms _ (pk.nodup_iff.mpr nd) (fun k=>by rw[pk.mem_iff,m1,ek]) ?_ (I1.aI.fresh (kg OX ha))⟩
  have pw2:(out.map kZ).Pairwise fun x y=>A3 (ks.map fun k=>[k]) x<=A3 (ks.map fun k=>[k]) y:=zD.mpr pw
  rw[keys_map rm,zD] at pw2
  refine pw2.imp_of_mem fun {x y} mx my hle=>?_
  have mx:=ay' x mx
  have my:=ay' y my
  rw[<- Aw,<- xM (L:=ks.map fun k=>[k]) (by simp[i3,hb x mx,hb y my]) (dP.mpr ⟨y,my,rfl⟩)]
  exact decide_eq_false (by lia)
end
end L2
namespace L2.Q
open PySem PySem.Spec PyProof.Rows
section
variable {X:Cx}{K:PySem.W.Frag}{e:Expr}{te:WE}{p p2 pos sM:Pos}
theorem DW:bootBuiltins "set" = some (.type "set"):=by decide +kernel
def jg:W1:=fun _ x Q=>match x with
 |.list xs=>∃ (ks:List (List Key)) (sh:List Bool),xs=ks.map qk/\ks.length<=1000/\(∀ k∈ks,i3 k=true :: sh)/\∀ ms:List (List Key),ms.Nodup->(∀ k,k∈ms↔k∈ks)->(ms.Pairwise fun a b=>hV b a=false)->Q (.ow true) (.list (ms.map qk))
 |_=>False
def je:W1:=fun _ x Q=>match x with
 |.list xs=>∃ (ks:List Key) (b:Bool),xs=ks.map px/\ks.length<=1000/\(∀ k∈ks,ot k=b)/\∀ ms:List Key,ms.Nodup->(∀ k,k∈ms↔k∈ks)->(ms.Pairwise fun a b=>nS b a=false)->Q (.ow true) (.list (ms.map px))
 |_=>False
theorem vJ:R1 K (jq K) jg:=by
 intro Hs H m x v As Qd Qv w rx h f
 have r1:=rx.rep w
 cases r1 with
 |list z s q =>
  obtain⟨ks,sh,rfl,hz,hs,h⟩:=h
  obtain⟨ta,ok⟩:=G8 q
  have hl:=q.length
  rw[cE] at hl
  refine⟨_,ks,true,sh,s,by lia,ta,hs,fun zs ms l tz nd mm pw hl'=>?_⟩
  have rr:=wQ (K:=K) tz fun k hk=>ok k ((mm k).mp hk)
  have:ms.length<=ks.length:=TS.dX nd fun k hk=>(mm k).mp hk
  exact f.lst w (by rw[cE,sizeLine_eq];lia) rr (mX ms) (h ms nd mm pw) l hl'
 |_=>exact h.elim
theorem uX:R1 K (jG K) je:=by
 intro Hs H m x v As Qd Qv w rx h f
 have r1:=rx.rep w
 cases r1 with
 |list z s q =>
  obtain⟨ks,b,rfl,hz,hb,h⟩:=h
  obtain⟨e,ok⟩:=Ab q
  subst e
  refine⟨ks,b,s,hz,hb,fun ms l nd mm pw hl=>?_⟩
  have:ms.length<=ks.length:=TS.dX nd fun k hk=>(mm k).mp hk
  exact f.lst w (by rw[cE,sizeLine_eq];lia) (qO fun k hk=>ok k ((mm k).mp hk)) (nU ms) (h ms nd mm pw) l hl
 |_=>exact h.elim
theorem yl (hu:X.A.units+64<cLine) (hg:Gl X "sorted") (hm:X.mg "sorted" = none) (E9:Gl X "set") (oq:X.mg "set" = none) (he:QE X K e te) (hc:X.calm=true:=by rfl) (hK:X.K=K:=by rfl)
  (g0:starEach [e] X.env=(false,eval e X.env) :: starEach [] X.env:=by rfl)
  (hs:starEach [.Call (.Name "set" p2) [e] [] sM] X.env=(false,eval (.Call (.Name "set" p2) [e] [] sM) X.env) :: starEach [] X.env:=by rfl) :
  QE X K (.Call (.Name "sorted" p) [.Call (.Name "set" p2) [e] [] sM] [] pos) (de jg te):=by
 subst hK
 refine PE.imp (uM hc hu hg hm E9 oq he sZ DW g0 hs) fun σ H Qv da=>?_
 obtain⟨Hs,ρ,ag,Q,sr,h,fin⟩:=da
 exact⟨Hs,ρ,ag,_,sr,h,fun v H1 ax m x As g1 r1 f1 q1=>vJ ax H1 m x v As Q Qv g1.wf r1 q1 (Fin.after fin g1)⟩
theorem yw (hg:Gl X "sorted") (hm:X.mg "sorted" = none) (E9:Gl X "set") (oq:X.mg "set" = none) (he:QE X K e te) (hc:X.calm=true:=by rfl) (hK:X.K=K:=by rfl)
  (g0:starEach [e] X.env=(false,eval e X.env) :: starEach [] X.env:=by rfl)
  (hs:starEach [.Call (.Name "set" p2) [e] [] sM] X.env=(false,eval (.Call (.Name "set" p2) [e] [] sM) X.env) :: starEach [] X.env:=by rfl) :
  QE X K (.Call (.Name "sorted" p) [.Call (.Name "set" p2) [e] [] sM] [] pos) (de je te):=by
 subst hK
 refine PE.imp (vf hc hg hm E9 oq he sZ DW g0 hs) fun σ H Qv da=>?_
 obtain⟨Hs,ρ,ag,Q,sr,h,fin⟩:=da
 exact⟨Hs,ρ,ag,_,sr,h,fun v H1 ax m x As g1 r1 f1 q1=>uX ax H1 m x v As Q Qv g1.wf r1 q1 (Fin.after fin g1)⟩
end
end L2.Q
namespace L2.Q.R
open PySem PySem.Spec PyProof.Rows L2.Q
section
variable {Q:Md->L2.Q.D->Prop}{m:Md}{xs:List L2.Q.D}
theorem Ho:jg m (.list xs) Q = ∃ (ks:List (List Key)) (sh:List Bool),xs=ks.map qk/\ks.length<=1000/\(∀ k∈ks,i3 k=true :: sh)/\∀ ms:List (List Key),ms.Nodup->(∀ k,k∈ms↔k∈ks)->(ms.Pairwise fun a b=>hV b a=false)->Q (.ow true) (.list (ms.map qk)):=rfl
theorem Hn:je m (.list xs) Q = ∃ (ks:List Key) (b:Bool),xs=ks.map px/\ks.length<=1000/\(∀ k∈ks,ot k=b)/\∀ ms:List Key,ms.Nodup->(∀ k,k∈ms↔k∈ks)->(ms.Pairwise fun a b=>nS b a=false)->Q (.ow true) (.list (ms.map px)):=rfl
end
end L2.Q.R
namespace L2
open PySem PySem.Spec PyProof.Rows
end L2
namespace L2.Q
open PySem PySem.Spec PyProof.Rows
end L2.Q
namespace L2.Q.R
open PySem PySem.Spec PyProof.Rows L2.Q
end L2.Q.R
namespace L2.Q
open PySem PySem.Spec PyProof.Rows PySem.W
abbrev aA':List Value:=[.type "ValueError",.type "Exception",.type "BaseException",.type "object"]
structure nh(K:PySem.W.Frag)(C:Addr):Prop where
 ex:excIn K C aA' "ValueError.__new__" = true
 gx:findIn K (.ref C) "__getattr__" = some none
 ga:findIn K (.ref C) "__getattribute__" = some (some (.builtin "BaseException.__getattribute__"))
 cl:findIn K (.ref C) "__class__" = some (some (.builtin "object.__class__"))
 ob:mroIn K C (.type "object")=some true
theorem nh.obj{K:PySem.W.Frag}(x:nh K C)(X:K.In h):∃ bm N nm q bs hdct sn sub ab col dd k0 k1 k2 k3 k5 mN,
  h.get? C=some (excClassObj nm q C N bs bm hdct sn sub ab col dd k0 k1 k2 k3 k5 "ValueError.__new__")/\h.Ns N mN/\mN "__init__" = none/\OwnTail h aA' bm:=by
 have q:=x.ex
 unfold excIn at q
 split at q
 ·rename_i dd cd sl ho
  split at q
  ·rename_i C' bm k0 k1 k2 k3 n k5 hm hs
   simp only[ly,beq_iff_eq,Tj] at q
   obtain⟨⟨⟨⟨⟨e1,e2⟩,aB'⟩,ht⟩,aI⟩,BD⟩:=q
   cases e1;cases e2
   cases cd
   dsimp only at hm aB' aI BD
   cases hm;cases aB'
   have kP:sl = #[k0,k1,k2,k3,some (.builtin "ValueError.__new__"),k5]:=by
    cases sl
    dsimp only at hs
    rw[hs]
   cases kP
   exact⟨bm,_,_,_,_,_,_,_,_,_,dd,k0,k1,k2,k3,k5,_,X _ _ ho,.of_isNs (isNs_of_in X aI),nsMap_none_of_in X aI BD,tail_of_in X ht⟩
  ·cases q
 ·cases q
section
variable {prog:Program}{w:World}{A:Around}{E:Value->Shared->Prop}{h:Heap}{g:Array GenState}{d:Drawn}{t:Nat}{os:OsState}{a C:Addr}{o:Obj}{K:PySem.W.Frag}
theorem Dh{R:Result->Shared->Prop}(x:nh K C)(X:K.In h)(hx:h.get? a=some o)(hc:o.cls=.ref C)(hq:R (.ok (.ret (.ref C))) ⟨h,g,d,t,os⟩) :
  codeAny (model prog w) A (.call (.builtin "getset_descriptor.__get__") ⟨[.builtin "object.__class__",.ref a,.ref C],[]⟩) R ⟨h,g,d,t,os⟩:=by
 obtain⟨bm,N,nm,q,bs,hdct,sn,sub,ab,col,dd,k0,k1,k2,k3,k5,mN,hC,hN,BD,T⟩:=x.obj X
 have hT5:(⟨h,g,d,t,os⟩:Shared).TypeIs (.builtin "object.__class__") "getset_descriptor" := F.typeOf_object_class
 have OZ:(Value.ref C :: bm).contains (.type (".".intercalate ("object.__class__".cutAt '.').dropLast))=true:=by
  rw[F.owner_object_class,Tb,T.hasType (X := "object") (b:=true) rfl];rfl
 refine codeAny_call_builtin F.slot_gs_get.plain F.entry_gs_get (F.slot_gs_get.check _ _ _ _ _ _ _ _ hT5 (F.args_gs_get _ _ _) ?_)
 repeat (any_goals (first|assumption|(with_reducible refine wpAny_loadPart_at hx ?_;rw[hc])|(with_reducible refine wpAny_isSubtype_exc hC ?_;rw[OZ])|wp_step))
 refine⟨Code.quiet_builtin _ (by decide +kernel),codeAny_builtin F.entry_object_class ?_⟩
 repeat (any_goals (first|assumption|(with_reducible refine wpAny_loadPart_at hx ?_;rw[hc])|wp_step))
theorem yH(x:nh K C)(X:K.In h)(hx:h.get? a=some o)(hc:o.cls=.ref C)(hq:Q (.done (.ret (.ref C))) ⟨h,g,d,t,os⟩) :
  wpAny (model prog w) A (Builtin.«object.__getattribute__» ⟨[.ref a,.str "__class__" tk],[]⟩) Q E ⟨h,g,d,t,os⟩:=by
 have hT5:(⟨h,g,d,t,os⟩:Shared).TypeIs (.builtin "object.__class__") "getset_descriptor" := F.typeOf_object_class
 have f5:=F.typeOf_object_class
 have f6:=F.slot_gs_get.lookup
 have f7:=F.slot_gs_set.lookup
 have Lk:=looks_findIn (M:=model prog w) X x.cl
 repeat (any_goals (first|assumption|(with_reducible refine wpAny_loadPart_at hx ?_;rw[hc])|with_reducible refine Lk.at ?_|wp_step))
 refine Dh x X hx hc ?_
 repeat (any_goals (first|assumption|wp_step))
theorem Gd(x:nh K C)(X:K.In h)(hx:h.get? a=some o)(hc:o.cls=.ref C)(hq:Q (.ref C) ⟨h,g,d,t,os⟩) :
  wpAny (model prog w) A (getAttrBy (.ref a) (.str "__class__" tk) false) Q E ⟨h,g,d,t,os⟩:=by
 have f3:=F.attr_ValueError.ga.bind (.ref a)
 have hx2:(Value.builtin "BaseException.__getattribute__" == Value.builtin "object.__getattribute__")=false:=by decide +kernel
 have hx1:(onTheHeap (Value.ref C) && Value.builtin "BaseException.__getattribute__" == Value.builtin "object.__getattribute__")=false:=by rw[hx2];rfl
 have Lk:=looks_findIn (M:=model prog w) X x.ga
 have Lg:=looks_findIn (M:=model prog w) X x.gx
 repeat (any_goals (first|assumption|(with_reducible refine wpAny_loadPart_at hx ?_;rw[hc])|with_reducible refine Lk.at ?_|with_reducible refine Lg.at ?_|wp_step))
 obtain⟨bm,N,nm,q,bs,hdct,sn,sub,ab,col,dd,k0,k1,k2,k3,k5,mN,hC,hN,BD,T⟩:=x.obj X
 have hk:builtinKind "BaseException.__getattribute__" = some .slot:=by decide +kernel
 have hsplit:splitId "BaseException.__getattribute__" = some ("BaseException", "__getattribute__"):=by decide +kernel
 have OZ:(Value.ref C :: bm).contains (.type "BaseException")=true:=by rw[Tb,T.hasType (X := "BaseException") (b:=true) rfl];rfl
 have chk:∀ {Q':Unit->Shared->Prop} {E':Value->Shared->Prop} {A':Around},Q' () ⟨h,g,d,t,os⟩->wpAny (model prog w) A' (checkBuiltinCall "BaseException.__getattribute__" ⟨[.ref a,.str "__class__" tk],[]⟩) Q' E' ⟨h,g,d,t,os⟩:=fun {Q' E' A'} hq'=>by
  have ha:=F.args_bexc_ga (.ref a) (.str "__class__" tk)
  simp only[checkBuiltinCall,hk,hsplit]
  refine ai ?_
  unfold isInstance
  repeat (first|(with_reducible refine wpAny_loadPart_at hx ?_;rw[hc])|(with_reducible refine wpAny_isSubtype_exc hC ?_;rw[OZ])|wp_step)
  exact hq'
 refine codeAny_call_builtin F.attr_ValueError.ga.plain F.entry_bexc_ga (chk (yH x X hx hc ?_))
 repeat (any_goals (first|assumption|wp_step))
theorem Ae (x:nh K C) (X:K.In h) (hx:h.get? a=some o) (hc:o.cls=.ref C) (hq:Q (some (.ref C)) ⟨h,g,d,t+1,os⟩):wpAny (model prog w) A (getAttr? (.ref a) "__class__") Q E ⟨h,g,d,t,os⟩:=by
 unfold getAttr? getAttrBy?
 repeat (any_goals (first|assumption|with_reducible apply Gd x X hx hc|wp_step))
end
def XAt(a C:Addr)(h:Heap):Prop:=∃ o,h.get? a=some o/\o.cls=.ref C
theorem nh.iD'{K:PySem.W.Frag}(x:nh K C)(X:K.In h):Looks M h (isType (.ref C)) true:=by
 obtain⟨bm,N,nm,q,bs,hdct,sn,sub,ab,col,dd,k0,k1,k2,k3,k5,mN,hC,hN,BD,T⟩:=x.obj X
 intro A' Q' E' s' k q
 unfold isType loadHead
 exact ai (wpAny_loadPart (k _ _ hC) (ay q))
theorem vY{K:PySem.W.Frag}(x:nh K C):KitX K (.ref a) (.ref C) (XAt a C) where
 ty:=fun M h X p=>by
  obtain⟨o,h1,h2⟩:=p
  exact h2 ▸ (Looks.ld h1).andThen .now
 it:=fun M h X p=>x.iD' X
 ne:=fun h tp dd its n sl X htp=>by
  obtain⟨bm,N,nm,q,bs,hdct,sn,sub,ab,col,dd,k0,k1,k2,k3,k5,mN,hC,hN,BD,T⟩:=x.obj X
  refine Bool.eq_false_iff.mpr fun q=>?_
  have e:C=tp:=Value.ref.inj (beq_iff_eq.mp q)
  subst e
  have z:=congrArg (fun o=>o.map (·.data)) (hC.symm.trans htp)
  cases z
 ca:=fun {prog w A E Q s} X p k=>by
  obtain⟨h,g,d,t,os⟩:=s
  obtain⟨o,h1,h2⟩:=p
  exact Ae x X h1 h2 k
theorem vd{K:PySem.W.Frag}{a C R:Addr}{os:OsState}(x:nh K C)(r:nh K R)(sub:mroIn K C (.ref R)=some true)(X:K.In h)(p:XAt a C h)
  (hq:Q true ⟨h,g,d,t,os⟩):wpAny M A (excMatches (.ref a) (.ref R)) Q E ⟨h,g,d,t,os⟩:=by
 obtain⟨bm,N,nm,q,bs,hdct,sn,mc',ab,col,dd,k0,k1,k2,k3,k5,mN,hC,hN,BD,T⟩:=r.obj X
 obtain⟨oe,he,Tz⟩:=p
 have OZ:(Value.ref R :: bm).contains (.type "BaseException")=true:=by rw[Tb,T.hasType (X := "BaseException") (b:=true) rfl];rfl
 have f:=tc_notTuple
 have Lk:=looks_mroIn (M:=M) X sub
 unfold excMatches
 repeat (first|(with_reducible refine wpAny_loadPart_at he ?_;rw[Tz])|with_reducible refine wpAny_loadPart_at hC ?_|(with_reducible refine wpAny_isSubtype_exc hC ?_;rw[OZ])|with_reducible refine Lk.at ?_|wp_step)
 exact hq
theorem FunFrames.rebase{h base B:Heap}:∀ {l:List PySem.Env},h.FunFrames base l->(∀ b∈fz l,B.get? b=none)->h.FunFrames B l
 |[],_,_=>trivial
 |env :: rest,⟨hk,⟨L,o,hf,hn,ho,hd⟩,hr⟩,hB=>⟨hk,⟨L,o,hf,hB L (by unfold fz;rw[xD,hf];exact dQ),ho,hd⟩,
   FunFrames.rebase hr fun b hb=>hB b (by unfold fz;rw[xD,hf];exact dz _ hb)⟩
theorem fI.there{P:Program}(x:fI P w H h a o):∃ u,h.get? a=some u:=by
 cases o with
 |lst xs=>obtain⟨_,_,_,_,e⟩:=x;exact⟨_,e⟩
 |tup xs=>obtain⟨_,_,_,_,e,_⟩:=x;exact⟨_,e⟩
 |dK kvs=>obtain⟨_,_,_,_,o,_,_,e,_⟩:=x;exact⟨_,e⟩
 |dT kvs=>obtain⟨_,_,_,_,o,_,_,e,_⟩:=x;exact⟨_,e⟩
 |set S n=>obtain⟨o,_,_,_,e,_⟩:=x;exact⟨_,e⟩
 |ins C dx fs=>obtain⟨_,_,_,e,_⟩:=x;exact⟨_,e⟩
 |own y=>exact x
 |xd fs=>obtain⟨_,⟨_,_,_,e,_⟩,_⟩:=x;exact⟨_,e⟩
 |QY lo hi=>obtain⟨_,_,_,e⟩:=x;exact⟨_,e⟩
 |mM ob u=>obtain⟨e,_⟩:=x;exact⟨_,e⟩
 |B1 ps=>exact⟨_,(show h.get? a=some _ from x)⟩
 |met f y=>exact⟨_,(show h.get? a=some _ from x)⟩
 |ext φ=>obtain⟨_,e,_⟩:=x;exact e
def xt(B:Heap)(fs:List Addr)(H':Hp)(h₀ h:Heap):Prop:=∀ b o,h.get? b=some o->(H' b≠none\/h₀.get? b≠none)->b∉fs->B.get? b=some o
def oB(P:Program)(w:World)(mg:Str->Option Value)(rn:List Str):AH:=fun outer H s E e s' =>
 ∃ a n C a0 H' B,e=.ref a/\(n∈rn/\mg n=some (.ref C))/\s'.os=s.os/\AllBare s'.gens/\Un (fz outer) [] H H' s.heap s'.heap/\gy P w H' s'.heap /\
  Heap.FlyingW B outer a (.ref C) a0 s'.heap/\xt B (fz outer) H' s.heap s'.heap/\(∀ b∈fz outer,H' b=none)/\E (.ref C) none H'
structure gn(fs:List Addr)(H':Hp)(h₀ h h':Heap):Prop where
 keep:∀ b o,h.get? b=some o->(H' b≠none\/h₀.get? b≠none)->b∉fs->h'.get? b=some o
 slot:∀ b o,h.get? b=some o->b∈fs->∃ sl,h'.get? b=some { o with slots:=sl }
theorem gn.of{B:Heap}(c:xt B (fz l) H' h₀ h)(st:B.StaysIn h')(up:h.UpToSlots h')(ff:h.FunFrames base l):gn (fz l) H' h₀ h h' :=
 ⟨fun b o e k n=>st b o (c b o e k n),fun b o e m=>by
  obtain⟨_,o',e',d⟩:=ff.mem m
  rw[e] at e';cases e'
  exact up b o e d⟩
theorem gn.trans(a:gn fs H' h₀ h h1)(b:gn fs H' h₀ h1 h2):gn fs H' h₀ h h2 :=
 ⟨fun x o e k n=>b.keep x o (a.keep x o e k n) k n,fun x o e m=>by
  obtain⟨_,e1⟩:=a.slot x o e m
  obtain⟨sl,e2⟩:=b.slot x _ e1 m
  exact⟨sl,e2⟩⟩
theorem gn.un(m:gn fs H' h₀ h h')(u:Un fs [] H H' h₀ h):Un fs [] H H' h₀ h' where
 keep:=fun b o e n nb nx=>m.keep b o (u.keep b o e n nb nx) (.inr (by rw[e];exact fun z=>nomatch z)) nb
 slot:=fun b o e n hb nx=>by
  obtain⟨_,e1⟩:=u.slot b o e n hb nx
  obtain⟨sl,e2⟩:=m.slot b _ e1 hb
  exact⟨sl,e2⟩
 free:=u.free
 there:=fun b o e nx=>by
  obtain⟨o',e1⟩:=u.there b o e nx
  by_cases hb:b∈fs
  ·obtain⟨sl,e2⟩:=m.slot b o' e1 hb
   exact⟨_,e2⟩
  ·exact⟨o',m.keep b o' e1 (.inr (by rw[e];exact fun z=>nomatch z)) hb⟩
 kB:=u.kB
 sd:=u.sd
 sR:=u.sR
theorem gn.aI{P:Program}(m:gn fs H' h₀ h h')(f:∀ b∈fs,H' b=none)(x:gy P w H' h):gy P w H' h':=fun a o e =>
 (x a o e).gi (fun b u hb q=>by
  have hH:H' b≠none:=by
   rcases hb with z|z
   ·rw[z,e];exact fun z=>nomatch z
   ·rw[z];exact fun z=>nomatch z
  exact m.keep b u q (.inl hH) fun z=>hH (f b z)) (fun _ q=>q) fun _ _ q=>q
section
variable {X:Cx}{pins:List (Addr × Obj)}{σ:St}{H H':Hp}{s:Shared}{e:Value}
theorem xt.up{B h h':Heap}(lI:X.stack=X.env :: X.outer)(hf:X.env.frame=some X.env.locals)(hex:X.ex=[])(I:Inv X pins σ H s)(un:Un (fz X.stack) [] H H' s.heap h)(c:xt B (fz X.stack) H' s.heap h)(m:gn (fz X.stack) H' s.heap h h')(fr:∀ b∈fz X.stack,H' b=none)(aI:gy X.prog X.w H' h) :
  Un X.fs [] X.wa H' X.eP.heap h'/\xt B X.fs H' X.eP.heap h':=by
 have hs:∀ b,b∈fz X.stack↔b=X.env.locals\/b∈X.fs:=fun b=>by
  rw[lI];unfold fz;rw[xD,hf];exact dA
 have LB:∀ b o,X.eP.heap.get? b=some o->b≠X.env.locals:=fun b o e=>eM (mI (dk e) I.ok.above)
 have Iy:∀ b:Addr,b∉X.ex:=fun b z=>by rw[hex] at z;exact nomatch z
 have m':=m.un un
 have th:∀ b o,X.eP.heap.get? b=some o->∃ o',s.heap.get? b=some o':=fun b o e=>I.base.there b o e (Iy b)
 refine⟨⟨fun b o e n nb nx=>?_,fun b o e n hb nx=>?_,fun b o e n nx=>?_,fun b o e nx=>?_,fun b xs e=>un.kB b xs (I.base.kB b xs e),fun b ob u e=>un.sd b ob u (I.base.sd b ob u e),fun b ps e=>?_⟩,fun b o e k nb=>?_⟩
 ·exact m'.keep b o (I.base.keep b o e n nb (Iy b)) (I.base.free b o e n (Iy b)) (fun z=>((hs b).mp z).elim (LB b o e) nb) (by simp)
 ·obtain⟨_,e1⟩:=I.base.slot b o e n hb (Iy b)
  obtain⟨sl,e2⟩:=m'.slot b _ e1 (I.base.free b o e n (Iy b)) ((hs b).mpr (.inr hb)) (by simp)
  exact⟨sl,e2⟩
 ·obtain⟨o',e1⟩:=th b o e
  exact un.free b o' e1 (I.base.free b o e n (Iy b)) (by simp)
 ·obtain⟨o',e1⟩:=th b o e
  exact m'.there b o' e1 (by simp)
 ·obtain⟨m1,e1⟩:=I.base.sR b ps e
  obtain⟨m2,e2⟩:=un.sR b _ e1
  exact⟨m1++m2,by rw[e2,KW]⟩
 ·have key:∀ o',h.get? b=some o'->(H' b≠none\/s.heap.get? b≠none)->b∉fz X.stack->B.get? b=some o:=fun o' e' k' n'=>by
   have:=m.keep b o' e' k' n'
   rw[e] at this;cases this
   exact c b o e' k' n'
  rcases k with k|k
  ·have nf:b∉fz X.stack:=fun z=>k (fr b z)
   cases q:H' b with
   |none=>exact absurd q k
   |some u =>
    obtain⟨o',e'⟩:=fI.there (aI b u q)
    exact key o' e' (.inl k) nf
  ·cases q:X.eP.heap.get? b with
   |none=>exact absurd q k
   |some o0 =>
    obtain⟨o1,e1⟩:=th b o0 q
    obtain⟨o2,e2⟩:=un.there b o1 e1 (by simp)
    exact key o2 e2 (.inr (by rw[e1];exact fun z=>nomatch z)) fun z=>((hs b).mp z).elim (LB b o0 q) nb
end
section
variable {P:Program}{w:World}{K:PySem.W.Frag}{mg:Str->Option Value}{base:Heap}{N:List Str}{qual:Str}{scope:Scope}{f:Addr}{cd:Value}{A:Around}{outer:List PySem.Env}{eP:Shared}{wa:Hp}{E:XK}{rn:List Str}
theorem Aj(hf:env.frame=some L)(h:b∈fz l):b∈fz (env :: l):=by
 unfold fz;rw[xD,hf];exact dz _ h
theorem KZ:Passes (oB P w mg rn) (se (oB P w mg rn) P w K mg base N qual scope f cd A outer eP wa E) E:=by
 intro pins σ H s e s' I hx
 obtain⟨a,n,C,a0,H',B,he,hn,os,bare,un,aI,DE,cov,fr,hE⟩:=hx
 subst he
 refine wpAny_leaves_onW I.ok.frames rfl DE fun h' aF' up=>?_
 have mv:=gn.of cov aF'.1 up DE.2.2.1
 obtain⟨u1,c1⟩:=xt.up (X:=se (oB P w mg rn) P w K mg base N qual scope f cd A outer eP wa E) rfl rfl rfl I un cov mv fr aI
 exact⟨a,n,C,a0,H',B,rfl,hn,os.trans I.os,bare,u1,mv.aI fr aI,aF',c1,fun b hb=>fr b (Aj rfl hb),hE⟩
def uN(X:Cx)(rn:List Str)(E:XK):Prop:=∀ (pins:List (Addr × Obj)) (σ:St) (H:Hp) (s:Shared) (h':Heap) (e:Addr) (n:Str) (C:Addr) (vs:List Value),Inv X pins σ H s->Heap.MadeExcOf s.heap h' e (.ref C) vs ->
 n∈rn->X.mg n=some (.ref C)->E (.ref C) none H->X.xe (.ref e) { s with heap:=h' }
theorem JR:uN (se (oB P w mg rn) P w K mg base N qual scope f cd A outer eP wa E) rn E:=by
 intro pins σ H s h' e n C vs I hx hn hm hE
 have st:=I.stack
 have ff:s.heap.FunFrames (hideAll s.heap (fz (envOfC qual scope eP.heap.objs.size f cd :: outer))) (envOfC qual scope eP.heap.objs.size f cd :: outer):=FunFrames.rebase st fun b hb=>hideAll_none _ hb
 refine wpAny_leaves_madeW (h:=s.heap) I.ok.frames rfl (fun b o q=>of_hideAll _ q) ff hx fun h'' t DE tup hnt up=>?_
 have ff':h'.FunFrames (hideAll s.heap (fz (envOfC qual scope eP.heap.objs.size f cd :: outer))) (envOfC qual scope eP.heap.objs.size f cd :: outer):=ff.of_keeps fun b o q _=>⟨o,hx.keeps b o q,rfl⟩
 have aI:gy P w H h':=I.aI.kept hx.keeps
 have fr:∀ b∈fz (envOfC qual scope eP.heap.objs.size f cd :: outer),H b=none:=I.Tv
 have cov:xt (hideAll s.heap (fz (envOfC qual scope eP.heap.objs.size f cd :: outer))) (fz (envOfC qual scope eP.heap.objs.size f cd :: outer)) H s.heap h':=fun b o q k nb=>by
  have ho:∃ o1,s.heap.get? b=some o1:=by
   rcases k with k|k
   ·cases z:H b with
    |none=>exact absurd z k
    |some u=>exact fI.there (I.aI b u z)
   ·exact Option.ne_none_iff_exists'.mp k
  obtain⟨o1,e1⟩:=ho
  have e2:=hx.keeps b o1 e1
  rw[q] at e2;cases e2
  exact hideAll_get _ e1 nb
 have mv:gn (fz (envOfC qual scope eP.heap.objs.size f cd :: outer)) H s.heap h' h'':=gn.of cov DE.1 up ff'
 obtain⟨u1,c1⟩:=xt.up (X:=se (oB P w mg rn) P w K mg base N qual scope f cd A outer eP wa E) rfl rfl rfl I (Un.kept hx.keeps) cov mv fr aI
 exact⟨e,n,C,_,H,_,rfl,⟨hn,hm⟩,I.os,I.bare,u1,mv.aI fr aI,DE,c1,fun b hb=>fr b (Aj rfl hb),hE⟩
theorem Ly{X:Cx}:Passes (oB P w mg rn) X E0:=by
 intro _ _ _ _ _ _ _ hx
 obtain⟨_,_,_,_,_,_,_,_,_,_,_,_,_,_,_,h⟩:=hx
 exact h.elim
def LX(rn:List Str)(mg:Str->Option Value)(E:XK):Str->Hp->Prop:=fun n H'=>n∈rn->∀ C,mg n=some (.ref C)->E (.ref C) none H'
def h_(K:PySem.W.Frag)(rn:List Str)(mg:Str->Option Value)(sp:fF):Sp:=fun vs H Qv E=>∃ ds Qd,aS K H ds vs/\sp ds Qd /\
 (∀ v H' aw m d As,aE H aw->Wf aw H'->RM K aw H' m d v As->As.Nodup->(∀ a∈As,aw a=none)->Qd m d->Qv v H') /\
 ∀ n H',aE H H'->Qd (.ow false) (.str n)->LX rn mg E n H'
theorem yu(h:h_ K rn mg sp vs H Qv E)(hp:∀ ds Q,sp ds Q->t { nx:=fun _=>Q .sh .non,rt:=Q } (aP N.length ds)) :
  xh K (LX rn mg E) t { nx:=fun _ H'=>Qv .non H',rt:=Qv } (start N vs) H:=by
 obtain⟨ds,Qd,rs,hs,fin,fx⟩:=h
 have hl:=rs.length
 refine⟨H,aP N.length ds,[],{ nx:=fun _=>Qd .sh .non,rt:=Qd },⟨?_,⟨aE.refl _,fun _ _ e=>e⟩,nK,fun a h=>nomatch h⟩,hp ds Qd hs,?_,?_,?_,?_,fx⟩
 ·unfold aP start
  rw[hl]
  exact SR.start rs
 ·exact fun aT H' aw bS bT s sr q=>fin .non H' aw .sh .non [] s sr.wf ⟨rfl,.non⟩ nK (fun a h=>nomatch h) q
 ·exact fun aT H' aw bS bT s sr q=>q.elim
 ·exact fun aT H' aw bS bT s sr q=>q.elim
 ·exact fun v H' aw m d As s w r nd own q=>fin v H' aw m d As s w r nd own q
theorem aG'.ok{st:Stmt}{ps:List Str}(F:fA K x qual st f fd)(S:g9 N ps (bq st))(len:∀ ds Q,sp ds Q->ds.length=ps.length)
  (AI:∀ (cq:Value) (A:Around) (outer:List PySem.Env) (s:Shared) (H:Hp) (E:XK),kC k (A.deeper (envOfC qual (bq st) s.heap.objs.size f cq))->sq (se (oB P w mg rn) P w K mg base N qual (bq st) f cq A outer s H E) K (LX rn mg E) (fE st) t)
  (hp:∀ ds Q,sp ds Q->t { nx:=fun _=>Q .sh .non,rt:=Q } (aP N.length ds)):ft P w K mg base (oB P w mg rn) (k+1) f fd ps (h_ K rn mg sp):=by
 obtain⟨oc,od,kV,doc,pm,an,cq,ct,EC,rfl,lk,oP⟩:=F.ex
 exact YF lk oP S (fun vs H Q E ⟨ds,Qd,rs,hs,_⟩=>by rw[<- rs.length];exact len ds Qd hs) fun A outer s H vs Q E hr yn=>⟨_,AI cq A outer s H E hr,yu yn hp⟩
structure BE(P:Program)(w:World)(K:PySem.W.Frag)(mg:Str->Option Value)(base:Heap)(rn:List Str)(k:Nat)(x:Str)(ps:List Str)(sp:fF):Prop where
 ex:∃ (g:Addr) (fd:FuncData),mg x=some (.ref g)/\PySem.W.keepIn K (.ref g)=true/\Binds K fd ps []/\ft P w K mg base (oB P w mg rn) k g fd ps (h_ K rn mg sp)
theorem fA.aH'{st:Stmt}{ps:List Str}(F:fA K x qual st f fd)(hm:mg x=some (.ref f))(ok:ft P w K mg base (oB P w mg rn) k f fd ps (h_ K rn mg sp))
  (h:∀ (kV doc pm:Value) (an:Option Addr) (cq ct:Value) (us:List Value),us.length=ps.length->bindArgs (PySem.W.fnOf x qual (gE st) (fE st) (bq st) .none kV doc pm an cq ct) ⟨us,[]⟩=pure (ps.zip us)):BE P w K mg base rn k x ps sp:=⟨f,fd,hm,F.kp,F.binds h,ok⟩
end
def XCl(K:PySem.W.Frag)(mg:Str->Option Value)(n:Str):Prop:=∃ C,mg n=some (.ref C)/\nh K C
def pE(m:Md)(d:D)(Y:Str->Prop)(N:Prop):Prop:=match m,d with
 |.ow false,.str n=>Y n
 |_,_=>N
theorem Am{K:PySem.W.Frag}(r:RM K Hs H m d v As)(h:pE m d Y N):N:=by
 unfold pE at h
 split at h
 ·obtain⟨r,ne⟩:=r
  cases r
  exact absurd rfl ne
 ·exact h
section
variable {X:Cx}{K:PySem.W.Frag}{rn:List Str}{E:XK}{e:Expr}{es:List Expr}{te:WE}{t:WA}{pos:Pos}
def zr(n:Str)(te:WE):WS:=fun E ρ=>te ρ fun _ _=>E.rt (.ow false) (.str n)
theorem CJ (hc:X.calm=true) (ok:uN X rn E) (hn:x∈rn) (hm:X.mg x=some (.ref C)) (xc:nh X.K C) (ha:PA X [e] ta) (hg:Gl X x) (jI:(x == ("__debug__" : Str))=false)
  (he:starEach [e] X.env=[(false,eval e X.env)]):PS X (.Raise (some (.Call (.Name x np) [e] [] dS)) none pos) (fun D σ H=>ta σ H fun vs H1=>vs.length<=sizeLine/\E (.ref C) none H1):=by
 intro pins s σ H D I h
 obtain⟨bm,N,nm,q,bs,hdct,sn,sub,ab,col,dd,k0,k1,k2,k3,k5,mN,hC,hN,BD,T⟩:=xc.obj I.mod.Q0
 refine wpAny_Raise_call_subT (C:=C) (nm:=nm) (q:=q) (N:=N) (bs:=bs) (bm:=bm) (hdct:=hdct) (sn:=sn) (sub:=sub) (ab:=ab) (col:=col) (dd:=dd) (k0:=k0) (k1:=k1) (k2:=k2) (k3:=k3) (k5:=k5)
  F.excBase_ValueError (mN:=mN) (T.hasType F.excBase_ValueError.hasBase) (I.ok.hd hc) (by rw[he];rfl) BD (Q7 I hg hm ⟨rfl,?_⟩ jI)
 have h2:=ha dS pins s σ H _ I h
 rw[he] at h2 ⊢
 exact Calls.evalArgs_plain (cf h2 fun vs s1 ⟨xs,H1,I1,r,hl,q⟩=>⟨rfl,by rw[<- r.length];exact hl,I1.bk _ _ hC,hN.keeps I1.bk,T.keeps I1.bk,fun h' e' hx=>ok pins σ H1 s1 h' e' x C vs I1 hx hn hm q⟩)
theorem Bx (hc:X.calm=true) (ok:uN X rn E) (xc:XCl K X.mg x) (hn:x∈rn) (he:QE X K e te) (hg:Gl X x:=by rfl) (jI:(x == ("__debug__" : Str))=false:=by decide) (hK:X.K=K:=by rfl)
  (hs:starEach [e] X.env=[(false,eval e X.env)]:=by rfl):QS X K (LX rn X.mg E) (.Raise (some (.Call (.Name x np) [e] [] dS)) none pos) (zr x te):=by
 subst hK
 obtain⟨C,hm,xc⟩:=xc
 refine PS.imp (CJ hc ok hn hm xc (kN he oQ hs) hg jI hs) fun D σ H hx=>oh hx fun Hs ρ ag E' sr h k1 k2 k3 k4 kx=>?_
 exact⟨Hs,ρ,ag,_,sr,h,fun v H1 ax m d As g1 r1 f1 q1=>⟨(by decide:1<=sizeLine),kx x H1 (g1.sh.trans g1.wf.sub) q1 hn C hm⟩⟩
section
variable {k:Nat}{x:Str}{ps:List Str}{sp:fF}{p dS:Pos}
theorem Af (C:BE X.prog X.w X.K X.mg X.base rn k x ps sp) (hr:kC k X.A) (hx:Passes (oB X.prog X.w X.mg rn) X E) (ha:PA X (e :: es) ta) (hg:Gl X x) (jI:(x == ("__debug__" : Str))=false) (he:starEach (e :: es) X.env=(false,eval e X.env) :: starEach es X.env)
  (ja:(backTo pos (starEach es X.env)).any (·.1)=false):PE X (.Call (.Name x p) (e :: es) [] pos) (LW (h_ X.K rn X.mg sp) [] E ta):=by
 obtain⟨g,fd,hm,hk,hb,F⟩:=C.ex
 exact Yw F hr hg hm hk hb .nil hx ha jI he ja
theorem pP{σ:St}{H:Hp}{Qv:VK}{Hs:Hp}{ρ:Env}{ag:List Addr}{Y:Str->Prop}{Q:Md->D->Prop}(sr:dy K Hs ρ σ H ag)(h:t ρ fun ps=>sp (ps.map (·.2)) fun m d=>pE m d Y (bp (m,d) (f:=fun p=>Q (A7 p.1 p.2) p.2) ⟨⟩))
  (f:∀ v H' aw m d As,ez Hs H aw H'->RM K aw H' m d v As->di aw H As->Q m d->Qv v H') (fx:∀ n H',aE Hs H'->Y n->LX rn X.mg E n H'):LW (h_ K rn X.mg sp) [] E (UX K t) σ H Qv:=by
 refine⟨Hs,ρ,ag,_,sr,h,fun vs H1 ax ps As g1 r1 f1 q1=>?_⟩
 refine⟨_,_,by rw[mh];exact r1.reps g1.wf,q1,fun v H' aw m d As s w r nd own q=>?_,fun n H' s q=>fx n H' (g1.sh.trans (g1.wf.sub.trans s)) q⟩
 obtain⟨gX,r',fr⟩:=uP g1.wf s w r nd own
 exact Fin.after f g1 v H' _ (A7 m d) d gX (jh g1.wf s w) r' fr (Am r q)
def zj(sp:fF)(t:WA):WE:=fun ρ Q=>t ρ fun ps=>sp (ps.map (·.2)) fun m d=>pE m d (fun _=>False) (bp (m,d) (f:=fun p=>Q (A7 p.1 p.2) p.2) ⟨⟩)
def vW(sp:fF)(t:WA):WS:=fun E ρ=>t ρ fun ps=>sp (ps.map (·.2)) fun m d=>pE m d (fun n=>E.rt (.ow false) (.str n)) (bp (m,d) (f:=fun _=>E.nx ρ) ⟨⟩)
variable (C:BE X.prog X.w X.K X.mg X.base rn k x ps sp)(hr:kC k X.A)
include C hr
theorem JG (ha:QA X K (e :: es) t) (hK:X.K=K:=by rfl) (hg:Gl X x:=by rfl) (jI:(x == ("__debug__" : Str))=false:=by decide) (he:starEach (e :: es) X.env=(false,eval e X.env) :: starEach es X.env:=by rfl)
  (ja:(backTo pos (starEach es X.env)).any (·.1)=false:=by rfl):QE X K (.Call (.Name x p) (e :: es) [] pos) (zj sp t):=by
 subst hK
 exact PE.imp (Af C hr Ly ha hg jI he ja) fun σ H Qv h=>gS h fun Hs ρ ag Q sr h f=>pP sr h f fun n H' _ z=>z.elim
variable (hx:Passes (oB X.prog X.w X.mg rn) X E)
include hx
theorem vV (ha:QA X K (e :: es) t) (hs:swapsWith (.Call (.Name x p) (e :: es) [] dS) none pos.line X.env=pure false:=by rfl) (hK:X.K=K:=by rfl) (hg:Gl X x:=by rfl) (jI:(x == ("__debug__" : Str))=false:=by decide) (he:starEach (e :: es) X.env=(false,eval e X.env) :: starEach es X.env:=by rfl)
  (ja:(backTo dS (starEach es X.env)).any (·.1)=false:=by rfl):QS X K (LX rn X.mg E) (.Expr (.Call (.Name x p) (e :: es) [] dS) pos) (vW sp t):=by
 subst hK
 exact PS.imp (LM (Af C hr hx ha hg jI he ja) hs) fun D σ H hx=>oh hx fun Hs ρ ag E' sr h k1 k2 k3 k4 kx=>pP (Q:=fun _ _=>E'.nx ρ) sr h (fun v H1 ax m d As g1 r1 f1 q1=>k1 σ H1 ax ρ ag g1.sh (sr.grow g1) q1) kx
end
def IA(j:Nat)(a:Addr)(b:Bool):WE:=fun ρ Q=>ρ[j]? = some (some (.xc a))/\Q .sh (.bl b)
theorem HX (hm:X.mg "isinstance" = none) (hp:(a,oe)∈X.pn) (mS:oe.cls=.ref C) (xc:nh X.K C) (hk:kitOne X.K (.ref C) c=some b) (he:PE X e (AG j)) (ht:PE X e2 (tC vc)) (hvc:∀ u,RelV vc u->u=c)
  (hg:Gl X "isinstance" := by rfl) (hs:starEach (e :: [e2]) X.env=(false,eval e X.env) :: starEach [e2] X.env:=by rfl) (g0:starEach (e2 :: []) X.env=(false,eval e2 X.env) :: starEach [] X.env:=by rfl) (ja:(backTo pos (starEach [e2] X.env)).any (·.1)=false:=by rfl) :
  QE X K (.Call (.Name "isinstance" p) [e,e2] [] pos) (IA j a b):=by
 have hc:ki X (.builtin "isinstance") (fun xs H Q=>xs=[.ref a,vc]/\Q (.bl b) H):=by
  intro pins s σ H xs us Q I r h
  obtain⟨rfl,q⟩:=h
  obtain⟨u,v,rfl,ru,rv⟩:=Vals.two r
  obtain rfl:u=Value.ref a:=ru
  obtain rfl:=hvc v rv
  obtain⟨ho,_⟩:=I.pin (a,oe) (kK _ hp)
  exact kia_one (vY xc) I.i9 ⟨oe,ho,mS⟩ hk (fun z=>nomatch z) fun tk=>⟨.bl b,H,I.tok tk,rfl,q⟩
 refine PE.imp (L4 hc hg hm gf (kN he (kN ht oQ g0) hs) (by decide) (by decide) hs ja) fun σ H Qv hx=>gS hx fun Hs ρ ag Q sr h f=>?_
 obtain⟨ea,q⟩:=h
 obtain⟨v,e1,r⟩:=sr.sr.get ea
 have r:v=V.ref a:=r
 subst r
 exact⟨_,e1,rfl,Fin.sh f sr.wf (.bl _) q⟩
end
abbrev kI(X:Cx)(pn:List (Addr × Obj))(xe:Value->Shared->Prop):Cx:={ X with pn:=pn,xe:=xe }
abbrev BF(X:Cx)(pn:List (Addr × Obj))(a:Addr):Cx:={ X with A:=X.A.mark (some (.ref a)),calm:=false,pn:=pn,xe:=fun _ _=>False }
abbrev G3(X:Cx)(H:Hp)(s:Shared)(p:Addr × Obj):Prop:=s.heap.get? p.1=some p.2/\H p.1=none/\p.1≠X.env.locals/\p.1∉X.fs/\∀ v,p.2.data≠.cell v
section
variable {X:Cx}{pins nL pn:List (Addr × Obj)}{σ:St}{H:Hp}{s:Shared}{xe:Value->Shared->Prop}{a:Addr}
theorem Inv.kI(I:Inv X pins σ H s)(h:∀ p∈pn++nL,G3 X H s p):Inv (kI X pn xe) nL σ H s :=
 ⟨⟨I.ok.mod,I.ok.kind,I.ok.glob,I.ok.blt,I.ok.above,I.ok.inj,I.ok.has,I.ok.x6,I.ok.hd,I.ok.frames,I.ok.AA,I.ok.AB,I.ok.bs,I.ok.sT,I.ok.x8,I.ok.ya,I.ok.pV,I.ok.wc⟩,I.os,I.bare,I.base,I.loc,I.cell,I.free,I.om,h,I.aI,I.len⟩
theorem Inv.pN(I:Inv (L2.Q.kI X pn xe) nL σ H s)(h:∀ p∈X.pn++pins,p∈pn++nL):Inv X pins σ H s :=
 ⟨⟨I.ok.mod,I.ok.kind,I.ok.glob,I.ok.blt,I.ok.above,I.ok.inj,I.ok.has,I.ok.x6,I.ok.hd,I.ok.frames,I.ok.AA,I.ok.AB,I.ok.bs,I.ok.sT,I.ok.x8,I.ok.ya,I.ok.pV,I.ok.wc⟩,I.os,I.bare,I.base,I.loc,I.cell,I.free,I.om,fun p hp=>I.pin p (h p hp),I.aI,I.len⟩
theorem Inv.BF(I:Inv (L2.Q.kI X pn xe) nL σ H s)(h:∀ p∈pn2++iJ',G3 X H s p):Inv (L2.Q.BF X pn2 a) iJ' σ H s :=
 ⟨⟨I.ok.mod,I.ok.kind,I.ok.glob,I.ok.blt,I.ok.above,I.ok.inj,I.ok.has,I.ok.x6,(fun z=>nomatch z),I.ok.frames,I.ok.AA,I.ok.AB,I.ok.bs,I.ok.sT,I.ok.x8,I.ok.ya,I.ok.pV,I.ok.wc⟩,I.os,I.bare,I.base,I.loc,I.cell,I.free,I.om,h,I.aI,I.len⟩
theorem Inv.Kg(I:Inv (L2.Q.kI X pn xe) pins σ H s):Inv (L2.Q.kI X pn xe2) pins σ H s :=
 ⟨⟨I.ok.mod,I.ok.kind,I.ok.glob,I.ok.blt,I.ok.above,I.ok.inj,I.ok.has,I.ok.x6,I.ok.hd,I.ok.frames,I.ok.AA,I.ok.AB,I.ok.bs,I.ok.sT,I.ok.x8,I.ok.ya,I.ok.pV,I.ok.wc⟩,I.os,I.bare,I.base,I.loc,I.cell,I.free,I.om,I.pin,I.aI,I.len⟩
theorem Inv.zR(I:Inv (L2.Q.BF X pn a) nL σ H s)(hd:X.calm=true->X.A.handled=none)(h:∀ p∈X.pn++pins,p∈pn++nL):Inv X pins σ H s :=
 ⟨⟨I.ok.mod,I.ok.kind,I.ok.glob,I.ok.blt,I.ok.above,I.ok.inj,I.ok.has,I.ok.x6,hd,I.ok.frames,I.ok.AA,I.ok.AB,I.ok.bs,I.ok.sT,I.ok.x8,I.ok.ya,I.ok.pV,I.ok.wc⟩,I.os,I.bare,I.base,I.loc,I.cell,I.free,I.om,fun p hp=>I.pin p (h p hp),I.aI,I.len⟩
theorem SP.pN{D:Ends}(h:SP (L2.Q.kI X pn xe) nL D f s)(hp:∀ p∈X.pn++pins,p∈pn++nL):SP X pins D f s:=by
 cases f with
 |next=>obtain⟨aT,H',I,q⟩:=h;exact⟨aT,H',Inv.pN I hp,q⟩
 |brk=>obtain⟨aT,H',I,q⟩:=h;exact⟨aT,H',Inv.pN I hp,q⟩
 |cont=>obtain⟨aT,H',I,q⟩:=h;exact⟨aT,H',Inv.pN I hp,q⟩
 |ret u=>obtain⟨v,aT,H',I,r,q⟩:=h;exact⟨v,aT,H',Inv.pN I hp,r,q⟩
theorem Inv.forget(I:Inv X pins σ H s)(hn:h'.Ns X.env.locals m)(hs:Heap.SameBut X.env.locals s.heap h'):Inv X pins (List.replicate X.N.length none) H { s with heap:=h',toks:=t }:=by
 have ne:∀ b o,X.eP.heap.get? b=some o->b≠X.env.locals:=fun b o e=>eM (mI (dk e) I.ok.above)
 refine⟨I.ok,I.os,I.bare,⟨fun b o e n hb hx=>(hs.2 b (ne b o e)).trans (I.base.keep b o e n hb hx),fun b o e n hb hx=>?_,I.base.free,fun b o e hx=>?_,I.base.kB,I.base.sd,I.base.sR⟩,⟨m,hn,fun i x v e1 e2=>?_⟩,fun x c e=>?_,I.free,I.om,fun p hp=>?_,fun b o e=>?_,S0⟩
 ·obtain⟨sl,e1⟩:=I.base.slot b o e n hb hx
  exact⟨sl,(hs.2 b (ne b o e)).trans e1⟩
 ·obtain⟨o',e1⟩:=I.base.there b o e hx
  exact⟨o',(hs.2 b (ne b o e)).trans e1⟩
 ·rw[SY] at e2
  split at e2<;>cases e2
 ·obtain⟨v,z⟩:=I.cell x c e
  exact⟨v,z.sameBut hs (I.AF x c e)⟩
 ·obtain⟨e,n,nl,nf,d⟩:=I.pin p hp
  exact⟨(hs.2 p.1 nl).trans e,n,nl,nf,d⟩
 ·refine(I.aI b o e).gi (fun c u hc q=>(hs.2 c ?_).trans q) (fun _ q=>q) fun _ _ q=>q
  intro z
  rcases hc with w|w
  ·rw[<- w,z,I.free] at e;cases e
  ·rw[z,I.free] at w;cases w
end
theorem SR.aJ'{K:PySem.W.Frag}:∀ σ:St,SR K Hs H (List.replicate σ.length none) σ []
 |[]=>.nil
 |_ :: σ=>.non (SR.aJ' σ)
theorem SR.exc{K:PySem.W.Frag}:∀ (σ:St) (j:Nat),SR K Hs H ((List.replicate σ.length none).set j (some (.xc a))) (σ.set j (some (.ref a))) []
 |[],_=>.nil
 |_ :: σ,0=>.xc (SR.aJ' σ)
 |_ :: σ,j+1=>.non (SR.exc σ j)
theorem xt.next{P:Program}{B:Heap}(c:xt B fs H' h₀ h)(m:gn fs H' h₀ h h')(aI:gy P w H' h)(th:∀ b o,h₀.get? b=some o->∃ o',h.get? b=some o'):xt B fs H' h₀ h':=fun b o e k nb=>by
 have ho:∃ o',h.get? b=some o':=by
  rcases k with k|k
  ·cases z:H' b with
   |none=>exact absurd z k
   |some u=>exact fI.there (aI b u z)
  ·obtain⟨o0,e0⟩:=Option.ne_none_iff_exists'.mp k
   exact th b o0 e0
 obtain⟨o',e'⟩:=ho
 have e2:=m.keep b o' e' k nb
 rw[e] at e2;cases e2
 exact c b o e' k nb
structure HF(K:PySem.W.Frag)(mg:Str->Option Value)(rn:List Str)(R:Str):Prop where
 ex:∃ r,mg R=some (.ref r)/\nh K r/\∀ n C,n∈rn->mg n=some (.ref C)->nh K C/\mroIn K C (.ref r)=some true
end L2.Q
namespace L2.Q
open PySem PySem.Spec PyProof.Rows
theorem qY:bootBuiltins "ValueError" = some (.type "ValueError"):=by decide +kernel
end L2.Q
namespace L2.Q.R
open PySem PySem.Spec PyProof.Rows L2.Q
section
variable {E:rA}{ρ:Env}{Q:Md->L2.Q.D->Prop}{te:WE}{tar:WA}{j:Nat}{a:Addr}{b:Bool}{sp:fF}{n:Str}{d:L2.Q.D}{Y:Str->Prop}{N:Prop}
theorem Ks:zr n te E ρ=te ρ fun _ _=>E.rt (.ow false) (.str n):=rfl
theorem Lz:zj sp tar ρ Q=tar ρ fun ps=>sp (ps.map (·.2)) fun m d=>pE m d (fun _=>False) (bp (m,d) (f:=fun p=>Q (A7 p.1 p.2) p.2) ⟨⟩):=rfl
theorem La:vW sp tar E ρ=tar ρ fun ps=>sp (ps.map (·.2)) fun m d=>pE m d (fun n=>E.rt (.ow false) (.str n)) (bp (m,d) (f:=fun _=>E.nx ρ) ⟨⟩):=rfl
theorem PN:IA j a b ρ Q=(ρ[j]? = some (some (.xc a))/\Q .sh (.bl b)):=rfl
theorem Pr:pE (.ow false) (.str n) Y N=Y n:=rfl
theorem Ng:pE .sh d Y N=N:=rfl
theorem Nb:pE .bo d Y N=N:=rfl
theorem NP:pE (.ow true) d Y N=N:=rfl
theorem Qh:pE (.ow b) (.list xs) Y N=N:=by cases b<;>rfl
theorem O3:pE (.ow b) (.tup xs) Y N=N:=by cases b<;>rfl
theorem Qe:pE (.ow b) (.dK xs) Y N=N:=by cases b<;>rfl
theorem Qg:pE (.ow b) (.dT xs) Y N=N:=by cases b<;>rfl
end
end L2.Q.R
namespace L2.Q
open PySem PySem.Spec PyProof.Rows PySem.W
theorem yD{K:Frag}:kitAny K t []=some false:=rfl
theorem fY{K:Frag}(h:kitOne K t c=some a)(g:kitAny K t r=some b):kitAny K t (c :: r)=some (a || b):=by
 unfold kitAny
 rw[h]
 cases a
 ·exact g
 ·rfl
section
variable {X:Cx}{K:PySem.W.Frag}{e:Expr}{es:List Expr}{pos:Pos}
def Ss(vs:List V):TA:=fun _ H Q=>Q vs H
theorem GJ:PA X [] (Ss []):=oQ
theorem lZ(h:PE X e (tC v))(r:PA X es (Ss vs))(hs:starEach (e :: es) X.env=(false,eval e X.env) :: starEach es X.env:=by rfl):PA X (e :: es) (Ss (v :: vs)):=kN h r hs
theorem Ej{cs:List Addr}{us:List Value}(h:Vals (cs.map V.ref) us):us=cs.map Value.ref:=by
 induction cs generalizing us with
 |nil=>exact Paired.n0 h
 |cons c cs ih =>
  obtain⟨u,us,rfl,r,t⟩:=Paired.c h
  rw[show u=Value.ref c from r,ih t];rfl
theorem JM {j:Nat} {a C:Addr} {oe:Obj} {cs:List Addr} {b:Bool} {x1} {p p2:Pos} (hm:X.mg "isinstance" = none) (hp:(a,oe)∈X.pn) (mS:oe.cls=.ref C) (xc:nh X.K C) (hk:kitAny X.K (.ref C) (cs.map Value.ref)=some b) (hz:cs.length<=100) (he:PE X e (AG j)) (ht:PA X es (Ss (cs.map V.ref)))
  (hg:Gl X "isinstance" := by rfl) (hs:starEach (e :: [.Tuple es x1 p2]) X.env=(false,eval e X.env) :: starEach [.Tuple es x1 p2] X.env:=by rfl) (g0:starEach (.Tuple es x1 p2 :: []) X.env=(false,eval (.Tuple es x1 p2) X.env) :: starEach [] X.env:=by rfl) (ja:(backTo pos (starEach [.Tuple es x1 p2] X.env)).any (·.1)=false:=by rfl) :
  QE X K (.Call (.Name "isinstance" p) [e,.Tuple es x1 p2] [] pos) (IA j a b):=by
 have hc:ki X (.builtin "isinstance") (fun xs H Q=>∃ t,xs=[.ref a,.ref t]/\H t=some (.tup (cs.map V.ref))/\Q (.bl b) H):=by
  intro pins s σ H xs us Q I r h
  obtain⟨t,rfl,et,q⟩:=h
  obtain⟨u,v,rfl,ru,rv⟩:=Vals.two r
  obtain rfl:u=Value.ref a:=ru
  obtain rfl:v=Value.ref t:=rv
  obtain⟨ho,_⟩:=I.pin (a,oe) (kK _ hp)
  obtain⟨its,ri,o,e1,e2,n,e3⟩:=I.tup et
  obtain⟨c',d',dt,sl⟩:=o
  cases e2
  cases e3
  rw[Ej ri] at e1
  exact kia_tup (vY xc) I.i9 ⟨oe,ho,mS⟩ e1 hk (fun z=>nomatch z) fun tk=>⟨.bl b,H,I.tok tk,rfl,q⟩
 refine PE.imp (L4 hc hg hm gf (kN he (kN (T7 ht) oQ g0) hs) (by decide) (by decide) hs ja) fun σ H Qv hx=>gS hx fun Hs ρ ag Q sr h f=>?_
 obtain⟨ea,q⟩:=h
 obtain⟨v,e1,r⟩:=sr.sr.get ea
 have r:v=V.ref a:=r
 subst r
 refine⟨_,e1,by rw[cE];exact kg hz (by decide),fun t hT=>⟨t,rfl,iN,?_⟩⟩
 have g:=HK (vs:=cs.map V.ref) sr.wf hT
 exact Fin.sh (Fin.after f g) g.wf (.bl _) q
end
theorem SR.Ff{K:PySem.W.Frag}{Hs H:Hp}{ρ:Env}{σ:St}{ag:List Addr}{j:Nat}{o:Option V}(s:SR K Hs H (ρ.set j none) σ ag):SR K Hs H (ρ.set j none) (σ.set j o) ag:=by
 generalize e:ρ.set j none=bS at s
 induction s generalizing ρ j with
 |nil=>exact .nil
 |non s ih =>
  cases ρ with
  |nil=>cases e
  |cons x ρ =>
   cases j with
   |zero=>exact .non s
   |succ j=>exact .non (ih (List.cons.inj e).2)
 |sh r s ih =>
  cases ρ with
  |nil=>cases e
  |cons x ρ =>
   cases j with
   |zero=>cases e
   |succ j=>exact .sh r (ih (List.cons.inj e).2)
 |xc s ih =>
  cases ρ with
  |nil=>cases e
  |cons x ρ =>
   cases j with
   |zero=>cases e
   |succ j=>exact .xc (ih (List.cons.inj e).2)
 |ow ne r s ih =>
  cases ρ with
  |nil=>cases e
  |cons x ρ =>
   cases j with
   |zero=>cases e
   |succ j=>exact .ow ne r (ih (List.cons.inj e).2)
 |lk ne r s ih =>
  cases ρ with
  |nil=>cases e
  |cons x ρ =>
   cases j with
   |zero=>cases e
   |succ j=>exact .lk ne r (ih (List.cons.inj e).2)
theorem El{α:Type}{l:List α}(h:l.Nodup){i j:Nat}{x:α}(a:l[i]? = some x)(b:l[j]? = some x):i=j:=by
 obtain⟨hi,ei⟩:=lh.mp a
 obtain⟨hj,ej⟩:=lh.mp b
 rcases Nat.lt_trichotomy i j with q|q|q
 ·exact absurd (ei.trans ej.symm) (I0.mp h i j hi hj q)
 ·exact q
 ·exact absurd (ej.trans ei.symm) (I0.mp h j i hj hi q)
section
variable {X:Cx}{pins:List (Addr × Obj)}{σ:St}{H:Hp}{s:Shared}
theorem Inv.drop{h':Heap}{m:Str->Option Value}{t j:Nat}{en:Str}{v:Option Value}(I:Inv X pins σ H s)(hN:X.N.Nodup)(hj:X.N[j]? = some en)(lk:∀ (i:Nat) (x:Str) (v:V),X.N[i]? = some x->σ[i]? = some (some v)->Lv X.env.scope x->∃ u,RelV v u/\Look X.env s.heap m x u)
  (hn:h'.Ns X.env.locals fun x=>if x=en then v else m x) (hs:Heap.SameBut X.env.locals s.heap h'):Inv X pins (σ.set j none) H { s with heap:=h',toks:=t }:=by
 have F:=Inv.forget (t:=t) I hn hs
 refine⟨F.ok,F.os,F.bare,F.base,⟨_,hn,fun i x v' e1 e2 vs=>?_⟩,F.cell,F.free,F.om,F.pin,F.aI,by rw[List.length_set];exact I.len⟩
 have kr:j≠i:=fun z=>by
  subst z
  rw[Td] at e2
  split at e2
  ·split at e2<;>cases e2
  ·rename_i z;exact z rfl
 rw[P8 kr] at e2
 obtain⟨u,r,l⟩:=lk i x v' e1 e2 vs
 refine⟨u,r,?_⟩
 rcases l with⟨a,b⟩|⟨a,c,b,d⟩
 ·refine .inl ⟨a,?_⟩
  show(if x=en then v else m x)=some u
  rw[if_neg fun z=>kr ?_]
  ·exact b
  ·subst z
   exact El hN hj e1
 ·exact .inr ⟨a,c,b,d.sameBut hs (I.AF x c b)⟩
end
def FN(j:Nat)(body:WS)(ρh:Addr->Env)(hd:Addr->Str->WS):WS:=fun E ρ =>
 body { E with rt:=fun m d=>pE m d (fun n=>∀ a,hd a n { nx:=fun bS=>E.nx (bS.set j none),rt:=E.rt } (ρh a)) (E.rt m d) } ρ
theorem Ga{X:Cx}{K:PySem.W.Frag}{R:Str}
  (xr:HF X.K X.mg rn R) (hN:X.N.Nodup) (hj:X.N[j]? = some en) (hl:X.env.scope.names.lookup en=some .local) (lI:X.stack=X.env :: X.outer) (hf:X.env.frame=some X.env.locals)
  (hρ:∀ a,ρh a=(List.replicate X.N.length none).set j (some (.xc a)))
  (hb:∀ pn xe E1,Passes (oB X.prog X.w X.mg rn) (kI X pn xe) E1->sq (kI X pn xe) K (LX rn X.mg E1) body wb)
  (hh:∀ pn a oe n C,n∈rn->X.mg n=some (.ref C)->nh X.K C->(a,oe)∈pn->oe.cls=.ref C->sq (BF X pn a) K L (iL' :: suite) (hd a n)) (hg:Gl X R:=by rfl) (jI:(R == ("__debug__" : Str))=false:=by decide) :
  QS X K L (.Try body [.ExceptHandler (some (.Name R np)) (some en) (iL' :: suite) ae'] [] [] pos) (FN j wb ρh hd):=by
 intro pins s σ H D I hx
 obtain⟨Hs,ρ,ag,E,sr,h,k1,k2,k3,k4,kx⟩:=hx
 obtain⟨r,hm,xr,sub⟩:=xr.ex
 have sp0:∀ p∈X.pn++pins,p∈(X.pn++pins)++[]:=fun p hp=>by rw[mh];exact hp
 have AI:=hb (X.pn++pins) (fun e s'=>∃ nL aT H1 s1,Inv (kI X (X.pn++pins) X.xe) nL aT H1 s1/\oB X.prog X.w X.mg rn X.stack H1 s1 (fun c _ H'=>∃ n C,c=.ref C/\n∈rn/\X.mg n=some (.ref C)/\aE Hs H'/\∀ a,hd a n { nx:=fun bS=>E.nx (bS.set j none),rt:=E.rt } (ρh a)) e s') _
  (fun nL aT H1 s1 e s' I1 c=>⟨nL,aT,H1,s1,Inv.Kg I1,c⟩)
  [] s σ H D (Inv.kI I fun p hp=>I.pin p (by rw[mh] at hp;exact hp)) ⟨Hs,ρ,ag,_,sr,h,k1,k2,k3,fun v H' aw m d As s2 w2 r2 nd own q=>k4 v H' aw m d As s2 w2 r2 nd own (Am r2 q),fun n H' s2 q hn C hC=>⟨n,C,rfl,hn,hC,s2,q⟩⟩
 refine wpAny_Try_except (pS AI (fun f s1 hs=>?_) fun e s' hx=>?_)
 ·have hs:=SP.pN hs sp0
  cases f with
  |next =>
   obtain⟨aT,H',I',q⟩:=hs
   exact Yg pins s1 aT H' D I' q
  |brk=>exact hs
  |cont=>exact hs
  |ret u=>exact hs
 ·obtain⟨nL,aT,H1,s1,I1,a,n',C,a0,H',B,rfl,FU,os,bare,un,aI,DE,cov,fr,n,C2,eC,hn,oq,sm,hq⟩:=hx
  cases eC
  obtain⟨xc,Vl⟩:=sub n C hn oq
  obtain⟨Vu,g',d',t',T8⟩:=s'
  obtain rfl:T8=s1.os:=os
  have iN':Heap.FlyingW B (X.env :: X.outer) a (.ref C) a0 Vu:=lI ▸ DE
  have th:∀ b o,s1.heap.get? b=some o->∃ o',Vu.get? b=some o':=fun b o e=>un.there b o e (by simp)
  refine wpAny_looks_onW (lI ▸ I.ok.frames) hf iN' fun h4 held up4=>wpAny_landsW held fun h5 Sv up5=>?_
  have Vv:gn (fz X.stack) H' s1.heap Vu h5:=gn.of cov Sv.1 (up4.trans up5) DE.2.2.1
  have aK':=cov.next Vv aI th
  have Vw:=Vv.un un
  have Vx:=Vv.aI fr aI
  have I5:Inv (kI X (X.pn++pins) X.xe) nL aT H' ⟨h5,g',d',t',s1.os⟩:=I1.call (h':=h5) (g':=g') (d':=d') (t':=t') (ch:=[]) Vw Vx bare (fun b z=>absurd z (by simp))
  refine wpAny_handleBy_cons (codeAny_handlers_test ?_) (by intro q;cases q)
  refine Q7 (X:=BF X (X.pn++pins) a) (pins:=nL) (Inv.BF I5 fun p hp=>I5.pin p hp) hg hm ?_ jI
  refine vd xc xr Vl I5.i9 Sv.there (codeAny_handlers_suite_as ?_)
  refine lands_againW Sv fun h6 Sw up6=>?_
  have ff5:h5.FunFrames B X.stack:=lI ▸ Sv.2.2.1
  have Vy:gn (fz X.stack) H' s1.heap h5 h6:=gn.of aK' Sw.1 up6 ff5
  have un6:=Vy.un Vw
  have iT':=Vy.aI fr Vx
  have I6:Inv (kI X (X.pn++pins) X.xe) nL aT H' ⟨h6,g',d',t',s1.os⟩:=I1.call (h':=h6) (g':=g') (d':=d') (t':=t') (ch:=[]) un6 iT' bare (fun b z=>absurd z (by simp))
  obtain⟨oe,vs,he,mS,hdt,_⟩:=Sw.first
  have nf:a∉fz X.stack:=fun z=>by
   have ff6:h6.FunFrames B X.stack:=lI ▸ Sw.2.2.1
   obtain⟨_,o,e1,d1⟩:=ff6.mem z
   rw[he] at e1;cases e1
   exact d1 vs hdt
  have na:H' a=none:=by
   cases z:H' a with
   |none=>rfl
   |some u =>
    have:=(aK'.next Vy Vx fun b o e=>Vw.there b o e (by simp)) a oe he (.inl (by rw[z];exact fun z=>nomatch z)) nf
    rw[Sw.2.1] at this;cases this
  have frm:∀ b,b∈fz X.stack↔b=X.env.locals\/b∈X.fs:=fun b=>by
   rw[lI];unfold fz;rw[xD,hf];exact dA
  have pa:G3 X H' ⟨h6,g',d',t',s1.os⟩ (a,oe):=⟨he,na,fun z=>nf ((frm a).mpr (.inl z)),fun z=>nf ((frm a).mpr (.inr z)),fun v z=>by rw[hdt] at z;cases z⟩
  have I6h:Inv (BF X ((a,oe) :: (X.pn++pins)) a) [] aT H' ⟨h6,g',d',t',s1.os⟩:=Inv.BF I6 fun p hp=>by
   rw[mh] at hp
   rcases dA.mp hp with z|z
   ·rw[z];exact pa
   ·exact I6.pin p (kK _ z)
  refine Tx (X:=BF X ((a,oe) :: (X.pn++pins)) a) (v:=.ref a) I6h hN hj (.inl hl) rfl (fun s7 I7 _=>?_) (.inr hl)
  refine pS (hh ((a,oe) :: (X.pn++pins)) a oe n C hn oq xc dQ mS [] s7 (aT.set j (some (.ref a))) H' { nx:=fun Fc H8=>∃ IB O0 Sx,aE H' IB/\dy K IB O0 Fc H8 Sx/\E.nx (O0.set j none),rt:=D.rt } I7
   ⟨H',ρh a,[],_,⟨by rw[hρ a,<- (show aT.length=X.N.length from I1.len)];exact SR.exc aT j,⟨aE.refl _,fun _ _ e=>e⟩,nK,fun a h=>nomatch h⟩,hq a,fun Fc H8 IB O0 Sx m8 r8 q8=>⟨IB,O0,Sx,m8,r8,q8⟩,fun _ _ _ _ _ _ _ z=>z,fun _ _ _ _ _ _ _ z=>z,
    fun v H2 aC m d As s2=>k4 v H2 aC m d As (sm.trans s2),fun n H2 s2=>kx n H2 (sm.trans s2)⟩) (fun f s8 hs=>?_) fun _ _ z=>z.elim
  cases f with
  |next =>
   obtain⟨Fc,H8,I8,IB,O0,Sx,m8,r8,q8⟩:=hs
   have I9:Inv X pins Fc H8 s8:=Inv.zR I8 I.ok.hd fun p hp=>by rw[mh];exact dz _ hp
   obtain⟨m,Vz,lk⟩:=id I9.loc
   obtain⟨iW',aM',r9⟩:=SR.Fb j r8.sr
   exact wpAny_nameGoes_keeps hl Vz (by rw[I9.ok.kind];rfl) fun h9 v VA sb=>⟨Fc.set j none,H8,Inv.drop I9 hN hj lk VA sb,k1 _ H8 IB _ iW' (sm.trans m8) ⟨r9.Ff,r8.wf,aM'.nodup r8.rj,fun b hb=>r8.own b (aM'.subset hb)⟩ q8⟩
  |brk=>obtain⟨_,_,_,z⟩:=hs;exact z.elim
  |cont=>obtain⟨_,_,_,z⟩:=hs;exact z.elim
  |ret u =>
   obtain⟨v,Fc,H8,I8,rv,q⟩:=hs
   have I9:Inv X pins Fc H8 s8:=Inv.zR I8 I.ok.hd fun p hp=>by rw[mh];exact dz _ hp
   obtain⟨m,Vz,_⟩:=id I9.loc
   exact wpAny_nameGoes hl Vz (by rw[I9.ok.kind];rfl) fun h9 m9 VA sb=>⟨v,_,H8,Inv.forget I9 VA sb,rv,q⟩
end L2.Q
namespace L2.Q.R
open PySem PySem.Spec PyProof.Rows L2.Q
theorem Mt:FN j t ρh hd E ρ=t { E with rt:=fun m d=>pE m d (fun n=>∀ a,hd a n { nx:=fun bS=>E.nx (bS.set j none),rt:=E.rt } (ρh a)) (E.rt m d) } ρ:=rfl
end L2.Q.R
namespace L2.Q
open PySem PySem.Spec PyProof.Rows
def Pl(m:Md)(d:D)(S:D->D->Prop)(O:D->D->Prop):Prop:=match m,d with
 |.sh,.tup [a,b]=>S a b
 |.ow true,.tup [a,b]=>a.flat=false/\b.flat=false/\O a b
 |_,_=>False
def Fw(i j:Nat)(te:WE):WS:=fun E ρ=>te ρ fun m d=>Pl m d (fun a b=>E.nx ((ρ.set i (some (.sh a))).set j (some (.sh b)))) fun a b=>E.nx ((ρ.set i (some (.ow true a))).set j (some (.ow true b)))
theorem Gr{X:Cx}{K:PySem.W.Frag}(hc:X.calm=true)(hN:X.N.Nodup)(hi:X.N[i]? = some x)(hx:Loc X.env.scope x)(hj:X.N[j]? = some y)(hy:Loc X.env.scope y)(he:QE X K e te)(hK:X.K=K:=by rfl)
  (hf:X.fn x=true\/X.env.scope.names.lookup x=some .local:=by first|exact .inl rfl|exact .inr rfl|assumption) (hf2:X.fn y=true\/X.env.scope.names.lookup y=some .local:=by first|exact .inl rfl|exact .inr rfl|assumption)
  (hn:(assignEach [.Name x p1,.Name y p2] X.env).length=2:=by rfl) (lI:(assignEach [.Name x p1,.Name y p2] X.env).findIdx? (·.1)=none:=by rfl)
  (hs:swapsWithSole [.Tuple [.Name x p1,.Name y p2] k p3] e pos.line X.env=pure false:=by rfl) (hw:swappedStores [.Tuple [.Name x p1,.Name y p2] k p3] e X.env=pure none:=by rfl)
  (h1:(assignEach [.Tuple [.Name x p1,.Name y p2] k p3] X.env).map (·.2)=[assign (.Tuple [.Name x p1,.Name y p2] k p3) X.env]:=by rfl) (h2:(assignEach [.Name x p1,.Name y p2] X.env).map (·.2)=assign (.Name x p1) X.env :: (assignEach [.Name y p2] X.env).map (·.2):=by rfl)
  (h3:(assignEach [.Name y p2] X.env).map (·.2)=assign (.Name y p2) X.env :: (assignEach [] X.env).map (·.2):=by rfl) :
  QS X K L (.Assign [.Tuple [.Name x p1,.Name y p2] k p3] e pos) (Fw i j te):=by
 subst hK
 refine PS.imp (cT' he (Yi hc (TJ (TH hN hi hx hf) (TJ (TH hN hj hy hf2) Yh h3) h2) hn lI) hs hw h1) fun D σ H hx=>gB hx fun Hs ρ ag E sr h k1 k2 k3 k4=>?_
 refine⟨Hs,ρ,ag,_,sr,h,fun v H1 ax m d As g1 r1 f1 q1=>?_⟩
 have Sy:=sr.grow g1
 unfold Pl at q1
 split at q1
 ·rename_i a b
  obtain⟨_,r⟩:=r1
  cases r with
  |tup z e rs =>
   cases rs with
   |cons ra rs=>cases rs with
    |cons rb rs=>cases rs with
     |nil =>
      obtain⟨t1,m1,s1⟩:=Sy.Gg i ra
      obtain⟨t2,m2,s2⟩:=s1.Gg j rb
      exact⟨_,_,rfl,.inl (.inl (g1.wf.sub _ _ e)),rfl,_,_,rfl,_,_,rfl,rfl,k1 _ H1 ax _ t2 g1.sh s2 q1⟩
 ·rename_i a b
  obtain⟨fa,fb,q1⟩:=q1
  obtain⟨r,ne⟩:=r1
  cases r with
  |sh _ _=>exact absurd rfl ne
  |tup z e n rs =>
   cases rs with
   |@cons _ v1 _ _ A1 _ ra rs=>cases rs with
    |@cons _ v2 _ _ A2 _ rb rs=>cases rs with
     |nil =>
      obtain⟨nd,fr⟩:=f1
      rw[mh] at nd fr
      obtain⟨n1,n2,n3⟩:=iP.mp nd
      have dj:∀ c∈A1++A2,c∉ag:=fun c hc z=>(sr.sr.own c z).ne (fr c hc).2
      obtain⟨t1,a1,b1,c1⟩:=SR.zM (ra.ne fa) ra n1 i Sy.sr Sy.rj fun c hc=>dj c (kK _ hc)
      obtain⟨t2,a2,b2,c2⟩:=SR.zM (rb.ne fb) rb n2 j c1 a1 fun c hc z=>by
       rcases b1 c z with w|w
       ·exact dj c (fT _ hc) w
       ·exact n3 c w c hc rfl
      refine⟨_,_,rfl,.inl (.inl (g1.wf.sub _ _ e)),rfl,_,_,rfl,_,_,rfl,rfl,k1 _ H1 ax _ t2 g1.sh ⟨c2,g1.wf,a2,fun c hc=>?_⟩ q1⟩
      rcases b2 c hc with w|w
      ·rcases b1 c w with w|w
       ·exact Sy.own c w
       ·exact(fr c (kK _ w)).1
      ·exact(fr c (fT _ w)).1
 ·exact q1.elim
end L2.Q
namespace L2.Q.R
open PySem PySem.Spec PyProof.Rows L2.Q
section
variable {E:rA}{ρ:Env}{te:WE}{i j:Nat}{x y:L2.Q.D}{S O:L2.Q.D->L2.Q.D->Prop}
theorem NK:Fw i j te E ρ=te ρ fun m d=>bp (m,d) (f:=fun p=>Pl p.1 p.2 (fun a b=>E.nx ((ρ.set i (some (.sh a))).set j (some (.sh b)))) fun a b=>E.nx ((ρ.set i (some (.ow true a))).set j (some (.ow true b)))) ⟨⟩:=rfl
theorem KJ:Pl .sh (.tup [x,y]) S O=S x y:=rfl
theorem K6:Pl (.ow true) (.tup [x,y]) S O=(x.flat=false/\y.flat=false/\O x y):=rfl
end
end L2.Q.R
namespace L2
open PySem PySem.Spec PyProof.Rows Builtin Builtin.Str Builtin.Int
end L2
namespace L2.Q
open PySem PySem.Spec PyProof.Rows
section
variable {X:Cx}{K:PySem.W.Frag}{a:Expr}{ta:WE}
def VB(t:WE):WE:=fun ρ Q=>t ρ fun m d=>lM m/\Q .sh d
theorem iY'(h:QE X K a ta):QE X K a (VB ta):=by
 refine PE.imp h fun σ H Qv hx=>gS hx fun Hs ρ ag Q sr h fin=>?_
 refine⟨Hs,ρ,ag,_,sr,h,fun v H1 ax m d As g1 r1 f1 q1=>?_⟩
 obtain⟨nb,q⟩:=q1
 cases m with
 |sh=>exact fin v H1 ax .sh d As g1 r1 f1 q
 |bo=>exact nb.elim
 |ow fl =>
  obtain⟨r,ne⟩:=r1
  have hn:∀ a∈As,ax a=none:=fun a h=>(f1.2 a h).1
  have s:=ju (H:=H1) hn
  refine fin v H1 (sD ax H1 As) .sh d [] ⟨g1.all,g1.sh.trans s,zV g1.wf r.own,fun c hc=>?_⟩ ⟨rfl,r.rep s fun c hc=>by unfold sD;rw[if_pos hc]⟩ ⟨nK,fun _ h=>w_ h⟩ q
  unfold sD at hc
  split at hc
  ·rename_i m
   exact .inr (f1.2 c m).2
  ·exact g1.new c hc
def owl(o:Option (Option Sl))(k:List D->Prop):Prop:=match o with
 |some (some (.ow true (.list xs)))=>k xs
 |_=>False
def intD(y:D)(k:Int->Prop):Prop:=match y with
 |.int i=>k i
 |_=>False
def ja'(d:D):Md:=bif d.flat then .sh else .ow true
end
end L2.Q
namespace L2.Q.R
open PySem PySem.Spec PyProof.Rows L2.Q
section
variable {ρ:Env}{te:WE}{m:Md}{ys:List L2.Q.D}{Q:Md->L2.Q.D->Prop}
theorem Mi:owl (some (some (.ow true (.list ys)))) k=k ys:=rfl
theorem Ms:intD (.int i) k=k i:=rfl
theorem jb':VB te ρ Q=te ρ fun m d=>lM m/\Q .sh d:=rfl
end
end L2.Q.R
namespace L2
open PySem PySem.Spec PyProof.Rows
section
variable {prog:Program}{w:World}{A:Around}{E:Value->Shared->Prop}{s:Shared}
theorem FJ{κ:Type}[DecidableEq κ]{kd:HeapKind prog w κ}{d b:Addr}{xs:List (κ × Addr × Value)}{k:κ}{r:Value}{Q:Value->Shared->Prop}(hu:kd.room A)(hk:kd.is s.heap k b)(hm:s.heap.DictOfH kd d xs)(hz:xs.length<=sizeLine)
  (h1:∀ p,atKey xs k=some p->Q p.2 { s with toks:=s.toks+kd.draws k })
  (h2:atKey xs k=none->∀ h',h'.DictOfH kd d (storedH xs k b r)->Heap.SameBut d s.heap h'->Q r { s with heap:=h',toks:=s.toks+kd.draws k }):wpAny (model prog w) A (dictSetDefault d (.ref b) r) Q E s:=by
 obtain⟨o,es,ep,ho,hc,hd,he,oz,hn⟩:=hm
 unfold dictSetDefault
 try with_reducible refine wpAny_holding ?_
 refine ai (kd.pyHash hu hk (ai (wpAny_dictFind_heap (s:={ s with toks:=s.toks+kd.draws k }) hu hk ho hd he oz hn (fun no=>?_) fun j p hj=>?_)))
 ·have nk:=atKey_none_of_get no
  refine ai (wpAny_rule (ai (wpAny_updateDictKeys (hz:=by have e:=size_of_entries he;lia) (s:={ s with toks:=s.toks+kd.draws k }) ho hd (ay (h2 nk _ ?_ (Heap.SameBut.update ..))))))
  rw[storedH_new nk]
  refine⟨_,_,ep+1,BQ _ ho (Obj.isFreed_of_dict (Obj.data_mapDictKeys hd _)),hc.mapDictKeys _,Obj.data_mapDictKeys hd _,by simp[he,entryOfKey],fun x hx=>?_,?_⟩
  ·rcases eJ.mp hx with q|q
   ·exact kd.keeps (oz x q) ho hd (Heap.SameBut.update ..)
   ·obtain rfl:=uj.mp q
    exact kd.keeps hk ho hd (Heap.SameBut.update ..)
  ·rw[oD]
   refine iP.mpr ⟨hn,by simp,fun x hx y hy e=>?_⟩
   obtain rfl:y=k:=by simpa using hy
   exact not_mem_keys_of_get no (e ▸ hx)
 ·refine ai (wpAny_dictEntries (s:={ s with toks:=s.toks+kd.draws k }) ho hd ?_)
  rw[entry_at he j,hj]
  exact ai (wpAny_rule (ay (h1 _ (atKey_of_get hn hj))))
theorem Ci{κ:Type}[DecidableEq κ](kd:HeapKind prog w κ)(d b:Addr)(hd:(d == sysModules)=false)(r:Value) :
  MeetsIn prog w (Builtin.«dict.setdefault» ⟨[.ref d,.ref b,r],[]⟩) (fun A R s=>kd.room A.in1/\∃ k xs,kd.is s.heap k b/\s.heap.DictOfH kd d xs/\xs.length<=sizeLine /\
   (∀ p,atKey xs k=some p->R (.ok (.ret p.2)) { s with toks:=s.toks+kd.draws k }) /\
   (atKey xs k=none->∀ h',h'.DictOfH kd d (storedH xs k b r)->Heap.SameBut d s.heap h'->R (.ok (.ret r)) { s with heap:=h',toks:=s.toks+kd.draws k })) :=
 .of_wp fun A R s da=>by
  obtain⟨hu,k,xs,hk,hm,hz,h1,h2⟩:=da
  unfold Builtin.«dict.setdefault» Builtin.Dict.keyAndDefault
  refine ai (ai (wpAny_notOrdered_dict hm.typeIs ?_))
  refine(show wpAny _ _ (pure (d,Value.ref b,some r)) _ _ s from ay ?_)
  refine(show wpAny _ _ (if (d == sysModules)=true then _ else (dictSetDefault d (Value.ref b) r >>= _)) _ _ s from ?_)
  rw[if_neg (by rw[hd];decide)]
  exact ai (FJ hu hk hm hz (fun p q=>ay ⟨p.2,rfl,h1 p q⟩) fun q h' a c=>ay ⟨r,rfl,h2 q h' a c⟩)
end
section
variable {X:Cx}{pins:List (Addr × Obj)}{σ:St}{H:Hp}{s:Shared}{a b:Addr}{A:Around}{E:Value->Shared->Prop}
theorem Cu(hu:A.units+1<cLine)(I:Inv X pins σ H s)(e:H a=some (.dT kvs))(eb:H b=some (.tup (k.map kV)))(hl:kvs.length<sizeLine)(rv:RelV v r)
  (h1:∀ v' w' s',gp kvs k=some v'->Inv X pins σ H s'->RelV v' w'->Q w' s') (h2:gp kvs k=none->∀ s',Inv X pins σ (upd H a (.dT (putK kvs k v))) s'->Q r s') :
  wpAny (model X.prog X.w) A (call (.builtin "dict.setdefault") [.ref a,.ref b,r]) Q E s:=by
 obtain⟨z,hd,xs,rel,dd⟩:=eR' I.aI e
 have hz:xs.length<=sizeLine:=by rw[<- Paired.length rel];exact z
 have hp:(putK kvs k v).length<=sizeLine:=by have:=eQ' kvs k v;lia
 have vl:=rel.val k
 refine call_meetsIn PySem.F.slot_dict_setdefault dd.typeIs PySem.F.entry_dict_setdefault (PySem.F.args_dict_setdefault_3 _ _ _) (Ci (tupleKind (kR X.prog X.w)) a b hd r) ⟨tupleKind_room_in1 hu,k,xs,GH I.aI eb,dd,hz,fun p gd=>?_,fun hn h' dd' hs=>?_⟩
 ·rw[gd] at vl
  cases ev:gp kvs k with
  |none=>rw[ev] at vl;exact(vl:False).elim
  |some v'=>rw[ev] at vl;exact h1 v' _ _ ev (I.tok _) vl
 ·have ev:gp kvs k=none:=by
   rw[hn] at vl
   cases ev:gp kvs k with
   |none=>rfl
   |some v'=>rw[ev] at vl;exact(vl:False).elim
  refine h2 ev _ ?_
  obtain⟨q,es,ep,hq,g2,g3,g4,_,g5⟩:=dd'
  refine eW' I (by rw[e];exact True.intro) hs ⟨q,hq⟩ ⟨hp,hd,_,(rel.put k eb rv).keeps fun c ys ec=>?_,q,es,ep,hq,g2,g3,g4,g5⟩
  rw[fh (bZ' ec e fun z=>nomatch z)]
  exact ec
end
def tSd(td ty tx:TE):TE:=fun σ H Q=>td σ H fun x H1=>∃ a,x=.ref a/\Rt H1 a/\ty σ H1 fun y H2=>tx σ H2 fun z H3=>∃ kvs k b,H3 a=some (.dT kvs)/\y=.ref b/\H3 b=some (.tup (k.map kV))/\kvs.length<sizeLine /\
 (∀ v,gp kvs k=some v->Q v H3)/\(gp kvs k=none->Q z (upd H3 a (.dT (putK kvs k z))))
theorem K8 {X:Cx} (hu:X.A.units+1<cLine) (ho:PE X o td) (he:PE X e ty) (hf:PE X f tx) (m:M2 X o "setdefault" apos e f dS):PE X (.Call (.Attribute o "setdefault" apos) [e,f] [] dS) (tSd td ty tx):=by
 intro pins s σ H Q I h
 refine wpAny_Call_method m.base m.few m.line PySem.F.plainAttrs_dict PySem.F.slot_dict_setdefault PySem.F.type_dict_setdefault (cf (ho pins s σ H _ I h) fun u s1 da=>?_)
 obtain⟨x,H1,I1,rx,a,ex,d,q1⟩:=da
 subst ex
 cases (show u=Value.ref a from rx)
 have td:=Y4 I1 d
 refine⟨td.1,td.2.1,?_⟩
 rw[m.trees]
 refine Calls.callWith_builtin rfl (Calls.evalArgs_plain (Calls.spliced_cons (cf (he pins s1 σ H1 _ I1 q1) fun iv s2 b9=>L2.fw b9 fun y H2 I2 ry q2=>Calls.spliced_cons (cf (hf pins s2 σ H2 _ I2 q2) fun fv s3 ⟨z,H3,I3,rz,kvs,k,b,e1,e2,e3,hl,q3,q4⟩=>Calls.spliced_nil ?_))))
 subst e2
 cases (show iv=Value.ref b from ry)
 exact Cu hu I3 e1 e3 hl rz (fun v' w' s' ev I' r'=>⟨v',H3,I',r',q3 v' ev⟩) fun ev s' I'=>⟨z,_,I',rz,q4 ev⟩
end L2
namespace L2.Q
open PySem PySem.Spec PyProof.Rows
section
variable {X:Cx}{K:PySem.W.Frag}{a b c:Expr}{ta tb tc:WE}{pos apos dS:Pos}
def Sz(x:D)(f:List (Key × D)->Prop)(g:List (List Key × D)->Prop):Prop:=match x with
 |.dK kvs=>f kvs
 |.dT kvs=>g kvs
 |_=>False
def Pm(y:D)(k:List D->Prop):Prop:=match y with
 |.tup ys=>k ys
 |_=>False
def DF(o:Option D)(m n:Md)(z:D)(Q:Md->D->Prop):Prop:=match o with
 |some d=>Q (lT m d) d
 |none=>Q n z
def IC(ta tb tc:WE):WE:=fun ρ Q=>ta ρ fun m x=>Sz x (fun kvs=>tb ρ fun _ y=>tc ρ fun n z=>∃ k,y.key1=some k/\DF (eS kvs k) m n z Q)
 (fun kvs=>tb ρ fun _ y=>tc ρ fun n z=>Pm y fun ys=>∃ ks,gC ys=some ks/\DF (eS kvs ks) m n z Q)
theorem BX(hx:mz K (IC ta tb tc) σ H Qv):Y5 (mz K ta) (mz K tb) (mz K tc) σ H Qv:=gS hx fun Hs ρ ag Q sr h fin=>by
 refine⟨Hs,ρ,ag,_,sr,h,fun v H1 ax m x As g1 r1 f1 q1=>?_⟩
 have got:∀ {o:Option V} {d? : Option D} {H2 H3 aC eW:Hp} {w:V} {n:Md} {z:D} {Cs:List Addr},ez ax H1 aC H2->ez aC H2 eW H3->RM K eW H3 n z w Cs->di eW H2 Cs->(match d? with
   |some d=>∃ v,o=some v/\Rep K H3 d v/\(m=.sh->Rep K eW d v)
   |none=>o=none)->DF d? m n z Q->Qv (o.getD w) H3:=by
  intro o d? H2 H3 aC eW w n z Cs g2 g3 r3 f3 l q
  cases d? with
  |none=>rw[show o=none from l];exact fin w H3 eW n z Cs ((g1.trans g2).trans g3) r3 (f3.of (g1.trans g2).all) q
  |some d =>
   obtain⟨v',e,u1,u2⟩:=l
   rw[e]
   exact(Fin.after fin ((g1.trans g2).trans g3)).lT g3.wf u1 u2 q
 have core:∀ G:Hp,aE G H1->(∀ H3 eW,ez ax H1 eW H3->∀ d v,Rep K G d v->Rep K H3 d v/\(m=.sh->Rep K eW d v))->Rep K G x v->∃ a,v=.ref a/\Rt H1 a/\mz K tb σ H1 fun y H2=>mz K tc σ H2 fun z H3=>∃ o,kS H3 a y o/\Qv (o.getD z) H3:=by
  intro G sg up r
  cases r with
  |dK kk s q =>
   refine⟨_,rfl,.inl ⟨_,aE.rd sg s⟩,ax,ρ,ag,_,sr.grow g1,q1,fun u H2 aC n y Bs g2 r2 f2 q2=>⟨aC,ρ,ag,_,(sr.grow g1).grow g2,q2,fun w H3 eW n3 z Cs g3 r3 f3 q3=>?_⟩⟩
   have ry:=(r2.grow g3).rep g3.wf
   obtain⟨k,hk,q4⟩:=q3
   have ev:=ry.key hk
   subst ev
   refine⟨_,kS.k' (aE.rd (g2.trans g3).all (aE.rd sg s)),got g2 g3 r3 f3 ?_ q4⟩
   have z:=zip_get (k:=k) q
   split
   ·rename_i d e
    rw[e] at z
    obtain⟨v',e',r'⟩:=z
    exact⟨v',e',up _ _ (g2.trans g3) _ _ r'⟩
   ·rename_i e
    rw[e] at z
    exact z
  |dT kk s q =>
   refine⟨_,rfl,.inr ⟨_,aE.rd sg s⟩,ax,ρ,ag,_,sr.grow g1,q1,fun u H2 aC n y Bs g2 r2 f2 q2=>⟨aC,ρ,ag,_,(sr.grow g1).grow g2,q2,fun w H3 eW n3 z Cs g3 r3 f3 q3=>?_⟩⟩
   have ry:=(r2.grow g3).rep g3.wf
   cases ry with
   |tup t2 e2 p2 =>
    obtain⟨k,hk,q4⟩:=q3
    obtain⟨b',eb,e3⟩:=Rep.qk (.tup t2 e2 p2) hk
    cases eb
    refine⟨_,kS.t' (aE.rd (g2.trans g3).all (aE.rd sg s)) e3,got g2 g3 r3 f3 ?_ q4⟩
    have z:=zip_get (k:=k) q
    split
    ·rename_i d e
     rw[e] at z
     obtain⟨v',e',r'⟩:=z
     exact⟨v',e',up _ _ (g2.trans g3) _ _ r'⟩
    ·rename_i e
     rw[e] at z
     exact z
   |_=>exact q3.elim
  |_=>exact q1.elim
 rcases r1.here g1.wf with⟨hm,r⟩|⟨hm,r⟩
 ·exact core ax g1.wf.sub (fun H3 eW g d v q=>⟨q.same (g1.wf.sub.trans g.all),fun _=>q.same g.sh⟩) r
 ·exact core H1 (aE.refl H1) (fun H3 eW g d v q=>⟨q.same g.all,fun z=>absurd z hm⟩) r
theorem Fg (hu:X.A.units+64<cLine) (ha:QE X K a ta) (hb:QE X K b tb) (hc:QE X K c tc) (hm:M2 X a "get" apos b c dS:=by exact⟨rfl,rfl,rfl,rfl⟩):QE X K (.Call (.Attribute a "get" apos) [b,c] [] dS) (IC ta tb tc) :=
 PE.imp (fe' (by lia) ha hb hc hm) fun σ H Qv hx=>BX hx
def Pp(d x:D):D:=match d with
 |.list xs=>.list (xs++[x])
 |d=>d
def kX:List (List Key × D)->List Key->D->List (List Key × D)
 |[],k,x=>[(k,.list [x])]
 |p :: r,k,x=>if p.1=k then (p.1,Pp p.2 x) :: r else p :: kX r k x
def IE(kvs:List (List Key × D))(k:List Key):List (List Key × D):=match eS kvs k with
 |some _=>kvs
 |none=>kvs++[(k,.list [])]
def Dy:Option D->Prop
 |none=>True
 |some (.list xs)=>xs.length<sizeLine
 |_=>False
def SD(o:Option (Option Sl))(k:List (List Key × D)->Prop):Prop:=match o with
 |some (some (.ow true (.dT kvs)))=>k kvs
 |_=>False
def Pt(i:Nat)(tk te:WE):WS:=fun E ρ=>SD ρ[i]? fun kvs=>tk ρ fun _ y=>Pm y fun ys=>∃ ks,gC ys=some ks/\kvs.length<sizeLine/\Dy (eS kvs ks) /\
 te (ρ.set i (some (.ow true (.dT (IE kvs ks))))) fun _ x=>x.flat=true/\E.nx (ρ.set i (some (.ow true (.dT (kX kvs ks x)))))
theorem bQ[DecidableEq κ](p:κ × β)(r:List (κ × β))(k:κ):eS (p :: r) k=if p.1=k then some p.2 else eS r k:=by
 by_cases h:p.1=k<;>simp[eS,h]
theorem JQ:∀ {kvs:List (List Key × D)},eS kvs k=some d->∃ j,(kvs.map (·.2))[j]? = some d/\(∀ vs:List V,vs.length=kvs.length->gp ((kvs.map (·.1)).zip vs) k=vs[j]?) /\
  ∀ x,(kX kvs k x).map (·.1)=kvs.map (·.1)/\(kX kvs k x).map (·.2)=(kvs.map (·.2)).set j (Pp d x)
 |[],h=>by simp[eS] at h
 |p :: kvs,h=>by
  rw[bQ] at h
  by_cases e:p.1=k
  ·rw[if_pos e] at h
   cases h
   refine⟨0,rfl,fun vs hl=>?_,fun x=>?_⟩
   ·cases vs with
    |nil=>cases hl
    |cons v vs=>exact tq (p:=(p.1,v)) e
   ·simp[kX,e]
  ·rw[if_neg e] at h
   obtain⟨j,h1,h2,h3⟩:=JQ h
   refine⟨j+1,by simpa using h1,fun vs hl=>?_,fun x=>?_⟩
   ·cases vs with
    |nil=>cases hl
    |cons v vs =>
     show gp ((p.1,v) :: (kvs.map (·.1)).zip vs) k=_
     rw[tv (p:=(p.1,v)) e,h2 vs (by simpa using hl)]
     rfl
   ·simp[kX,e,h3 x]
theorem uz:∀ {kvs:List (List Key × D)},eS kvs k=none->eS (kvs++[(k,d)]) k=some d
 |[],_=>by simp[eS]
 |p :: kvs,h=>by
  rw[bQ] at h
  by_cases e:p.1=k
  ·rw[if_pos e] at h;cases h
  ·rw[if_neg e] at h
   rw[Qz,bQ,if_neg e,uz h]
theorem xn:∀ {kvs:List (List Key × D)},eS kvs k=none->kX (kvs++[(k,.list [])]) k x=kX kvs k x
 |[],_=>by simp[kX,Pp]
 |p :: kvs,h=>by
  rw[bQ] at h
  by_cases e:p.1=k
  ·rw[if_pos e] at h;cases h
  ·rw[if_neg e] at h
   rw[Qz,kX,kX,if_neg e,if_neg e,xn h]
theorem dy.place(sr:dy K Hs ρ σ H ag)(e:ρ[i]? = some (some (.ow fl d))):∃ v,σ[i]? = some (some v)/\Place K Hs H σ fl d v fun fl2 d2=>ρ.set i (some (.ow fl2 d2)):=by
 obtain⟨v,As,t,e2,ne,r,sb,g⟩:=SR.put i sr.sr e sr.rj
 refine⟨v,e2,As,r,ne,sb.nodup sr.rj,fun a h=>sr.own a (sb.subset h),fun aC H2 fl2 d2 fS s2 w2 n2 _ r2 ne2 kG o2 st=>?_⟩
 obtain⟨t2,x,y,z⟩:=g aC H2 fl2 d2 fS s2 r2 ne2 kG (fun a ha m=>(o2 a ha).2.elim id fun q=>absurd q (sr.sr.own a m).ne) fun a ha m=>st a (sr.sr.own a ha).ne m
 exact⟨t2,z,w2,x,fun a h=>(y a h).elim (fun q=>n2 a (sr.own a q) (sr.sr.own a q).ne) fun q=>(o2 a q).1⟩
theorem xQ(sr:dy K Hs ρ σ H ag)(e1:ρ[i]? = some (some (.ow true (.dT kvs))))(hg:eS kvs ks=some (.list xs)) :
  ∃ a IG c ws,σ[i]? = some (some (.ref a))/\H a=some (.dT IG)/\gp IG ks=some (.ref c)/\H c=some (.lst ws)/\ws.length=xs.length /\
   ∀ x y,x.flat=true->Rep K Hs x y->ws.length<sizeLine->∃ fo,dy K Hs (ρ.set i (some (.ow true (.dT (kX kvs ks x))))) σ (upd H c (.lst (ws++[y]))) fo:=by
 obtain⟨v,e2,pl⟩:=sr.place e1
 obtain⟨gX,r,ne,nd,own,k⟩:=pl.ex
 cases r with
 |sh hf _=>exact absurd rfl ne
 |@dT a0 vs _ A kk e rs =>
  obtain⟨na,nA⟩:=nE.mp nd
  obtain⟨j,ej,ev,es⟩:=JQ hg
  obtain⟨w,B,e3,r3,sb,g⟩:=rs.at ej nA
  have hl:vs.length=kvs.length:=by have:=rs.length;rw[cE] at this;exact this.symm
  cases r3 with
  |sh hf _=>exact absurd (hf rfl) (by simp[D.flat])
  |@list c ws _ B' hz ec SF =>
   have cA:c∈A:=sb.subset dQ
   refine⟨a0,_,c,ws,e2,e,(ev vs hl).trans e3,ec,SF.length.symm,fun x y hx rx hw=>?_⟩
   have hca:a0≠c:=fun z=>na (z ▸ cA)
   obtain⟨nc,nB⟩:=nE.mp (sb.nodup nA)
   have r4:bG K Hs (upd H c (.lst (ws++[y]))) true (.list (xs++[x])) (.ref c) (c :: B'):=by
    have:=(SF.gi (H':=upd H c (.lst (ws++[y]))) (aE.refl _) fun b hb=>fh fun z=>nc (z ▸ hb)).append (aF.cons (As:=[]) (.sh (fun _=>hx) rx) .nil)
    rw[mh,mh] at this
    exact .list (by rw[md];exact hw) iN this
   obtain⟨fS,n2,y2,_,r5⟩:=g Hs (upd H c (.lst (ws++[y]))) true _ _ (aE.refl _) id r4 (sb.nodup nA) (fun _ h _=>h) (fun b _ nb=>fh fun z=>nb (z ▸ dQ))
   have in2:∀ b∈fS,b∈A:=fun b hb=>(y2 b hb).elim (fun q=>q.1) fun q=>sb.subset q
   obtain⟨k1,k2⟩:=es x
   have kl:(kX kvs ks x).length=kvs.length:=by have:=congrArg List.length k1;simpa using this
   refine k Hs _ true (.dT (kX kvs ks x)) (a0 :: fS) (aE.refl _) (Bu sr.wf (own c (dz _ cA)) fun _ z=>nomatch z) (fun _ h _=>h) id (.dT (vs:=vs) ⟨by rw[kl];exact kk.1,fun p hp=>?_⟩ (by rw[fh hca,k1];exact e) (by rw[k2];exact r5)) (by simp) (nE.mpr ⟨fun z=>na (in2 _ z),n2⟩) (fun b hb=>?_) fun b _ nb=>fh fun z=>nb (z ▸ dz _ cA)
   ·have:p.1∈kvs.map (·.1):=k1 ▸ List.mem_map_of_mem hp
    obtain⟨p',gd,e'⟩:=dP.mp this
    rw[<- e'];exact kk.2 p' gd
   ·have hb':b∈a0 :: A:=(dA.mp hb).elim (fun z=>z ▸ dQ) fun z=>dz _ (in2 b z)
    exact⟨own b hb',.inl hb'⟩
theorem Ea{te:WE}{Hs H:Hp}{ρ:Env}{σ:St}{ag:List Addr}{i:Nat}{kvs:List (List Key × D)}{ks:List Key}{xs:List D}{a:Addr}{IG:List (List Key × V)}{v':V}{R:Env->Prop}{G:Hp->Prop}(sr:dy K Hs ρ σ H ag)(e1:ρ[i]? = some (some (.ow true (.dT kvs))))(hg:eS kvs ks=some (.list xs))(hz:xs.length<sizeLine)
  (eσ:σ[i]? = some (some (.ref a))) (eH:H a=some (.dT IG)) (ev:gp IG ks=some v') (q:te ρ fun _ x=>x.flat=true/\R (ρ.set i (some (.ow true (.dT (kX kvs ks x)))))) (k1:∀ H' aw bS bT,aE Hs aw->dy K aw bS σ H' bT->R bS->G H') :
  Rq K "list" v' H/\T6 (mz K te) T5 σ H fun us H2=>Y0 v' us H2 fun _ H3=>G H3:=by
 obtain⟨a',kv',c,ws,f1,f2,f3,f4,f5,f6⟩:=xQ sr e1 hg
 have ea:a'=a:=by rw[f1] at eσ;cases eσ;rfl
 subst ea
 have ek:kv'=IG:=by rw[f2] at eH;cases eH;rfl
 subst ek
 have e':v'=.ref c:=by rw[f3] at ev;cases ev;rfl
 subst e'
 refine⟨.inl ⟨rfl,_,.inl (.inl f4)⟩,Hs,ρ,ag,_,sr,q,fun y H2 aC m x Cs g2 r2 fr2 q2=>?_⟩
 obtain⟨hx,q2⟩:=q2
 obtain⟨b',kv2,c2,ws2,h1,h2,h3,h4,h5,h6⟩:=xQ (sr.grow g2) e1 hg
 have ea:b'=a':=by rw[f1] at h1;cases h1;rfl
 subst ea
 have ek:kv2=kv':=by rw[g2.all _ _ f2] at h2;cases h2;rfl
 subst ek
 have e':c2=c:=by rw[f3] at h3;cases h3;rfl
 subst e'
 obtain⟨fo,pz⟩:=h6 x y hx (r2.flat g2.wf hx) (by lia)
 exact⟨c2,ws2,y,rfl,rfl,h4,by lia,k1 _ aC _ fo g2.sh pz q2⟩
theorem set_own{α:Type}{ρ:List α}{i:Nat}{x:α}(h:ρ[i]? = some x):ρ.set i x=ρ:=by
 apply DT
 intro j
 rw[Td]
 split
 ·rename_i e
  subst e
  have:=(lh.mp h).1
  rw[if_pos this,h]
 ·rfl
theorem Ip {L:Str->Hp->Prop} {i:Nat} {p1 p2 p3 p4 p5:Pos} (hu:X.A.units+64<cLine) (he:PE X a (AG i)) (hb:QE X K b tb) (hc:QE X K c tc) (hK:X.K=K:=by rfl) (hm:M2 X a "setdefault" p1 b (.List [] p2) p3:=by exact⟨rfl,rfl,rfl,rfl⟩)
  (hs:swapsWith (.Call (.Attribute (.Call (.Attribute a "setdefault" p1) [b,.List [] p2] [] p3) "append" p4) [c] [] p5) none pos.line X.env=pure false:=by rfl)
  (wo:attributeBase (.Call (.Attribute a "setdefault" p1) [b,.List [] p2] [] p3) "append" X.env (eval (.Call (.Attribute a "setdefault" p1) [b,.List [] p2] [] p3) X.env)=eval (.Call (.Attribute a "setdefault" p1) [b,.List [] p2] [] p3) X.env:=by rfl)
  (wq:((backTo p5 (starEach [c] X.env)).all (fun x=>!x.1) && (backToKw p5 (keywordEach [] X.env)).all (fun x=>x.1.isSome)
   && decide ([c].length+([]:List Keyword).length+(if ([]:List Keyword).isEmpty then 0 else 1)<30))=true:=by rfl)
  (hline:(p4.endLine == p5.line)=true:=by rfl) (i6:starEach (c :: []) X.env=(false,eval c X.env) :: starEach [] X.env:=by rfl) (EE:(backTo p5 (starEach [] X.env)).any (·.1)=false:=by rfl) :
  QS X K L (.Expr (.Call (.Attribute (.Call (.Attribute a "setdefault" p1) [b,.List [] p2] [] p3) "append" p4) [c] [] p5) pos) (Pt i tb tc):=by
 subst hK
 refine PS.imp (LM (Ue PySem.F.plainAttrs_list PySem.F.slot_list_append PySem.F.type_list_append Ug (K8 (by lia) he hb (fM (K:=X.K) az) hm) (kN hc oQ i6) wo wq hline i6 EE) hs) fun D σ H hx=>gB hx fun Hs ρ ag E sr h k1 k2 k3 k4=>?_
 unfold Pt SD at h
 split at h
 ·rename_i kvs e1
  obtain⟨v,e2,pl⟩:=sr.place e1
  obtain⟨gX,r,ne,nd,own,k⟩:=pl.ex
  have lv:∀ x∈gX,Hs x=none/\H x≠none:=fun x hx=>⟨own x hx,(r.own x hx).ne⟩
  cases r with
  |sh hf _=>exact absurd rfl ne
  |@dT a0 vs _ A kk e rs =>
   refine⟨_,e2,a0,rfl,.inr ⟨_,.inl e⟩,Hs,ρ,ag,_,sr,h,fun u H2 aC m y Bs g2 r2 f2 q2=>?_⟩
   refine⟨aC,ρ,ag,fun m d=>m=.ow true/\d=.list [],sr.grow g2,⟨eu _,rfl,rfl⟩,fun w H3 eW n z Cs g3 r3 f3 q3=>?_⟩
   obtain⟨rfl,rfl⟩:=q3
   have ry:=(r2.grow g3).rep g3.wf
   cases ry with
   |tup t2 ey p2 =>
    obtain⟨ks,hk,hz,yy,q⟩:=q2
    obtain⟨b',eb,e3⟩:=Rep.qk (.tup t2 ey p2) hk
    cases eb
    have g:=g2.trans g3
    have hl:kvs.length=vs.length:=by have:=rs.length;rwa[cE] at this
    have srg:=sr.grow g
    have zg:=zip_get (k:=ks) (rs.reps (G:=H) sr.wf.sub fun _ _=>rfl)
    refine⟨_,ks,_,g.all _ _ e,rfl,e3,by rw[List.length_zip,cE,<- hl,Nat.min_self];exact hz,fun v' ev=>?_,fun ev=>?_⟩
    ·cases hg:eS kvs ks with
     |none=>rw[hg] at zg;rw[zg] at ev;cases ev
     |some d =>
      rw[hg] at yy
      cases d with
      |list xs =>
       rw[show IE kvs ks=kvs by unfold IE;rw[hg],set_own e1] at q
       exact Ea (G:=fun H'=>D.nx σ H') srg e1 hg yy e2 (g.all _ _ e) ev q fun H' aw bS bT s1 s2 q'=>k1 σ H' aw bS bT (g.sh.trans s1) s2 q'
      |_=>exact yy.elim
    ·have hg:eS kvs ks=none:=by
      cases hg:eS kvs ks with
      |none=>rfl
      |some d=>rw[hg] at zg;obtain⟨v',z,_⟩:=zg;rw[z] at ev;cases ev
     rw[show IE kvs ks=kvs++[(ks,.list [])] by unfold IE;rw[hg]] at q
     obtain⟨r3,_⟩:=r3
     cases r3 with
     |sh hf _=>exact absurd (hf rfl) (by simp[Q.D.flat])
     |@list c ws _ B' hw ec SF =>
      cases SF
      obtain⟨na,nA⟩:=nE.mp nd
      have fc:=f3.2 c dQ
      have SG:H c=none:=g2.all.free fc.2
      have cA:∀ b∈a0 :: A,b≠c:=fun b hb z=>by
       subst z
       rcases dA.mp hb with rfl|hb
       ·rw[e] at SG;cases SG
       ·exact(rs.own _ hb).ne SG
      have ek:putK ((kvs.map (·.1)).zip vs) ks (V.ref c)=((kvs++[(ks,Q.D.list [])]).map (·.1)).zip (vs++[V.ref c]):=by
       have:=L9 ks ((kvs.map (·.1)).zip vs)
       rw[ev] at this
       unfold putK
       rw[this,if_neg (by decide),oD,List.zip_append (by rw[cE];exact hl)]
       rfl
      obtain⟨kl,ko⟩:=BJ p2 hk
      have l1:=p2.length
      have rs3:=rs.grow g.sh g.all
      have rs4:aF X.K eW (upd H3 a0 (.dT (((kvs++[(ks,Q.D.list [])]).map (·.1)).zip (vs++[V.ref c])))) true ((kvs++[(ks,Q.D.list [])]).map (·.2)) (vs++[V.ref c]) (A++[c]):=by
       have q1:=rs3.gi (H':=upd H3 a0 (.dT (((kvs++[(ks,Q.D.list [])]).map (·.1)).zip (vs++[V.ref c])))) (aE.refl _) fun b hb=>fh fun z=>na (z ▸ hb)
       have q2:=q1.append (aF.cons (bG.list (ds:=[]) (As:=[]) hw ((fh fun z=>cA a0 dQ z.symm).trans ec) .nil) .nil)
       rw[show(kvs++[(ks,Q.D.list [])]).map (·.2)=kvs.map (·.2)++[Q.D.list []] by simp]
       exact q2
      obtain⟨fo,pz⟩:=k.node (fl2:=true) (d2:=.dT (kvs++[(ks,.list [])])) (C:=A++[c]) g lv (fun _ z=>by cases z) id
       (.dT ⟨by rw[md];exact hz,fun p hp=>(eJ.mp hp).elim (kk.2 p) fun z=>by
        obtain rfl:p=(ks,.list []):=by simpa using z
        exact⟨by show ks.length<=_;lia,ko⟩⟩ iN rs4)
       (iP.mpr ⟨nA,by simp,fun x hx y hy z=>cA x (dz _ hx) (by rw[z];simpa using hy)⟩) (fun z=>(eJ.mp z).elim na fun z=>cA a0 dQ (by simpa using z))
       (fun x hx=>(eJ.mp hx).imp id fun z=>by
        obtain rfl:x=c:=by simpa using z
        exact⟨fc.1,SG⟩)
      rw[ek]
      have hi:i<ρ.length:=(lh.mp e1).1
      refine Ea (G:=fun H'=>D.nx σ H') (R:=E.nx) (kvs:=kvs++[(ks,.list [])]) (xs:=[]) pz (by simp[hi]) (uz hg) (by rw[sizeLine_eq];decide) e2 iN (by rw[<- ek,eP',if_pos rfl]) ?_ fun H' aw bS bT s1 s2 q'=>k1 σ H' aw bS bT (g.sh.trans s1) s2 q'
      simp only[List.set_set,xn hg]
      exact q
   |_=>exact q2.elim
 ·exact h.elim
end
end L2.Q
namespace L2
open PySem PySem.Spec PyProof.Rows
end L2
namespace L2.Q
open PySem PySem.Spec PyProof.Rows
section
variable {K:PySem.W.Frag}{a b c:Expr}
def jk'(d:D)(k:List (Key × D)->Prop):Prop:=match d with
 |.dK kvs=>k kvs
 |_=>False
theorem SR.take(i:Nat)(s:SR K Hs H ρ σ ag):ρ[i]? = some (some (.ow fl d))->ag.Nodup ->
  ∃ (v:V) (As bT:List Addr),σ[i]? = some (some v)/\bG K Hs H fl d v As/\As.Sublist ag/\bT.Sublist ag/\(∀ a∈As,a∉bT)/\SR K Hs H (ρ.set i none) σ bT:=by
 induction s generalizing i with
 |nil=>intro e;simp at e
 |non q ih =>
  intro e n
  cases i with
  |zero=>simp at e
  |succ i =>
   obtain⟨v,As,t,o,a,b,c,d,f⟩:=ih i e n
   exact⟨v,As,t,o,a,b,c,d,.non f⟩
 |sh r q ih =>
  intro e n
  cases i with
  |zero=>simp at e
  |succ i =>
   obtain⟨v,As,t,o,a,b,c,d,f⟩:=ih i e n
   exact⟨v,As,t,o,a,b,c,d,.sh r f⟩
 |xc q ih =>
  intro e n
  cases i with
  |zero=>simp at e
  |succ i =>
   obtain⟨v,As,t,o,a,b,c,d,f⟩:=ih i e n
   exact⟨v,As,t,o,a,b,c,d,.xc f⟩
 |ow ne r q ih =>
  intro e n
  obtain⟨n1,n2,n3⟩:=iP.mp n
  cases i with
  |zero =>
   simp at e
   obtain⟨rfl,rfl⟩:=e
   exact⟨_,_,_,rfl,r,Fs _ _,oC _ _,fun a h m=>n3 a h a m rfl,.non q⟩
  |succ i =>
   obtain⟨v,As,t,o,a,b,c,d,f⟩:=ih i e n2
   exact⟨v,As,_,o,a,b.trans (oC _ _),c.append_left _,rF n b d,.ow ne r f⟩
 |lk ne r q ih =>
  intro e n
  obtain⟨n1,n2,n3⟩:=iP.mp n
  cases i with
  |zero=>simp at e
  |succ i =>
   obtain⟨v,As,t,o,a,b,c,d,f⟩:=ih i e n2
   exact⟨v,As,_,o,a,b.trans (oC _ _),c.append_left _,rF n b d,.lk ne r f⟩
end
end L2.Q
namespace L2.Q.R
open PySem PySem.Spec PyProof.Rows L2.Q
section
variable {ρ:Env}{E:rA}{te tb tc tk:WE}{m:Md}{x y:L2.Q.D}{ys:List L2.Q.D}{Q:Md->L2.Q.D->Prop}{i k:Nat}
theorem PB{kvs:List (Key × L2.Q.D)}{k:List (Key × L2.Q.D)->Prop}:jk' (.dK kvs) k=k kvs:=rfl
theorem Py:IC te tb tc ρ Q=te ρ fun m x=>bp x (f:=fun x=>Sz x (fun kvs=>tb ρ fun _ y=>tc ρ fun n z=>∃ k,y.key1=some k/\DF (eS kvs k) m n z Q)
 (fun kvs=>tb ρ fun _ y=>tc ρ fun n z=>bp y (f:=fun y=>Pm y fun ys=>∃ ks,gC ys=some ks/\DF (eS kvs ks) m n z Q) ⟨⟩)) ⟨⟩:=rfl
theorem Ox:Sz (.dK kvs) f g=f kvs:=rfl
theorem Pq:Sz (.dT kvs) f g=g kvs:=rfl
theorem Pb{k:List L2.Q.D->Prop}:Pm (.tup ys) k=k ys:=rfl
theorem jl':Pt i tk te E ρ=bp ρ[i]? (f:=fun o=>SD o fun kvs=>tk ρ fun _ y=>bp y (f:=fun y=>Pm y fun ys=>∃ ks,gC ys=some ks/\kvs.length<sizeLine/\Dy (eS kvs ks) /\
 te (ρ.set i (some (.ow true (.dT (IE kvs ks))))) fun _ x=>x.flat=true/\E.nx (ρ.set i (some (.ow true (.dT (kX kvs ks x)))))) ⟨⟩) ⟨⟩:=rfl
theorem Ol{kvs:List (List Key × L2.Q.D)}{k:List (List Key × L2.Q.D)->Prop}:SD (some (some (.ow true (.dT kvs)))) k=k kvs:=rfl
end
end L2.Q.R
namespace L2
open PySem PySem.Spec PyProof.Rows
section
variable {X:Cx}
def SJ(K:PySem.W.Frag):List V->Hp->VK->Prop:=fun xs H Q=>match xs with
 |[.ref a]=>∃ bs:List Bool,dn K H a (bs.map V.bl)/\Q (.bl (bs.any id)) H
 |_=>False
theorem zL (hc:X.calm=true):ki X (.builtin "any") (SJ X.K):=by
 intro pins s σ H xs us Q I r h
 unfold SJ at h
 split at h
 ·rename_i a
  obtain⟨bs,e,q⟩:=h
  obtain⟨u,rfl,ru⟩:=Vals.one r
  cases ru
  obtain⟨its,rv,pl,hz⟩:=I.list e
  have hl:s.heap.IsList a its.toArray:=pl.isList
  obtain⟨o,ho,FV,n,AQ⟩:=id hl
  have hlen:=rv.length
  rw[cE] at hlen
  refine call_any_walk (wpAny_pyIter_list hl ?_)
  have ic:a≠s.heap.objs.size:=eM (dk ho)
  have AR:X.A.in1.handled=none:=I.ok.hd hc
  refine⟨s.heap.objs.size,_,_,_,_,_,fun i=>bs.getD i false,rfl,Walks.list AR s.heap.objs.size a ic its.toArray,⟨⟨_,jv _ rfl,rfl,rfl⟩,⟨_,fe _ ho,FV,n,AQ⟩⟩,?_,fun h' tk hk=>?_⟩
  ·intro i v s' Q' E' hv hq
   have pe:its[i]? = some v:=by simpa using (show its.toArray[i]? = some v from hv)
   have hi:i<bs.length:=by
    have:=(lh.mp pe).1
    lia
   obtain⟨w',e1,r1⟩:=rv.get (i:=i) (x:=V.bl bs[i]) (by simp[hi])
   rw[pe] at e1
   cases e1
   cases (show v=Value.bool bs[i] from r1)
   have hq:Q' (bs.getD i false) s':=hq
   rw[show bs.getD i false=bs[i] by simp[List.getD,hi]] at hq
   exact wpAny_truthy_bool hq
  ·have e3:((List.range its.toArray.size).any fun i=>bs.getD i false)=bs.any id:=by
    rw[hX,<- hlen]
    apply sP.mpr
    simp only[Ki,nI,id]
    constructor
    ·rintro⟨i,hi,h⟩
     exact⟨bs[i],QB hi,by simpa[List.getD,hi] using h⟩
    ·rintro⟨b,hb,h⟩
     obtain⟨i,hi,rfl⟩:=List.mem_iff_getElem.mp hb
     exact⟨i,hi,by simpa[List.getD,hi] using h⟩
   rw[e3]
   refine⟨.bl (bs.any id),H,?_,rfl,q⟩
   exact I.kept (t':=tk) fun b o e=>hk b o (by simp;exact eM (dk e)) (fe _ e)
 ·exact h.elim
def mg'(xs:List α)(k:Nat)(y:α):List α:=xs.take k++y :: xs.drop k
end
end L2
namespace L2.Q
open PySem PySem.Spec PyProof.Rows
section
variable {X:Cx}{K:PySem.W.Frag}
theorem aR' (hc:X.calm=true:=by rfl) (hK:X.K=K:=by rfl):ki X (.builtin "any") (SJ K):=by subst hK;exact zL hc
theorem DG:bootBuiltins "any" = some (.builtin "any"):=by decide +kernel
def SK:W1:=fun _ x Q=>match x with
 |.list xs=>∃ bs:List Bool,xs=bs.map D.bl/\Q .sh (.bl (bs.any (fun b=>b)))
 |_=>False
theorem Dt:CM K (SJ K) SK:=by
 intro Hs H m x v As Qd Qv w rx h f
 have r1:=rx.rep w
 cases r1 with
 |list z s q =>
  obtain⟨bs,rfl,h⟩:=h
  cases Dw q
  exact⟨bs,s,f.sh w (.bl _) h⟩
 |_=>exact h.elim
theorem Ai:bootBuiltins "int" = some (.type "int"):=by decide +kernel
end
end L2.Q
namespace L2.Q.R
open PySem PySem.Spec PyProof.Rows L2.Q
section
variable {m:Md}{Q:Md->L2.Q.D->Prop}{xs:List L2.Q.D}{k:List L2.Q.D->Prop}
def VC(d:L2.Q.D)(k:List L2.Q.D->Prop):Prop:=match d with
 |.list xs=>k xs
 |_=>False
theorem Qo:VC (.list xs) k=k xs:=rfl
theorem Nt:DF (some d) m n z Q=Q (lT m d) d:=rfl
theorem Og:DF none m n z Q=Q n z:=rfl
theorem Qt:SK m (.list xs) Q = ∃ bs:List Bool,xs=bs.map L2.Q.D.bl/\Q .sh (.bl (bs.any (fun b=>b))):=rfl
end
end L2.Q.R
namespace L2.Q
open PySem PySem.Spec PyProof.Rows
def VD(te:WE)(tl th:WO):WE:=fun ρ Q=>te ρ fun _ x=>tl ρ fun lo=>th ρ fun hi=>R.VC x fun xs=>Q .bo (.list (kE xs lo hi))
section
variable {X:Cx}{K:PySem.W.Frag}{e:Expr}{lo hi:Option Expr}{te:WE}{tl th:WO}{pos p2:Pos}
theorem Dk(he:QE X K e te)(hl:QO X K lo tl)(hh:QO X K hi th)(hK:X.K=K:=by rfl):QE X K (.Subscript e (.Slice lo hi none p2) pos) (VD te tl th):=by
 refine PE.imp (YJ (Z1 hK) he hl hh) fun σ H Qv hx=>gS hx fun Hs ρ ag Q sr h f=>?_
 refine⟨Hs,ρ,ag,_,sr,h,fun v H1 ax m x As g1 r1 f1 q1=>⟨ax,ρ,ag,_,sr.grow g1,q1,fun l H2 aC g2 q2=>⟨aC,ρ,ag,_,(sr.grow g1).grow g2,q2,fun u H3 eW g3 q3=>?_⟩⟩⟩
 have r3:=(r1.grow g2).grow g3
 have fin:Fin K eW H3 Q Qv:=Fin.after f ((g1.trans g2).trans g3)
 have rr:=r3.rep g3.wf
 cases rr with
 |list z s q =>
  have hz:=q.length
  have rc:=jB (lo:=l) (hi:=u) q
  refine .inl ⟨_,s,fun p hp=>fin _ _ eW .bo (.list _) [] (NH g3.wf hp fun _ z=>nomatch z) ⟨rfl,.list (by rw[<- rc.length];exact kg (eE _ _ _) (by lia)) (.inl (.inl iN)) (rc.same ((aE.refl H3).upd hp))⟩ di.nil q3⟩
 |_=>exact q3.elim
end
end L2.Q
namespace L2.Q.R
open PySem PySem.Spec PyProof.Rows L2.Q
section
variable {ρ:Env}{te:WE}{tl th:WO}{Q:Md->L2.Q.D->Prop}
theorem P_:VD te tl th ρ Q=te ρ fun _ x=>tl ρ fun lo=>th ρ fun hi=>bp x (f:=fun x=>VC x fun xs=>Q .bo (.list (kE xs lo hi))) ⟨⟩:=rfl
end
end L2.Q.R
namespace L2.Q
open PySem PySem.Spec PyProof.Rows
namespace R
theorem Oc:rq m (.bl i) m' (.bl j) Q=Q .sh (.bl (!decide (i=j))):=rfl
end R
end L2.Q
local macro_rules | `(tactic| walk_at "q") => do
 let nm (s:String):Lean.Ident:=Lean.mkIdent ((s.splitOn ".").foldl Lean.Name.mkStr .anonymous)
 let ds ← ("Mm Pa Mh Od KN Ma O9 Ql KH J0 Oh Nk N5 Mq Nf Nm Pg NB N6 M9 Mt Qo Nt Og Qt PB Py Ox Pq Pb jl' Ol Oq PQ Ml Ni MJ Qq Qu Lp N8 NZ Iz Kc J3 Lh Pn Ob wB_ Qn Qi O4 hx' PL Qj Lw Lb wC_ hA' hC' Lr Nr O6 M6 hD' Mz Oz Qs Ov Nu Ky Kv Kq Kr LC KY Ln Lq Ls Ny Oa MK Mx MP Oj M_ Mu Ph Pz O7 Mr Oi Om Pu Ot PX K1 Mf Mj Ho P_ Hn Oc Qm Qw Pk Qp P0 Qc Px O5 O1 PJ Qa M7 N_ Nq N7 MN Oo J_ KR K4 hE' J2 Mp MF O8 Qf OJ Nx Kp Kf hF' J1 Ow Km KQ O_ OD Qk Lj Nv Mv Li J8 JX JZ J5 gN_ gT_ Oe Pj NT Nh NQ Kw Lf KD K9 Mw Nz Ou Np MT Ks Lz La PN Pr Ng Nb NP Qh O3 Qe Qg NK KJ K6 Mi Ms jb'".splitOn " ").toArray.mapM fun s=>`(Lean.Parser.Tactic.simpLemma| ↓$(nm ("L2.Q.R." ++ s)):ident)
 let us ← ("L2.Q.Sh L2.Q.ja' L2.Q.yr L2.Q.Fy L2.Q.xk L2.Q.E2 L2.Q.CL L2.Q.A7 L2.Q.mL L2.Q.NX L2.Q.NW L2.Q.U8 L2.Q.qi L2.Q.Hm L2.Q.asg L2.Q.lT L2.Q.aP L2.Q.D.flat L2.Q.cw L2.Q.D.ty L2.Q.R5 L2.Q.D.key1 L2.Q.gC L2.Q.Nj L2.Q.M8 List.length_map List.map_cons List.map_nil List.length_cons List.length_nil List.replicate_succ List.replicate_zero List.cons_append List.nil_append List.append_nil List.getElem?_cons_zero List.getElem?_cons_succ List.getElem?_nil List.set_cons_zero List.set_cons_succ List.all_cons List.all_nil Option.some.injEq Option.join_some Option.map_some Option.map_none Nat.reduceAdd Nat.reduceSub true_and and_true Bool.and_true Bool.true_and Bool.and_false Bool.false_and Bool.not_true Bool.not_false Bool.false_eq_true if_true if_false decide_true decide_false reduceIte cond_true cond_false PySem.sizeLine_eq L2.Q.hf' L2.Q.hg' L2.Q.hr' L2.Q.cF L2.Q.I_ L2.Q.empty_app Nat.zero_add exists_eq_left' Int.reduceLT Int.reduceLE Int.reducePow Int.reduceNeg Int.reduceToNat Int.reduceAdd Int.reduceMul Int.reduceSub Nat.reduceLeDiff Nat.reduceLT false_or or_false and_self L2.Qx".splitOn " ").toArray.mapM fun s=>`(Lean.Parser.Tactic.simpLemma| $(nm s):ident)
 let as:Lean.TSyntaxArray [`Lean.Parser.Tactic.simpStar,`Lean.Parser.Tactic.simpErase,`Lean.Parser.Tactic.simpLemma]:=(ds++us).map fun x=>⟨x.raw⟩
 `(tactic| simp -dsimp only [$as,*])
namespace L2.Q.VF
open PySem PySem.Spec PyProof.Rows
theorem small{n:Nat}(h:n<=10000):n<=sizeLine:=kg h (by decide)
theorem Jz{n:Nat}(h:n<=10000):n<sizeLine:=xcr h (by decide)
def isLet(c:Nat):Bool:=decide (97<=c/\c<=122)
abbrev abc:Str := "abcdefghijklmnopqrstuvwxyz"
theorem qT:sg abc=(List.range 26).map (97 + ·):=by decide +kernel
theorem Jl{i:Int}(h0:0<=i)(h1:i<26):∃ c,eK (sg abc) i=some c/\isLet c=true:=by
 refine⟨97+i.toNat,?_,?_⟩
 ·have:eK (sg abc) ((i.toNat:Nat):Int)=some (97+i.toNat):=vk (by
   rw[qT]
   have:i.toNat<26:=by lia
   simp[this])
  rwa[z5 h0] at this
 ·simp[isLet];lia
theorem Fi(x:Int):∃ c,eK (sg abc) (x % 26)=some c/\isLet c=true:=Jl (oj _ (by decide)) (oI _ (by decide))
def lets(x:Str):Prop:=∀ c∈sg x,isLet c=true
def Open(x:Str):Prop:=1<=x.length/\x.length<=6/\lets x
def xv (x:Str):Prop:=x = "*"\/Open x
theorem wF{x y:Str}(hx:lets x)(hy:lets y):lets (x++y):=fun c hc=>by
 rw[wU] at hc
 exact(eJ.mp hc).elim (hx c) (hy c)
theorem Di{c:Nat}(h:isLet c=true):lets ⟨#[c]⟩:=fun d hd=>by
 have:d=c:=by simpa[sg] using hd
 rw[this];exact h
theorem rD{x:Str}(h:lets x)(lo hi:Option Int):lets (kU x lo hi):=fun c hc=>by
 unfold kU sg at hc
 rw[List.toList_toArray] at hc
 exact h c (JJ (JY hc))
theorem iB(c:Nat):(⟨#[c]⟩:Str).length=1:=rfl
theorem xv.ok{x:Str}(h:xv x):PyData.strOk x=true:=by
 rw[GF]
 rcases h with rfl|h
 ·have:sg "*" = [42]:=by decide +kernel
  intro c hc
  rw[this] at hc
  have:c=42:=by simpa using hc
  lia
 ·intro c hc
  have:=h.2.2 c hc
  simp[isLet] at this
  lia
theorem fU:∀ (l:List Str),cw (l.map D.str)=true
 |[]=>rfl
 |x :: l=>by simp[cw,fU l,D.flat]
theorem cU:∀ (l:List Int),cw (l.map D.int)=true
 |[]=>rfl
 |x :: l=>by simp[cw,cU l,D.flat]
theorem Cj(l:List Str)(x:Str):l.map D.str++[D.str x]=(l++[x]).map D.str:=by simp
theorem ints_app(l:List Int)(x:Int):l.map D.int++[D.int x]=(l++[x]).map D.int:=by simp
theorem iZ{n i:Nat}{lo:Int}{x:D}(h:(i_ lo n)[i]? = some x):i<n/\x=.int (lo+(i:Nat)):=by
 unfold i_ at h
 rw[kf] at h
 by_cases hi:i<n
 ·rw[Qb hi] at h
  exact⟨hi,(Option.some.inj h).symm⟩
 ·rw[xC (by simpa using hi)] at h
  cases h
theorem iw(lo:Int)(n:Nat):(i_ lo n).length=n:=by simp[i_]
theorem vR{lo:Int}{n:Nat}{x:D}(h:x∈i_ lo n):∃ i:Nat,i<n/\x=.int (lo+i):=by
 obtain⟨i,hi⟩:=JA.mp h
 exact⟨i,iZ hi⟩
theorem gm{α:Type}(l:List α):l.filter (fun _=>true)=l:=S8.mpr fun _ _=>rfl
abbrev cS:=Int × Str × Int
def zi(s:cS):List Key:=[.inl s.1,.inr s.2.1,.inl s.2.2]
def fq(s:cS):D:=.tup [.int s.1,.str s.2.1,.int s.2.2]
def mD(many:Int)(steps:List cS):D:=.tup [.int many,.list (steps.map fq)]
theorem jr:∀ (l:List cS),cw (l.map fq)=true
 |[]=>rfl
 |x :: l=>by simp[cw,jr l,fq,D.flat]
def xA(many:Int)(s:cS):Prop:=0<=s.1/\s.1<many/\xv s.2.1/\0<=s.2.2/\s.2.2<many
theorem Ie{many:Int}{s:cS}(n:Nat)(h:xA many s):cy (n+1) (fq s)=true:=by
 have:=h.2.2.1.ok
 simp[cy,fq,this]
theorem G7{many:Int}{l:List cS}(n:Nat)(h:∀ s∈l,xA many s):cy (n+2) (.list (l.map fq))=true:=by
 simp only[cy,sN,vS]
 intro s hs
 exact Ie n (h s hs)
theorem aS'{many:Int}{l:List cS}(n:Nat)(h:∀ s∈l,xA many s):cy (n+3) (mD many l)=true:=by
 have h2:=G7 n h
 show(cy (n+2) (.int many) && (cy (n+2) (.list (l.map fq)) && true))=true
 rw[h2]
 rfl
theorem zH:∀ (l:List cS),mB (l.map fq)=true
 |[]=>rfl
 |x :: l=>by simp[mB,zH l,fq,D.nb]
theorem jm'(many:Int)(l:List cS):(mD many l).nb=true:=by simp[mD,D.nb,mB,zH]
theorem eq_self{x:D}(h:x.nb=true):jS x x=true:=(vH x x h h).mpr rfl
theorem Ds{s t:cS}(h:zi s=zi t):s=t:=by
 obtain⟨a,b,c⟩:=s
 obtain⟨a',b',c'⟩:=t
 simp[zi] at h
 obtain⟨rfl,rfl,rfl⟩:=h
 rfl
def ltP(s t:cS):Bool:=hV (zi s) (zi t)
theorem zm{P:cS->Prop}:∀ {ks:List (List Key)},(∀ k∈ks,∃ s,k=zi s/\P s)->∃ l:List cS,ks=l.map zi/\∀ s∈l,P s
 |[],_=>⟨[],rfl,fun s h=>nomatch h⟩
 |k :: ks,h=>by
  obtain⟨s,rfl,p⟩:=h k dQ
  obtain⟨l,rfl,q⟩:=zm fun k hk=>h k (dz _ hk)
  refine⟨s :: l,rfl,fun t ht=>?_⟩
  rcases dA.mp ht with rfl|ht
  ·exact p
  ·exact q t ht
abbrev Kn:=List (List Key × D)
theorem Hb{names:List Str}{i:Int}(h0:0<=i)(h1:i<names.length):∃ n,n∈names/\eK (names.map D.str) i=some (.str n):=by
 have hn:i.toNat<names.length:=by lia
 refine⟨names[i.toNat],QB hn,?_⟩
 have:=vk (xs:=names.map D.str) (j:=i.toNat) (v:=.str names[i.toNat]) (by simp[hn])
 rwa[z5 h0] at this
theorem name_mod{names:List Str}(x:Int)(h:1<=names.length):∃ n,n∈names/\eK (names.map D.str) (x % (names.length:Int))=some (.str n) :=
 Hb (oj _ (by lia)) (oI _ (by lia))
theorem rC{α:Type}(f:α->D)(l:List α)(lo hi:Option Int):kE (l.map f) lo hi=(kE l lo hi).map f:=by
 unfold kE
 rw[cE,List.map_take,List.map_drop]
def IH(steps out:List cS):Prop:=out.Nodup/\(∀ s,s∈out↔s∈steps)/\(out.Pairwise fun a b=>ltP b a=false)
theorem tZ{α β:Type}{f:α->β}{l:List α}(h:(l.map f).Nodup):l.Nodup:=by
 rw[List.Nodup,zD] at h
 exact h.imp fun E5 e=>E5 (by rw[e])
theorem IH.len{steps out:List cS}(M:IH steps out):out.length<=steps.length:=TS.dX M.1 fun s hs=>(M.2.1 s).mp hs
theorem Ft{l:List cS}(P:List D->Prop)(hz:l.length<=1000)(k:∀ out,IH l out->P (out.map fq)):∃ (ks:List (List Key)) (sh:List Bool),l.map fq=ks.map qk/\ks.length<=1000/\(∀ k∈ks,i3 k=true :: sh) /\
  ∀ ms:List (List Key),ms.Nodup->(∀ k,k∈ms↔k∈ks)->(ms.Pairwise fun a b=>hV b a=false)->P (ms.map qk):=by
 refine⟨l.map zi,[false,true],by rw[hJ];rfl,by simpa using hz,?_,fun ms nd mm pw=>?_⟩
 ·intro k hk
  obtain⟨s,_,rfl⟩:=dP.mp hk
  rfl
 ·obtain⟨out,rfl,ho⟩:=zm (P:=fun s=>s∈l) (ks:=ms) fun k hk=>by
   obtain⟨s,hs,rfl⟩:=dP.mp ((mm k).mp hk)
   exact⟨s,rfl,hs⟩
  have e:(out.map zi).map qk=out.map fq:=by rw[hJ];rfl
  rw[e]
  refine k out ⟨tZ nd,fun s=>⟨fun hm=>ho s hm,fun hm=>?_⟩,zD.mp pw⟩
  obtain⟨s',fP,e⟩:=dP.mp ((mm (zi s)).mpr (dP.mpr ⟨s,hm,rfl⟩))
  rw[<- Ds e];exact fP
theorem Ju{steps:List cS}{i:Nat}{x:D}(h:(steps.map fq)[i]? = some x):∃ p d r,x=.tup [.int p,.str d,.int r]/\(p,d,r)∈steps/\steps.take (i+1)=steps.take i++[(p,d,r)]:=by
 rw[kf] at h
 cases e:steps[i]? with
 |none=>rw[e] at h;cases h
 |some s =>
  rw[e] at h
  cases h
  obtain⟨p,d,r⟩:=s
  exact⟨p,d,r,rfl,ui e,by rw[BI,e];rfl⟩
theorem IH.ok{many:Int}{l out:List cS}(h:∀ s∈l,xA many s)(M:IH l out):∀ s∈out,xA many s:=fun s hs=>h s ((M.2.1 s).mp hs)
inductive Rw where
 |st (w d:Str) (j:Int)
 |nt (j:Int)
 |jn (w:Str) (ps:List Int)
def cv:Rw->D
 |.st w d j=>.tup [.str w,.str d,.int j]
 |.nt j=>.tup [.str "not",.int j]
 |.jn w ps=>.tup [.str w,.tup (ps.map .int)]
def zk(k:Int):Rw->Prop
 |.st w d j=>(w = "some"\/w = "all")/\xv d/\0<=j/\j<k
 |.nt j=>0<=j/\j<k
 |.jn w ps=>(w = "and"\/w = "or")/\ps.length<=200/\∀ p∈ps,0<=p/\p<k
def iE(l:List Rw):Prop:=∀ (i:Nat) (r:Rw),l[i]? = some r->zk i r
theorem yU:∀ r:Rw,(cv r).flat=true
 |.st _ _ _=>rfl
 |.nt _=>rfl
 |.jn _ ps=>by simp[cv,D.flat,cw,cU]
theorem wg:∀ l:List Rw,cw (l.map cv)=true
 |[]=>rfl
 |r :: l=>by simp[cw,yU r,wg l]
theorem iE.app{l:List Rw}{r:Rw}(h:iE l)(hr:zk l.length r):iE (l++[r]):=fun i x hx=>by
 by_cases hi:i<l.length
 ·rw[BH hi] at hx
  exact h i x hx
 ·rw[ub (by lia)] at hx
  by_cases h0:i=l.length
  ·subst h0
   rw[KL] at hx
   cases hx
   exact hr
  ·rw[xC (by simp;lia)] at hx
   cases hx
theorem iE.nil:iE []:=fun i r h=>by simp at h
def mxL(l:List Int):Int:=l.foldl (fun b x=>if x>b then x else b) 0
def dep(ds:List Int):Rw->Int
 |.st _ _ j=>ds.getD j.toNat 0+1
 |.nt j=>ds.getD j.toNat 0
 |.jn _ ps=>mxL (ps.map fun p=>ds.getD p.toNat 0)
def VG:List Int->List Rw->List Int
 |ds,[]=>ds
 |ds,r :: l=>VG (ds++[dep ds r]) l
def deps(l:List Rw):List Int:=VG [] l
def depth(l:List Rw):Int:=(deps l).getD (l.length-1) 0
theorem Dz:∀ (l:List Int) (b:Int),0<=b->0<=l.foldl (fun b x=>if x>b then x else b) b
 |[],b,h=>h
 |x :: l,b,h=>by
  simp only[QH]
  refine Dz l _ ?_
  split<;>lia
theorem JN(l:List Int):0<=mxL l:=Dz l 0 (by decide)
theorem zQ{ds:List Int}(h:∀ d∈ds,0<=d)(i:Nat):0<=ds.getD i 0:=by
 rw[vx]
 cases e:ds[i]? with
 |none=>exact rX _
 |some x=>exact h x (ui e)
theorem Jr{ds:List Int}(h:∀ d∈ds,0<=d):∀ r:Rw,0<=dep ds r
 |.st _ _ j=>by have:=zQ h j.toNat;simp only[dep];lia
 |.nt j=>zQ h _
 |.jn _ ps=>JN _
theorem zB:∀ (l:List Rw) (ds:List Int),(∀ d∈ds,0<=d)->∀ d∈VG ds l,0<=d
 |[],_,h=>h
 |r :: l,ds,h=>zB l _ fun d hd=>by
  rcases eJ.mp hd with hd|hd
  ·exact h d hd
  ·rw[uj.mp hd];exact Jr h r
theorem L_(l:List Rw):∀ d∈deps l,0<=d:=zB l [] fun d hd=>nomatch hd
theorem Pw:∀ {w:Str},(w = "and"\/w = "or")->w ≠ "some"/\w ≠ "all"/\w ≠ "not" := by
 rintro w (rfl|rfl)<;>decide +kernel
theorem VH:∀ {w:Str},(w = "some"\/w = "all")->w ≠ "not"/\w ≠ "and"/\w ≠ "or" := by
 rintro w (rfl|rfl)<;>decide +kernel
theorem SN:("not" : Str) ≠ "some"/\("not" : Str) ≠ "all" := by decide +kernel
theorem rw_ok{k:Int}:∀ {r:Rw} (n:Nat),zk k r->cy (n+2) (cv r)=true
 |.st w d j,n,h=>by
  have h1:=h.2.1.ok
  have h2:PyData.strOk w=true:=by rcases h.1 with rfl|rfl<;>decide +kernel
  simp[cv,cy,h1,h2]
 |.nt j,n,h=>by
  have h2:PyData.strOk "not" = true:=by decide +kernel
  simp[cv,cy,h2]
 |.jn w ps,n,h=>by
  have h2:PyData.strOk w=true:=by rcases h.1 with rfl|rfl<;>decide +kernel
  simp[cv,cy,h2]
theorem z8:∀ l:List Int,mB (l.map D.int)=true
 |[]=>rfl
 |x :: l=>by simp[mB,z8 l,D.nb]
theorem xU:∀ l:List Rw,mB (l.map cv)=true
 |[]=>rfl
 |.st _ _ _ :: l=>by simp[mB,xU l,cv,D.nb]
 |.nt _ :: l=>by simp[mB,xU l,cv,D.nb]
 |.jn _ ps :: l=>by simp[mB,xU l,cv,D.nb,z8]
theorem jf{α:Type}[DecidableEq α]:∀ {l m:List α},l.Nodup->(∀ x∈l,x∈m)->l.length<=m.length
 |[],_,_,_=>eu _
 |x :: l,m,nd,h=>by
  obtain⟨hx,nd⟩:=nE.mp nd
  have hm:=h x dQ
  have:=jf (l:=l) (m:=m.erase x) nd fun y hy=>(List.mem_erase_of_ne (fun e=>by subst e;exact hx hy)).mpr (h y (dz _ hy))
  rw[List.length_erase_of_mem hm] at this
  have:=P6 hm
  simp only[pT]
  lia
def cI(n:Nat):List Int:=(List.range n).map fun i=>((i:Nat):Int)
theorem yt(n:Nat):(cI n).length=n:=by simp[cI]
theorem yd{n:Nat}{x:Int}:x∈cI n↔0<=x/\x<n:=by
 unfold cI
 rw[dP]
 constructor
 ·rintro⟨i,hi,rfl⟩
  have:=nI.mp hi
  lia
 ·intro ⟨h0,h1⟩
  exact⟨x.toNat,nI.mpr (by lia),by lia⟩
def nr(many:Int)(steps:List cS):Prop:=∀ s∈steps,xA many s
def cV(l:List cS)(s:Int)(d:Str):List Int:=(l.filter fun t=>decide (t.1=s) && decide (t.2.1=d)).map (·.2.2)
theorem qZ{l:List cS}{s:Int}{d:Str}{x:Int}:x∈cV l s d↔(s,d,x)∈l:=by
 unfold cV
 rw[dP]
 constructor
 ·rintro⟨⟨p,q,r⟩,ht,rfl⟩
  obtain⟨h1,e⟩:=xI.mp ht
  simp only[ly,decide_eq_true_eq] at e
  rw[<- e.1,<- e.2]
  exact h1
 ·exact fun h=>⟨_,xI.mpr ⟨h,by simp⟩,rfl⟩
theorem BL(l:List cS)(s:Int)(d:Str):(cV l s d).length<=l.length:=by
 unfold cV
 rw[cE]
 exact S5 _ _
def xB(l:List cS)(kvs:Kn):Prop:=∀ s d,eS kvs [.inl s,.inr d]=if cV l s d=[] then none else some (.list ((cV l s d).map .int))
theorem xG(k k':List Key)(x:D):∀ (kvs:Kn),eS (kX kvs k x) k'=if k'=k then some (match eS kvs k with
  |none=>.list [x]
  |some d=>Pp d x) else eS kvs k'
 |[]=>by
  rw[kX,bQ]
  by_cases h:k'=k
  ·rw[if_pos h.symm,if_pos h];rfl
  ·rw[if_neg fun e=>h e.symm,if_neg h]
 |p :: r=>by
  rw[kX]
  by_cases e:p.1=k
  ·rw[if_pos e,bQ]
   by_cases h:k'=k
   ·rw[if_pos h,h,bQ p r k,if_pos e,if_pos e]
   ·rw[if_neg h,bQ p r k',if_neg fun z=>h (z.symm.trans e),if_neg fun z=>h (z.symm.trans e)]
  ·rw[if_neg e,bQ,xG k k' x r]
   by_cases h:k'=k
   ·rw[if_pos h,h,bQ p r k,if_neg e,if_neg e,if_pos rfl]
   ·rw[if_neg h,bQ p r k',if_neg h]
theorem Bb(k:List Key)(x:D):∀ (kvs:Kn),(kX kvs k x).length<=kvs.length+1
 |[]=>by simp[kX]
 |p :: r=>by
  have:=Bb k x r
  rw[kX]
  split<;>simp only[pT]<;>lia
theorem xB.nil:xB [] []:=fun s d=>rfl
theorem xB.put{l:List cS}{kvs:Kn}(h:xB l kvs)(p:Int)(n:Str)(r:Int):xB (l++[(p,n,r)]) (kX kvs [.inl p,.inr n] (.int r)):=by
 intro s d
 rw[xG]
 have ee:cV (l++[(p,n,r)]) s d=cV l s d++if p=s/\n=d then [r] else []:=by
  unfold cV
  rw[Tc,oD]
  congr 1
  by_cases e:p=s/\n=d
  ·simp[e.1,e.2]
  ·rw[if_neg e,List.filter_cons_of_neg (by simpa using e)];rfl
 by_cases e:p=s/\n=d
 ·rw[if_pos e] at ee
  obtain⟨rfl,rfl⟩:=e
  rw[ee,if_pos rfl,h p n,if_neg (show ¬ cV l p n++[r]=[] by simp)]
  by_cases z:cV l p n=[]
  ·rw[if_pos z,z];rfl
  ·rw[if_neg z];simp[Pp]
 ·rw[if_neg e,mh] at ee
  rw[ee,if_neg fun z=>e ?_,h s d]
  simp only[List.cons.injEq,Sum.inl.injEq,Sum.inr.injEq,and_true] at z
  exact⟨z.1.symm,z.2.symm⟩
theorem int_at{l:List Int}{i:Nat}{x:D}(h:(l.map D.int)[i]? = some x):∃ c,x=.int c/\c∈l/\l.take (i+1)=l.take i++[c]:=by
 rw[kf] at h
 cases e:l[i]? with
 |none=>rw[e] at h;cases h
 |some s =>
  rw[e] at h
  cases h
  exact⟨s,rfl,ui e,by rw[BI,e];rfl⟩
abbrev Tr:=Int->Bool
def iO(l:List cS)(ts:List Tr):Rw->Tr
 |.st w d j=>fun s=>if w = "some" then (cV l s d).any (ts.getD j.toNat fun _=>false) else (cV l s d).all (ts.getD j.toNat fun _=>false)
 |.nt j=>fun s=>!(ts.getD j.toNat (fun _=>false) s)
 |.jn w ps=>fun s=>if w = "and" then ps.all (fun p=>ts.getD p.toNat (fun _=>false) s) else ps.any (fun p=>ts.getD p.toNat (fun _=>false) s)
def zo(l:List cS):List Tr->List Rw->List Tr
 |ts,[]=>ts
 |ts,r :: rs=>zo l (ts++[iO l ts r]) rs
def df(l:List cS)(rs:List Rw):List Tr:=zo l [] rs
theorem rN(l:List cS):∀ (a b:List Rw) (ts:List Tr),zo l ts (a++b)=zo l (zo l ts a) b
 |[],_,_=>rfl
 |r :: a,b,ts=>rN l a b (ts++[iO l ts r])
theorem mC(l:List cS)(a:List Rw)(r:Rw):df l (a++[r])=df l a++[iO l (df l a) r]:=by
 unfold df
 rw[rN];rfl
theorem v_(l:List cS):∀ (rs:List Rw) (ts:List Tr),(zo l ts rs).length=ts.length+rs.length
 |[],ts=>rfl
 |r :: rs,ts=>by
  rw[zo,v_ l rs,md,pT,pT,QF]
  lia
theorem eQ(l:List cS)(rs:List Rw):(df l rs).length=rs.length:=by
 unfold df
 rw[v_];simp
def nv(many:Int)(t:Tr):D:=.list ((cI many.toNat).map fun i=>.bl (t i))
theorem zP{many s:Int}(h0:0<=s)(h1:s<many)(t:Tr):eK ((cI many.toNat).map fun i=>D.bl (t i)) s=some (.bl (t s)):=by
 have hs:s.toNat<many.toNat:=by lia
 have:=vk (xs:=(cI many.toNat).map fun i=>D.bl (t i)) (j:=s.toNat) (v:=.bl (t s)) (by
  rw[kf,cI,kf,Qb hs]
  show some (D.bl (t ((s.toNat:Nat):Int)))=_
  rw[z5 h0])
 rwa[z5 h0] at this
theorem xO{many j:Int}{ts:List Tr}(h0:0<=j)(h1:j<ts.length):eK (ts.map (nv many)) j=some (nv many (ts.getD j.toNat fun _=>false)):=by
 have hj:j.toNat<ts.length:=by lia
 have:=vk (xs:=ts.map (nv many)) (j:=j.toNat) (v:=nv many (ts.getD j.toNat fun _=>false)) (by
  rw[kf,vx,vE hj];rfl)
 rwa[z5 h0] at this
theorem uV{l:List cS}{kvs:Kn}(h:xB l kvs){s:Int}{d:Str}{n:Md}{Q:Md->D->Prop}(q:∀ m,Q m (.list ((cV l s d).map .int))):DF (eS kvs [.inl s,.inr d]) .sh n (.list []) Q:=by
 rw[h s d]
 by_cases z:cV l s d=[]
 ·have:=q n
  rw[z] at this
  rw[if_pos z];exact this
 ·rw[if_neg z];exact q _
def kH(many:Int)(t:Tr):List Int:=(cI many.toNat).filter t
theorem yI(n:Nat)(g:Int->D):lW ((cI n).map g)=(cI n).map fun i=>.tup [.int i,g i]:=by
 apply DT
 intro i
 unfold lW cI
 rw[S6,kf,kf,kf,kf]
 by_cases hi:i<n
 ·rw[Qb hi];rfl
 ·rw[xC (by simpa using hi)];rfl
theorem jL(n:Nat):i_ 0 n=(cI n).map D.int:=by
 unfold i_ cI
 rw[hJ]
 exact FC fun i _=>by simp
theorem ue(x:Int){m:Int}(h:0<m):0<=x % m/\x % m<m:=⟨oj _ (by lia),oI _ h⟩
theorem Av{a b:Int}(h0:-1000<=b)(h1:b<=10000000000):EB a b:=.inr ⟨by lia,by lia⟩
def gL(many:Int)(t:Tr):D:=.list ((kH many t).map .int)
theorem Ir{many:Int}{t:Tr}{s:Int}(h0:0<=s)(h1:s<many):s∈kH many t↔t s=true:=by
 unfold kH
 rw[xI,yd]
 exact⟨fun z=>z.2,fun z=>⟨by lia,z⟩⟩
theorem d_(l:List Int):(l.map D.int).all gD=true:=by simp[sN,gD]
theorem Ep(x:Int)(l:List Int):inD (.int x) (l.map .int)=decide (x∈l):=by
 unfold inD
 rw[List.any_map,sP,Ki,decide_eq_true_iff]
 constructor
 ·rintro⟨y,hy,e⟩
  have e:jS (.int y) (.int x)=true:=e
  rw[vH _ _ rfl rfl] at e
  cases e
  exact hy
 ·exact fun hx=>⟨x,hx,eq_self (x:=.int x) rfl⟩
theorem vy{many:Int}{t:Tr}{s:Int}(h0:0<=s)(h1:s<many):inD (.int s) ((kH many t).map .int)=t s:=by
 rw[Ep,sP,decide_eq_true_iff]
 exact Ir h0 h1
theorem xf{many j:Int}{ts:List Tr}(h0:0<=j)(h1:j<ts.length):eK (ts.map (gL many)) j=some (.list ((kH many (ts.getD j.toNat fun _=>false)).map .int)):=by
 have hj:j.toNat<ts.length:=by lia
 have:=vk (xs:=ts.map (gL many)) (j:=j.toNat) (v:=gL many (ts.getD j.toNat fun _=>false)) (by
  rw[kf,vx,vE hj];rfl)
 rwa[z5 h0] at this
def DH(f:Int->Bool):D->Bool
 |.int o=>f o
 |_=>false
theorem gk(f:Int->Bool)(l:List Int):((l.map D.int).filter (DH f)).map id=(l.filter f).map .int:=by
 rw[List.map_id,List.filter_map]
 rfl
theorem zA(f:Int->Bool)(l:List Int):decide ((0:Int)<((l.filter f).length:Nat))=l.any f:=by
 rw[sP,decide_eq_true_iff,Ki]
 constructor
 ·intro h
  obtain⟨x,hx⟩:=List.exists_mem_of_length_pos (l:=l.filter f) (by lia)
  exact⟨x,(xI.mp hx).1,(xI.mp hx).2⟩
 ·rintro⟨x,hx,e⟩
  have:=P6 (xI.mpr ⟨hx,e⟩)
  lia
theorem zq(f:Int->Bool)(l:List Int):decide (((l.filter fun x=>!f x).length:Nat)=(0:Int))=l.all f:=by
 rw[sP,decide_eq_true_iff,vS]
 constructor
 ·intro h x hx
  have h:(l.filter fun x=>!f x).length=0:=by lia
  cases e:f x with
  |true=>rfl
  |false =>
   have:=P6 (xI (p:=fun x=>!f x).mpr ⟨hx,show(!f x)=true by rw[e];rfl⟩)
   lia
 ·intro h
  have:l.filter (fun x=>!f x)=[]:=List.filter_eq_nil_iff.mpr fun x hx=>by rw[h x hx];decide
  rw[this];rfl
theorem gq{b:Bool}{P R:Prop}(h1:b=true->P)(h2:b=false->R):if b=true then P else R:=by cases b<;>simp_all
theorem aU'{α β:Type}{f:β->α}{P:β->Prop}:∀ {ks:List α},(∀ k∈ks,∃ s,k=f s/\P s)->∃ l:List β,ks=l.map f/\∀ s∈l,P s
 |[],_=>⟨[],rfl,fun s h=>nomatch h⟩
 |k :: ks,h=>by
  obtain⟨s,rfl,p⟩:=h k dQ
  obtain⟨l,rfl,q⟩:=aU' fun k hk=>h k (dz _ hk)
  refine⟨s :: l,rfl,fun t ht=>?_⟩
  rcases dA.mp ht with rfl|ht
  ·exact p
  ·exact q t ht
def mQ:WS :=
 (bI (gv (rp (pf (wB (de (rL "str") (ae 0)))) (pf (wB (jo A5 A5 (wC (.int 1)) (de ky (ae 0)) (wC (.int 6))))))
 (eI (wC (.bl false)))
 bM)
 (eI (de Dp (dq (Cw (ae 0)) (gN 0) oy (av (sC false) (ae 0) (wC (.str "abcdefghijklmnopqrstuvwxyz"))) 1 []))))
theorem Hd{c:Nat}:yT ⟨#[c]⟩ abc=isLet c:=by
 rw[Gu]
 have:abc.cps.toList=(List.range 26).map (97 + ·):=qT
 rw[this]
 apply sP.mpr
 simp only[decide_eq_true_eq,isLet,dP,nI]
 constructor
 ·rintro⟨i,hi,rfl⟩;lia
 ·intro h;exact⟨c-97,by lia,by lia⟩
def dR:fF:=fun ds Q=>∃ x:Str,ds=[.str x]/\Q .sh (.bl (decide (1<=x.length/\x.length<=6) && (sg x).all isLet))
theorem vq (ds Q) (h:dR ds Q):ds.length=["thing"].length:=by obtain⟨_,rfl,_⟩:=h;rfl
theorem zb:∀ ds Q,dR ds Q->mQ { nx:=fun _=>Q .sh .non,rt:=Q } (aP 1 ds):=by
 rintro ds Q ⟨x,rfl,h⟩
 unfold mQ
 walk_at "q"
 refine R.F rfl ?_
 walk_at "q"
 refine R.D (fun h1=>?_) fun h1=>?_
 ·walk_at "q"
  refine R.B (fun h2=>?_) fun h2=>?_
  rotate_left
  ·have h2:x.length<=6:=by simp at h2;lia
   walk_at "q"
   refine aQ (fun _=>true) (fun d=>match d with
    |.str z=>.bl (yT z abc)
    |d=>d) (fun ρ=>∃ o,ρ=[o]) _ _ _ ⟨_,rfl⟩ ?_ ?_
   ·rintro y hy ρ ⟨o,rfl⟩ N1 N2 _ h2
    obtain⟨c,hc,rfl⟩:=dP.mp hy
    walk_at "q"
    exact⟨.inl rfl,h2 _ ⟨_,rfl⟩ rfl⟩
   ·rw[gm]
    refine⟨(sg x).map isLet,?_,?_⟩
    ·unfold U9
     rw[hJ,hJ]
     refine FC fun c _=>?_
     show D.bl (yT ⟨#[c]⟩ abc)=_
     rw[Hd];rfl
    ·rw[decide_eq_true (by lia),Bool.true_and] at h
     rw[sN]
     exact h
  ·have h2:¬ x.length<=6:=by simp at h2;lia
   walk_at "q"
   rw[decide_eq_false (by lia),Bool.false_and] at h
   exact h
 ·walk_at "q"
  rw[decide_eq_false (by lia),Bool.false_and] at h
  exact h
def jW:WS :=
 (eI (jO (de (rL "int") (ae 0)) (yf (de (rL "bool") (ae 0)))))
def dg:fF:=fun ds Q=>∃ d:D,ds=[d]/\Q .sh (.bl (decide (d.ty = "int")))
theorem t_ (ds Q) (h:dg ds Q):ds.length=["thing"].length:=by obtain⟨_,rfl,_⟩:=h;rfl
theorem x_:∀ ds Q,dg ds Q->jW { nx:=fun _=>Q .sh .non,rt:=Q } (aP 1 ds):=by
 rintro ds Q ⟨d,rfl,h⟩
 unfold jW
 walk_at "q"
 cases d<;>first
  | (refine R.F rfl ?_;walk_at "q";exact h)
  | (refine R.T rfl ?_;walk_at "q";first|exact h|(refine R.T rfl ?_;walk_at "q";exact h)|(refine R.F rfl ?_;walk_at "q";exact h))
def fZ:WS :=
 (gv (pf (wB (jo A5 EZ (wC (.int 0)) (ae 1) (av ck (ae 0) (wC (.int 0))))))
 (zr "NoState" (wC (.str "the machine has no such state")))
 bM)
def a_:fF:=fun ds Q=>∃ (many:Int) (l:List cS) (s:Int),ds=[mD many l,.int s]/\((0<=s/\s<many)->Q .sh .non)/\(¬ (0<=s/\s<many)->Q (.ow false) (.str "NoState"))
theorem nW (ds Q) (h:a_ ds Q):ds.length=["m", "state"].length:=by obtain⟨_,_,_,rfl,_⟩:=h;rfl
theorem qN:∀ ds Q,a_ ds Q->fZ { nx:=fun _=>Q .sh .non,rt:=Q } (aP 2 ds):=by
 rintro ds Q ⟨many,l,s,rfl,h1,h2⟩
 unfold fZ mD
 walk_at "q"
 refine R.D (fun a=>?_) fun a=>?_
 ·walk_at "q"
  by_cases b:s<many
  ·refine R.F (by simp[b]) ?_
   walk_at "q"
   exact h1 ⟨a,b⟩
  ·refine R.T (by simp[b]) ?_
   walk_at "q"
   exact h2 fun z=>b z.2
 ·walk_at "q"
  exact h2 fun z=>a z.1
def nF:WS :=
 (bI (dE 1 xm)
 (bI (kF 0 (xl (oF (av ck (ae 0) (wC (.int 1)))) (gT 3 (eG (gN 2) (eG (gN 3) (eG (gN 4) um))))
 (kF 4 (kF 3 (kF 2 (Pt 1 (ng (ak (ae 2) (ak (ae 3) bX))) (ae 4)))))))
 (qI 1)))
def dh:fF:=fun ds Q=>∃ (many:Int) (l:List cS),ds=[mD many l]/\l.length<=1000/\∀ kvs,xB l kvs->Q (.ow true) (.dT kvs)
theorem nH (ds Q) (h:dh ds Q):ds.length=["m"].length:=by obtain⟨_,_,rfl,_⟩:=h;rfl
theorem tK:∀ ds Q,dh ds Q->nF { nx:=fun _=>Q .sh .non,rt:=Q } (aP 5 ds):=by
 rintro ds Q ⟨many,l,rfl,hz,h⟩
 unfold nF mD
 walk_at "q"
 refine ie _ (fun i ρ=>∃ (kvs:Kn) (o2 o3 o4:Option Sl),xB (l.take i) kvs/\kvs.length<=i/\ρ=[some (.sh (.tup [.int many,.list (l.map fq)])),some (.ow true (.dT kvs)),o2,o3,o4]) ⟨[],_,_,_,xB.nil,by simp,rfl⟩ ?_ ?_
 ·rintro i x ρ hx ⟨kvs,o2,o3,o4,hw,hk,rfl⟩ N hN
  have hi:=(lh.mp hx).1
  rw[cE] at hi
  obtain⟨p,d,r,rfl,hs,et⟩:=Ju hx
  walk_at "q"
  refine⟨by lia,?_,hN _ ⟨_,_,_,_,by rw[et];exact hw.put p d r,by have:=Bb [.inl p,.inr d] (.int r) kvs;lia,rfl⟩⟩
  rw[hw p d]
  have:=BL (l.take i) p d
  rw[mG] at this
  split
  ·trivial
  ·show List.length _<_
   rw[cE]
   exact Jz (by lia)
 ·rintro ρ ⟨kvs,o2,o3,o4,hw,hk,rfl⟩
  rw[cE,FD] at hw
  walk_at "q"
  exact h kvs hw
def jd:WS :=
 (bI (gv (wB (av fR (av ck (ae 2) (wC (.int 0))) (wC (.str "not"))))
 (eI (yf (av ck (av ck (ae 1) (av ck (ae 2) (wC (.int 1)))) (ae 3))))
 bM)
 (bI (gv (wB (av fR (av ck (ae 2) (wC (.int 0))) (wC (.str "and"))))
 (eI (de Dp (dq (tH (av ck (ae 2) (wC (.int 1)))) (gN 0) oy (av ck (av ck (ae 2) (ae 0)) (ae 1)) 1 [3,1])))
 bM)
 (bI (gv (wB (av fR (av ck (ae 2) (wC (.int 0))) (wC (.str "or"))))
 (eI (de SK (dq (tH (av ck (ae 2) (wC (.int 1)))) (gN 0) oy (av ck (av ck (ae 2) (ae 0)) (ae 1)) 1 [3,1])))
 bM)
 (bI (kF 3 (dE 4 (dq (gU (IC (ae 0) (ng (ak (ae 3) (ak (av ck (ae 2) (wC (.int 1))) bX))) (mE bX))) (gN 0) oy (av ck (av ck (ae 2) (av ck (ae 1) (wC (.int 2)))) (ae 0)) 1 [2,1])))
 (eI (U4 (wB (av fR (av ck (ae 2) (wC (.int 0))) (wC (.str "some")))) (de SK (ae 4)) (de Dp (ae 4))))))))
def cH:fF:=fun ds Q=>∃ (kvs:Kn) (l:List cS) (many:Int) (ts:List Tr) (r:Rw) (s:Int),ds=[.dT kvs,.list (ts.map (nv many)),cv r,.int s]/\xB l kvs/\nr many l/\zk ts.length r/\0<=s/\s<many/\Q .sh (.bl (iO l ts r s))
theorem qt (ds Q) (h:cH ds Q):ds.length=["ways", "truths", "row", "state"].length:=by obtain⟨_,_,_,_,_,_,rfl,_⟩:=h;rfl
theorem uJ:∀ ds Q,cH ds Q->jd { nx:=fun _=>Q .sh .non,rt:=Q } (aP 5 ds):=by
 rintro ds Q ⟨kvs,l,many,ts,r,s,rfl,hw,cK,hr,s0,s1,h⟩
 unfold jd
 cases r with
 |nt j =>
  rw[show cv (.nt j)=.tup [.str "not",.int j] from rfl]
  walk_at "q"
  refine⟨_,xO hr.1 hr.2,?_⟩
  unfold nv
  walk_at "q"
  refine⟨_,zP s0 s1 _,?_⟩
  walk_at "q"
  exact h
 |jn w ps =>
  rw[show cv (.jn w ps)=.tup [.str w,.tup (ps.map .int)] from rfl]
  walk_at "q"
  refine R.F (decide_eq_false (Pw hr.1).2.2) ?_
  walk_at "q"
  have el:=hr.2.2
  refine R.D (fun e=>?_) fun e=>?_
  ·rw[show iO l ts (.jn w ps) s=ps.all fun p=>ts.getD p.toNat (fun _=>false) s from if_pos e] at h
   walk_at "q"
   refine aQ (fun _=>true) (fun d=>match d with
    |.int p=>.bl (ts.getD p.toNat (fun _=>false) s)
    |d=>d) (fun ρ=>∃ o,ρ=[o,some (.sh (.int s)),some (.sh (.list (ts.map (nv many))))]) _ _ _ ⟨_,rfl⟩ ?_ ?_
   ·rintro y hy ρ ⟨o,rfl⟩ N1 N2 _ h2
    obtain⟨p,hp,rfl⟩:=dP.mp hy
    walk_at "q"
    refine⟨_,xO (el p hp).1 (el p hp).2,?_⟩
    unfold nv
    walk_at "q"
    exact⟨_,zP s0 s1 _,.inl rfl,h2 _ ⟨_,rfl⟩ rfl⟩
   ·rw[gm]
    refine⟨ps.map fun p=>ts.getD p.toNat (fun _=>false) s,by rw[hJ,hJ];rfl,?_⟩
    rw[sN]
    exact h
  ·rw[show iO l ts (.jn w ps) s=ps.any fun p=>ts.getD p.toNat (fun _=>false) s from if_neg e] at h
   walk_at "q"
   refine R.T (decide_eq_true (hr.1.resolve_left e)) ?_
   walk_at "q"
   refine aQ (fun _=>true) (fun d=>match d with
    |.int p=>.bl (ts.getD p.toNat (fun _=>false) s)
    |d=>d) (fun ρ=>∃ o,ρ=[o,some (.sh (.int s)),some (.sh (.list (ts.map (nv many))))]) _ _ _ ⟨_,rfl⟩ ?_ ?_
   ·rintro y hy ρ ⟨o,rfl⟩ N1 N2 _ h2
    obtain⟨p,hp,rfl⟩:=dP.mp hy
    walk_at "q"
    refine⟨_,xO (el p hp).1 (el p hp).2,?_⟩
    unfold nv
    walk_at "q"
    exact⟨_,zP s0 s1 _,.inl rfl,h2 _ ⟨_,rfl⟩ rfl⟩
   ·rw[gm]
    refine⟨ps.map fun p=>ts.getD p.toNat (fun _=>false) s,by rw[hJ,hJ];rfl,?_⟩
    rw[List.any_map]
    exact h
 |st w d j =>
  rw[show cv (.st w d j)=.tup [.str w,.str d,.int j] from rfl]
  walk_at "q"
  refine R.F (decide_eq_false (VH hr.1).1) ?_
  walk_at "q"
  refine R.F (decide_eq_false (VH hr.1).2.1) ?_
  walk_at "q"
  refine R.F (decide_eq_false (VH hr.1).2.2) ?_
  walk_at "q"
  refine uV hw fun m=>?_
  walk_at "q"
  refine aQ (fun _=>true) (fun y=>match y with
   |.int p=>.bl (ts.getD j.toNat (fun _=>false) p)
   |y=>y) (fun ρ=>∃ o,ρ=[o,some (.sh (.tup [.str w,.str d,.int j])),some (.sh (.list (ts.map (nv many))))]) _ _ _ ⟨_,rfl⟩ ?_ ?_
  ·rintro y hy ρ ⟨o,rfl⟩ N1 N2 _ h2
   obtain⟨p,hp,rfl⟩:=dP.mp hy
   have gd:=(cK _ (qZ.mp hp)).2.2.2
   walk_at "q"
   refine⟨_,xO hr.2.2.1 hr.2.2.2,?_⟩
   unfold nv
   walk_at "q"
   exact⟨_,zP gd.1 gd.2 _,.inl rfl,h2 _ ⟨_,rfl⟩ rfl⟩
  ·rw[gm]
   have eb:((cV l s d).map D.int).map (fun y=>match y with
    |.int p=>D.bl (ts.getD j.toNat (fun _=>false) p)
    |y=>y)=((cV l s d).map fun p=>ts.getD j.toNat (fun _=>false) p).map D.bl:=by rw[hJ,hJ];rfl
   rw[eb]
   refine R.D (fun e=>?_) fun e=>?_
   ·rw[show iO l ts (.st w d j) s=(cV l s d).any (ts.getD j.toNat fun _=>false) from if_pos e] at h
    walk_at "q"
    refine⟨_,rfl,?_⟩
    rw[List.any_map]
    exact h
   ·rw[show iO l ts (.st w d j) s=(cV l s d).all (ts.getD j.toNat fun _=>false) from if_neg e] at h
    walk_at "q"
    refine⟨_,rfl,?_⟩
    rw[sN]
    exact h
def eX:WS :=
 (eI (dq (tV (ae 0)) (gT 2 (eG (gN 0) (eG (gN 1) um))) (R6 (ae 1)) (ae 0) 2 []))
def bw:fF:=fun ds Q=>∃ (many:Int) (t:Tr),ds=[nv many t]/\Q (.ow true) (.list ((kH many t).map .int))
theorem lU (ds Q) (h:bw ds Q):ds.length=["truth"].length:=by obtain⟨_,_,rfl,_⟩:=h;rfl
theorem pB:∀ ds Q,bw ds Q->eX { nx:=fun _=>Q .sh .non,rt:=Q } (aP 1 ds):=by
 rintro ds Q ⟨many,t,rfl,h⟩
 unfold eX nv
 walk_at "q"
 rw[yI]
 refine aQ (fun x=>match x with
  |.tup [.int _,.bl b]=>b
  |_=>false) (fun x=>match x with
  |.tup [.int i,.bl _]=>.int i
  |x=>x) (fun ρ=>∃ o1 o2,ρ=[o1,o2]) _ _ _ ⟨_,_,rfl⟩ ?_ ?_
 ·rintro x hx ρ ⟨o1,o2,rfl⟩ N1 N2 n1 n2
  obtain⟨i,hi,rfl⟩:=dP.mp hx
  walk_at "q"
  by_cases ht:t i=true
  ·rw[if_pos ht]
   exact⟨.inl rfl,n2 _ ⟨_,_,rfl⟩ ht⟩
  ·rw[if_neg ht]
   exact n1 _ ⟨_,_,rfl⟩ (Bool.eq_false_iff.mpr ht)
 ·have eb:(((cI many.toNat).map fun i=>D.tup [.int i,.bl (t i)]).filter (fun x=>match x with
   |.tup [.int _,.bl b]=>b
   |_=>false)).map (fun x=>match x with
   |.tup [.int i,.bl _]=>.int i
   |x=>x)=(kH many t).map D.int:=by
   unfold kH
   rw[List.filter_map,hJ]
   rfl
  rw[eb]
  exact h
def eY:WS :=
 (bI (gv (wB (av EZ (ae 1) (de ky (ae 0))))
 (eI (av ck (ae 0) (ae 1)))
 bM)
 (eI (wC (.int 0))))
def aA:fF:=fun ds Q=>∃ (ns:List Int) (k:Int),ds=[.list (ns.map .int),.int k]/\0<=k/\Q .sh (.int (ns.getD k.toNat 0))
theorem lL (ds Q) (h:aA ds Q):ds.length=["_law_script", "_law_k"].length:=by obtain⟨_,_,rfl,_⟩:=h;rfl
theorem oM:∀ ds Q,aA ds Q->eY { nx:=fun _=>Q .sh .non,rt:=Q } (aP 2 ds):=by
 rintro ds Q ⟨ns,k,rfl,hk,h⟩
 unfold eY
 walk_at "q"
 refine R.D (fun hl=>?_) fun hl=>?_
 ·walk_at "q"
  have hn:k.toNat<ns.length:=by lia
  refine⟨.int ns[k.toNat],?_,?_⟩
  ·have:=vk (xs:=ns.map D.int) (j:=k.toNat) (v:=.int ns[k.toNat]) (by simp[hn])
   rwa[z5 hk] at this
  ·show Q .sh _;simpa[List.getD,hn] using h
 ·walk_at "q"
  have:ns.getD k.toNat 0=0:=by
   have:ns.length<=k.toNat:=by lia
   simp[List.getD,xC this]
  rwa[this] at h
def gJ:WS :=
 (bI (dE 2 (wC (.str "abcdefghijklmnopqrstuvwxyz")))
 (bI (dE 3 (av i5 (wC (.int 1)) (av gV (ae 0) (wC (.int 6)))))
 (bI (dE 0 (av oa (ae 0) (wC (.int 6))))
 (bI (dE 4 (mE bX))
 (bI (xl (fV (ae 3)) (gN 5)
 (bI (xo (vw 4) (av gV (ae 0) (wC (.int 26))))
 (dE 0 (av oa (ae 0) (wC (.int 26))))))
 (bI (dE 6 (wN (wC (.str "")) (dq (gU (ae 4)) (gN 0) oy (av ck (ae 1) (ae 0)) 1 [2])))
 (bI (gv (wB (av fR (av gV (av oa (ae 1) (wC (.int 6))) (wC (.int 3))) (wC (.int 1))))
 (eI (dq (wR (wC (.int 1)) (wC (.int 7))) (gN 0) oy (A6 (av Dg (wC (.int 6)) (ae 1)) gM (jJ (ae 0))) 1 [6]))
 bM)
 (bI (dE 7 (av gV (ae 1) (ae 3)))
 (bI (dE 8 (mE bX))
 (bI (xl (fV (wC (.int 6))) (gN 5)
 (bI (dE 9 (av ck (ae 2) (av gV (av i5 (av ck (ae 4) (ae 7)) (av sA (wC (.int 5)) (ae 5))) (wC (.int 26)))))
 (xo (vw 8) (av i5 (av i5 (A6 (ae 6) gM (jJ (ae 7))) (ae 9)) (A6 (ae 6) (jJ (av i5 (ae 7) (wC (.int 1)))) gM)))))
 (qI 8)))))))))))
theorem wO{n d:Nat}{k:Int}(h0:0<=k)(h1:k<=n):HT.bE n d (some k)=k.toNat:=by
 simp only[HT.bE]
 rw[if_neg (by lia)]
 lia
theorem Bq{x:Str}{k:Int}(h0:0<=k)(h1:k<=x.length):(kU x none (some k)).length=k.toNat:=by
 unfold kU Str.length at *
 simp only[hX,mG,zI,uk]
 rw[wO h0 (by simpa using h1)]
 simp[HT.bE]
 lia
theorem FZ{x:Str}{k:Int}(h0:0<=k)(h1:k<=x.length):(kU x (some k) none).length=x.length-k.toNat:=by
 unfold kU Str.length at *
 simp only[hX,mG,zI,uk]
 rw[wO h0 (by simpa using h1)]
 simp[HT.bE]
theorem BP{n:Int}{z:Str}(h:lets z):lets (sF n z):=fun c hc=>by
 unfold sF sg at hc
 rw[List.toList_toArray] at hc
 obtain⟨l,hl,mS⟩:=List.mem_flatten.mp hc
 rw[List.eq_of_mem_replicate hl] at mS
 exact h c mS
theorem ql:∀ (l:List Str),mL (l.map D.str)=some l
 |[]=>rfl
 |x :: l=>by simp[mL,ql l]
theorem Eg{p:Int}(h0:0<=p)(h1:p<26):eK (sg abc) p=some (97+p.toNat):=by
 have:eK (sg abc) ((p.toNat:Nat):Int)=some (97+p.toNat):=vk (by
  rw[qT]
  have:p.toNat<26:=by lia
  simp[this])
 rwa[z5 h0] at this
theorem kW:∀ l:List Nat,sg (Str.join "" (l.map fun c=>(⟨#[c]⟩:Str)))=l
 |[]=>by decide +kernel
 |[c]=>rfl
 |c :: d :: l=>by
  have ih:=kW (d :: l)
  show sg ((⟨#[c]⟩:Str) ++ "" ++ Str.join "" ((d :: l).map fun c=>(⟨#[c]⟩:Str)))=_
  rw[wU,wU,ih,show sg ("" : Str)=[] by decide +kernel]
  rfl
theorem wG:∀ l:List Nat,(l.map fun _=>1).sum=l.length
 |[]=>rfl
 |x :: l=>by simp[wG l];lia
def bW:fF:=fun ds Q=>∃ c t:Int,ds=[.int c,.int t]/\∀ names:List Str,names.length=6->(∀ n∈names,Open n)->Q (.ow true) (.list (names.map .str))
theorem pA (ds Q) (h:bW ds Q):ds.length=["_law_cell", "_law_turn"].length:=by obtain⟨_,_,rfl,_⟩:=h;rfl
theorem sV:∀ ds Q,bW ds Q->gJ { nx:=fun _=>Q .sh .non,rt:=Q } (aP 10 ds):=by
 rintro ds Q ⟨c,t,rfl,h⟩
 unfold gJ
 walk_at "q"
 have s0:=oj c (show(6:Int)≠0 by decide)
 have s1:=oI c (show(0:Int)<6 by decide)
 generalize fN:1+c % 6=size at *
 refine⟨by lia,by lia,?_⟩
 refine ie _ (fun i ρ=>∃ (cc:Int) (ps:List Int) (o:Option Sl),ps.length=i/\(∀ p∈ps,0<=p/\p<26)/\ρ=[some (.sh (.int cc)),some (.sh (.int t)),some (.sh (.str abc)),some (.sh (.int size)),some (.ow true (.list (ps.map .int))),o,none,none,none,none]) ⟨_,[],_,rfl,(fun p hp=>nomatch hp),rfl⟩ ?_ ?_
 ·rintro i x ρ hx ⟨cc,ps,o,hl,hp,rfl⟩ N hN
  obtain⟨hi,rfl⟩:=iZ hx
  walk_at "q"
  refine⟨by lia,?_⟩
  rw[ints_app]
  refine hN _ ⟨_,ps++[cc % 26],_,by simp[hl],fun p gd=>?_,rfl⟩
  rcases eJ.mp gd with h'|h'
  ·exact hp p h'
  ·rw[uj.mp h']
   exact⟨oj _ (by decide),oI _ (by decide)⟩
 rintro ρ ⟨cc,ps,o,hl,hp,rfl⟩
 rw[iw] at hl
 walk_at "q"
 have e0:(Str.ofString "").length=0:=by decide
 refine aQ (fun _=>true) (fun d=>match d with
  |.int p=>.str ⟨#[97+p.toNat]⟩
  |d=>d) (fun ρ=>∃ o,ρ=[o,some (.sh (.str abc))]) _ _ _ ⟨_,rfl⟩ ?_ ?_
 ·rintro y hy ρ ⟨o,rfl⟩ N1 N2 _ h2
  obtain⟨p,gd,rfl⟩:=dP.mp hy
  walk_at "q"
  exact⟨_,Eg (hp p gd).1 (hp p gd).2,.inl rfl,h2 _ ⟨_,rfl⟩ rfl⟩
 rw[gm]
 refine⟨(ps.map fun p=>97+p.toNat).map fun c=>⟨#[c]⟩,?_,?_,?_⟩
 ·rw[hJ,<- ql,hJ,hJ];rfl
 ·rw[e0,hJ,Nat.mul_zero,FK]
  show((ps.map fun p=>97+p.toNat).map fun _=>1).sum<=_
  rw[wG,cE];lia
 have hw:=kW (ps.map fun p=>97+p.toNat)
 generalize Str.join "" ((ps.map fun p=>97+p.toNat).map fun c=>(⟨#[c]⟩:Str))=word at hw ⊢
 have wl:word.length=size.toNat:=by
  have:(sg word).length=size.toNat:=by rw[hw,cE,hl]
  rw[<- this];unfold sg Str.length;simp
 have VJ:lets word:=fun ch hc=>by
  rw[hw] at hc
  obtain⟨p,gd,rfl⟩:=dP.mp hc
  have:=hp p gd
  simp[isLet];lia
 refine R.D (fun _=>?_) fun _=>?_
 ·walk_at "q"
  refine aQ (fun _=>true) (fun d=>match d with
   |.int k=>.str (kU (sF 6 word) none (some k))
   |d=>d) (fun ρ=>∃ o,ρ=[o,some (.sh (.str word))]) _ _ _ ⟨_,rfl⟩ ?_ ?_
  ·rintro y hy ρ ⟨o,rfl⟩ N1 N2 _ h2
   obtain⟨i,hi,rfl⟩:=vR hy
   walk_at "q"
   exact⟨by lia,.inl rfl,h2 _ ⟨_,rfl⟩ rfl⟩
  ·rw[gm]
   have e6:(List.map (fun d=>match d with
    |.int k=>D.str (kU (sF 6 word) none (some k))
    |d=>d) (i_ 1 6))=((List.range 6).map fun i=>kU (sF 6 word) none (some (1+(i:Nat):Int))).map D.str:=by
    unfold i_
    rw[hJ,hJ]
    rfl
   rw[e6]
   refine h _ (by simp) fun n hn=>?_
   obtain⟨i,hi,rfl⟩:=dP.mp hn
   have hi:i<6:=by simpa using hi
   have l1:(kU (sF 6 word) none (some (1+(i:Nat):Int))).length=(1+(i:Int)).toNat:=Bq (by lia) (by rw[wX,wl];simp;lia)
   exact⟨by rw[l1];lia,by rw[l1];lia,rD (BP VJ) _ _⟩
 ·walk_at "q"
  refine⟨by lia,?_⟩
  have a0:=oj t (show size≠0 by lia)
  have a1:=oI t (show 0<size by lia)
  generalize t % size=at' at *
  have l1:(kU word none (some at')).length=at'.toNat:=Bq a0 (by lia)
  have l2:(kU word (some (at'+1)) none).length=word.length-(at'+1).toNat:=FZ (by lia) (by lia)
  refine ie _ (fun i ρ=>∃ (names:List Str) (o5 o9:Option Sl),names.length=i/\(∀ n∈names,Open n)/\ρ=[some (.sh (.int cc)),some (.sh (.int t)),some (.sh (.str abc)),some (.sh (.int size)),some (.ow true (.list (ps.map .int))),o5,some (.sh (.str word)),some (.sh (.int at')),some (.ow true (.list (names.map .str))),o9]) ⟨[],_,_,rfl,(fun n hn=>nomatch hn),rfl⟩ ?_ ?_
  ·rintro i x ρ hx ⟨names,o5,o9,hn,hd,rfl⟩ N hN
   obtain⟨hi,rfl⟩:=iZ hx
   have hi:i<6:=hi
   walk_at "q"
   have hat:at'.toNat<ps.length:=by lia
   refine⟨.int ps[at'.toNat],?_,?_⟩
   ·have:=vk (xs:=ps.map D.int) (j:=at'.toNat) (v:=.int ps[at'.toNat]) (by simp[hat])
    rwa[z5 a0] at this
   walk_at "q"
   obtain⟨ch,ec,lc⟩:=Fi (ps[at'.toNat]+5*(0+(i:Int)))
   refine⟨.inl ⟨by lia,by lia⟩,ch,ec,?_⟩
   refine⟨by rw[l1,iB];lia,by rw[l1,l2,iB];lia,by lia,?_⟩
   rw[Cj]
   refine hN _ ⟨names++[_],_,_,by simp[hn],fun n FU=>?_,rfl⟩
   rcases eJ.mp FU with h'|h'
   ·exact hd n h'
   ·obtain rfl:n=_:=by simpa using h'
    refine⟨?_,?_,wF (wF (rD VJ _ _) (Di lc)) (rD VJ _ _)⟩
    ·rw[cF,cF,l1,l2,iB];lia
    ·rw[cF,cF,l1,l2,iB];lia
  ·rintro ρ ⟨names,o5,o9,hn,hd,rfl⟩
   rw[iw] at hn
   walk_at "q"
   exact h names hn hd
def ir:WS :=
 (bI (dE 3 (mE bX))
 (bI (xl (fV (de ky (ae 0))) (gN 4)
 (bI (dE 5 (av gV (av sA (av i5 (av gV (av ck (ae 0) (ae 4)) (wC (.int 2147483647))) (wC (.int 1))) (av i5 (wC (.int 48271)) (av sA (wC (.int 7)) (ae 4)))) (wC (.int 2147483647))))
 (bI (dE 6 (av ck (ae 2) (av gV (av oa (ae 5) (ae 1)) (de ky (ae 2)))))
 (kF 6 (xo (vw 3) (ng (ak (av gV (ae 5) (ae 1)) (ak (ae 6) (ak (av gV (av oa (ae 5) (av sA (ae 1) (de ky (ae 2)))) (ae 1)) bX)))))))))
 (qI 3)))
def bC:fF:=fun ds Q=>∃ (cells:List Int) (many:Int) (names:List Str),ds=[.list (cells.map .int),.int many,.list (names.map .str)]/\cells.length<=200/\1<=many/\many<=20/\1<=names.length/\names.length<=20/\(∀ n∈names,xv n)/\∀ l:List cS,(∀ s∈l,xA many s)->l.length=cells.length->Q (.ow true) (.list (l.map fq))
theorem oU (ds Q) (h:bC ds Q):ds.length=["_law_cells", "_law_many", "_law_deeds_here"].length:=by obtain⟨_,_,_,rfl,_⟩:=h;rfl
theorem tD:∀ ds Q,bC ds Q->ir { nx:=fun _=>Q .sh .non,rt:=Q } (aP 7 ds):=by
 rintro ds Q ⟨cells,many,names,rfl,hc,m1,m2,n1,n2,hd,h⟩
 unfold ir
 walk_at "q"
 refine⟨by lia,by lia,?_⟩
 refine ie _ (fun i ρ=>∃ (l:List cS) (o4 o5 o6:Option Sl),(∀ s∈l,xA many s)/\l.length=i/\ρ=[some (.sh (.list (cells.map .int))),some (.sh (.int many)),some (.sh (.list (names.map .str))),some (.ow true (.list (l.map fq))),o4,o5,o6]) ⟨[],_,_,_,(fun s hs=>nomatch hs),rfl,rfl⟩ ?_ ?_
 ·rintro i x ρ hx ⟨l,o4,o5,o6,hs,hl,rfl⟩ N hN
  obtain⟨hi,rfl⟩:=iZ hx
  have hi:i<cells.length:=by lia
  walk_at "q"
  have e0:eK (cells.map D.int) (0+(i:Int))=some (.int cells[i]):=by
   have:=vk (xs:=cells.map D.int) (j:=i) (v:=.int cells[i]) (by simp[hi])
   rwa[Int.zero_add]
  refine⟨_,e0,?_⟩
  walk_at "q"
  have c0:=oj cells[i] (show(2147483647:Int)≠0 by decide)
  have c1:=oI cells[i] (show(0:Int)<2147483647 by decide)
  refine⟨.inl ⟨by lia,by lia⟩,.inl ⟨by lia,by lia⟩,⟨by lia,by lia⟩,by lia,?_⟩
  generalize (cells[i] % 2147483647+1)*(48271+7*(0+(i:Int))) % 2147483647=num
  obtain⟨n,hn,e⟩:=name_mod (num / many) n1
  refine⟨.str n,e,?_⟩
  walk_at "q"
  have b1:=oj num (show many≠0 by lia)
  have b2:=oI num (show 0<many by lia)
  have b3:=oj (num / (many*(names.length:Int))) (show many≠0 by lia)
  have b4:=oI (num / (many*(names.length:Int))) (show 0<many by lia)
  have b5:many*(names.length:Int)<=20*20:=Int.mul_le_mul m2 (by lia) (by lia) (by lia)
  have b6:0<many*(names.length:Int):=Int.mul_pos (by lia) (by lia)
  refine⟨by lia,.inl ⟨by lia,by lia⟩,⟨b6,by lia⟩,by lia,by lia,?_⟩
  rw[show l.map fq++[D.tup [D.int (num % many),D.str n,D.int (num / (many*(names.length:Int)) % many)]]=(l++[((num % many,n,num / (many*(names.length:Int)) % many):cS)]).map fq by simp[fq]]
  refine hN _ ⟨_,_,_,_,fun s fP=>?_,by simp[hl],rfl⟩
  rcases eJ.mp fP with h'|h'
  ·exact hs s h'
  ·rw[uj.mp h']
   exact⟨b1,b2,hd n hn,b3,b4⟩
 ·rintro ρ ⟨l,o4,o5,o6,hs,hl,rfl⟩
  rw[iw] at hl
  walk_at "q"
  exact h l hs (by lia)
def g8:WS :=
 (bI (dE 6 (av gV (ae 3) (wC (.int 8))))
 (bI (gv (wB (av EZ (ae 6) (wC (.int 5))))
 (CV [.inl (av ck (mE (ak (wC (.str "some")) (ak (wC (.str "all")) bX))) (av oa (ae 6) (wC (.int 3)))),.inl (av ck (ae 2) (av gV (av oa (ae 3) (wC (.int 16))) (de ky (ae 2)))),.inr 5])
 bM)
 (bI (gv (wB (av fR (ae 6) (wC (.int 5))))
 (CV [.inl (wC (.str "not")),.inr 5])
 bM)
 (bI (dE 7 (mE bX))
 (bI (xl (fV (av gV (av oa (ae 3) (wC (.int 16))) (wC (.int 4)))) (gN 8)
 (bI (kF 5 (xo (vw 7) (ae 5)))
 (dE 5 (av gV (av i5 (av sA (wC (.int 7)) (ae 5)) (av oa (ae 4) (av i5 (ae 8) (wC (.int 1))))) (ae 1)))))
 (eI (ng (ak (av ck (mE (ak (wC (.str "and")) (ak (wC (.str "or")) bX))) (av y3 (ae 6) (wC (.int 6)))) (ak (de Aa (ae 7)) bX)))))))))
def jY:WS :=
 (bI (dE 3 (av gV (av sA (av i5 (av gV (ae 0) (wC (.int 2147483647))) (wC (.int 1))) (av i5 (wC (.int 48271)) (av sA (wC (.int 7)) (ae 1)))) (wC (.int 2147483647))))
 (bI (dE 4 (av gV (av sA (ae 3) (wC (.int 69621))) (wC (.int 2147483629))))
 (bI (gv (wB (av fR (ae 1) (wC (.int 0))))
 (eI (av ck (mE (ak (ng (ak (wC (.str "and")) (ak (ng bX) bX))) (ak (ng (ak (wC (.str "or")) (ak (ng bX) bX))) bX))) (av gV (ae 3) (wC (.int 2)))))
 bM)
 (bI (dE 5 (av gV (ae 4) (ae 1)))
 (bI (gv (wB (av fR (av gV (av oa (ae 3) (wC (.int 8))) (wC (.int 2))) (wC (.int 1))))
 (dE 5 (av y3 (av y3 (ae 1) (wC (.int 1))) (av gV (ae 4) (av Ey (ae 1) (wC (.int 3))))))
 bM)
 g8)))))
def cZ:fF:=fun ds Q=>∃ (c k:Int) (names:List Str),ds=[.int c,.int k,.list (names.map .str)]/\0<=k/\k<=1000/\1<=names.length/\names.length<=100/\(∀ n∈names,xv n)/\∀ r:Rw,zk k r->Q .sh (cv r)
theorem uv (ds Q) (h:cZ ds Q):ds.length=["_law_cell", "_law_k", "_law_names"].length:=by obtain⟨_,_,_,rfl,_⟩:=h;rfl
theorem aV'{Q:Md->D->Prop}{c k num more j:Int}{names:List Str}(k0:0<=k)(k1:k<=1000)(n1:1<=names.length)(n2:names.length<=100)(hd:∀ n∈names,xv n)(h:∀ r:Rw,zk k r->Q .sh (cv r))(h0:0<=j)(h1:j<k) :
  g8 { nx:=fun _=>Q .sh .non,rt:=Q } [some (.sh (.int c)),some (.sh (.int k)),some (.sh (.list (names.map .str))),some (.sh (.int num)),some (.sh (.int more)),some (.sh (.int j)),none,none,none]:=by
 unfold g8
 have nb:=oj num (show(8:Int)≠0 by decide)
 have nb1:=oI num (show(0:Int)<8 by decide)
 walk_at "q"
 have w0:num % 8 / 3=0\/num % 8 / 3=1\/num % 8 / 3=2:=by lia
 refine R.D (fun h5=>?_) fun h5=>?_
 ·walk_at "q"
  obtain⟨w,ew,hw⟩:∃ w:Str,eK [D.str (Str.ofString "some"),D.str (Str.ofString "all")] (num % 8 / 3)=some (.str w)/\(w = "some"\/w = "all"):=by
   rcases w0 with e|e|e
   ·rw[e];exact⟨_,rfl,.inl rfl⟩
   ·rw[e];exact⟨_,rfl,.inr rfl⟩
   ·lia
  refine⟨_,ew,?_⟩
  walk_at "q"
  obtain⟨n,hn,en⟩:=name_mod (names:=names) (num / 16) n1
  refine⟨by lia,_,en,?_⟩
  walk_at "q"
  exact h (.st w n j) ⟨hw,hd n hn,h0,h1⟩
 ·walk_at "q"
  refine R.D (fun h6=>?_) fun h6=>?_
  ·walk_at "q"
   exact h (.nt j) ⟨h0,h1⟩
  ·walk_at "q"
   have f0:=oj (num / 16) (show(4:Int)≠0 by decide)
   have f1:=oI (num / 16) (show(0:Int)<4 by decide)
   generalize num / 16 % 4=cnt at *
   refine⟨by lia,by lia,?_⟩
   refine ie _ (fun i ρ=>∃ (ps:List Int) (j:Int) (o8:Option Sl),ps.length=i/\(∀ p∈ps,0<=p/\p<k)/\0<=j/\j<k/\ρ=[some (.sh (.int c)),some (.sh (.int k)),some (.sh (.list (names.map .str))),some (.sh (.int num)),some (.sh (.int more)),some (.sh (.int j)),some (.sh (.int (num % 8))),some (.ow true (.list (ps.map .int))),o8]) ⟨[],j,_,rfl,(fun p hp=>nomatch hp),h0,h1,rfl⟩ ?_ ?_
   ·rintro i x ρ hx ⟨ps,j,o8,hl,hp,h0,h1,rfl⟩ N hN
    obtain⟨hi,rfl⟩:=iZ hx
    walk_at "q"
    refine⟨by lia,.inl ⟨by lia,by lia⟩,by lia,by lia,?_⟩
    rw[ints_app]
    refine hN _ ⟨ps++[j],_,_,by simp[hl],fun p gd=>?_,oj _ (by lia),oI _ (by lia),rfl⟩
    rcases eJ.mp gd with h'|h'
    ·exact hp p h'
    ·rw[uj.mp h'];exact⟨h0,h1⟩
   ·rintro ρ ⟨ps,j,o8,hl,hp,h0,h1,rfl⟩
    rw[iw] at hl
    walk_at "q"
    obtain⟨w,ew,hw⟩:∃ w:Str,eK [D.str (Str.ofString "and"),D.str (Str.ofString "or")] (num % 8-6)=some (.str w)/\(w = "and"\/w = "or"):=by
     have:num % 8-6=0\/num % 8-6=1:=by lia
     rcases this with e|e
     ·rw[e];exact⟨_,rfl,.inl rfl⟩
     ·rw[e];exact⟨_,rfl,.inr rfl⟩
    refine⟨_,ew,?_⟩
    walk_at "q"
    refine⟨cU ps,?_⟩
    exact h (.jn w ps) ⟨hw,by lia,hp⟩
theorem yC:∀ ds Q,cZ ds Q->jY { nx:=fun _=>Q .sh .non,rt:=Q } (aP 9 ds):=by
 rintro ds Q ⟨c,k,names,rfl,k0,k1,n1,n2,hd,h⟩
 unfold jY
 walk_at "q"
 have m0:=oj c (show(2147483647:Int)≠0 by decide)
 have m1:=oI c (show(0:Int)<2147483647 by decide)
 refine⟨.inl ⟨by lia,by lia⟩,.inl ⟨by lia,by lia⟩,.inr ⟨by lia,by lia⟩,?_⟩
 generalize mi':(c % 2147483647+1)*(48271+7*k) % 2147483647=num
 generalize num*69621 % 2147483629=more
 refine R.D (fun hk=>?_) fun hk=>?_
 ·subst hk
  walk_at "q"
  have z0:=oj num (show(2:Int)≠0 by decide)
  have z1:=oI num (show(0:Int)<2 by decide)
  generalize num % 2=b at *
  have hb:b=0\/b=1:=by lia
  have q1:=h (.jn "and" []) ⟨.inl rfl,by decide,fun p hp=>nomatch hp⟩
  have q2:=h (.jn "or" []) ⟨.inr rfl,by decide,fun p hp=>nomatch hp⟩
  rcases hb with rfl|rfl
  ·exact⟨_,rfl,q1⟩
  ·exact⟨_,rfl,q2⟩
 ·walk_at "q"
  refine⟨by lia,?_⟩
  have j0:=oj more (show k≠0 by lia)
  have j1:=oI more (show 0<k by lia)
  have jj:∀ mm:Int,mm=(if (3:Int)<k then 3 else k)->0<mm/\0<=k-1-more % mm/\k-1-more % mm<k:=fun mm hm=>by
   have q0:0<mm:=by rw[hm];split<;>lia
   have q1:mm<=k:=by rw[hm];split<;>lia
   have q2:=oj more (show mm≠0 by lia)
   have q3:=oI more q0
   lia
  refine R.D (fun _=>?_) fun _=>?_
  ·walk_at "q"
   exact⟨(jj _ rfl).1,aV' k0 k1 n1 n2 hd h (jj _ rfl).2.1 (jj _ rfl).2.2⟩
  ·walk_at "q"
   exact aV' k0 k1 n1 n2 hd h j0 j1
def gY:WS :=
 (eI (jO (de (rL "int") (ae 0)) (yf (de (rL "bool") (ae 0)))))
def b7:fF:=fun ds Q=>∃ i:Int,ds=[.int i]/\Q .sh (.bl true)
theorem oO (ds Q) (h:b7 ds Q):ds.length=["_law_found"].length:=by obtain⟨_,rfl,_⟩:=h;rfl
theorem sH:∀ ds Q,b7 ds Q->gY { nx:=fun _=>Q .sh .non,rt:=Q } (aP 1 ds):=by
 rintro ds Q ⟨i,rfl,h⟩
 unfold gY
 walk_at "q"
 refine R.T rfl ?_
 walk_at "q"
 exact h
def pK:WS :=
 (bI (dE 1 xm)
 (bI (kF 0 (xl (oF (av ck (ae 0) (wC (.int 1)))) (gT 3 (eG (gN 2) (eG (gN 3) (eG (gN 4) um))))
 (kF 4 (kF 3 (kF 2 (Pt 1 (ng (ak (ae 2) (ak (ae 3) bX))) (ae 4)))))))
 (qI 1)))
abbrev cY:fF:=dh
theorem ud (ds Q) (h:cY ds Q):ds.length=["_law_m"].length:=nH ds Q h
theorem xW:∀ ds Q,cY ds Q->pK { nx:=fun _=>Q .sh .non,rt:=Q } (aP 5 ds):=tK
def iY:WS :=
 (bI (gv (wB (av fR (av ck (ae 0) (wC (.int 0))) (wC (.str "some"))))
 (kF 1 (eI (av NR (de ky (dq (gU (IC (ae 2) (ng (ak (ae 1) (ak (av ck (ae 0) (wC (.int 1))) bX))) (mE bX))) (gN 0) (wB (av (sC false) (ae 0) (av ck (ae 1) (av ck (ae 2) (wC (.int 2)))))) (ae 0) 1 [3,0])) (wC (.int 0)))))
 bM)
 (bI (gv (wB (av fR (av ck (ae 0) (wC (.int 0))) (wC (.str "all"))))
 (kF 1 (eI (av fR (de ky (dq (gU (IC (ae 2) (ng (ak (ae 1) (ak (av ck (ae 0) (wC (.int 1))) bX))) (mE bX))) (gN 0) (wB (av (sC true) (ae 0) (av ck (ae 1) (av ck (ae 2) (wC (.int 2)))))) (ae 0) 1 [3,0])) (wC (.int 0)))))
 bM)
 (bI (gv (wB (av fR (av ck (ae 0) (wC (.int 0))) (wC (.str "not"))))
 (eI (av (sC true) (ae 1) (av ck (ae 3) (av ck (ae 0) (wC (.int 1))))))
 bM)
 (bI (gv (wB (av fR (av ck (ae 0) (wC (.int 0))) (wC (.str "and"))))
 (eI (av fR (de ky (dq (tH (av ck (ae 0) (wC (.int 1)))) (gN 0) (wB (av (sC true) (ae 2) (av ck (ae 1) (ae 0)))) (ae 0) 1 [3,1])) (wC (.int 0))))
 bM)
 (eI (av NR (de ky (dq (tH (av ck (ae 0) (wC (.int 1)))) (gN 0) (wB (av (sC false) (ae 2) (av ck (ae 1) (ae 0)))) (ae 0) 1 [3,1])) (wC (.int 0))))))))
def cQ:fF:=fun ds Q=>∃ (r:Rw) (s many:Int) (l:List cS) (kvs:Kn) (ts:List Tr),ds=[cv r,.int s,.dT kvs,.list (ts.map (gL many))]/\xB l kvs/\nr many l/\zk ts.length r/\(0<=s/\s<many)/\Q .sh (.bl (iO l ts r s))
theorem rW (ds Q) (h:cQ ds Q):ds.length=["_law_row_here", "_law_state", "_law_out_here", "_law_lists"].length:=by obtain⟨_,_,_,_,_,_,rfl,_⟩:=h;rfl
theorem uT:∀ ds Q,cQ ds Q->iY { nx:=fun _=>Q .sh .non,rt:=Q } (aP 4 ds):=by
 rintro ds Q ⟨r,s,many,l,kvs,ts,rfl,hw,cK,ok,hs,h⟩
 unfold iY
 cases r with
 |st w d j =>
  obtain⟨ow,od,j0,j1⟩:=ok
  rw[show cv (.st w d j)=.tup [.str w,.str d,.int j] from rfl]
  have el:=xf (many:=many) j0 j1
  rcases ow with rfl|rfl
  ·walk_at "q"
   refine uV hw fun m=>?_
   walk_at "q"
   refine aQ (DH (fun q=>ts.getD j.toNat (fun _=>false) q)) id (fun ρ=>∃ o,ρ=[o,some (.sh (.list (ts.map (gL many)))),some (.sh (.tup [.str "some",.str d,.int j]))]) _ _ _ ⟨_,rfl⟩ ?_ ?_
   ·rintro y hy ρ ⟨o,rfl⟩ M1 M2 m1 m2
    obtain⟨q,hq,rfl⟩:=dP.mp hy
    have iq:=(cK _ (qZ.mp hq)).2.2.2
    have i0:0<=q:=iq.1
    have i1:q<many:=iq.2
    walk_at "q"
    refine⟨_,el,?_⟩
    walk_at "q"
    refine⟨rfl,d_ _,?_⟩
    rw[vy i0 i1]
    exact gq (fun e=>⟨.inl rfl,m2 _ ⟨_,rfl⟩ e⟩) fun e=>m1 _ ⟨_,rfl⟩ e
   rw[gk]
   try rw[cE]
   rw[zA]
   exact h
  ·walk_at "q"
   refine R.D (fun z=>absurd z (by decide +kernel)) fun _=>?_
   walk_at "q"
   refine uV hw fun m=>?_
   walk_at "q"
   refine aQ (DH (fun q=>!ts.getD j.toNat (fun _=>false) q)) id (fun ρ=>∃ o,ρ=[o,some (.sh (.list (ts.map (gL many)))),some (.sh (.tup [.str "all",.str d,.int j]))]) _ _ _ ⟨_,rfl⟩ ?_ ?_
   ·rintro y hy ρ ⟨o,rfl⟩ M1 M2 m1 m2
    obtain⟨q,hq,rfl⟩:=dP.mp hy
    have iq:=(cK _ (qZ.mp hq)).2.2.2
    have i0:0<=q:=iq.1
    have i1:q<many:=iq.2
    walk_at "q"
    refine⟨_,el,?_⟩
    walk_at "q"
    refine⟨rfl,d_ _,?_⟩
    rw[vy i0 i1]
    exact gq (fun e=>⟨.inl rfl,m2 _ ⟨_,rfl⟩ e⟩) fun e=>m1 _ ⟨_,rfl⟩ e
   rw[gk]
   try rw[cE]
   rw[zq]
   exact h
 |nt j =>
  obtain⟨j0,j1⟩:=ok
  have el:=xf (many:=many) j0 j1
  rw[show cv (.nt j)=.tup [.str "not",.int j] from rfl]
  walk_at "q"
  refine R.D (fun z=>absurd z SN.1) fun _=>?_
  walk_at "q"
  refine R.D (fun z=>absurd z SN.2) fun _=>?_
  walk_at "q"
  refine⟨_,el,?_⟩
  walk_at "q"
  refine⟨rfl,d_ _,?_⟩
  rw[vy hs.1 hs.2]
  exact h
 |jn w ps =>
  obtain⟨ow,pl,pj⟩:=ok
  have nw:=Pw ow
  rw[show cv (.jn w ps)=.tup [.str w,.tup (ps.map .int)] from rfl]
  walk_at "q"
  refine R.D (fun z=>absurd z nw.1) fun _=>?_
  walk_at "q"
  refine R.D (fun z=>absurd z nw.2.1) fun _=>?_
  walk_at "q"
  refine R.D (fun z=>absurd z nw.2.2) fun _=>?_
  walk_at "q"
  rcases ow with rfl|rfl
  ·refine R.D (fun _=>?_) fun z=>absurd rfl z
   walk_at "q"
   refine aQ (DH (fun p=>!ts.getD p.toNat (fun _=>false) s)) id (fun ρ=>∃ o,ρ=[o,some (.sh (.list (ts.map (gL many)))),some (.sh (.int s))]) _ _ _ ⟨_,rfl⟩ ?_ ?_
   ·rintro y hy ρ ⟨o,rfl⟩ M1 M2 m1 m2
    obtain⟨q,hq,rfl⟩:=dP.mp hy
    have iq:=pj q hq
    walk_at "q"
    refine⟨_,xf (many:=many) iq.1 iq.2,?_⟩
    walk_at "q"
    refine⟨rfl,d_ _,?_⟩
    rw[vy hs.1 hs.2]
    exact gq (fun e=>⟨.inl rfl,m2 _ ⟨_,rfl⟩ e⟩) fun e=>m1 _ ⟨_,rfl⟩ e
   rw[gk]
   try rw[cE]
   rw[zq]
   exact h
  ·refine R.D (fun z=>absurd z (by decide +kernel)) fun _=>?_
   walk_at "q"
   refine aQ (DH (fun p=>ts.getD p.toNat (fun _=>false) s)) id (fun ρ=>∃ o,ρ=[o,some (.sh (.list (ts.map (gL many)))),some (.sh (.int s))]) _ _ _ ⟨_,rfl⟩ ?_ ?_
   ·rintro y hy ρ ⟨o,rfl⟩ M1 M2 m1 m2
    obtain⟨q,hq,rfl⟩:=dP.mp hy
    have iq:=pj q hq
    walk_at "q"
    refine⟨_,xf (many:=many) iq.1 iq.2,?_⟩
    walk_at "q"
    refine⟨rfl,d_ _,?_⟩
    rw[vy hs.1 hs.2]
    exact gq (fun e=>⟨.inl rfl,m2 _ ⟨_,rfl⟩ e⟩) fun e=>m1 _ ⟨_,rfl⟩ e
   rw[gk]
   try rw[cE]
   rw[zA]
   exact h
def ou:WS :=
 (eI (R4 (aY dR (ak (ae 0) bX)) (jO (de (rL "str") (ae 0)) (av fR (ae 0) (wC (.str "*"))))))
def xK (x:Str):Bool:=(decide (1<=x.length/\x.length<=6) && (sg x).all isLet) || decide (x = "*")
theorem p_{x:Str}:xK x=true↔xv x:=by
 unfold xK xv Open lets
 simp only[Bool.or_eq_true,ly,decide_eq_true_eq,vS]
 constructor
 ·rintro(⟨⟨h1,h2⟩,h3⟩|h)
  ·exact .inr ⟨h1,h2,h3⟩
  ·exact .inl h
 ·rintro(h|⟨h1,h2,h3⟩)
  ·exact .inr h
  ·exact .inl ⟨⟨h1,h2⟩,h3⟩
def dI:fF:=fun ds Q=>∃ x:Str,ds=[.str x]/\Q .sh (.bl (xK x))
theorem vI (ds Q) (h:dI ds Q):ds.length=["thing"].length:=by obtain⟨_,rfl,_⟩:=h;rfl
theorem zZ:∀ ds Q,dI ds Q->ou { nx:=fun _=>Q .sh .non,rt:=Q } (aP 1 ds):=by
 rintro ds Q ⟨x,rfl,h⟩
 unfold ou
 walk_at "q"
 refine⟨_,rfl,?_⟩
 unfold xK at h
 walk_at "q"
 refine R.B (fun e=>?_) fun e=>?_
 ·walk_at "q"
  rw[e] at h
  exact h
 ·walk_at "q"
  refine R.T rfl ?_
  walk_at "q"
  rw[e] at h
  exact h
def kj:WS :=
 (eI (jO (aY dg (ak (ae 1) bX)) (jo A5 EZ (wC (.int 0)) (ae 1) (ae 0))))
def bF:fF:=fun ds Q=>∃ k j:Int,ds=[.int k,.int j]/\Q .sh (.bl (decide (0<=j/\j<k)))
theorem uw (ds Q) (h:bF ds Q):ds.length=["k", "thing"].length:=by obtain⟨_,_,rfl,_⟩:=h;rfl
theorem ye:∀ ds Q,bF ds Q->kj { nx:=fun _=>Q .sh .non,rt:=Q } (aP 2 ds):=by
 rintro ds Q ⟨k,j,rfl,h⟩
 unfold kj
 walk_at "q"
 refine⟨_,rfl,?_⟩
 walk_at "q"
 refine R.D (fun h1=>?_) fun h1=>?_
 ·walk_at "q"
  rwa[show decide (0<=j/\j<k)=decide (j<k) by simp[h1]] at h
 ·walk_at "q"
  rwa[decide_eq_false (by lia)] at h
def jb:WS :=
 (bI (dE 2 (aY dh (ak (ae 0) bX)))
 (bI (dE 3 (mE bX))
 (bI (kF 1 (xl (oF (ae 1)) (gN 4)
 (xo (vw 3) (dq (fV (av ck (ae 0) (wC (.int 0)))) (gN 0) oy (aY cH (ak (ae 3) (ak (ae 2) (ak (ae 1) (ak (ae 0) bX))))) 1 [4,3,2]))))
 (qI 3))))
def aZ:fF:=fun ds Q=>∃ (many:Int) (l:List cS) (rs:List Rw),ds=[mD many l,.list (rs.map cv)]/\0<=many/\many<=20/\nr many l/\l.length<=1000/\iE rs/\rs.length<=2000/\Q (.ow true) (.list ((df l rs).map (nv many)))
theorem qK (ds Q) (h:aZ ds Q):ds.length=["m", "scroll"].length:=by obtain⟨_,_,_,rfl,_⟩:=h;rfl
theorem vG:∀ ds Q,aZ ds Q->jb { nx:=fun _=>Q .sh .non,rt:=Q } (aP 5 ds):=by
 rintro ds Q ⟨many,l,rs,rfl,m0,m1,cK,hz,hs,hl,h⟩
 unfold jb mD
 walk_at "q"
 refine⟨many,l,rfl,hz,fun kvs hw=>?_⟩
 walk_at "q"
 refine ie _ (fun i ρ=>∃ o4:Option Sl,ρ=[some (.sh (.tup [.int many,.list (l.map fq)])),some (.sh (.list (rs.map cv))),some (.ow true (.dT kvs)),some (.ow true (.list ((df l (rs.take i)).map (nv many)))),o4]) ⟨_,rfl⟩ ?_ ?_
 ·rintro i x ρ hx ⟨o4,rfl⟩ N hN
  rw[kf] at hx
  cases e:rs[i]? with
  |none=>rw[e] at hx;cases hx
  |some r =>
   rw[e] at hx
   cases hx
   have hr:=hs i r e
   have hi:i<rs.length:=(lh.mp e).1
   walk_at "q"
   have hlen:((df l (rs.take i)).length:Int)=i:=by rw[eQ,mG];lia
   refine⟨by lia,by lia,aQ (fun _=>true) (fun d=>match d with
    |.int s=>.bl (iO l (df l (rs.take i)) r s)
    |d=>d) (fun ρ=>∃ o,ρ=[o,some (.sh (cv r)),some (.sh (.list ((df l (rs.take i)).map (nv many)))),some (.sh (.dT kvs))]) _ _ _ ⟨_,rfl⟩ ?_ ?_⟩
   ·rintro y hy ρ ⟨o,rfl⟩ N1 N2 _ h2
    obtain⟨k,hk,rfl⟩:=vR hy
    walk_at "q"
    refine⟨kvs,l,many,df l (rs.take i),r,_,rfl,hw,cK,by rw[hlen];exact hr,by lia,by lia,?_⟩
    walk_at "q"
    exact⟨.inl rfl,h2 _ ⟨_,rfl⟩ rfl⟩
   ·rw[gm]
    have eb:(i_ 0 many.toNat).map (fun d=>match d with
     |.int s=>D.bl (iO l (df l (rs.take i)) r s)
     |d=>d)=(cI many.toNat).map fun s=>.bl (iO l (df l (rs.take i)) r s):=by rw[jL,hJ];rfl
    rw[eb]
    have st:(df l (rs.take i)).map (nv many)++[D.list ((cI many.toNat).map fun s=>.bl (iO l (df l (rs.take i)) r s))]=(df l (rs.take (i+1))).map (nv many):=by
     rw[BI,e,show(some r).toList=[r] from rfl,mC,oD]
     rfl
    rw[st]
    exact⟨by lia,hN _ ⟨_,rfl⟩⟩
 ·rintro ρ ⟨o4,rfl⟩
  rw[cE,FD]
  walk_at "q"
  exact h
def gr:WS :=
 (eI (dq (fV (de ky (ae 0))) (gN 0) oy (aY cZ (ak (av ck (ae 1) (ae 0)) (ak (ae 0) (ak (ae 2) bX)))) 1 [0,1]))
def bH:fF:=fun ds Q=>∃ (cs:List Int) (names:List Str),ds=[.list (cs.map .int),.list (names.map .str)]/\cs.length<=1000/\1<=names.length/\names.length<=100/\(∀ n∈names,xv n)/\∀ l:List Rw,l.length=cs.length->iE l->Q (.ow true) (.list (l.map cv))
theorem nJ (ds Q) (h:bH ds Q):ds.length=["_law_cells", "_law_names"].length:=by obtain⟨_,_,rfl,_⟩:=h;rfl
theorem qG:∀ ds Q,bH ds Q->gr { nx:=fun _=>Q .sh .non,rt:=Q } (aP 2 ds):=by
 rintro ds Q ⟨cs,names,rfl,hc,n1,n2,hd,h⟩
 unfold gr
 walk_at "q"
 refine⟨by lia,by lia,?_⟩
 refine jw (fun i out=>∃ l:List Rw,out=l.map cv/\l.length=i/\iE l) (fun ρ=>∃ o,ρ=[o,some (.sh (.list (cs.map .int))),some (.sh (.list (names.map .str)))]) _ 0 [] _ _ ⟨_,rfl⟩ ⟨[],rfl,rfl,iE.nil⟩ ?_ ?_
 ·rintro i x hx ρ ⟨o,rfl⟩ out ⟨l,rfl,hl,hs⟩ N1 N2 h2
  obtain⟨hi,rfl⟩:=iZ hx
  have hi:i<cs.length:=by simpa using hi
  walk_at "q"
  refine⟨.int cs[i],?_,?_⟩
  ·have:=vk (xs:=cs.map D.int) (j:=i) (v:=.int cs[i]) (by simp[hi])
   rwa[show((i:Nat):Int)=0+(i:Int) by lia] at this
  walk_at "q"
  refine⟨_,_,_,rfl,by lia,by lia,n1,n2,hd,fun r hr=>?_⟩
  walk_at "q"
  refine⟨.inl (yU r),h2 _ _ ⟨_,rfl⟩ ⟨l++[r],by simp,by simp[hl],hs.app ?_⟩⟩
  rw[hl]
  simpa using hr
 ·rintro out ⟨l,e,hl,hs⟩
  rw[List.nil_append] at e
  subst e
  rw[iw] at hl
  exact h l (by simpa using hl) hs
def iV:WS :=
 (bI (gv (rp (pf (wB (de (rL "list") (ae 2)))) (wB (av rq (de ky (ae 2)) (de ky (ae 1)))))
 (eI (wC (.bl false)))
 bM)
 (bI (dE 3 (aY cY (ak (ae 0) bX)))
 (bI (kF 2 (kF 1 (xl (Dn (ae 1) (ae 2)) (gT 2 (eG (gN 4) (eG (gN 5) um)))
 (bI (gv (rp (pf (wB (de (rL "list") (ae 5)))) (pf (wB (de Dp (dq (gU (ae 5)) (gN 0) oy (aY b7 (ak (ae 0) bX)) 1 [])))))
 (eI (wC (.bl false)))
 bM)
 (gv (wB (av rq (ae 5) (dq (fV (av ck (ae 0) (wC (.int 0)))) (gN 0) (wB (aY cQ (ak (ae 3) (ak (ae 0) (ak (ae 2) (ak (ae 1) bX)))))) (ae 0) 1 [2,3,4])))
 (eI (wC (.bl false)))
 bM)))))
 (eI (wC (.bl true))))))
theorem xu(l:List cS):∀ (rs:List Rw) (ts:List Tr) (j:Nat),j<ts.length->(zo l ts rs)[j]? = ts[j]?
 |[],_,_,_=>rfl
 |r :: rs,ts,j,h=>by
  rw[zo,xu l rs _ j (by rw[md];lia),BH h]
theorem yP{l:List cS}{k:Int}{ts us:List Tr}{r:Rw}(h:∀ j:Nat,(j:Int)<k->ts.getD j (fun _=>false)=us.getD j fun _=>false)(ok:zk k r):iO l ts r=iO l us r:=by
 cases r with
 |st w d j =>
  obtain⟨_,_,j0,j1⟩:=ok
  simp only[iO]
  rw[h j.toNat (by lia)]
 |nt j =>
  obtain⟨j0,j1⟩:=ok
  simp only[iO]
  rw[h j.toNat (by lia)]
 |jn w ps =>
  obtain⟨_,_,hp⟩:=ok
  funext s
  have e:∀ p∈ps,ts.getD p.toNat (fun _=>false) s=us.getD p.toNat (fun _=>false) s:=fun p hm=>by rw[h p.toNat (by have:=hp p hm;lia)]
  simp only[iO]
  rw[sP]
  split
  ·rw[vS,vS]
   exact⟨fun z p hm=>by rw[<- e p hm];exact z p hm,fun z p hm=>by rw[e p hm];exact z p hm⟩
  ·rw[Ki,Ki]
   exact⟨fun⟨p,hm,z⟩=>⟨p,hm,by rw[<- e p hm];exact z⟩,fun⟨p,hm,z⟩=>⟨p,hm,by rw[e p hm];exact z⟩⟩
theorem Fl{l:List cS}{rs:List Rw}(sc:iE rs){i:Nat}{r:Rw}{t:Tr}(hr:rs[i]? = some r)(ht:(df l rs)[i]? = some t):t=iO l (df l rs) r:=by
 have hi:=(lh.mp hr).1
 have e:rs=rs.take i++(r :: rs.drop (i+1)):=by
  have:=DS hi
  rw[(lh.mp hr).2] at this
  rw[<- this,Fu]
 have e2:df l rs=zo l (df l (rs.take i)++[iO l (df l (rs.take i)) r]) (rs.drop (i+1)):=by
  conv=>lhs;rw[e]
  unfold df
  rw[rN]
  rfl
 have tl:(df l (rs.take i)).length=i:=by rw[eQ,mG];lia
 have pre:∀ j,j<i+1->(df l rs)[j]? = (df l (rs.take i)++[iO l (df l (rs.take i)) r])[j]? := fun j hj=>by
  rw[e2]
  exact xu l _ _ j (by rw[md,tl];simpa using hj)
 have e3:iO l (df l rs) r=iO l (df l (rs.take i)) r:=yP (k:=i) (fun j hj=>by
  have hj:j<i:=by lia
  rw[vx,vx,pre j (by lia),BH (by lia)]) (sc i r hr)
 rw[pre i (by lia),ub (by lia),tl,KL] at ht
 rw[e3]
 exact(Option.some.inj ht).symm
def cN:fF:=fun ds Q=>∃ (many:Int) (l:List cS) (rs:List Rw),ds=[mD many l,.list (rs.map cv),.list ((df l rs).map (gL many))]/\(0<=many/\many<=20)/\nr many l/\l.length<=1000/\iE rs/\rs.length<=2000/\Q .sh (.bl true)
theorem qF (ds Q) (h:cN ds Q):ds.length=["_law_m", "_law_scroll_here", "_law_found"].length:=by obtain⟨_,_,_,rfl,_⟩:=h;rfl
theorem dD(l:List Int):cy 12 (.list (l.map .int))=true:=by simp[cy,sN]
theorem j_(l:List Int):jS (.list (l.map .int)) (.list (l.map .int))=true:=eq_self (by
 show mB (l.map D.int)=true
 induction l with
 |nil=>rfl
 |cons x l ih=>simp[mB,ih,D.nb])
theorem vo:∀ ds Q,cN ds Q->iV { nx:=fun _=>Q .sh .non,rt:=Q } (aP 6 ds):=by
 rintro ds Q ⟨many,l,rs,rfl,hm,cK,hl,sc,hrl,h⟩
 unfold iV mD
 walk_at "q"
 refine R.F (by decide) ?_
 walk_at "q"
 rw[eQ]
 refine R.F (by simp) ?_
 walk_at "q"
 refine⟨many,l,rfl,hl,fun kvs hw=>?_⟩
 walk_at "q"
 refine ie _ (fun i ρ=>∃ (o4 o5:Option Sl),ρ=[some (.sh (.tup [.int many,.list (l.map fq)])),some (.sh (.list (rs.map cv))),some (.sh (.list ((df l rs).map (gL many)))),some (.ow true (.dT kvs)),o4,o5]) ⟨_,_,rfl⟩ ?_ ?_
 ·rintro i x ρ hx ⟨o4,o5,rfl⟩ N hN
  obtain⟨r,t,hr,ht,rfl⟩:∃ r t,rs[i]? = some r/\(df l rs)[i]? = some t/\x=.tup [cv r,.list ((kH many t).map .int)]:=by
   unfold CY at hx
   rw[List.getElem?_zipWith,kf,kf] at hx
   cases hr:rs[i]? with
   |none=>rw[hr] at hx;cases hx
   |some r =>
    cases ht:(df l rs)[i]? with
    |none=>rw[hr,ht] at hx;cases hx
    |some t=>rw[hr,ht] at hx;cases hx;exact⟨r,t,rfl,rfl,rfl⟩
  have et:=Fl sc hr ht
  walk_at "q"
  refine R.F (by decide) ?_
  walk_at "q"
  refine aQ (fun _=>true) (fun _=>.bl true) (fun ρ=>∃ o,ρ=[o]) _ _ _ ⟨_,rfl⟩ ?_ ?_
  ·rintro y hy ρ ⟨o,rfl⟩ M1 M2 m1 m2
   obtain⟨q,hq,rfl⟩:=dP.mp hy
   walk_at "q"
   refine⟨q,rfl,?_⟩
   walk_at "q"
   exact⟨.inl rfl,m2 _ ⟨_,rfl⟩ rfl⟩
  refine⟨(kH many t).map fun _=>true,by rw[S8.mpr fun _ _=>rfl,hJ,hJ];rfl,?_⟩
  refine R.F (by simp[sN]) ?_
  walk_at "q"
  refine⟨by lia,by lia,?_⟩
  refine aQ (DH (iO l (df l rs) r)) id (fun ρ=>∃ o,ρ=[o,some (.sh (.list ((df l rs).map (gL many)))),some (.sh (.dT kvs)),some (.sh (cv r))]) _ _ _ ⟨_,rfl⟩ ?_ ?_
  ·rintro y hy ρ ⟨o,rfl⟩ M1 M2 m1 m2
   obtain⟨j,hj,rfl⟩:=dP.mp hy
   have hj:=nI.mp hj
   walk_at "q"
   refine⟨r,0+(j:Nat),many,l,kvs,df l rs,rfl,hw,cK,?_,by lia,?_⟩
   ·rw[eQ]
    have hi:=(lh.mp hr).1
    have ok:=sc i r hr
    cases r with
    |st w d j=>exact⟨ok.1,ok.2.1,ok.2.2.1,Int.lt_trans ok.2.2.2 (by lia)⟩
    |nt j=>exact⟨ok.1,Int.lt_trans ok.2 (by lia)⟩
    |jn w ps=>exact⟨ok.1,ok.2.1,fun p hp=>⟨(ok.2.2 p hp).1,Int.lt_trans (ok.2.2 p hp).2 (by lia)⟩⟩
   ·walk_at "q"
    exact gq (fun e=>⟨.inl rfl,m2 _ ⟨_,rfl⟩ e⟩) fun e=>m1 _ ⟨_,rfl⟩ e
  rw[jL,gk]
  rw[show(cI many.toNat).filter (iO l (df l rs) r)=kH many t by rw[et];rfl]
  refine⟨dD _,dD _,R.F (by rw[j_];rfl) ?_⟩
  walk_at "q"
  exact hN _ ⟨_,_,rfl⟩
 ·rintro ρ ⟨o4,o5,rfl⟩
  walk_at "q"
  exact h
def iW:WS :=
 (bI (gv (rp (pf (wB (de (rL "tuple") (ae 1)))) (wB (av NR (de ky (ae 1)) (wC (.int 200)))))
 (eI (wC (.bl false)))
 bM)
 (eI (de Dp (dq (tH (ae 1)) (gN 0) oy (aY bF (ak (ae 1) (ak (ae 0) bX))) 1 [0]))))
def cM:fF:=fun ds Q=>∃ (k:Int) (ps:List Int),ds=[.int k,.tup (ps.map .int)]/\ps.length<=200/\Q .sh (.bl (ps.all fun p=>decide (0<=p/\p<k)))
theorem qJ (ds Q) (h:cM ds Q):ds.length=["k", "thing"].length:=by obtain⟨_,_,rfl,_⟩:=h;rfl
theorem vp:∀ ds Q,cM ds Q->iW { nx:=fun _=>Q .sh .non,rt:=Q } (aP 2 ds):=by
 rintro ds Q ⟨k,ps,rfl,hl,h⟩
 unfold iW
 walk_at "q"
 refine R.F rfl ?_
 walk_at "q"
 refine R.F (decide_eq_false (by lia)) ?_
 walk_at "q"
 refine aQ (fun _=>true) (fun d=>match d with
  |.int p=>.bl (decide (0<=p/\p<k))
  |d=>d) (fun ρ=>∃ o,ρ=[o,some (.sh (.int k))]) _ _ _ ⟨_,rfl⟩ ?_ ?_
 ·rintro y hy ρ ⟨o,rfl⟩ N1 N2 _ h2
  obtain⟨p,hp,rfl⟩:=dP.mp hy
  walk_at "q"
  exact⟨_,_,rfl,.inl rfl,h2 _ ⟨_,rfl⟩ rfl⟩
 ·rw[gm]
  refine⟨ps.map fun p=>decide (0<=p/\p<k),by rw[hJ,hJ];rfl,?_⟩
  rw[sN]
  exact h
def dw:WS :=
 (kF 2 (eI (ng (ak (ng (ak (ae 2) (ak (de jg (ae 4)) bX))) (ak (aY bH (ak (ae 5) (ak (av i5 (mE (ak (wC (.str "*")) bX)) (ae 3)) bX))) bX)))))
def iJ:WS :=
 (bI (gv (wB (av fR (av gV (av oa (ae 1) (wC (.int 480))) (wC (.int 8))) (wC (.int 3))))
 (dE 5 (av i5 (ae 5) (dq (fV (wC (.int 90))) (gN 0) oy (av i5 (aY aA (ak (ae 1) (ak (wC (.int 5)) bX))) (av sA (ae 0) (ae 0))) 1 [0])))
 bM)
 dw)
def dB:WS :=
 (bI (dE 5 (av i5 (A6 (ae 0) (jJ (wC (.int 35))) (jJ (wC (.int 63)))) (mE (ak (aY aA (ak (ae 0) (ak (wC (.int 3)) bX))) bX))))
 iJ)
def du:WS :=
 (bI (gv (wB (av fR (av gV (av oa (ae 1) (wC (.int 60))) (wC (.int 8))) (wC (.int 3))))
 (dE 4 (av i5 (ae 4) (aY bC (ak (dq (fV (wC (.int 150))) (gN 0) oy (av i5 (aY aA (ak (ae 1) (ak (wC (.int 5)) bX))) (av sA (ae 0) (ae 0))) 1 [0]) (ak (ae 2) (ak (av i5 (mE (ak (wC (.str "*")) bX)) (A6 (ae 3) gM (jJ (wC (.int 5))))) bX))))))
 bM)
 dB)
def gZ:WS :=
 (bI (dE 2 (av i5 (wC (.int 1)) (av gV (ae 1) (av ck (mE (ak (wC (.int 4)) (ak (wC (.int 8)) (ak (wC (.int 20)) bX)))) (av gV (av oa (ae 1) (wC (.int 20))) (wC (.int 3)))))))
 (bI (dE 3 (aY bW (ak (aY aA (ak (ae 0) (ak (wC (.int 1)) bX))) (ak (aY aA (ak (ae 0) (ak (wC (.int 2)) bX))) bX))))
 (bI (dE 4 (aY bC (ak (A6 (ae 0) (jJ (wC (.int 6))) (jJ (wC (.int 35)))) (ak (ae 2) (ak (av i5 (mE (ak (wC (.str "*")) bX)) (A6 (ae 3) gM (jJ (wC (.int 5))))) bX)))))
 du)))
def bU:fF:=fun ds Q=>∃ (ns:List Int) (first:Int),ds=[.list (ns.map .int),.int first]/\ns.length<=63/\∀ (many:Int) (l:List cS) (rs:List Rw),1<=many->many<=20->nr many l->l.length<=1000->iE rs->1<=rs.length->rs.length<=1000->Q (.ow true) (.tup [mD many l,.list (rs.map cv)])
theorem oK (ds Q) (h:bU ds Q):ds.length=["_law_script", "_law_first"].length:=by obtain⟨_,_,rfl,_⟩:=h;rfl
theorem pW{ns:List Int}{n:Nat}{K:List D->Prop}(hn:n<=1000)(h:∀ cs:List Int,cs.length=n->K (cs.map .int)):iT (gN 0) oy (av i5 (aY aA (ak (ae 1) (ak (wC (.int 5)) bX))) (av sA (ae 0) (ae 0))) (i_ 0 n) [none,some (.sh (.list (ns.map .int)))] K:=by
 refine jw (fun n out=>∃ cs:List Int,out=cs.map .int/\cs.length=n) (fun ρ=>∃ o,ρ=[o,some (.sh (.list (ns.map .int)))]) _ 0 [] _ _ ⟨_,rfl⟩ ⟨[],rfl,rfl⟩ ?_ ?_
 ·rintro j y hy ρ ⟨o,rfl⟩ out ⟨us,rfl,VL⟩ N1 N2 Uo
  obtain⟨hj,rfl⟩:=iZ hy
  walk_at "q"
  refine⟨ns,5,rfl,by decide,?_⟩
  walk_at "q"
  exact⟨Av (by lia) (by lia),.inl rfl,Uo _ _ ⟨_,rfl⟩ ⟨us++[_],(by rw[oD];rfl),by simp[VL]⟩⟩
 rintro out ⟨us,e,VL⟩
 simp only[List.nil_append] at e
 subst e
 rw[iw] at VL
 exact h us (by lia)
theorem jU {pool ns:List Str} (ua:∀ n∈pool,Open n) (h:∀ n∈ns,n∈pool):∀ n∈("*" : Str) :: ns,xv n:=fun n hn=>by
 rcases dA.mp hn with rfl|hn
 ·exact .inl rfl
 ·exact .inr (ua n (h n hn))
theorem iM{Q:Md->D->Prop}{ns:List Int}{first many:Int}{pool:List Str}{l:List cS}{cs:List Int}(DI:ns.length<=63)(hm:1<=many/\many<=20)(DJ:pool.length=6)(ua:∀ n∈pool,Open n)(hs:∀ s∈l,xA many s)(hl:l.length<=400)(c1:1<=cs.length)(c2:cs.length<=500)(h:∀ (many:Int) (l:List cS) (rs:List Rw),1<=many->many<=20->nr many l->l.length<=1000->iE rs->1<=rs.length->rs.length<=1000->Q (.ow true) (.tup [mD many l,.list (rs.map cv)])):dw { nx:=fun _=>Q .sh .non,rt:=Q } [some (.sh (.list (ns.map .int))),some (.sh (.int first)),some (.sh (.int many)),some (.ow true (.list (pool.map .str))),some (.ow true (.list (l.map fq))),some (.ow true (.list (cs.map .int)))]:=by
 unfold dw
 walk_at "q"
 obtain⟨ks,sh,e1,e2,e3,e4⟩:=Ft (l:=l) (fun xs=>∃ out,IH l out/\xs=out.map fq) (by lia) fun out M=>⟨out,M,rfl⟩
 refine⟨ks,sh,e1,e2,e3,fun ms nd mm pw=>?_⟩
 obtain⟨out,M,eo⟩:=e4 ms nd mm pw
 refine⟨by lia,.inl ⟨fU pool,cs,("*" : Str) :: pool,rfl,by lia,by simp,by simp;lia,jU ua fun _ z=>z,fun rs hrl sc=>?_⟩⟩
 walk_at "q"
 rw[eo]
 exact h many out rs hm.1 hm.2 (M.ok hs) (by have:=M.len;lia) sc (by lia) (by lia)
theorem iR{Q:Md->D->Prop}{ns:List Int}{first many:Int}{pool:List Str}{l:List cS}(DI:ns.length<=63)(hm:1<=many/\many<=20)(DJ:pool.length=6)(ua:∀ n∈pool,Open n)(hs:∀ s∈l,xA many s)(hl:l.length<=400)(h:∀ (many:Int) (l:List cS) (rs:List Rw),1<=many->many<=20->nr many l->l.length<=1000->iE rs->1<=rs.length->rs.length<=1000->Q (.ow true) (.tup [mD many l,.list (rs.map cv)])):dB { nx:=fun _=>Q .sh .non,rt:=Q } [some (.sh (.list (ns.map .int))),some (.sh (.int first)),some (.sh (.int many)),some (.ow true (.list (pool.map .str))),some (.ow true (.list (l.map fq))),none]:=by
 obtain⟨w6,e6⟩:∃ w6,w6=dw:=⟨_,rfl⟩
 unfold dB iJ
 rw[<- e6]
 walk_at "q"
 rw[rC]
 have hc:=eE ns (some 35) (some 63)
 generalize kE ns (some 35) (some 63)=cells at *
 refine .inl ⟨cU ns,?_⟩
 refine⟨ns,3,rfl,by decide,?_⟩
 generalize ns.getD _ 0=c3
 walk_at "q"
 refine⟨by lia,.inl ⟨cU cells,R.D (fun _=>?_) fun _=>?_⟩⟩
 ·walk_at "q"
  refine pW (n:=90) (by decide) fun cs sf=>?_
  rw[show cells.map D.int++[D.int c3]=(cells++[c3]).map .int by rw[oD];rfl,<- oD]
  refine⟨by rw[cE,cE,md,P7];lia,.inl ⟨cU _,cU _,?_⟩⟩
  rw[e6]
  exact iM DI hm DJ ua hs hl (by simp;lia) (by simp;lia) h
 ·walk_at "q"
  rw[show cells.map D.int++[D.int c3]=(cells++[c3]).map .int by rw[oD];rfl,e6]
  exact iM DI hm DJ ua hs hl (by simp) (by simp;lia) h
theorem o_{Q:Md->D->Prop}{ns:List Int}{first many:Int}{pool:List Str}{l:List cS}(DI:ns.length<=63)(hm:1<=many/\many<=20)(DJ:pool.length=6)(ua:∀ n∈pool,Open n)(hs:∀ s∈l,xA many s)(hl:l.length<=200)(h:∀ (many:Int) (l:List cS) (rs:List Rw),1<=many->many<=20->nr many l->l.length<=1000->iE rs->1<=rs.length->rs.length<=1000->Q (.ow true) (.tup [mD many l,.list (rs.map cv)])):du { nx:=fun _=>Q .sh .non,rt:=Q } [some (.sh (.list (ns.map .int))),some (.sh (.int first)),some (.sh (.int many)),some (.ow true (.list (pool.map .str))),some (.ow true (.list (l.map fq))),none]:=by
 obtain⟨w4,e4⟩:∃ w4,w4=dB:=⟨_,rfl⟩
 unfold du
 rw[<- e4]
 walk_at "q"
 refine R.D (fun _=>?_) fun _=>?_
 ·walk_at "q"
  refine pW (n:=150) (by decide) fun cs sf=>?_
  rw[rC]
  have hc:=eE pool none (some 5)
  have VM:∀ n∈kE pool none (some 5),n∈pool:=fun x hx=>JJ (JY hx)
  generalize kE pool none (some 5)=ps at *
  refine .inl ⟨fU pool,by rw[cE];lia,.inl ⟨fU ps,?_⟩⟩
  refine⟨cs,many,("*" : Str) :: ps,rfl,by lia,by lia,by lia,by simp,by simp;lia,jU ua VM,fun l2 g0 Ct=>?_⟩
  walk_at "q"
  refine⟨by lia,.inl ⟨jr _,jr _,?_⟩⟩
  rw[<- oD,e4]
  exact iR DI hm DJ ua (fun s oq=>(eJ.mp oq).elim (hs s) (g0 s)) (by simp;lia) h
 ·walk_at "q"
  rw[e4]
  exact iR DI hm DJ ua hs (by lia) h
theorem su:∀ ds Q,bU ds Q->gZ { nx:=fun _=>Q .sh .non,rt:=Q } (aP 6 ds):=by
 rintro ds Q ⟨ns,first,rfl,DI,h⟩
 obtain⟨w3,e3⟩:∃ w3,w3=du:=⟨_,rfl⟩
 unfold gZ
 rw[<- e3]
 walk_at "q"
 obtain⟨k,ek,k1,k2⟩:∃ k:Int,eK [D.int 4,D.int 8,D.int 20] (first / 20 % 3)=some (.int k)/\1<=k/\k<=20:=by
  have a:=ue (first / 20) (show(0:Int)<3 by decide)
  rcases (show first / 20 % 3=0\/first / 20 % 3=1\/first / 20 % 3=2 by lia) with e|e|e<;>rw[e]
  ·exact⟨4,rfl,by decide,by decide⟩
  ·exact⟨8,rfl,by decide,by decide⟩
  ·exact⟨20,rfl,by decide,by decide⟩
 refine⟨.int k,ek,?_⟩
 walk_at "q"
 have m0:=ue first (show 0<k by lia)
 generalize mj':1+first % k=many at *
 refine⟨by lia,?_⟩
 refine⟨ns,1,rfl,by decide,?_⟩
 generalize ns.getD _ 0=c1
 walk_at "q"
 refine⟨ns,2,rfl,by decide,?_⟩
 generalize ns.getD _ 0=c2
 walk_at "q"
 refine⟨c1,c2,rfl,fun pool DJ ua=>?_⟩
 walk_at "q"
 rw[rC,rC]
 have hc:=eE ns (some 6) (some 35)
 generalize kE ns (some 6) (some 35)=cells at *
 have GA:=eE pool none (some 5)
 have VM:∀ n∈kE pool none (some 5),n∈pool:=fun x hx=>JJ (JY hx)
 generalize kE pool none (some 5)=ps at *
 refine .inl ⟨cU ns,.inl ⟨fU pool,by rw[cE];lia,.inl ⟨fU ps,?_⟩⟩⟩
 refine⟨cells,many,("*" : Str) :: ps,rfl,by lia,by lia,by lia,by simp,by simp;lia,jU ua VM,fun l hs hl=>?_⟩
 walk_at "q"
 rw[e3]
 exact o_ DI (by lia) DJ ua hs (by lia) h
def rQ:WS :=
 (bI (gv (rp (pf (wB (de (rL "tuple") (ae 1)))) (rp (wB (av fR (de ky (ae 1)) (wC (.int 0)))) (pf (wB (de (rL "str") (av ck (ae 1) (wC (.int 0))))))))
 (eI (wC (.bl false)))
 bM)
 (bI (gv (rp (wB (av fR (av ck (ae 1) (wC (.int 0))) (wC (.str "some")))) (wB (av fR (av ck (ae 1) (wC (.int 0))) (wC (.str "all")))))
 (eI (jO (av fR (de ky (ae 1)) (wC (.int 3))) (jO (aY dI (ak (av ck (ae 1) (wC (.int 1))) bX)) (aY bF (ak (ae 0) (ak (av ck (ae 1) (wC (.int 2))) bX))))))
 bM)
 (bI (gv (wB (av fR (av ck (ae 1) (wC (.int 0))) (wC (.str "not"))))
 (eI (jO (av fR (de ky (ae 1)) (wC (.int 2))) (aY bF (ak (ae 0) (ak (av ck (ae 1) (wC (.int 1))) bX)))))
 bM)
 (bI (gv (rp (wB (av fR (av ck (ae 1) (wC (.int 0))) (wC (.str "and")))) (wB (av fR (av ck (ae 1) (wC (.int 0))) (wC (.str "or")))))
 (eI (jO (av fR (de ky (ae 1)) (wC (.int 2))) (aY cM (ak (ae 0) (ak (av ck (ae 1) (wC (.int 1))) bX)))))
 bM)
 (eI (wC (.bl false)))))))
def fQ:fF:=fun ds Q=>∃ (k:Int) (r:Rw),ds=[.int k,cv r]/\zk k r/\Q .sh (.bl true)
theorem xY (ds Q) (h:fQ ds Q):ds.length=["k", "thing"].length:=by obtain⟨_,_,rfl,_⟩:=h;rfl
theorem BK:∀ ds Q,fQ ds Q->rQ { nx:=fun _=>Q .sh .non,rt:=Q } (aP 2 ds):=by
 rintro ds Q ⟨k,r,rfl,hr,h⟩
 unfold rQ
 cases r with
 |st w d j =>
  obtain⟨hw,hd,h0,h1⟩:=hr
  rw[show cv (.st w d j)=.tup [.str w,.str d,.int j] from rfl]
  walk_at "q"
  refine R.F rfl ?_
  walk_at "q"
  refine R.F rfl ?_
  walk_at "q"
  refine R.F rfl ?_
  walk_at "q"
  have fin:∀ Z:Prop,(Z=True)->Z:=fun _ e=>e ▸ trivial
  refine R.D (fun e=>?_) fun e=>?_
  ·walk_at "q"
   refine R.T rfl ?_
   walk_at "q"
   refine⟨_,rfl,?_⟩
   walk_at "q"
   refine R.T (p_.mpr hd) ?_
   walk_at "q"
   refine⟨_,_,rfl,?_⟩
   rw[decide_eq_true ⟨h0,h1⟩]
   exact h
  ·walk_at "q"
   refine R.T (decide_eq_true (hw.resolve_left e)) ?_
   walk_at "q"
   refine R.T rfl ?_
   walk_at "q"
   refine⟨_,rfl,?_⟩
   walk_at "q"
   refine R.T (p_.mpr hd) ?_
   walk_at "q"
   refine⟨_,_,rfl,?_⟩
   rw[decide_eq_true ⟨h0,h1⟩]
   exact h
 |nt j =>
  obtain⟨h0,h1⟩:=hr
  rw[show cv (.nt j)=.tup [.str "not",.int j] from rfl]
  walk_at "q"
  refine R.F rfl ?_
  walk_at "q"
  refine R.F rfl ?_
  walk_at "q"
  refine R.F rfl ?_
  walk_at "q"
  refine R.F (decide_eq_false SN.1) ?_
  walk_at "q"
  refine R.F (decide_eq_false SN.2) ?_
  walk_at "q"
  refine R.T rfl ?_
  walk_at "q"
  refine⟨_,_,rfl,?_⟩
  rw[decide_eq_true ⟨h0,h1⟩]
  exact h
 |jn w ps =>
  obtain⟨hw,hl,hp⟩:=hr
  rw[show cv (.jn w ps)=.tup [.str w,.tup (ps.map .int)] from rfl]
  walk_at "q"
  refine R.F rfl ?_
  walk_at "q"
  refine R.F rfl ?_
  walk_at "q"
  refine R.F rfl ?_
  walk_at "q"
  refine R.F (decide_eq_false (Pw hw).1) ?_
  walk_at "q"
  refine R.F (decide_eq_false (Pw hw).2.1) ?_
  walk_at "q"
  refine R.F (decide_eq_false (Pw hw).2.2) ?_
  walk_at "q"
  have ha:(ps.all fun p=>decide (0<=p/\p<k))=true:=vS.mpr fun p h=>decide_eq_true (hp p h)
  refine R.D (fun e=>?_) fun e=>?_
  ·walk_at "q"
   refine R.T rfl ?_
   walk_at "q"
   refine⟨_,_,rfl,hl,?_⟩
   rw[ha]
   exact h
  ·walk_at "q"
   refine R.T (decide_eq_true (hw.resolve_left e)) ?_
   walk_at "q"
   refine R.T rfl ?_
   walk_at "q"
   refine⟨_,_,rfl,hl,?_⟩
   rw[ha]
   exact h
def jc:WS :=
 (bI (gv (rp (pf (wB (de (rL "list") (ae 0)))) (pf (wB (jo A5 A5 (wC (.int 1)) (de ky (ae 0)) (wC (.int 2000))))))
 (eI (wC (.bl false)))
 bM)
 (eI (de Dp (dq (tV (ae 0)) (gT 2 (eG (gN 0) (eG (gN 1) um))) oy (aY fQ (ak (ae 0) (ak (ae 1) bX))) 2 []))))
def cJ:fF:=fun ds Q=>∃ l:List Rw,ds=[.list (l.map cv)]/\iE l/\1<=l.length/\l.length<=2000/\Q .sh (.bl true)
theorem qR (ds Q) (h:cJ ds Q):ds.length=["thing"].length:=by obtain⟨_,rfl,_⟩:=h;rfl
theorem uR:∀ ds Q,cJ ds Q->jc { nx:=fun _=>Q .sh .non,rt:=Q } (aP 1 ds):=by
 rintro ds Q ⟨l,rfl,hs,h1,h2,h⟩
 unfold jc
 walk_at "q"
 refine R.F rfl ?_
 walk_at "q"
 refine R.T (decide_eq_true (by lia)) ?_
 walk_at "q"
 refine R.F (by rw[decide_eq_true (by lia)];rfl) ?_
 walk_at "q"
 refine aQ (fun _=>true) (fun _=>.bl true) (fun ρ=>∃ o o',ρ=[o,o']) _ _ _ ⟨_,_,rfl⟩ ?_ ?_
 ·rintro y hy ρ ⟨o,o',rfl⟩ N1 N2 _ h2
  obtain⟨i,hi⟩:=JA.mp hy
  unfold lW at hi
  rw[S6,kf] at hi
  cases e:l[i]? with
  |none=>rw[e] at hi;cases hi
  |some r =>
   rw[e] at hi
   cases hi
   walk_at "q"
   exact⟨_,_,rfl,hs i r e,.inl rfl,h2 _ ⟨_,_,rfl⟩ rfl⟩
 ·rw[gm]
  refine⟨(lW (l.map cv)).map fun _=>true,by rw[hJ];rfl,?_⟩
  rw[sN,show(lW (l.map cv)).all ((fun b=>b) ∘ fun _=>true)=true from vS.mpr fun _ _=>rfl]
  exact h
def e_:WS :=
 (gv (pf (wB (aY cJ (ak (ae 0) bX))))
 yO
 bM)
def aL:fF:=fun ds Q=>∃ l:List Rw,ds=[.list (l.map cv)]/\iE l/\1<=l.length/\l.length<=2000/\Q .sh .non
theorem lV (ds Q) (h:aL ds Q):ds.length=["thing"].length:=by obtain⟨_,rfl,_⟩:=h;rfl
theorem ph:∀ ds Q,aL ds Q->e_ { nx:=fun _=>Q .sh .non,rt:=Q } (aP 1 ds):=by
 rintro ds Q ⟨l,rfl,hs,h1,h2,h⟩
 unfold e_
 walk_at "q"
 refine⟨l,rfl,hs,h1,h2,?_⟩
 walk_at "q"
 exact h
def mU:WS :=
 (bI (Cr (aY aL (ak (ae 1) bX)))
 (eI (dq (gU (aY aZ (ak (ae 0) (ak (ae 1) bX)))) (gN 0) oy (aY bw (ak (ae 0) bX)) 1 [])))
def cT:fF:=fun ds Q=>∃ (many:Int) (l:List cS) (rs:List Rw),ds=[mD many l,.list (rs.map cv)]/\0<=many/\many<=20/\nr many l/\l.length<=1000/\iE rs/\1<=rs.length/\rs.length<=2000/\Q (.ow true) (.list ((df l rs).map fun t=>.list ((kH many t).map .int)))
theorem uZ (ds Q) (h:cT ds Q):ds.length=["m", "scroll"].length:=by obtain⟨_,_,_,rfl,_⟩:=h;rfl
theorem Ay:∀ ds Q,cT ds Q->mU { nx:=fun _=>Q .sh .non,rt:=Q } (aP 2 ds):=by
 rintro ds Q ⟨many,l,rs,rfl,m0,m1,cK,hz,hs,h1,hl,h⟩
 unfold mU
 walk_at "q"
 refine⟨rs,rfl,hs,h1,hl,?_⟩
 walk_at "q"
 refine⟨many,l,rs,rfl,m0,m1,cK,hz,hs,hl,?_⟩
 walk_at "q"
 refine jw (fun i out=>out=((df l rs).take i).map fun t=>.list ((kH many t).map .int)) (fun ρ=>∃ o,ρ=[o]) _ 0 [] _ _ ⟨_,rfl⟩ rfl ?_ ?_
 ·rintro j x hx ρ ⟨o,rfl⟩ out ho N1 N2 n2
  rw[FI] at ho n2
  rw[kf] at hx
  cases e:(df l rs)[j]? with
  |none=>rw[e] at hx;cases hx
  |some t =>
   rw[e] at hx
   cases hx
   walk_at "q"
   refine⟨many,t,rfl,?_⟩
   walk_at "q"
   exact⟨.inr rfl,n2 _ _ ⟨_,rfl⟩ (by rw[ho,BI,e,oD];rfl)⟩
 ·intro out ho
  rw[FI,List.nil_append,cE,FD] at ho
  rw[ho]
  exact h
def vM:WS :=
 (bI (Cr (aY aL (ak (ae 1) bX)))
 (bI (vW a_ (ak (ae 0) (ak (ae 2) bX)))
 (eI (av ck (av ck (aY aZ (ak (ae 0) (ak (ae 1) bX))) (de xi (wC (.int 1)))) (ae 2)))))
def dG(l:List cS)(rs:List Rw):Tr:=(df l rs).getD (rs.length-1) fun _=>false
theorem uU{l:List cS}{rs:List Rw}(h1:1<=rs.length)(f:Tr->D):eK ((df l rs).map f) (-1)=some (f (dG l rs)):=by
 have ic:rs≠[]:=by intro z;subst z;simp at h1
 obtain⟨a,r,rfl⟩:∃ a r,rs=a++[r]:=⟨rs.dropLast,rs.getLast ic,(List.dropLast_concat_getLast ic).symm⟩
 have e:dG l (a++[r])=iO l (df l a) r:=by
  unfold dG
  rw[mC,md,P7,Nat.add_sub_cancel,vx,ub (by rw[eQ];exact bP _),eQ,KL]
  rfl
 rw[e,mC,oD]
 exact YM _ _
def eO:fF:=fun ds Q=>∃ (many:Int) (l:List cS) (rs:List Rw) (s:Int),ds=[mD many l,.list (rs.map cv),.int s]/\0<=many/\many<=20/\nr many l/\l.length<=1000/\iE rs/\1<=rs.length/\rs.length<=2000/\((0<=s/\s<many)->Q .sh (.bl (dG l rs s)))/\(¬ (0<=s/\s<many)->Q (.ow false) (.str "NoState"))
theorem Bl (ds Q) (h:eO ds Q):ds.length=["m", "scroll", "state"].length:=by obtain⟨_,_,_,_,rfl,_⟩:=h;rfl
theorem GZ:∀ ds Q,eO ds Q->vM { nx:=fun _=>Q .sh .non,rt:=Q } (aP 3 ds):=by
 rintro ds Q ⟨many,l,rs,s,rfl,m0,m1,cK,hz,hs,h1,hl,k1,k2⟩
 unfold vM
 walk_at "q"
 refine⟨rs,rfl,hs,h1,hl,?_⟩
 walk_at "q"
 refine⟨many,l,s,rfl,fun a=>?_,fun a=>?_⟩
 ·walk_at "q"
  refine⟨many,l,rs,rfl,m0,m1,cK,hz,hs,hl,?_⟩
  walk_at "q"
  refine⟨_,uU h1 _,?_⟩
  unfold nv
  walk_at "q"
  refine⟨_,zP a.1 a.2 _,?_⟩
  exact k1 a
 ·walk_at "q"
  exact k2 a
def eZ:WS :=
 (bI (dE 3 (ng bX))
 (bI (FN 4 (vW eO (ak (ae 0) (ak (ae 1) (ak (ae 2) bX)))) (fun a=>[none,none,none,none,some (.xc a),none]) (fun a n=>(bI (dE 5 (IA 4 a (decide (n = "NoScroll") || (decide (n = "TooBig") || (decide (n = "NoDeed") || (decide (n = "NoMachine") || false))))))
 (kF 5 (dE 3 (ng (ak (IA 4 a (decide (n = "NoState"))) (ak (IA 4 a true) (ak (ae 5) bX)))))))))
 (eI (av fR (ae 3) (ng (ak (wC (.bl true)) (ak (wC (.bl true)) (ak (wC (.bl false)) bX))))))))
def bu:fF:=fun ds Q=>∃ (many:Int) (l:List cS) (rs:List Rw) (s:Int),ds=[mD many l,.list (rs.map cv),.int s]/\0<=many/\many<=20/\nr many l/\l.length<=1000/\iE rs/\1<=rs.length/\rs.length<=2000/\¬ (0<=s/\s<many)/\Q .sh (.bl true)
theorem lN (ds Q) (h:bu ds Q):ds.length=["_law_m", "_law_scroll_here", "_law_state"].length:=by obtain⟨_,_,_,_,rfl,_⟩:=h;rfl
theorem oN:∀ ds Q,bu ds Q->eZ { nx:=fun _=>Q .sh .non,rt:=Q } (aP 6 ds):=by
 rintro ds Q ⟨many,l,rs,s,rfl,m0,m1,cK,hz,hs,h1,hl,ns,h⟩
 unfold eZ
 walk_at "q"
 refine⟨many,l,rs,s,rfl,m0,m1,cK,hz,hs,h1,hl,fun z=>absurd z ns,fun _=>?_⟩
 walk_at "q"
 intro a
 have e:(decide (("NoState" : Str) = "NoScroll") || (decide (("NoState" : Str) = "TooBig") || (decide (("NoState" : Str) = "NoDeed") || (decide (("NoState" : Str) = "NoMachine") || false))))=false:=by decide +kernel
 rw[e]
 refine⟨by decide +kernel,by decide +kernel,?_⟩
 rw[show jS (.tup [.bl true,.bl true,.bl false]) (.tup [.bl true,.bl true,.bl false])=true by decide +kernel]
 exact h
def dF:WS :=
 (bI (dE 3 (mE bX))
 (bI (kF 2 (xl (oF (ae 2)) (gN 4)
 (bI (dE 5 (zj eO (ak (ae 0) (ak (ae 1) (ak (ae 4) bX)))))
 (bI (gv (pf (wB (de (rL "bool") (ae 5))))
 (eI (wC .non))
 bM)
 (gv (R6 (ae 5))
 (kF 4 (xo (vw 3) (ae 4)))
 bM)))))
 (qI 3)))
def aK:fF:=fun ds Q=>∃ (many:Int) (l:List cS) (rs:List Rw) (ss:List Int),ds=[mD many l,.list (rs.map cv),.list (ss.map .int)]/\0<=many/\many<=20/\nr many l/\l.length<=1000/\iE rs/\1<=rs.length/\rs.length<=2000/\(∀ s∈ss,0<=s/\s<many)/\ss.length<=1000/\Q (.ow true) (.list ((ss.filter (dG l rs)).map .int))
theorem jE (ds Q) (h:aK ds Q):ds.length=["_law_m", "_law_scroll_here", "_law_states"].length:=by obtain⟨_,_,_,_,rfl,_⟩:=h;rfl
theorem lR:∀ ds Q,aK ds Q->dF { nx:=fun _=>Q .sh .non,rt:=Q } (aP 6 ds):=by
 rintro ds Q ⟨many,l,rs,ss,rfl,m0,m1,cK,hz,hs,h1,hl,oz,kP,h⟩
 unfold dF
 walk_at "q"
 refine ie _ (fun i ρ=>∃ (o4 o5:Option Sl),ρ=[some (.sh (mD many l)),some (.sh (.list (rs.map cv))),some (.sh (.list (ss.map .int))),some (.ow true (.list (((ss.take i).filter (dG l rs)).map .int))),o4,o5]) ⟨_,_,rfl⟩ ?_ ?_
 ·rintro i x ρ hx ⟨o4,o5,rfl⟩ N hN
  obtain⟨c,rfl,hc,tk⟩:=int_at hx
  have fl:=S5 (dG l rs) (ss.take i)
  rw[mG] at fl
  walk_at "q"
  refine⟨many,l,rs,c,rfl,m0,m1,cK,hz,hs,h1,hl,fun _=>?_,fun z=>absurd (oz c hc) z⟩
  walk_at "q"
  refine R.F (by decide) ?_
  walk_at "q"
  cases e:dG l rs c with
  |true =>
   walk_at "q"
   refine⟨by lia,hN _ ⟨some (.sh (.int c)),some (.sh (.bl true)),?_⟩⟩
   rw[tk,Tc,List.filter_cons_of_pos e]
   simp
  |false =>
   walk_at "q"
   refine hN _ ⟨some (.sh (.int c)),some (.sh (.bl false)),?_⟩
   rw[tk,Tc,List.filter_cons_of_neg (by rw[e];decide)]
   simp
 ·rintro ρ ⟨o4,o5,rfl⟩
  rw[cE,FD]
  walk_at "q"
  exact h
def mq:WS :=
 (bI (dE 13 (aY cT (ak (ae 5) (ak (ae 2) bX))))
 (eI (jO (av fR (ae 13) (ae 12)) (jO (av fR (ae 9) (ae 12)) (av fR (aY aK (ak (ae 1) (ak (ae 2) (ak (ae 7) bX)))) (ae 10))))))
def wj:WS :=
 (bI (xo (Oy (vw 13) (wC (.int 0))) (wC (.int 0)))
 (bI (wV (Oy (vw 13) (de xi (wC (.int 1)))))
 mq))
def l_:WS :=
 (bI (dE 13 (aY cT (ak (ae 5) (ak (ae 6) bX))))
 (bI (gv (rp (wB (av rq (VD (ae 13) gM (jJ (de xi (wC (.int 1))))) (ae 12))) (wB (av rq (av ck (ae 13) (de xi (wC (.int 1)))) (dq (fV (ae 3)) (gN 0) (wB (av (sC true) (ae 0) (av ck (ae 1) (de xi (wC (.int 1)))))) (ae 0) 1 [12]))))
 (eI (wC (.bl false)))
 bM)
 wj))
def lX:WS :=
 (bI (dE 12 (dq (gU (ae 9)) (gN 0) oy (de uK (ae 0)) 1 []))
 (bI (xo (vw 6) (ng (ak (wC (.str "not")) (ak (av y3 (de ky (ae 6)) (wC (.int 1))) bX))))
 l_))
def mF:WS :=
 (bI (dE 11 (av gV (ae 4) (av R7 (wC (.int 10)) (wC (.int 30)))))
 (bI (kF 3 (gv (pf (wB (aY bu (ak (ae 5) (ak (ae 6) (ak (av ck (mE (ak (de xi (wC (.int 1))) (ak (ae 3) (ak (av y3 (wC (.int 0)) (ae 3)) (ak (av i5 (ae 3) (ae 11)) (ak (av y3 (de xi (wC (.int 1))) (ae 11)) bX)))))) (av gV (av oa (ae 4) (wC (.int 2))) (wC (.int 5)))) bX))))))
 (eI (wC (.bl false)))
 bM))
 lX))
def mH:WS :=
 (bI (dE 10 (dq (gU (ae 7)) (gN 0) (wB (av (sC false) (ae 0) (av ck (ae 1) (de xi (wC (.int 1)))))) (ae 0) 1 [9]))
 (bI (gv (rp (U0 (wB (av fR (av gV (ae 4) (wC (.int 2))) (wC (.int 1)))) (wB (av rq (ae 8) (ae 10)))) (wB (av rq (aY aK (ak (ae 5) (ak (ae 6) (ak (ae 7) bX)))) (ae 10))))
 (eI (wC (.bl false)))
 bM)
 mF))
def rH:WS :=
 (bI (dE 9 (aY cT (ak (ae 5) (ak (ae 6) bX))))
 (bI (gv (rp (pf (wB (aY cN (ak (ae 1) (ak (ae 2) (ak (ae 9) bX)))))) (rp (wB (av rq (ae 5) (ae 1))) (wB (av rq (ae 6) (ae 2)))))
 (eI (wC (.bl false)))
 bM)
 mH))
def rP:WS :=
 (bI (gv (wB (av fR (av gV (ae 4) (wC (.int 2))) (wC (.int 1))))
 (dE 8 (aY aK (ak (ae 5) (ak (ae 6) (ak (ae 7) bX)))))
 bM)
 rH)
def qM:WS :=
 (bI (dE 7 (de je (mE (ak (wC (.int 0)) (ak (av y3 (ae 3) (wC (.int 1))) (ak (av gV (av oa (ae 4) (wC (.int 10))) (ae 3)) (ak (av gV (av oa (ae 4) (wC (.int 200))) (ae 3)) bX)))))))
 (bI (dE 8 (wC .non))
 rP))
def Eh:WS :=
 (bI (Fw 1 2 (VB (aY bU (ak (ae 0) (ak (aY aA (ak (ae 0) (ak (wC (.int 0)) bX))) bX)))))
 (bI (dE 3 (av ck (ae 1) (wC (.int 0))))
 (bI (dE 4 (aY aA (ak (ae 0) (ak (wC (.int 4)) bX))))
 (bI (kF 3 (dE 5 (ng (ak (ae 3) (ak (de uK (av ck (ae 1) (wC (.int 1)))) bX)))))
 (bI (dE 6 (de uK (ae 2)))
 qM)))))
abbrev II:fF:=Z_
theorem Gv (ds Q) (h:II ds Q):ds.length=["_law_script"].length:=by obtain⟨_,rfl,_⟩:=h;rfl
theorem Kz{k:Int}{r:Rw}(h:zk k r):cy 11 (cv r)=true:=by
 cases r with
 |st w d j =>
  obtain⟨hw,hd,_⟩:=h
  have:=hd.ok
  rcases hw with rfl|rfl<;>simp[cv,cy,this]<;>decide +kernel
 |nt j=>simp[cv,cy];decide +kernel
 |jn w ps =>
  obtain⟨hw,_,_⟩:=h
  rcases hw with rfl|rfl<;>simp[cv,cy,sN]<;>decide +kernel
theorem Ec{rs:List Rw}(sc:iE rs):cy 12 (.list (rs.map cv))=true:=by
 simp only[cy,sN,vS]
 intro r hr
 obtain⟨i,hi⟩:=JA.mp hr
 exact Kz (sc i r hi)
theorem Jp:∀ l:List Int,mB (l.map D.int)=true
 |[]=>rfl
 |x :: l=>by simp[mB,Jp l,D.nb]
theorem JP{rs:List Rw}:jS (.list (rs.map cv)) (.list (rs.map cv))=true:=eq_self (show D.nb (.list (rs.map cv))=true from xU rs)
theorem pI(many:Int)(ts:List Tr):cy 12 (.list (ts.map (gL many)))=true:=by
 simp only[cy,sN,vS]
 intro t _
 simp[gL,cy,sN]
theorem Ef(many:Int):∀ ts:List Tr,mB (ts.map (gL many))=true
 |[]=>rfl
 |t :: ts=>by simp[mB,Ef many ts,gL,D.nb,Jp]
theorem Al(many:Int)(ts:List Tr):jS (.list (ts.map (gL many))) (.list (ts.map (gL many)))=true:=eq_self (show D.nb (.list (ts.map (gL many)))=true from Ef many ts)
theorem Ku(n:Nat):mn (n+1) 0=some 0:=by
 unfold mn
 rw[if_pos (rX 0),if_pos (by lia)]
 rfl
theorem LK(n:Nat):mn (n+1) (-1)=some n:=by
 unfold mn
 rw[if_neg (by lia),if_pos (by lia)]
 congr 1
 lia
theorem Ia(xs:List D)(x:D):kE (xs++[x]) none (some (-1))=xs:=by
 have e:HT.bE (xs++[x]).length (xs++[x]).length (some (-1))=xs.length:=by
  simp only[HT.bE,md,P7]
  rw[if_pos (by lia)]
  lia
 unfold kE
 rw[e]
 show((xs++[x]).drop 0).take (xs.length-0)=xs
 simp
theorem CP{Q:Md->D->Prop}{ns:List Int}{many turn:Int}{l:List cS}{rs:List Rw}{ss:List Int}{o6 o8 IJ o13:Option Sl}(hm:1<=many/\many<=20)(cK:nr many l)(hl:l.length<=1000)(sc:iE rs)(r1:1<=rs.length)(r2:rs.length<=1000)(i6:∀ s∈ss,0<=s/\s<many)(kP:ss.length<=1000)(h:∀ m,Q m (.bl true)):mq { nx:=fun _=>Q .sh .non,rt:=Q } [some (.sh (.list (ns.map .int))),some (.sh (.tup [.int many,.list (l.map fq)])),some (.sh (.list (rs.map cv))),some (.sh (.int many)),some (.sh (.int turn)),some (.ow true (.tup [.int many,.list (l.map fq)])),o6,some (.ow true (.list (ss.map .int))),o8,some (.ow true (.list ((df l rs).map (gL many)))),some (.ow true (.list ((ss.filter (dG l rs)).map .int))),IJ,some (.ow true (.list ((df l rs).map (gL many)))),o13]:=by
 unfold mq
 walk_at "q"
 refine⟨many,l,rs,rfl,by lia,by lia,cK,hl,sc,r1,by lia,?_⟩
 rw[show(df l rs).map (fun t=>D.list ((kH many t).map .int))=(df l rs).map (gL many) from rfl]
 walk_at "q"
 refine⟨pI _ _,pI _ _,?_⟩
 rw[Al]
 walk_at "q"
 refine⟨pI _ _,pI _ _,?_⟩
 rw[Al]
 walk_at "q"
 refine⟨many,l,rs,ss,rfl,by lia,by lia,cK,hl,sc,r1,by lia,i6,kP,?_⟩
 walk_at "q"
 refine⟨dD _,dD _,?_⟩
 rw[j_]
 exact h _
theorem BV{Q:Md->D->Prop}{ns:List Int}{many turn:Int}{l:List cS}{rs:List Rw}{ss:List Int}{o8 IJ:Option Sl}(hm:1<=many/\many<=20)(cK:nr many l)(hl:l.length<=1000)(sc:iE rs)(r1:1<=rs.length)(r2:rs.length<=1000)(i6:∀ s∈ss,0<=s/\s<many)(kP:ss.length<=1000)(h:∀ m,Q m (.bl true)):l_ { nx:=fun _=>Q .sh .non,rt:=Q } [some (.sh (.list (ns.map .int))),some (.sh (.tup [.int many,.list (l.map fq)])),some (.sh (.list (rs.map cv))),some (.sh (.int many)),some (.sh (.int turn)),some (.ow true (.tup [.int many,.list (l.map fq)])),some (.ow true (.list ((rs++[Rw.nt (((rs.length:Nat):Int)-1)]).map cv))),some (.ow true (.list (ss.map .int))),o8,some (.ow true (.list ((df l rs).map (gL many)))),some (.ow true (.list ((ss.filter (dG l rs)).map .int))),IJ,some (.ow true (.list ((df l rs).map (gL many)))),none]:=by
 obtain⟨w20,VN⟩:∃ w20,w20=mq:=⟨_,rfl⟩
 unfold l_ wj
 rw[<- VN]
 walk_at "q"
 have sc2:iE (rs++[Rw.nt (((rs.length:Nat):Int)-1)]):=sc.app ⟨by lia,by lia⟩
 refine⟨many,l,_,rfl,by lia,by lia,cK,hl,sc2,by simp,by simp;lia,?_⟩
 have eh:df l (rs++[Rw.nt (((rs.length:Nat):Int)-1)])=df l rs++[fun s=>!(dG l rs s)]:=by
  rw[mC]
  have:(((rs.length:Nat):Int)-1).toNat=rs.length-1:=by lia
  simp only[iO,this]
  rfl
 rw[show(df l (rs++[Rw.nt (((rs.length:Nat):Int)-1)])).map (fun t=>D.list ((kH many t).map .int))=(df l rs).map (gL many)++[.list ((kH many fun s=>!(dG l rs s)).map .int)] by rw[eh,oD];rfl]
 walk_at "q"
 rw[show kE ((df l rs).map (gL many)++[D.list ((kH many fun s=>!(dG l rs s)).map .int)]) none (some (-1))=(df l rs).map (gL many) from Ia _ _]
 refine⟨pI _ _,pI _ _,R.F (by rw[Al];rfl) ?_⟩
 walk_at "q"
 refine⟨_,YM _ _,?_⟩
 walk_at "q"
 refine⟨by lia,by lia,?_⟩
 refine aQ (DH fun s=>!(dG l rs s)) id (fun ρ=>∃ o,ρ=[o,some (.sh (.list ((df l rs).map (gL many))))]) _ _ _ ⟨_,rfl⟩ ?_ ?_
 ·rintro y hy ρ ⟨o,rfl⟩ M1 M2 m1 m2
  obtain⟨j,hj,rfl⟩:=dP.mp hy
  have hj:=nI.mp hj
  walk_at "q"
  refine⟨.list ((kH many (dG l rs)).map .int),uU r1 (gL many),?_⟩
  walk_at "q"
  refine⟨rfl,d_ _,?_⟩
  rw[vy (by lia) (by lia)]
  exact gq (fun e=>⟨.inl rfl,m2 _ ⟨_,rfl⟩ e⟩) fun e=>m1 _ ⟨_,rfl⟩ e
 rw[jL,gk]
 refine⟨dD _,dD _,R.F (by rw[show(cI many.toNat).filter (fun s=>!(dG l rs s))=kH many fun s=>!(dG l rs s) from rfl,j_];rfl) ?_⟩
 walk_at "q"
 obtain⟨t0,ts,et⟩:∃ t0 ts,df l rs=t0 :: ts:=by
  cases e:df l rs with
  |nil=>have:=eQ l rs;rw[e] at this;simp at this;lia
  |cons t ts=>exact⟨t,ts,rfl⟩
 have hlen:=eQ l rs
 refine⟨0,.list ((kH many t0).map .int),by rw[md,cE,hlen];exact Ku _,by rw[et];rfl,rfl,?_⟩
 walk_at "q"
 have wl:=S5 t0 (cI many.toNat)
 rw[yt] at wl
 refine⟨by unfold kH;lia,rs.length,.list ((kH many fun s=>!(dG l rs s)).map .int),by rw[List.length_set,md,cE,hlen];exact LK _,?_,rfl,?_⟩
 ·rw[P8 (by lia),ub (by rw[cE,hlen];exact bP _),cE,hlen,KL]
  rfl
 walk_at "q"
 rw[VN]
 exact CP hm cK hl sc r1 r2 i6 kP h
theorem By{Q:Md->D->Prop}{ns:List Int}{many turn:Int}{l:List cS}{rs:List Rw}{ss:List Int}{o8 IJ:Option Sl}(hm:1<=many/\many<=20)(cK:nr many l)(hl:l.length<=1000)(sc:iE rs)(r1:1<=rs.length)(r2:rs.length<=1000)(i6:∀ s∈ss,0<=s/\s<many)(kP:ss.length<=1000)(h:∀ m,Q m (.bl true)):lX { nx:=fun _=>Q .sh .non,rt:=Q } [some (.sh (.list (ns.map .int))),some (.sh (.tup [.int many,.list (l.map fq)])),some (.sh (.list (rs.map cv))),some (.sh (.int many)),some (.sh (.int turn)),some (.ow true (.tup [.int many,.list (l.map fq)])),some (.ow true (.list (rs.map cv))),some (.ow true (.list (ss.map .int))),o8,some (.ow true (.list ((df l rs).map (gL many)))),some (.ow true (.list ((ss.filter (dG l rs)).map .int))),IJ,none,none]:=by
 obtain⟨w16,VP⟩:∃ w16,w16=l_:=⟨_,rfl⟩
 unfold lX
 rw[<- VP]
 walk_at "q"
 refine aQ (fun _=>true) id (fun ρ=>∃ o,ρ=[o]) _ _ _ ⟨_,rfl⟩ ?_ ?_
 ·rintro y hy ρ ⟨o,rfl⟩ M1 M2 m1 m2
  obtain⟨q,hq,rfl⟩:=dP.mp hy
  rw[show gL many q=.list ((kH many q).map .int) from rfl] at m2 ⊢
  walk_at "q"
  exact .inl ⟨cU _,.inr rfl,m2 _ ⟨_,rfl⟩ rfl⟩
 rw[S8.mpr fun _ _=>rfl,List.map_id]
 refine⟨by lia,?_⟩
 rw[show rs.map cv++[D.tup [.str "not",.int (((rs.length:Nat):Int)-1)]]=(rs++[Rw.nt (((rs.length:Nat):Int)-1)]).map cv by rw[oD];rfl,VP]
 exact BV hm cK hl sc r1 r2 i6 kP h
theorem wY{Q:Md->D->Prop}{ns:List Int}{many turn:Int}{l:List cS}{rs:List Rw}{ss:List Int}{o8:Option Sl}(hm:1<=many/\many<=20)(cK:nr many l)(hl:l.length<=1000)(sc:iE rs)(r1:1<=rs.length)(r2:rs.length<=1000)(i6:∀ s∈ss,0<=s/\s<many)(kP:ss.length<=1000)(h:∀ m,Q m (.bl true)):mF { nx:=fun _=>Q .sh .non,rt:=Q } [some (.sh (.list (ns.map .int))),some (.sh (.tup [.int many,.list (l.map fq)])),some (.sh (.list (rs.map cv))),some (.sh (.int many)),some (.sh (.int turn)),some (.ow true (.tup [.int many,.list (l.map fq)])),some (.ow true (.list (rs.map cv))),some (.ow true (.list (ss.map .int))),o8,some (.ow true (.list ((df l rs).map (gL many)))),some (.ow true (.list ((ss.filter (dG l rs)).map .int))),none,none,none]:=by
 obtain⟨w14,VQ⟩:∃ w14,w14=lX:=⟨_,rfl⟩
 unfold mF
 rw[<- VQ]
 walk_at "q"
 have cp:FY 10 30:=by unfold FY;decide
 have p1:=oj turn (show(1000000000000000000000000000000:Int)≠0 by decide)
 have k5:=ue (turn / 2) (show(0:Int)<5 by decide)
 obtain⟨w,ew,hw⟩:∃ w:Int,eK [D.int (-1),D.int many,D.int (0-many),D.int (many+turn % 1000000000000000000000000000000),D.int (-1-turn % 1000000000000000000000000000000)] (turn / 2 % 5)=some (.int w)/\¬ (0<=w/\w<many):=by
  rcases (show turn / 2 % 5=0\/turn / 2 % 5=1\/turn / 2 % 5=2\/turn / 2 % 5=3\/turn / 2 % 5=4 by lia) with e|e|e|e|e<;>rw[e]<;>exact⟨_,rfl,by lia⟩
 refine⟨cp,_,ew,?_⟩
 walk_at "q"
 refine⟨many,l,rs,w,rfl,by lia,by lia,cK,hl,sc,r1,by lia,hw,?_⟩
 walk_at "q"
 rw[VQ]
 exact By hm cK hl sc r1 r2 i6 kP h
theorem CN{Q:Md->D->Prop}{ns:List Int}{many turn:Int}{l:List cS}{rs:List Rw}{ss:List Int}{sl:Sl}(hm:1<=many/\many<=20)(cK:nr many l)(hl:l.length<=1000)(sc:iE rs)(r1:1<=rs.length)(r2:rs.length<=1000)(i6:∀ s∈ss,0<=s/\s<many)(kP:ss.length<=1000)(h:∀ m,Q m (.bl true))(ho:turn % 2=1->sl=.ow true (.list ((ss.filter (dG l rs)).map .int))):mH { nx:=fun _=>Q .sh .non,rt:=Q } [some (.sh (.list (ns.map .int))),some (.sh (.tup [.int many,.list (l.map fq)])),some (.sh (.list (rs.map cv))),some (.sh (.int many)),some (.sh (.int turn)),some (.ow true (.tup [.int many,.list (l.map fq)])),some (.ow true (.list (rs.map cv))),some (.ow true (.list (ss.map .int))),some sl,some (.ow true (.list ((df l rs).map (gL many)))),none,none,none,none]:=by
 obtain⟨w12,SQ⟩:∃ w12,w12=mF:=⟨_,rfl⟩
 unfold mH
 rw[<- SQ]
 walk_at "q"
 refine aQ (DH (dG l rs)) id (fun ρ=>∃ o,ρ=[o,some (.sh (.list ((df l rs).map (gL many))))]) _ _ _ ⟨_,rfl⟩ ?_ ?_
 ·rintro y hy ρ ⟨o,rfl⟩ M1 M2 m1 m2
  obtain⟨q,hq,rfl⟩:=dP.mp hy
  walk_at "q"
  refine⟨.list ((kH many (dG l rs)).map .int),uU r1 (gL many),?_⟩
  walk_at "q"
  refine⟨rfl,d_ _,?_⟩
  rw[vy (i6 q hq).1 (i6 q hq).2]
  exact gq (fun e=>⟨.inl rfl,m2 _ ⟨_,rfl⟩ e⟩) fun e=>m1 _ ⟨_,rfl⟩ e
 rw[gk]
 refine R.D (fun e=>?_) fun e=>?_
 ·walk_at "q"
  rw[ho e]
  walk_at "q"
  refine⟨dD _,dD _,R.F (by rw[j_];rfl) ?_⟩
  walk_at "q"
  refine⟨many,l,rs,ss,rfl,by lia,by lia,cK,hl,sc,r1,by lia,i6,kP,?_⟩
  walk_at "q"
  refine⟨dD _,dD _,R.F (by rw[j_];rfl) ?_⟩
  walk_at "q"
  rw[SQ]
  exact wY hm cK hl sc r1 r2 i6 kP h
 ·walk_at "q"
  refine⟨many,l,rs,ss,rfl,by lia,by lia,cK,hl,sc,r1,by lia,i6,kP,?_⟩
  walk_at "q"
  refine⟨dD _,dD _,R.F (by rw[j_];rfl) ?_⟩
  walk_at "q"
  rw[SQ]
  exact wY hm cK hl sc r1 r2 i6 kP h
theorem zp{Q:Md->D->Prop}{ns:List Int}{many turn:Int}{l:List cS}{rs:List Rw}{ss:List Int}{sl:Sl}(hm:1<=many/\many<=20)(cK:nr many l)(hl:l.length<=1000)(sc:iE rs)(r1:1<=rs.length)(r2:rs.length<=1000)(i6:∀ s∈ss,0<=s/\s<many)(kP:ss.length<=1000)(h:∀ m,Q m (.bl true))(ho:turn % 2=1->sl=.ow true (.list ((ss.filter (dG l rs)).map .int))):rH { nx:=fun _=>Q .sh .non,rt:=Q } [some (.sh (.list (ns.map .int))),some (.sh (.tup [.int many,.list (l.map fq)])),some (.sh (.list (rs.map cv))),some (.sh (.int many)),some (.sh (.int turn)),some (.ow true (.tup [.int many,.list (l.map fq)])),some (.ow true (.list (rs.map cv))),some (.ow true (.list (ss.map .int))),some sl,none,none,none,none,none]:=by
 obtain⟨w10,VR⟩:∃ w10,w10=mH:=⟨_,rfl⟩
 unfold rH
 rw[<- VR]
 walk_at "q"
 refine⟨many,l,rs,rfl,by lia,by lia,cK,hl,sc,r1,by lia,?_⟩
 rw[show(df l rs).map (fun t=>D.list ((kH many t).map .int))=(df l rs).map (gL many) from rfl]
 walk_at "q"
 refine⟨many,l,rs,rfl,by lia,cK,hl,sc,by lia,?_⟩
 walk_at "q"
 refine⟨aS' 9 cK,aS' 9 cK,R.F (by rw[show jS (.tup [.int many,.list (l.map fq)]) (.tup [.int many,.list (l.map fq)])=true from eq_self (jm' _ _)];rfl) ?_⟩
 walk_at "q"
 refine⟨Ec sc,Ec sc,R.F (by rw[JP];rfl) ?_⟩
 walk_at "q"
 rw[VR]
 exact CN hm cK hl sc r1 r2 i6 kP h ho
theorem G_{Q:Md->D->Prop}{ns:List Int}{many turn:Int}{l:List cS}{rs:List Rw}{ss:List Int}(hm:1<=many/\many<=20)(cK:nr many l)(hl:l.length<=1000)(sc:iE rs)(r1:1<=rs.length)(r2:rs.length<=1000)(i6:∀ s∈ss,0<=s/\s<many)(kP:ss.length<=1000)(h:∀ m,Q m (.bl true)):rP { nx:=fun _=>Q .sh .non,rt:=Q } [some (.sh (.list (ns.map .int))),some (.sh (.tup [.int many,.list (l.map fq)])),some (.sh (.list (rs.map cv))),some (.sh (.int many)),some (.sh (.int turn)),some (.ow true (.tup [.int many,.list (l.map fq)])),some (.ow true (.list (rs.map cv))),some (.ow true (.list (ss.map .int))),some (.sh .non),none,none,none,none,none]:=by
 obtain⟨w8,e8⟩:∃ w8,w8=rH:=⟨_,rfl⟩
 unfold rP
 rw[<- e8]
 walk_at "q"
 refine R.D (fun e=>?_) fun e=>?_
 ·walk_at "q"
  refine⟨many,l,rs,ss,rfl,by lia,by lia,cK,hl,sc,r1,by lia,i6,kP,?_⟩
  walk_at "q"
  rw[e8]
  exact zp hm cK hl sc r1 r2 i6 kP h fun _=>rfl
 ·walk_at "q"
  rw[e8]
  exact zp hm cK hl sc r1 r2 i6 kP h fun z=>absurd z e
theorem Ei{Q:Md->D->Prop}{ns:List Int}{many turn:Int}{l:List cS}{rs:List Rw}(hm:1<=many/\many<=20)(cK:nr many l)(hl:l.length<=1000)(sc:iE rs)(r1:1<=rs.length)(r2:rs.length<=1000)(h:∀ m,Q m (.bl true)):qM { nx:=fun _=>Q .sh .non,rt:=Q } [some (.sh (.list (ns.map .int))),some (.sh (.tup [.int many,.list (l.map fq)])),some (.sh (.list (rs.map cv))),some (.sh (.int many)),some (.sh (.int turn)),some (.ow true (.tup [.int many,.list (l.map fq)])),some (.ow true (.list (rs.map cv))),none,none,none,none,none,none,none]:=by
 obtain⟨w7,e7⟩:∃ w7,w7=rP:=⟨_,rfl⟩
 unfold qM
 rw[<- e7]
 walk_at "q"
 have a1:=ue (turn / 10) (show 0<many by lia)
 have a2:=ue (turn / 200) (show 0<many by lia)
 generalize turn / 10 % many=x1 at *
 generalize turn / 200 % many=x2 at *
 refine⟨by lia,by lia,[.inl 0,.inl (many-1),.inl x1,.inl x2],true,rfl,(by simp),fun k hk=>?_,fun ms nd mm pw=>?_⟩
 ·simp only[dA,xE,or_false] at hk
  rcases hk with rfl|rfl|rfl|rfl<;>rfl
 ·obtain⟨ss,es,hs⟩:∃ ss:List Int,ms=ss.map (fun x=>(Sum.inl x:Key))/\∀ s∈ss,0<=s/\s<many:=aU' fun k hk=>by
   have:=(mm k).mp hk
   simp only[dA,xE,or_false] at this
   rcases this with rfl|rfl|rfl|rfl
   ·exact⟨_,rfl,by lia⟩
   ·exact⟨_,rfl,by lia⟩
   ·exact⟨_,rfl,a1⟩
   ·exact⟨_,rfl,a2⟩
  have hlen:ms.length<=4:=by
   have:=jf (m:=[(Sum.inl 0:Key),.inl (many-1),.inl x1,.inl x2]) nd fun k hk=>(mm k).mp hk
   simpa using this
  subst es
  rw[show(ss.map fun x=>(Sum.inl x:Key)).map px=ss.map .int by rw[hJ];rfl,e7]
  exact G_ hm cK hl sc r1 r2 hs (by simp at hlen;lia) h
theorem Ke:∀ ds Q,II ds Q->Eh { nx:=fun _=>Q .sh .non,rt:=Q } (aP 14 ds):=by
 rintro ds Q ⟨ns,rfl,hn,h⟩
 obtain⟨w5,e5⟩:∃ w5,w5=qM:=⟨_,rfl⟩
 unfold Eh
 rw[<- e5]
 walk_at "q"
 refine⟨ns,0,rfl,by decide,?_⟩
 walk_at "q"
 refine⟨ns,_,rfl,hn,fun many l rs m1 m2 cK hl sc r1 r2=>?_⟩
 unfold mD
 walk_at "q"
 refine⟨ns,4,rfl,by decide,?_⟩
 generalize ns.getD _ 0=turn
 walk_at "q"
 refine .inl ⟨jr _,?_⟩
 refine .inl ⟨wg _,?_⟩
 rw[e5]
 exact Ei ⟨m1,m2⟩ cK hl sc r1 r2 h
def top(i:Nat):Stmt:=PySem.Challenge.pw_kinlook_k20_where_it_holds.main.body.getD i (.Pass ⟨0,0,0,0⟩)
abbrev dW:Stmt:=top 4
abbrev pJ:List Str:=["thing"]
abbrev fO:Stmt:=top 5
abbrev xZ:List Str:=["thing"]
abbrev dM:Stmt:=top 14
abbrev vB:List Str:=["thing"]
abbrev aR:Stmt:=top 15
abbrev iH:List Str:=["m", "state"]
abbrev fH:Stmt:=top 16
abbrev yx:List Str:=["m", "ways", "start", "deed", "end"]
abbrev dJ:Stmt:=top 20
abbrev vg:List Str:=["k", "thing"]
abbrev cB:Stmt:=top 21
abbrev lG:List Str:=["k", "thing"]
abbrev iC:Stmt:=top 22
abbrev z9:List Str:=["k", "thing"]
abbrev cz:Stmt:=top 23
abbrev lD:List Str:=["thing"]
abbrev bJ:Stmt:=top 24
abbrev mW:List Str:=["thing"]
abbrev bD:Stmt:=top 25
abbrev eU:List Str:=["ways", "truths", "row", "state", "ends"]
abbrev cG:Stmt:=top 26
abbrev kY:List Str:=["m", "scroll", "ways", "truths", "row"]
abbrev bh:Stmt:=top 27
abbrev gW:List Str:=["truth"]
abbrev dU:Stmt:=top 28
abbrev pO:List Str:=["m", "scroll"]
abbrev fC:Stmt:=top 29
abbrev vZ:List Str:=["m", "scroll", "state"]
abbrev bL:Stmt:=top 31
abbrev n6:List Str:=["_law_script", "_law_k"]
abbrev bA:Stmt:=top 32
abbrev gA:List Str:=["_law_cell", "_law_turn", "_law_letters", "_law_size", "_law_places", "_law_k", "_law_word", "_law_at", "_law_found", "_law_sign"]
abbrev cO:Stmt:=top 33
abbrev rE:List Str:=["_law_cells", "_law_many", "_law_deeds_here", "_law_found", "_law_k", "_law_number", "_law_deed"]
abbrev dH:Stmt:=top 34
abbrev uO:List Str:=["_law_cell", "_law_k", "_law_names", "_law_number", "_law_more", "_law_j", "_law_way", "_law_parts", "_law_i"]
abbrev bB:Stmt:=top 35
abbrev iK:List Str:=["_law_cells", "_law_names"]
abbrev cR:Stmt:=top 36
abbrev rB:List Str:=["_law_found"]
abbrev dO:Stmt:=top 37
abbrev vz:List Str:=["_law_m", "_law_found", "_law_p", "_law_deed", "_law_r"]
abbrev bf:Stmt:=top 38
abbrev dC:List Str:=["_law_row_here", "_law_state", "_law_out_here", "_law_lists"]
abbrev bO:Stmt:=top 39
abbrev iu:List Str:=["_law_m", "_law_scroll_here", "_law_found", "_law_out_here", "_law_row_here", "_law_states"]
abbrev bK:Stmt:=top 40
abbrev nZ:List Str:=["_law_m", "_law_scroll_here", "_law_state", "_law_kinds", "e", "_law_other"]
abbrev aX:Stmt:=top 41
abbrev jM:List Str:=["_law_m", "_law_scroll_here", "_law_states", "_law_found", "_law_state", "_law_truth"]
abbrev bz:Stmt:=top 42
abbrev fW:List Str:=["_law_script", "_law_first", "_law_many", "_law_pool", "_law_steps_here", "_law_cells"]
abbrev lQ:Stmt:=top 43
abbrev wz:List Str:=["_law_script", "_law_m", "_law_scroll_here", "_law_many", "_law_turn", "_law_handed", "_law_listed", "_law_states", "_law_ahead", "_law_found", "_law_due", "_law_far", "_law_kept", "_law_again"]
abbrev rn:List Str:=["NoState"]
structure Txt(K:PySem.W.Frag)(mg:Str->Option Value):Prop where
 PC:mg "ValueError" = none
 zt:mg "all" = none
 IL:mg "any" = none
 Fh:mg "bool" = none
 IQ:mg "enumerate" = none
 IU:mg "int" = none
 ny:mg "isinstance" = none
 kQ:mg "len" = none
 zv:mg "list" = none
 PD:mg "min" = none
 rS:mg "range" = none
 IX:mg "set" = none
 IY:mg "sorted" = none
 Fm:mg "str" = none
 Fn:mg "tuple" = none
 PF:mg "zip" = none
 PH:RK mg "HIDDEN" "*"
 PK:RK mg "LETTERS" "abcdefghijklmnopqrstuvwxyz"
 PR:MS mg "MOST_LETTERS" 6
 PY:MS mg "MOST_ROWS" 2000
 PZ:MS mg "MOST_PARTS" 200
 jr':XCl K mg "NoState"
 js':HF K mg rn "KinError"
 jt':∀ n C,n∈rn->mg n=some (.ref C)->∃ c,mg "NoScroll" = some (.ref c)/\PySem.W.kitOne K (.ref C) (.ref c)=some (decide (n = "NoScroll"))
 ju':∀ n C,n∈rn->mg n=some (.ref C)->∃ c,mg "TooBig" = some (.ref c)/\PySem.W.kitOne K (.ref C) (.ref c)=some (decide (n = "TooBig"))
 jv':∀ n C,n∈rn->mg n=some (.ref C)->∃ c,mg "NoDeed" = some (.ref c)/\PySem.W.kitOne K (.ref C) (.ref c)=some (decide (n = "NoDeed"))
 jw':∀ n C,n∈rn->mg n=some (.ref C)->∃ c,mg "NoMachine" = some (.ref c)/\PySem.W.kitOne K (.ref C) (.ref c)=some (decide (n = "NoMachine"))
 jx':∀ n C,n∈rn->mg n=some (.ref C)->PySem.W.kitOne K (.ref C) (.type "ValueError")=some true
 jy':∀ n C,n∈rn->mg n=some (.ref C)->∃ c,mg "NoState" = some (.ref c)/\PySem.W.kitOne K (.ref C) (.ref c)=some (decide (n = "NoState"))
section
variable {P:Program}{w:World}{K:PySem.W.Frag}{mg:Str->Option Value}{base:Heap}
theorem pX:g9 pJ ["thing"] (bq dW):=⟨rfl,rfl,rfl,by decide +kernel,rfl,by decide +kernel,by decide +kernel⟩
theorem xX {f:Addr} {fd:FuncData} (F:fA K "is_open" "is_open" dW f fd) (T:Txt K mg)  : ft P w K mg base gu 1 f fd ["thing"] (au K dR) :=
 kz.ok (t:=mQ) F pX vq (fun cq A outer s H E hr =>
  have nd:=pX.nd
  have hu:=hr.units
  (aj (bY (vv (jQ (dZ (fJ (jV T.ny (qv 0) (jH T.Fm Bg)))) (g_ (dZ (rJ qp qp yK yK aq (aO aD cL rfl T.kQ cP (qv 0)) (UZ T.PR))))))
   (ao (aJ qo))
   aH)
   (ao (aJ (aO GV pG rfl T.zt pR (cg (tn:=["sign"]) (cn:=[]) (ix:=[]) rfl (lE (Jf (qv 0))) (aW.of (sc:=bq dW) (N:=pJ) rfl rfl (by decide +kernel)) (fun _ _ _ _=>(aB (i:=0) (show(["sign"]:List Str).Nodup by decide +kernel) rfl (Or.inl rfl) (.inr rfl))) (fun _ _ _ _=>cD) (fun _ _ _ _=>(jz (i9 (K:=K) hu) uE (qv 0) (ZX T.PK) (by rfl))))))))) zb
theorem n8:g9 vB ["thing"] (bq dM):=⟨rfl,rfl,rfl,by decide +kernel,rfl,by decide +kernel,by decide +kernel⟩
theorem vO {f:Addr} {fd:FuncData} (F:fA K "is_whole" "is_whole" dM f fd) (T:Txt K mg)  : ft P w K mg base gu 1 f fd ["thing"] (au K dg) :=
 kz.ok (t:=jW) F n8 t_ (fun cq A outer s H E hr =>
  have nd:=n8.nd
  have hu:=hr.units
  (ao (aJ (oW (jV T.ny (qv 0) (jH T.IU Ai)) (qP (GD (jV T.ny (qv 0) (jH T.Fh vC)))))))) x_
theorem iI:g9 iH ["m", "state"] (bq aR):=⟨rfl,rfl,rfl,by decide +kernel,rfl,by decide +kernel,by decide +kernel⟩
theorem qw {f:Addr} (T:Txt K mg)  (cq:Value) (A:Around) (outer:List PySem.Env) (s:Shared) (H:Hp) (E:XK) (hr:kC 0 (A.deeper (envOfC "check_state" (bq aR) s.heap.objs.size f cq))) :
  sq (se (oB P w mg rn) P w K mg base iH "check_state" (bq aR) f cq A outer s H E) K (LX rn mg E) (fE aR) fZ :=
 have nd:=iI.nd
 have hu:(A.deeper (envOfC "check_state" (bq aR) s.heap.objs.size f cq)).units+64<cLine:=hr.units
 (ao (bY (dZ (rJ qp xP yK Cy aq (qv 1) (cx hu (qv 0) aq)))
   (ao (Bx rfl JR T.jr' (.head _) cX))
   aH))
theorem oX {f:Addr} {fd:FuncData} (F:fA K "check_state" "check_state" aR f fd) (T:Txt K mg)  : ft P w K mg base (oB P w mg rn) 1 f fd ["m", "state"] (h_ K rn mg a_) :=
 aG'.ok F iI nW (qw T ) qN
theorem qd:g9 yx ["m"] (bq fH):=⟨rfl,rfl,rfl,by decide +kernel,rfl,by decide +kernel,by decide +kernel⟩
theorem yh {f:Addr} {fd:FuncData} (F:fA K "ways_of" "ways_of" fH f fd) (T:Txt K mg)  : ft P w K mg base gu 1 f fd ["m"] (au K dh) :=
 kz.ok (t:=nF) F qd nH (fun cq A outer s H E hr =>
  have nd:=qd.nd
  have hu:=hr.units
  (aj (aG (i:=1) nd rfl (Or.inl rfl) Bj)
   (aj (b8 0 (ji PassesOwn.never rfl (qQ (cx hu (qv 0) aq)) (sU rfl (cu (aB (i:=2) nd rfl (Or.inl rfl)) (cu (aB (i:=3) nd rfl (Or.inl rfl)) (cu (aB (i:=4) nd rfl (Or.inl rfl)) nG))))
   (ao (b8 4 (b8 3 (b8 2 (Ip hu (pv 1) (gF (aa (qv 2) (aa (qv 3) az))) (qv 4))))))))
   (ao (jP (pv 1)))))) tK
theorem lB:g9 eU ["ways", "truths", "row", "state"] (bq bD):=⟨rfl,rfl,rfl,by decide +kernel,rfl,by decide +kernel,by decide +kernel⟩
theorem uB {f:Addr} {fd:FuncData} (F:fA K "row_holds" "row_holds" bD f fd) (T:Txt K mg)  : ft P w K mg base gu 1 f fd ["ways", "truths", "row", "state"] (au K cH) :=
 kz.ok (t:=jd) F lB qt (fun cq A outer s H E hr =>
  have nd:=lB.nd
  have hu:=hr.units
  (aj (bY (aN (hU (K:=K) hu) b_ (cx hu (qv 2) aq) cX (eR _))
   (ao (aJ (GD (cx hu (cx hu (qv 1) (cx hu (qv 2) aq)) (qv 3)))))
   aH)
   (aj (bY (aN (hU (K:=K) hu) b_ (cx hu (qv 2) aq) cX (eR _))
   (ao (aJ (aO GV pG rfl T.zt pR (cg (tn:=["part"]) (cn:=["state", "truths"]) (ix:=[3,1]) rfl (sI (cx hu (qv 2) aq)) (aW.of (sc:=bq bD) (N:=eU) rfl rfl (by decide +kernel)) (fun _ _ _ _=>(aB (i:=0) (show(["part", "state", "truths"]:List Str).Nodup by decide +kernel) rfl (Or.inl rfl) (.inr rfl))) (fun _ _ _ _=>cD) (fun _ _ _ _=>(cx hu (cx hu (qv 2) (qv 0)) (qv 1)))))))
   aH)
   (aj (bY (aN (hU (K:=K) hu) b_ (cx hu (qv 2) aq) cX (eR _))
   (ao (aJ (aO aR' Dt rfl T.IL DG (cg (tn:=["part"]) (cn:=["state", "truths"]) (ix:=[3,1]) rfl (sI (cx hu (qv 2) aq)) (aW.of (sc:=bq bD) (N:=eU) rfl rfl (by decide +kernel)) (fun _ _ _ _=>(aB (i:=0) (show(["part", "state", "truths"]:List Str).Nodup by decide +kernel) rfl (Or.inl rfl) (.inr rfl))) (fun _ _ _ _=>cD) (fun _ _ _ _=>(cx hu (cx hu (qv 2) (qv 0)) (qv 1)))))))
   aH)
   (aj (b8 3 (pM (i:=4) (tn:=["end"]) (cn:=["row", "truths"]) (ix:=[2,1]) nd rfl (Or.inl rfl) rfl (gO (Fg hu (qv 0) (gF (aa (qv 3) (aa (cx hu (qv 2) aq) az))) (fM az))) (aW.of (sc:=bq bD) (N:=eU) rfl rfl (by decide +kernel)) (fun _ _ _ _=>(aB (i:=0) (show(["end", "row", "truths"]:List Str).Nodup by decide +kernel) rfl (Or.inl rfl) (.inr rfl))) (fun _ _ _ _=>cD) (fun _ _ _ _=>(cx hu (cx hu (qv 2) (cx hu (qv 1) aq)) (qv 0)))))
   (ao (aJ (gG' (aN (hU (K:=K) hu) b_ (cx hu (qv 2) aq) cX (eR _)) (aO aR' Dt rfl T.IL DG (qv 4)) (aO GV pG rfl T.zt pR (qv 4)))))))))) uJ
theorem gK:g9 gW ["truth"] (bq bh):=⟨rfl,rfl,rfl,by decide +kernel,rfl,by decide +kernel,by decide +kernel⟩
theorem oH {f:Addr} {fd:FuncData} (F:fA K "states_where" "states_where" bh f fd) (T:Txt K mg)  : ft P w K mg base gu 1 f fd ["truth"] (au K bw) :=
 kz.ok (t:=eX) F gK lU (fun cq A outer s H E hr =>
  have nd:=gK.nd
  have hu:=hr.units
  (ao (aJ (cg (tn:=["state", "held"]) (cn:=[]) (ix:=[]) rfl (Ao T.IQ (qv 0)) (aW.of (sc:=bq bh) (N:=gW) rfl rfl (by decide +kernel)) (fun _ _ _ _=>(sU rfl (cu (aB (i:=0) (show(["state", "held"]:List Str).Nodup by decide +kernel) rfl (Or.inl rfl) (.inr rfl)) (cu (aB (i:=1) (show(["state", "held"]:List Str).Nodup by decide +kernel) rfl (Or.inl rfl) (.inr rfl)) nG)))) (fun _ _ _ _=>(il (Ba (qv 1)))) (fun _ _ _ _=>(qv 0)))))) pB
theorem gP:g9 n6 ["_law_script", "_law_k"] (bq bL):=⟨rfl,rfl,rfl,by decide +kernel,rfl,by decide +kernel,by decide +kernel⟩
theorem nT {f:Addr} {fd:FuncData} (F:fA K "_law_cell_at" "_law_cell_at" bL f fd) (T:Txt K mg)  : ft P w K mg base gu 1 f fd ["_law_script", "_law_k"] (au K aA) :=
 kz.ok (t:=eY) F gP lL (fun cq A outer s H E hr =>
  have nd:=gP.nd
  have hu:=hr.units
  (aj (bY (aN xP Cy (qv 1) (aO aD cL rfl T.kQ cP (qv 0)) (eR _))
   (ao (aJ (cx hu (qv 0) (qv 1))))
   aH)
   (ao (aJ aq)))) oM
theorem jy:g9 gA ["_law_cell", "_law_turn"] (bq bA):=⟨rfl,rfl,rfl,by decide +kernel,rfl,by decide +kernel,by decide +kernel⟩
theorem qH {f:Addr} {fd:FuncData} (F:fA K "_law_deeds" "_law_deeds" bA f fd) (T:Txt K mg)  : ft P w K mg base gu 1 f fd ["_law_cell", "_law_turn"] (au K bW) :=
 kz.ok (t:=gJ) F jy pA (fun cq A outer s H E hr =>
  have nd:=jy.nd
  have hu:=hr.units
  (aj (aG (i:=2) nd rfl (Or.inr rfl) cX)
   (aj (aG (i:=3) nd rfl (Or.inl rfl) (fj aq (cC (qv 0) aq)))
   (aj (aG (i:=0) nd rfl (Or.inl rfl) (iD (qv 0) aq))
   (aj (aG (i:=4) nd rfl (Or.inl rfl) (fM az))
   (aj (ji PassesOwn.never rfl (eV T.rS (qv 3)) (aB (i:=5) nd rfl (Or.inl rfl))
   (aj (lA (gw (pv 4)) (cC (qv 0) aq))
   (ao (aG (i:=0) nd rfl (Or.inl rfl) (iD (qv 0) aq)))))
   (aj (aG (i:=6) nd rfl (Or.inr rfl) (Ji cX (cg (tn:=["_law_k"]) (cn:=["_law_letters"]) (ix:=[2]) rfl (gO (qv 4)) (aW.of (sc:=bq bA) (N:=gA) rfl rfl (by decide +kernel)) (fun _ _ _ _=>(aB (i:=0) (show(["_law_k", "_law_letters"]:List Str).Nodup by decide +kernel) rfl (Or.inl rfl) (.inr rfl))) (fun _ _ _ _=>cD) (fun _ _ _ _=>(cx hu (qv 1) (qv 0))))))
   (aj (bY (aN (hU (K:=K) hu) b_ (cC (iD (qv 1) aq) aq) aq (eR _))
   (ao (aJ (cg (tn:=["_law_k"]) (cn:=["_law_word"]) (ix:=[6]) rfl (lE (Ek T.rS aq aq)) (aW.of (sc:=bq bA) (N:=gA) rfl rfl (by decide +kernel)) (fun _ _ _ _=>(aB (i:=0) (show(["_law_k", "_law_word"]:List Str).Nodup by decide +kernel) rfl (Or.inl rfl) (.inr rfl))) (fun _ _ _ _=>cD) (fun _ _ _ _=>(iU (HQ aq (qv 1)) jZ (fu (qv 0)))))))
   aH)
   (aj (aG (i:=7) nd rfl (Or.inl rfl) (cC (qv 1) (qv 3)))
   (aj (aG (i:=8) nd rfl (Or.inl rfl) (fM az))
   (aj (ji PassesOwn.never rfl (eV T.rS aq) (aB (i:=5) nd rfl (Or.inl rfl))
   (aj (aG (i:=9) nd rfl (Or.inl rfl) (cx hu (qv 2) (cC (fj (cx hu (qv 4) (qv 7)) (oV aq (qv 5))) aq)))
   (ao (lA (gw (pv 8)) (fj (fj (iU (qv 6) jZ (fu (qv 7))) (qv 9)) (iU (qv 6) (fu (fj (qv 7) aq)) jZ))))))
   (ao (jP (pv 8)))))))))))))) sV
theorem jt:g9 rE ["_law_cells", "_law_many", "_law_deeds_here"] (bq cO):=⟨rfl,rfl,rfl,by decide +kernel,rfl,by decide +kernel,by decide +kernel⟩
theorem qx {f:Addr} {fd:FuncData} (F:fA K "_law_steps" "_law_steps" cO f fd) (T:Txt K mg)  : ft P w K mg base gu 1 f fd ["_law_cells", "_law_many", "_law_deeds_here"] (au K bC) :=
 kz.ok (t:=ir) F jt oU (fun cq A outer s H E hr =>
  have nd:=jt.nd
  have hu:=hr.units
  (aj (aG (i:=3) nd rfl (Or.inl rfl) (fM az))
   (aj (ji PassesOwn.never rfl (eV T.rS (aO aD cL rfl T.kQ cP (qv 0))) (aB (i:=4) nd rfl (Or.inl rfl))
   (aj (aG (i:=5) nd rfl (Or.inl rfl) (cC (oV (fj (cC (cx hu (qv 0) (qv 4)) aq) aq) (fj aq (oV aq (qv 4)))) aq))
   (aj (aG (i:=6) nd rfl (Or.inl rfl) (cx hu (qv 2) (cC (iD (qv 5) (qv 1)) (aO aD cL rfl T.kQ cP (qv 2)))))
   (ao (b8 6 (lA (gw (pv 3)) (gF (aa (cC (qv 5) (qv 1)) (aa (qv 6) (aa (cC (iD (qv 5) (oV (qv 1) (aO aD cL rfl T.kQ cP (qv 2)))) (qv 1)) az))))))))))
   (ao (jP (pv 3)))))) tD
theorem oJ:g9 uO ["_law_cell", "_law_k", "_law_names"] (bq dH):=⟨rfl,rfl,rfl,by decide +kernel,rfl,by decide +kernel,by decide +kernel⟩
theorem vN {f:Addr} {fd:FuncData} (F:fA K "_law_row" "_law_row" dH f fd) (T:Txt K mg)  : ft P w K mg base gu 1 f fd ["_law_cell", "_law_k", "_law_names"] (au K cZ) :=
 kz.ok (t:=jY) F oJ uv (fun cq A outer s H E hr =>
  have nd:=oJ.nd
  have hu:=hr.units
  (aj (aG (i:=3) nd rfl (Or.inl rfl) (cC (oV (fj (cC (qv 0) aq) aq) (fj aq (oV aq (qv 1)))) aq))
   (aj (aG (i:=4) nd rfl (Or.inl rfl) (cC (oV (qv 3) aq) aq))
   (aj (bY (aN (hU (K:=K) hu) b_ (qv 1) aq (eR _))
   (ao (aJ (cx hu (fM (aa (gF (aa cX (aa (gF az) az))) (aa (gF (aa cX (aa (gF az) az))) az))) (cC (qv 3) aq))))
   aH)
   (aj (aG (i:=5) nd rfl (Or.inl rfl) (cC (qv 4) (qv 1)))
   (aj (bY (aN (hU (K:=K) hu) b_ (cC (iD (qv 3) aq) aq) aq (eR _))
   (ao (aG (i:=5) nd rfl (Or.inl rfl) (vm (vm (qv 1) aq) (cC (qv 4) (Gm IK Fp rfl T.PD Jq (qv 1) aq)))))
   aH)
   (aj (aG (i:=6) nd rfl (Or.inl rfl) (cC (qv 3) aq))
   (aj (bY (aN xP Cy (qv 6) aq (eR _))
   (ao (Bk (Vd (cx hu (fM (aa cX (aa cX az))) (iD (qv 6) aq)) (Vd (cx hu (qv 2) (cC (iD (qv 3) aq) (aO aD cL rfl T.kQ cP (qv 2)))) (Z9 (pv 5) Du)))))
   aH)
   (aj (bY (aN (hU (K:=K) hu) b_ (qv 6) aq (eR _))
   (ao (Bk (Vd cX (Z9 (pv 5) Du))))
   aH)
   (aj (aG (i:=7) nd rfl (Or.inl rfl) (fM az))
   (aj (ji PassesOwn.never rfl (eV T.rS (cC (iD (qv 3) aq) aq)) (aB (i:=8) nd rfl (Or.inl rfl))
   (aj (b8 5 (lA (gw (pv 7)) (qv 5)))
   (ao (aG (i:=5) nd rfl (Or.inl rfl) (cC (fj (oV aq (qv 5)) (iD (qv 4) (fj (qv 8) aq))) (qv 1))))))
   (ao (aJ (gF (aa (cx hu (fM (aa cX (aa cX az))) (vm (qv 6) aq)) (aa (lY JH Df rfl T.Fn qy (qv 7)) az)))))))))))))))) yC
theorem jF:g9 rB ["_law_found"] (bq cR):=⟨rfl,rfl,rfl,by decide +kernel,rfl,by decide +kernel,by decide +kernel⟩
theorem q_ {f:Addr} {fd:FuncData} (F:fA K "_law_whole" "_law_whole" cR f fd) (T:Txt K mg)  : ft P w K mg base gu 1 f fd ["_law_found"] (au K b7) :=
 kz.ok (t:=gY) F jF oO (fun cq A outer s H E hr =>
  have nd:=jF.nd
  have hu:=hr.units
  (ao (aJ (oW (jV T.ny (qv 0) (jH T.IU Ai)) (qP (GD (jV T.ny (qv 0) (jH T.Fh vC)))))))) sH
theorem mJ:g9 vz ["_law_m"] (bq dO):=⟨rfl,rfl,rfl,by decide +kernel,rfl,by decide +kernel,by decide +kernel⟩
theorem vQ {f:Addr} {fd:FuncData} (F:fA K "_law_out" "_law_out" dO f fd) (T:Txt K mg)  : ft P w K mg base gu 1 f fd ["_law_m"] (au K cY) :=
 kz.ok (t:=pK) F mJ ud (fun cq A outer s H E hr =>
  have nd:=mJ.nd
  have hu:=hr.units
  (aj (aG (i:=1) nd rfl (Or.inl rfl) Bj)
   (aj (b8 0 (ji PassesOwn.never rfl (qQ (cx hu (qv 0) aq)) (sU rfl (cu (aB (i:=2) nd rfl (Or.inl rfl)) (cu (aB (i:=3) nd rfl (Or.inl rfl)) (cu (aB (i:=4) nd rfl (Or.inl rfl)) nG))))
   (ao (b8 4 (b8 3 (b8 2 (Ip hu (pv 1) (gF (aa (qv 2) (aa (qv 3) az))) (qv 4))))))))
   (ao (jP (pv 1)))))) xW
theorem lF:g9 dC ["_law_row_here", "_law_state", "_law_out_here", "_law_lists"] (bq bf):=⟨rfl,rfl,rfl,by decide +kernel,rfl,by decide +kernel,by decide +kernel⟩
theorem ug {f:Addr} {fd:FuncData} (F:fA K "_law_says" "_law_says" bf f fd) (T:Txt K mg)  : ft P w K mg base gu 1 f fd ["_law_row_here", "_law_state", "_law_out_here", "_law_lists"] (au K cQ) :=
 kz.ok (t:=iY) F lF rW (fun cq A outer s H E hr =>
  have nd:=lF.nd
  have hu:=hr.units
  (aj (bY (aN (hU (K:=K) hu) b_ (cx hu (qv 0) aq) cX (eR _))
   (ao (b8 1 (aJ (jz Az Gy (aO aD cL rfl T.kQ cP (cg (tn:=["_law_q"]) (cn:=["_law_lists", "_law_row_here"]) (ix:=[3,0]) rfl (gO (Fg hu (qv 2) (gF (aa (qv 1) (aa (cx hu (qv 0) aq) az))) (fM az))) (aW.of (sc:=bq bf) (N:=dC) rfl rfl (by decide +kernel)) (fun _ _ _ _=>(aB (i:=0) (show(["_law_q", "_law_lists", "_law_row_here"]:List Str).Nodup by decide +kernel) rfl (Or.inl rfl) (.inr rfl))) (fun _ _ _ _=>(il (aN (i9 (K:=K) hu) uE (qv 0) (cx hu (qv 1) (cx hu (qv 2) aq)) (by rfl)))) (fun _ _ _ _=>(qv 0)))) aq (eR _)))))
   aH)
   (aj (bY (aN (hU (K:=K) hu) b_ (cx hu (qv 0) aq) cX (eR _))
   (ao (b8 1 (aJ (jz (hU (K:=K) hu) b_ (aO aD cL rfl T.kQ cP (cg (tn:=["_law_q"]) (cn:=["_law_lists", "_law_row_here"]) (ix:=[3,0]) rfl (gO (Fg hu (qv 2) (gF (aa (qv 1) (aa (cx hu (qv 0) aq) az))) (fM az))) (aW.of (sc:=bq bf) (N:=dC) rfl rfl (by decide +kernel)) (fun _ _ _ _=>(aB (i:=0) (show(["_law_q", "_law_lists", "_law_row_here"]:List Str).Nodup by decide +kernel) rfl (Or.inl rfl) (.inr rfl))) (fun _ _ _ _=>(il (aN (xN (K:=K) hu) uE (qv 0) (cx hu (qv 1) (cx hu (qv 2) aq)) (by rfl)))) (fun _ _ _ _=>(qv 0)))) aq (eR _)))))
   aH)
   (aj (bY (aN (hU (K:=K) hu) b_ (cx hu (qv 0) aq) cX (eR _))
   (ao (aJ (jz (xN (K:=K) hu) uE (qv 1) (cx hu (qv 3) (cx hu (qv 0) aq)) (by rfl))))
   aH)
   (aj (bY (aN (hU (K:=K) hu) b_ (cx hu (qv 0) aq) cX (eR _))
   (ao (aJ (jz (hU (K:=K) hu) b_ (aO aD cL rfl T.kQ cP (cg (tn:=["_law_j"]) (cn:=["_law_lists", "_law_state"]) (ix:=[3,1]) rfl (sI (cx hu (qv 0) aq)) (aW.of (sc:=bq bf) (N:=dC) rfl rfl (by decide +kernel)) (fun _ _ _ _=>(aB (i:=0) (show(["_law_j", "_law_lists", "_law_state"]:List Str).Nodup by decide +kernel) rfl (Or.inl rfl) (.inr rfl))) (fun _ _ _ _=>(il (aN (xN (K:=K) hu) uE (qv 2) (cx hu (qv 1) (qv 0)) (by rfl)))) (fun _ _ _ _=>(qv 0)))) aq (eR _))))
   aH)
   (ao (aJ (jz Az Gy (aO aD cL rfl T.kQ cP (cg (tn:=["_law_j"]) (cn:=["_law_lists", "_law_state"]) (ix:=[3,1]) rfl (sI (cx hu (qv 0) aq)) (aW.of (sc:=bq bf) (N:=dC) rfl rfl (by decide +kernel)) (fun _ _ _ _=>(aB (i:=0) (show(["_law_j", "_law_lists", "_law_state"]:List Str).Nodup by decide +kernel) rfl (Or.inl rfl) (.inr rfl))) (fun _ _ _ _=>(il (aN (i9 (K:=K) hu) uE (qv 2) (cx hu (qv 1) (qv 0)) (by rfl)))) (fun _ _ _ _=>(qv 0)))) aq (eR _))))))))) uT
theorem pF:g9 xZ ["thing"] (bq fO):=⟨rfl,rfl,rfl,by decide +kernel,rfl,by decide +kernel,by decide +kernel⟩
theorem yj {f:Addr} {fd:FuncData} (F:fA K "is_deed" "is_deed" fO f fd) (T:Txt K mg) (jz':dr P w K mg base 1 "is_open" ["thing"] (au K dR)):ft P w K mg base gu 2 f fd ["thing"] (au K dI) :=
 kz.ok (t:=ou) F pF vI (fun cq A outer s H E hr =>
  have nd:=pF.nd
  have hu:=hr.units
  (ao (aJ (gF' (bx jz' (hr.mono (by decide)) (aa (qv 0) az)) (qP (oW (jV T.ny (qv 0) (jH T.Fm Bg)) (qP (jz (hU (K:=K) hu) b_ (qv 0) (ZX T.PH) (eR _))))))))) zZ
theorem oA:g9 vg ["k", "thing"] (bq dJ):=⟨rfl,rfl,rfl,by decide +kernel,rfl,by decide +kernel,by decide +kernel⟩
theorem vP {f:Addr} {fd:FuncData} (F:fA K "is_ahead" "is_ahead" dJ f fd) (T:Txt K mg) (jA':dr P w K mg base 1 "is_whole" ["thing"] (au K dg)):ft P w K mg base gu 2 f fd ["k", "thing"] (au K bF) :=
 kz.ok (t:=kj) F oA uw (fun cq A outer s H E hr =>
  have nd:=oA.nd
  have hu:=hr.units
  (ao (aJ (oW (bx jA' (hr.mono (by decide)) (aa (qv 1) az)) (qP (Gf qp xP yK Cy aq (qv 1) (qv 0))))))) ye
theorem lr:g9 kY ["m", "scroll"] (bq cG):=⟨rfl,rfl,rfl,by decide +kernel,rfl,by decide +kernel,by decide +kernel⟩
theorem tY {f:Addr} {fd:FuncData} (F:fA K "truths_of" "truths_of" cG f fd) (T:Txt K mg) (jB':dr P w K mg base 1 "ways_of" ["m"] (au K dh)) (jC':dr P w K mg base 1 "row_holds" ["ways", "truths", "row", "state"] (au K cH)):ft P w K mg base gu 2 f fd ["m", "scroll"] (au K aZ) :=
 kz.ok (t:=jb) F lr qK (fun cq A outer s H E hr =>
  have nd:=lr.nd
  have hu:=hr.units
  (aj (aG (i:=2) nd rfl (Or.inr rfl) (bx jB' (hr.mono (by decide)) (aa (qv 0) az)))
   (aj (aG (i:=3) nd rfl (Or.inr rfl) (fM az))
   (aj (b8 1 (ji PassesOwn.never rfl (qQ (qv 1)) (aB (i:=4) nd rfl (Or.inr rfl))
   (ao (lA (gw (pv 3)) (cg (tn:=["state"]) (cn:=["row", "truths", "ways"]) (ix:=[4,3,2]) rfl (lE (eV T.rS (cx hu (qv 0) aq))) (aW.of (sc:=bq cG) (N:=kY) rfl rfl (by decide +kernel)) (fun _ _ _ _=>(aB (i:=0) (show(["state", "row", "truths", "ways"]:List Str).Nodup by decide +kernel) rfl (Or.inl rfl) (.inr rfl))) (fun _ _ _ _=>cD) (fun _ _ _ _=>(bx jC' (hr.mono (by decide)) (aa (qv 3) (aa (qv 2) (aa (qv 1) (aa (qv 0) az)))))))))))
   (ao (jP (pv 3))))))) vG
theorem iQ:g9 iK ["_law_cells", "_law_names"] (bq bB):=⟨rfl,rfl,rfl,by decide +kernel,rfl,by decide +kernel,by decide +kernel⟩
theorem oZ {f:Addr} {fd:FuncData} (F:fA K "_law_scroll" "_law_scroll" bB f fd) (T:Txt K mg) (jD':dr P w K mg base 1 "_law_row" ["_law_cell", "_law_k", "_law_names"] (au K cZ)):ft P w K mg base gu 2 f fd ["_law_cells", "_law_names"] (au K bH) :=
 kz.ok (t:=gr) F iQ nJ (fun cq A outer s H E hr =>
  have nd:=iQ.nd
  have hu:=hr.units
  (ao (aJ (cg (tn:=["_law_k"]) (cn:=["_law_cells", "_law_names"]) (ix:=[0,1]) rfl (lE (eV T.rS (aO aD cL rfl T.kQ cP (qv 0)))) (aW.of (sc:=bq bB) (N:=iK) rfl rfl (by decide +kernel)) (fun _ _ _ _=>(aB (i:=0) (show(["_law_k", "_law_cells", "_law_names"]:List Str).Nodup by decide +kernel) rfl (Or.inl rfl) (.inr rfl))) (fun _ _ _ _=>cD) (fun _ _ _ _=>(bx jD' (hr.mono (by decide)) (aa (cx hu (qv 1) (qv 0)) (aa (qv 0) (aa (qv 2) az))))))))) qG
theorem lg:g9 iu ["_law_m", "_law_scroll_here", "_law_found"] (bq bO):=⟨rfl,rfl,rfl,by decide +kernel,rfl,by decide +kernel,by decide +kernel⟩
theorem sE {f:Addr} {fd:FuncData} (F:fA K "_law_good" "_law_good" bO f fd) (T:Txt K mg) (jE':dr P w K mg base 1 "_law_out" ["_law_m"] (au K cY)) (jF':dr P w K mg base 1 "_law_says" ["_law_row_here", "_law_state", "_law_out_here", "_law_lists"] (au K cQ)) (jG':dr P w K mg base 1 "_law_whole" ["_law_found"] (au K b7)):ft P w K mg base gu 2 f fd ["_law_m", "_law_scroll_here", "_law_found"] (au K cN) :=
 kz.ok (t:=iV) F lg qF (fun cq A outer s H E hr =>
  have nd:=lg.nd
  have hu:=hr.units
  (aj (bY (vv (jQ (dZ (fJ (jV T.ny (qv 2) (jH T.zv jN)))) (g_ (aN (CB (K:=K) hu) uf (aO aD cL rfl T.kQ cP (qv 2)) (aO aD cL rfl T.kQ cP (qv 1)) (eR _)))))
   (ao (aJ qo))
   aH)
   (aj (aG (i:=3) nd rfl (Or.inr rfl) (bx jE' (hr.mono (by decide)) (aa (qv 0) az)))
   (aj (b8 2 (b8 1 (ji PassesOwn.never rfl (Jc T.PF (qv 1) (qv 2)) (sU rfl (cu (aB (i:=4) nd rfl (Or.inr rfl)) (cu (aB (i:=5) nd rfl (Or.inl rfl)) nG)))
   (aj (bY (vv (jQ (dZ (fJ (jV T.ny (qv 5) (jH T.zv jN)))) (g_ (dZ (fJ (aO GV pG rfl T.zt pR (cg (tn:=["_law_state"]) (cn:=[]) (ix:=[]) rfl (gO (qv 5)) (aW.of (sc:=bq bO) (N:=iu) rfl rfl (by decide +kernel)) (fun _ _ _ _=>(aB (i:=0) (show(["_law_state"]:List Str).Nodup by decide +kernel) rfl (Or.inl rfl) (.inr rfl))) (fun _ _ _ _=>cD) (fun _ _ _ _=>(bx jG' (hr.mono (by decide)) (aa (qv 0) az))))))))))
   (ao (aJ qo))
   aH)
   (ao (bY (aN (CB (K:=K) hu) uf (qv 5) (cg (tn:=["_law_state"]) (cn:=["_law_found", "_law_out_here", "_law_row_here"]) (ix:=[2,3,4]) rfl (lE (eV T.rS (cx hu (qv 0) aq))) (aW.of (sc:=bq bO) (N:=iu) rfl rfl (by decide +kernel)) (fun _ _ _ _=>(aB (i:=0) (show(["_law_state", "_law_found", "_law_out_here", "_law_row_here"]:List Str).Nodup by decide +kernel) rfl (Or.inl rfl) (.inr rfl))) (fun _ _ _ _=>(il (fJ (bx jF' (hr.mono (by decide)) (aa (qv 3) (aa (qv 0) (aa (qv 2) (aa (qv 1) az)))))))) (fun _ _ _ _=>(qv 0))) (eR _))
   (ao (aJ qo))
   aH))))))
   (ao (aJ qo)))))) vo
theorem lz:g9 lG ["k", "thing"] (bq cB):=⟨rfl,rfl,rfl,by decide +kernel,rfl,by decide +kernel,by decide +kernel⟩
theorem tG {f:Addr} {fd:FuncData} (F:fA K "are_parts" "are_parts" cB f fd) (T:Txt K mg) (SV:dr P w K mg base 2 "is_ahead" ["k", "thing"] (au K bF)):ft P w K mg base gu 3 f fd ["k", "thing"] (au K cM) :=
 kz.ok (t:=iW) F lz qJ (fun cq A outer s H E hr =>
  have nd:=lz.nd
  have hu:=hr.units
  (aj (bY (vv (jQ (dZ (fJ (jV T.ny (qv 1) (jH T.Fn qy)))) (g_ (aN Az Gy (aO aD cL rfl T.kQ cP (qv 1)) (UZ T.PZ) (eR _)))))
   (ao (aJ qo))
   aH)
   (ao (aJ (aO GV pG rfl T.zt pR (cg (tn:=["part"]) (cn:=["k"]) (ix:=[0]) rfl (sI (qv 1)) (aW.of (sc:=bq cB) (N:=lG) rfl rfl (by decide +kernel)) (fun _ _ _ _=>(aB (i:=0) (show(["part", "k"]:List Str).Nodup by decide +kernel) rfl (Or.inl rfl) (.inr rfl))) (fun _ _ _ _=>cD) (fun _ _ _ _=>(bx SV (hr.mono (by decide)) (aa (qv 1) (aa (qv 0) az)))))))))) vp
theorem jm:g9 fW ["_law_script", "_law_first"] (bq bz):=⟨rfl,rfl,rfl,by decide +kernel,rfl,by decide +kernel,by decide +kernel⟩
theorem qz {f:Addr} {fd:FuncData} (F:fA K "_law_drawn" "_law_drawn" bz f fd) (T:Txt K mg) (jH':dr P w K mg base 1 "_law_deeds" ["_law_cell", "_law_turn"] (au K bW)) (aX':dr P w K mg base 1 "_law_steps" ["_law_cells", "_law_many", "_law_deeds_here"] (au K bC)) (DL:dr P w K mg base 1 "_law_cell_at" ["_law_script", "_law_k"] (au K aA)) (jI':dr P w K mg base 2 "_law_scroll" ["_law_cells", "_law_names"] (au K bH)):ft P w K mg base gu 3 f fd ["_law_script", "_law_first"] (au K bU) :=
 kz.ok (t:=gZ) F jm oK (fun cq A outer s H E hr =>
  have nd:=jm.nd
  have hu:=hr.units
  (aj (aG (i:=2) nd rfl (Or.inl rfl) (fj aq (cC (qv 1) (cx hu (fM (aa aq (aa aq (aa aq az)))) (cC (iD (qv 1) aq) aq)))))
   (aj (aG (i:=3) nd rfl (Or.inl rfl) (bx jH' (hr.mono (by decide)) (aa (bx DL (hr.mono (by decide)) (aa (qv 0) (aa aq az))) (aa (bx DL (hr.mono (by decide)) (aa (qv 0) (aa aq az))) az))))
   (aj (aG (i:=4) nd rfl (Or.inl rfl) (bx aX' (hr.mono (by decide)) (aa (iU (qv 0) (fu aq) (fu aq)) (aa (qv 2) (aa (fj (fM (aa cX az)) (iU (qv 3) jZ (fu aq))) az)))))
   (aj (bY (aN (hU (K:=K) hu) b_ (cC (iD (qv 1) aq) aq) aq (eR _))
   (ao (aG (i:=4) nd rfl (Or.inl rfl) (fj (qv 4) (bx aX' (hr.mono (by decide)) (aa (cg (tn:=["_law_k"]) (cn:=["_law_script"]) (ix:=[0]) rfl (lE (eV T.rS aq)) (aW.of (sc:=bq bz) (N:=fW) rfl rfl (by decide +kernel)) (fun _ _ _ _=>(aB (i:=0) (show(["_law_k", "_law_script"]:List Str).Nodup by decide +kernel) rfl (Or.inl rfl) (.inr rfl))) (fun _ _ _ _=>cD) (fun _ _ _ _=>(fj (bx DL (hr.mono (by decide)) (aa (qv 1) (aa aq az))) (oV (qv 0) (qv 0))))) (aa (qv 2) (aa (fj (fM (aa cX az)) (iU (qv 3) jZ (fu aq))) az)))))))
   aH)
   (aj (aG (i:=5) nd rfl (Or.inl rfl) (fj (iU (qv 0) (fu aq) (fu aq)) (fM (aa (bx DL (hr.mono (by decide)) (aa (qv 0) (aa aq az))) az))))
   (aj (bY (aN (hU (K:=K) hu) b_ (cC (iD (qv 1) aq) aq) aq (eR _))
   (ao (aG (i:=5) nd rfl (Or.inl rfl) (fj (qv 5) (cg (tn:=["_law_k"]) (cn:=["_law_script"]) (ix:=[0]) rfl (lE (eV T.rS aq)) (aW.of (sc:=bq bz) (N:=fW) rfl rfl (by decide +kernel)) (fun _ _ _ _=>(aB (i:=0) (show(["_law_k", "_law_script"]:List Str).Nodup by decide +kernel) rfl (Or.inl rfl) (.inr rfl))) (fun _ _ _ _=>cD) (fun _ _ _ _=>(fj (bx DL (hr.mono (by decide)) (aa (qv 1) (aa aq az))) (oV (qv 0) (qv 0))))))))
   aH)
   (ao (b8 2 (aJ (gF (aa (gF (aa (qv 2) (aa (yl hu rfl T.IY rfl T.IX (qv 4)) az))) (aa (bx jI' (hr.mono (by decide)) (aa (qv 5) (aa (fj (fM (aa cX az)) (qv 3)) az))) az))))))))))))) su
theorem rZ:g9 z9 ["k", "thing"] (bq iC):=⟨rfl,rfl,rfl,by decide +kernel,rfl,by decide +kernel,by decide +kernel⟩
theorem zO {f:Addr} {fd:FuncData} (F:fA K "is_row" "is_row" iC f fd) (T:Txt K mg) (jJ':dr P w K mg base 2 "is_deed" ["thing"] (au K dI)) (SV:dr P w K mg base 2 "is_ahead" ["k", "thing"] (au K bF)) (jK':dr P w K mg base 3 "are_parts" ["k", "thing"] (au K cM)):ft P w K mg base gu 4 f fd ["k", "thing"] (au K fQ) :=
 kz.ok (t:=rQ) F rZ xY (fun cq A outer s H E hr =>
  have nd:=rZ.nd
  have hu:=hr.units
  (aj (bY (vv (jQ (dZ (fJ (jV T.ny (qv 1) (jH T.Fn qy)))) (jQ (aN (hU (K:=K) hu) b_ (aO aD cL rfl T.kQ cP (qv 1)) aq (eR _)) (g_ (dZ (fJ (jV T.ny (cx hu (qv 1) aq) (jH T.Fm Bg))))))))
   (ao (aJ qo))
   aH)
   (aj (bY (vv (jQ (aN (hU (K:=K) hu) b_ (cx hu (qv 1) aq) cX (eR _)) (g_ (aN (hU (K:=K) hu) b_ (cx hu (qv 1) aq) cX (eR _)))))
   (ao (aJ (oW (jz (hU (K:=K) hu) b_ (aO aD cL rfl T.kQ cP (qv 1)) aq (eR _)) (oW (bx jJ' (hr.mono (by decide)) (aa (cx hu (qv 1) aq) az)) (qP (bx SV (hr.mono (by decide)) (aa (qv 0) (aa (cx hu (qv 1) aq) az))))))))
   aH)
   (aj (bY (aN (hU (K:=K) hu) b_ (cx hu (qv 1) aq) cX (eR _))
   (ao (aJ (oW (jz (hU (K:=K) hu) b_ (aO aD cL rfl T.kQ cP (qv 1)) aq (eR _)) (qP (bx SV (hr.mono (by decide)) (aa (qv 0) (aa (cx hu (qv 1) aq) az)))))))
   aH)
   (aj (bY (vv (jQ (aN (hU (K:=K) hu) b_ (cx hu (qv 1) aq) cX (eR _)) (g_ (aN (hU (K:=K) hu) b_ (cx hu (qv 1) aq) cX (eR _)))))
   (ao (aJ (oW (jz (hU (K:=K) hu) b_ (aO aD cL rfl T.kQ cP (qv 1)) aq (eR _)) (qP (bx jK' (hr.mono (by decide)) (aa (qv 0) (aa (cx hu (qv 1) aq) az)))))))
   aH)
   (ao (aJ qo))))))) BK
theorem lC:g9 lD ["thing"] (bq cz):=⟨rfl,rfl,rfl,by decide +kernel,rfl,by decide +kernel,by decide +kernel⟩
theorem sS {f:Addr} {fd:FuncData} (F:fA K "is_scroll" "is_scroll" cz f fd) (T:Txt K mg) (jL':dr P w K mg base 4 "is_row" ["k", "thing"] (au K fQ)):ft P w K mg base gu 5 f fd ["thing"] (au K cJ) :=
 kz.ok (t:=jc) F lC qR (fun cq A outer s H E hr =>
  have nd:=lC.nd
  have hu:=hr.units
  (aj (bY (vv (jQ (dZ (fJ (jV T.ny (qv 0) (jH T.zv jN)))) (g_ (dZ (rJ qp qp yK yK aq (aO aD cL rfl T.kQ cP (qv 0)) (UZ T.PY))))))
   (ao (aJ qo))
   aH)
   (ao (aJ (aO GV pG rfl T.zt pR (cg (tn:=["k", "row"]) (cn:=[]) (ix:=[]) rfl (Ao T.IQ (qv 0)) (aW.of (sc:=bq cz) (N:=lD) rfl rfl (by decide +kernel)) (fun _ _ _ _=>(sU rfl (cu (aB (i:=0) (show(["k", "row"]:List Str).Nodup by decide +kernel) rfl (Or.inl rfl) (.inr rfl)) (cu (aB (i:=1) (show(["k", "row"]:List Str).Nodup by decide +kernel) rfl (Or.inl rfl) (.inr rfl)) nG)))) (fun _ _ _ _=>cD) (fun _ _ _ _=>(bx jL' (hr.mono (by decide)) (aa (qv 0) (aa (qv 1) az)))))))))) uR
theorem ig:g9 mW ["thing"] (bq bJ):=⟨rfl,rfl,rfl,by decide +kernel,rfl,by decide +kernel,by decide +kernel⟩
theorem m5 {f:Addr} {fd:FuncData} (F:fA K "check_scroll" "check_scroll" bJ f fd) (T:Txt K mg) (jM':dr P w K mg base 5 "is_scroll" ["thing"] (au K cJ)):ft P w K mg base gu 6 f fd ["thing"] (au K aL) :=
 kz.ok (t:=e_) F ig lV (fun cq A outer s H E hr =>
  have nd:=ig.nd
  have hu:=hr.units
  (ao (bY (dZ (fJ (bx jM' (hr.mono (by decide)) (aa (qv 0) az))))
   zE
   aH))) ph
theorem pU:g9 pO ["m", "scroll"] (bq dU):=⟨rfl,rfl,rfl,by decide +kernel,rfl,by decide +kernel,by decide +kernel⟩
theorem yg {f:Addr} {fd:FuncData} (F:fA K "held_at" "held_at" dU f fd) (T:Txt K mg) (P1:dr P w K mg base 6 "check_scroll" ["thing"] (au K aL)) (jN':dr P w K mg base 1 "states_where" ["truth"] (au K bw)) (P2:dr P w K mg base 2 "truths_of" ["m", "scroll"] (au K aZ)):ft P w K mg base gu 7 f fd ["m", "scroll"] (au K cT) :=
 kz.ok (t:=mU) F pU uZ (fun cq A outer s H E hr =>
  have nd:=pU.nd
  have hu:=hr.units
  (aj (zz (bx P1 (hr.mono (by decide)) (aa (qv 1) az)))
   (ao (aJ (cg (tn:=["truth"]) (cn:=[]) (ix:=[]) rfl (gO (bx P2 (hr.mono (by decide)) (aa (qv 0) (aa (qv 1) az)))) (aW.of (sc:=bq dU) (N:=pO) rfl rfl (by decide +kernel)) (fun _ _ _ _=>(aB (i:=0) (show(["truth"]:List Str).Nodup by decide +kernel) rfl (Or.inl rfl) (.inr rfl))) (fun _ _ _ _=>cD) (fun _ _ _ _=>(bx jN' (hr.mono (by decide)) (aa (qv 0) az)))))))) Ay
theorem wA:g9 vZ ["m", "scroll", "state"] (bq fC):=⟨rfl,rfl,rfl,by decide +kernel,rfl,by decide +kernel,by decide +kernel⟩
theorem Gb {f:Addr} (T:Txt K mg) (P1:dr P w K mg base 6 "check_scroll" ["thing"] (au K aL)) (VS:BE P w K mg base rn 1 "check_state" ["m", "state"] a_) (P2:dr P w K mg base 2 "truths_of" ["m", "scroll"] (au K aZ)) (cq:Value) (A:Around) (outer:List PySem.Env) (s:Shared) (H:Hp) (E:XK) (hr:kC 6 (A.deeper (envOfC "holds" (bq fC) s.heap.objs.size f cq))) :
  sq (se (oB P w mg rn) P w K mg base vZ "holds" (bq fC) f cq A outer s H E) K (LX rn mg E) (fE fC) vM :=
 have nd:=wA.nd
 have hu:(A.deeper (envOfC "holds" (bq fC) s.heap.objs.size f cq)).units+64<cLine:=hr.units
 (aj (zz (bx P1 (hr.mono (by decide)) (aa (qv 1) az)))
   (aj (vV VS (hr.mono (by decide)) KZ (aa (qv 0) (aa (qv 2) az)))
   (ao (aJ (cx hu (cx hu (bx P2 (hr.mono (by decide)) (aa (qv 0) (aa (qv 1) az))) (uA aq)) (qv 2))))))
theorem Dm {f:Addr} {fd:FuncData} (F:fA K "holds" "holds" fC f fd) (T:Txt K mg) (P1:dr P w K mg base 6 "check_scroll" ["thing"] (au K aL)) (VS:BE P w K mg base rn 1 "check_state" ["m", "state"] a_) (P2:dr P w K mg base 2 "truths_of" ["m", "scroll"] (au K aZ)):ft P w K mg base (oB P w mg rn) 7 f fd ["m", "scroll", "state"] (h_ K rn mg eO) :=
 aG'.ok F wA Bl (Gb T P1 VS P2) GZ
theorem gR:g9 nZ ["_law_m", "_law_scroll_here", "_law_state"] (bq bK):=⟨rfl,rfl,rfl,by decide +kernel,rfl,by decide +kernel,by decide +kernel⟩
theorem mZ {f:Addr} {fd:FuncData} (F:fA K "_law_refused" "_law_refused" bK f fd) (T:Txt K mg) (VW:BE P w K mg base rn 7 "holds" ["m", "scroll", "state"] eO):ft P w K mg base gu 8 f fd ["_law_m", "_law_scroll_here", "_law_state"] (au K bu) :=
 kz.ok (t:=eZ) F gR lN (fun cq A outer s H E hr =>
  have nd:=gR.nd
  have hu:=hr.units
  (aj (aG (i:=3) nd rfl (Or.inl rfl) (gF az))
   (aj (Ga (j:=4) (ρh:=fun a=>[none,none,none,none,some (.xc a),none]) T.js' nd rfl rfl rfl rfl (fun a=>rfl) (fun pn xe E1 hx1=>(ao (vV VW (hr.mono (by decide)) hx1 (aa (qv 0) (aa (qv 1) (aa (qv 2) az))))))
   (fun pn a oe n C hn hm xc hp mS=>by
    obtain⟨jO',jP',jQ'⟩:=T.jt' n C hn hm
    obtain⟨jR',jS',jT'⟩:=T.ju' n C hn hm
    obtain⟨jU',jV',jW'⟩:=T.jv' n C hn hm
    obtain⟨jX',jY',jZ'⟩:=T.jw' n C hn hm
    obtain⟨ka',kb',kc'⟩:=T.jy' n C hn hm
    exact(aj (aG (i:=5) nd rfl (Or.inl rfl) (JM (j:=4) (cs:=[jO',jR',jU',jX']) T.ny hp mS xc (fY jQ' (fY jT' (fY jW' (fY jZ' yD)))) (Nat.le_of_ble_eq_true rfl) (pv 4) (lZ (D6 rfl jP' rfl) (lZ (D6 rfl jS' rfl) (lZ (D6 rfl jV' rfl) (lZ (D6 rfl jY' rfl) GJ))))))
   (ao (b8 5 (aG (i:=3) nd rfl (Or.inl rfl) (gF (aa (HX (vc:=.ref ka') (j:=4) T.ny hp mS xc kc' (pv 4) (D6 rfl kb' rfl) (fun _ r=>r)) (aa (HX (vc:=.ty "ValueError") (j:=4) T.ny hp mS xc (T.jx' n C hn hm) (pv 4) (jH T.PC qY) (fun _ r=>r)) (aa (qv 5) az))))))))))
   (ao (aJ (jz (hU (K:=K) hu) b_ (qv 3) (gF (aa qo (aa qo (aa qo az)))) (eR _))))))) oN
theorem fD:g9 jM ["_law_m", "_law_scroll_here", "_law_states"] (bq aX):=⟨rfl,rfl,rfl,by decide +kernel,rfl,by decide +kernel,by decide +kernel⟩
theorem jR {f:Addr} {fd:FuncData} (F:fA K "_law_by_states" "_law_by_states" aX f fd) (T:Txt K mg) (VW:BE P w K mg base rn 7 "holds" ["m", "scroll", "state"] eO):ft P w K mg base gu 8 f fd ["_law_m", "_law_scroll_here", "_law_states"] (au K aK) :=
 kz.ok (t:=dF) F fD jE (fun cq A outer s H E hr =>
  have nd:=fD.nd
  have hu:=hr.units
  (aj (aG (i:=3) nd rfl (Or.inl rfl) (fM az))
   (aj (b8 2 (ji PassesOwn.never rfl (qQ (qv 2)) (aB (i:=4) nd rfl (Or.inl rfl))
   (aj (aG (i:=5) nd rfl (Or.inl rfl) (JG VW (hr.mono (by decide)) (aa (qv 0) (aa (qv 1) (aa (qv 4) az)))))
   (aj (bY (dZ (fJ (jV T.ny (qv 5) (jH T.Fh vC))))
   (ao (aJ Hq))
   aH)
   (ao (bY (Ba (qv 5))
   (ao (b8 4 (lA (gw (pv 3)) (qv 4))))
   aH))))))
   (ao (jP (pv 3)))))) lR
theorem DY:g9 wz ["_law_script"] (bq lQ):=⟨rfl,rfl,rfl,by decide +kernel,rfl,by decide +kernel,by decide +kernel⟩
theorem kd' {f:Addr} {fd:FuncData} (F:fA K "law" "law" lQ f fd) (T:Txt K mg) (ke':dr P w K mg base 3 "_law_drawn" ["_law_script", "_law_first"] (au K bU)) (DL:dr P w K mg base 1 "_law_cell_at" ["_law_script", "_law_k"] (au K aA)) (VX:dr P w K mg base 7 "held_at" ["m", "scroll"] (au K cT)) (VY:dr P w K mg base 8 "_law_by_states" ["_law_m", "_law_scroll_here", "_law_states"] (au K aK)) (kf':dr P w K mg base 8 "_law_refused" ["_law_m", "_law_scroll_here", "_law_state"] (au K bu)) (kg':dr P w K mg base 2 "_law_good" ["_law_m", "_law_scroll_here", "_law_found"] (au K cN)):ft P w K mg base gu 9 f fd ["_law_script"] (au K II) :=
 kz.ok (t:=Eh) F DY Gv (fun cq A outer s H E hr =>
  have nd:=DY.nd
  have hu:=hr.units
  (aj (Gr (i:=1) (j:=2) rfl nd rfl (Or.inl rfl) rfl (Or.inl rfl) (iY' (bx ke' (hr.mono (by decide)) (aa (qv 0) (aa (bx DL (hr.mono (by decide)) (aa (qv 0) (aa aq az))) az)))))
   (aj (aG (i:=3) nd rfl (Or.inl rfl) (cx hu (qv 1) aq))
   (aj (aG (i:=4) nd rfl (Or.inl rfl) (bx DL (hr.mono (by decide)) (aa (qv 0) (aa aq az))))
   (aj (b8 3 (aG (i:=5) nd rfl (Or.inl rfl) (gF (aa (qv 3) (aa (lY kh u_ rfl T.zv jN (cx hu (qv 1) aq)) az)))))
   (aj (aG (i:=6) nd rfl (Or.inl rfl) (lY kh u_ rfl T.zv jN (qv 2)))
   (aj (aG (i:=7) nd rfl (Or.inl rfl) (yw rfl T.IY rfl T.IX (fM (aa aq (aa (vm (qv 3) aq) (aa (cC (iD (qv 4) aq) (qv 3)) (aa (cC (iD (qv 4) aq) (qv 3)) az)))))))
   (aj (aG (i:=8) nd rfl (Or.inl rfl) Hq)
   (aj (bY (aN (hU (K:=K) hu) b_ (cC (qv 4) aq) aq (eR _))
   (ao (aG (i:=8) nd rfl (Or.inl rfl) (bx VY (hr.mono (by decide)) (aa (qv 5) (aa (qv 6) (aa (qv 7) az))))))
   aH)
   (aj (aG (i:=9) nd rfl (Or.inr rfl) (bx VX (hr.mono (by decide)) (aa (qv 5) (aa (qv 6) az))))
   (aj (bY (vv (jQ (dZ (fJ (bx kg' (hr.mono (by decide)) (aa (qv 1) (aa (qv 2) (aa (qv 9) az)))))) (jQ (aN (CB (K:=K) hu) uf (qv 5) (qv 1) (eR _)) (g_ (aN (CB (K:=K) hu) uf (qv 6) (qv 2) (eR _))))))
   (ao (aJ qo))
   aH)
   (aj (pM (i:=10) (tn:=["_law_state"]) (cn:=["_law_found"]) (ix:=[9]) nd rfl (Or.inl rfl) rfl (gO (qv 7)) (aW.of (sc:=bq lQ) (N:=wz) rfl rfl (by decide +kernel)) (fun _ _ _ _=>(aB (i:=0) (show(["_law_state", "_law_found"]:List Str).Nodup by decide +kernel) rfl (Or.inl rfl) (.inr rfl))) (fun _ _ _ _=>(il (aN (i9 (K:=K) hu) uE (qv 0) (cx hu (qv 1) (uA aq)) (by rfl)))) (fun _ _ _ _=>(qv 0)))
   (aj (bY (vv (jQ (vv (H_ (aN (hU (K:=K) hu) b_ (cC (qv 4) aq) aq (eR _)) (Et (aN (CB (K:=K) hu) uf (qv 8) (qv 10) (eR _))))) (g_ (aN (CB (K:=K) hu) uf (bx VY (hr.mono (by decide)) (aa (qv 5) (aa (qv 6) (aa (qv 7) az)))) (qv 10) (eR _)))))
   (ao (aJ qo))
   aH)
   (aj (aG (i:=11) nd rfl (Or.inl rfl) (cC (qv 4) (K5 aq aq)))
   (aj (b8 3 (bY (dZ (fJ (bx kf' (hr.mono (by decide)) (aa (qv 5) (aa (qv 6) (aa (cx hu (fM (aa (uA aq) (aa (qv 3) (aa (vm aq (qv 3)) (aa (fj (qv 3) (qv 11)) (aa (vm (uA aq) (qv 11)) az)))))) (cC (iD (qv 4) aq) aq)) az))))))
   (ao (aJ qo))
   aH))
   (aj (aG (i:=12) nd rfl (Or.inr rfl) (cg (tn:=["_law_states"]) (cn:=[]) (ix:=[]) rfl (gO (qv 9)) (aW.of (sc:=bq lQ) (N:=wz) rfl rfl (by decide +kernel)) (fun _ _ _ _=>(aB (i:=0) (show(["_law_states"]:List Str).Nodup by decide +kernel) rfl (Or.inl rfl) (.inr rfl))) (fun _ _ _ _=>cD) (fun _ _ _ _=>(lY kh u_ rfl T.zv jN (qv 0)))))
   (aj (lA (gw (pv 6)) (gF (aa cX (aa (vm (aO aD cL rfl T.kQ cP (qv 6)) aq) az))))
   (aj (aG (i:=13) nd rfl (Or.inl rfl) (bx VX (hr.mono (by decide)) (aa (qv 5) (aa (qv 6) az))))
   (aj (bY (vv (jQ (aN (CB (K:=K) hu) uf (Dk (qv 13) jZ (fu (uA aq))) (qv 12) (eR _)) (g_ (aN (CB (K:=K) hu) uf (cx hu (qv 13) (uA aq)) (cg (tn:=["_law_state"]) (cn:=["_law_kept"]) (ix:=[12]) rfl (lE (eV T.rS (qv 3))) (aW.of (sc:=bq lQ) (N:=wz) rfl rfl (by decide +kernel)) (fun _ _ _ _=>(aB (i:=0) (show(["_law_state", "_law_kept"]:List Str).Nodup by decide +kernel) rfl (Or.inl rfl) (.inr rfl))) (fun _ _ _ _=>(il (aN (xN (K:=K) hu) uE (qv 0) (cx hu (qv 1) (uA aq)) (by rfl)))) (fun _ _ _ _=>(qv 0))) (eR _)))))
   (ao (aJ qo))
   aH)
   (aj (lA (IV hu (gw (pv 13)) aq) aq)
   (aj (CT (IV hu (gw (pv 13)) (uA aq)))
   (aj (aG (i:=13) nd rfl (Or.inl rfl) (bx VX (hr.mono (by decide)) (aa (qv 5) (aa (qv 2) az))))
   (ao (aJ (oW (jz (hU (K:=K) hu) b_ (qv 13) (qv 12) (eR _)) (oW (jz (hU (K:=K) hu) b_ (qv 9) (qv 12) (eR _)) (qP (jz (hU (K:=K) hu) b_ (bx VY (hr.mono (by decide)) (aa (qv 1) (aa (qv 2) (aa (qv 7) az)))) (qv 10) (eR _))))))))))))))))))))))))))))) Ke
end
theorem BG{us:List Value}(h:us.length=1):∃ a0,us=[a0]:=by
 cases us with
 |nil=>simp at h
 |cons a0 us =>
 cases us with
 |nil=>exact⟨_,rfl⟩
 |cons b us=>simp at h
theorem zC{us:List Value}(h:us.length=2):∃ a0 a1,us=[a0,a1]:=by
 cases us with
 |nil=>simp at h
 |cons a0 us =>
 cases us with
 |nil=>simp at h
 |cons a1 us =>
 cases us with
 |nil=>exact⟨_,_,rfl⟩
 |cons b us=>simp at h
theorem IZ{us:List Value}(h:us.length=3):∃ a0 a1 a2,us=[a0,a1,a2]:=by
 cases us with
 |nil=>simp at h
 |cons a0 us =>
 cases us with
 |nil=>simp at h
 |cons a1 us =>
 cases us with
 |nil=>simp at h
 |cons a2 us =>
 cases us with
 |nil=>exact⟨_,_,_,rfl⟩
 |cons b us=>simp at h
theorem us4{us:List Value}(h:us.length=4):∃ a0 a1 a2 a3,us=[a0,a1,a2,a3]:=by
 cases us with
 |nil=>simp at h
 |cons a0 us =>
 cases us with
 |nil=>simp at h
 |cons a1 us =>
 cases us with
 |nil=>simp at h
 |cons a2 us =>
 cases us with
 |nil=>simp at h
 |cons a3 us =>
 cases us with
 |nil=>exact⟨_,_,_,_,rfl⟩
 |cons b us=>simp at h
theorem all_mk {l:PySem.W.OpenLaw} {w:World} {K:PySem.W.Frag} {h:Heap} {mg:Str->Option Value} {fa:Addr} (X:K.In h) (G:h.Ns mainGlobals mg) (hfa:mg "law" = some (.ref fa))
  (a0:PySem.W.nsIn K mainGlobals "is_open" = some (some (.ref f0))) (l0:K.lookup f0=some ⟨o0,d0,.func (PySem.W.fnOf "is_open" "is_open" (gE dW) (fE dW) (bq dW) .none v0 j0 p0 e0 r0 u0),t0⟩) (c0:PySem.W.codeIn K r0 "is_open" = true) (k0:PySem.W.keepIn K (.ref f0)=true)
  (a1:PySem.W.nsIn K mainGlobals "is_deed" = some (some (.ref f1))) (l1:K.lookup f1=some ⟨o1,d1,.func (PySem.W.fnOf "is_deed" "is_deed" (gE fO) (fE fO) (bq fO) .none v1 j1 p1 e1 r1 u1),t1⟩) (c1:PySem.W.codeIn K r1 "is_deed" = true) (k1:PySem.W.keepIn K (.ref f1)=true)
  (a2:PySem.W.nsIn K mainGlobals "is_whole" = some (some (.ref f2))) (l2:K.lookup f2=some ⟨o2,d2,.func (PySem.W.fnOf "is_whole" "is_whole" (gE dM) (fE dM) (bq dM) .none v2 j2 p2 e2 r2 u2),t2⟩) (c2:PySem.W.codeIn K r2 "is_whole" = true) (k2:PySem.W.keepIn K (.ref f2)=true)
  (a3:PySem.W.nsIn K mainGlobals "check_state" = some (some (.ref f3))) (l3:K.lookup f3=some ⟨o3,d3,.func (PySem.W.fnOf "check_state" "check_state" (gE aR) (fE aR) (bq aR) .none v3 j3 p3 e3 r3 u3),t3⟩) (c3:PySem.W.codeIn K r3 "check_state" = true) (k3:PySem.W.keepIn K (.ref f3)=true)
  (a4:PySem.W.nsIn K mainGlobals "ways_of" = some (some (.ref f4))) (l4:K.lookup f4=some ⟨o4,d4,.func (PySem.W.fnOf "ways_of" "ways_of" (gE fH) (fE fH) (bq fH) .none v4 j4 p4 e4 r4 u4),t4⟩) (c4:PySem.W.codeIn K r4 "ways_of" = true) (k4:PySem.W.keepIn K (.ref f4)=true)
  (a5:PySem.W.nsIn K mainGlobals "is_ahead" = some (some (.ref f5))) (l5:K.lookup f5=some ⟨o5,d5,.func (PySem.W.fnOf "is_ahead" "is_ahead" (gE dJ) (fE dJ) (bq dJ) .none v5 j5 p5 e5 r5 u5),t5⟩) (c5:PySem.W.codeIn K r5 "is_ahead" = true) (k5:PySem.W.keepIn K (.ref f5)=true)
  (a6:PySem.W.nsIn K mainGlobals "are_parts" = some (some (.ref f6))) (l6:K.lookup f6=some ⟨o6,d6,.func (PySem.W.fnOf "are_parts" "are_parts" (gE cB) (fE cB) (bq cB) .none v6 j6 p6 e6 r6 u6),t6⟩) (c6:PySem.W.codeIn K r6 "are_parts" = true) (k6:PySem.W.keepIn K (.ref f6)=true)
  (a7:PySem.W.nsIn K mainGlobals "is_row" = some (some (.ref f7))) (l7:K.lookup f7=some ⟨o7,d7,.func (PySem.W.fnOf "is_row" "is_row" (gE iC) (fE iC) (bq iC) .none v7 j7 p7 e7 r7 u7),t7⟩) (c7:PySem.W.codeIn K r7 "is_row" = true) (k7:PySem.W.keepIn K (.ref f7)=true)
  (a8:PySem.W.nsIn K mainGlobals "is_scroll" = some (some (.ref f8))) (l8:K.lookup f8=some ⟨o8,d8,.func (PySem.W.fnOf "is_scroll" "is_scroll" (gE cz) (fE cz) (bq cz) .none v8 j8 p8 e8 r8 u8),t8⟩) (c8:PySem.W.codeIn K r8 "is_scroll" = true) (k8:PySem.W.keepIn K (.ref f8)=true)
  (a9:PySem.W.nsIn K mainGlobals "check_scroll" = some (some (.ref f9))) (l9:K.lookup f9=some ⟨o9,d9,.func (PySem.W.fnOf "check_scroll" "check_scroll" (gE bJ) (fE bJ) (bq bJ) .none v9 j9 p9 e9 r9 u9),t9⟩) (c9:PySem.W.codeIn K r9 "check_scroll" = true) (k9:PySem.W.keepIn K (.ref f9)=true)
  (VZ:PySem.W.nsIn K mainGlobals "row_holds" = some (some (.ref f10))) (l10:K.lookup f10=some ⟨o10,d10,.func (PySem.W.fnOf "row_holds" "row_holds" (gE bD) (fE bD) (bq bD) .none v10 j10 p10 VR Ur u10),t10⟩) (V0:PySem.W.codeIn K Ur "row_holds" = true) (V1:PySem.W.keepIn K (.ref f10)=true)
  (V2:PySem.W.nsIn K mainGlobals "truths_of" = some (some (.ref f11))) (V3:K.lookup f11=some ⟨IJ,d11,.func (PySem.W.fnOf "truths_of" "truths_of" (gE cG) (fE cG) (bq cG) .none v11 j11 p11 e11 r11 u11),t11⟩) (V4:PySem.W.codeIn K r11 "truths_of" = true) (V5:PySem.W.keepIn K (.ref f11)=true)
  (V6:PySem.W.nsIn K mainGlobals "states_where" = some (some (.ref f12))) (V7:K.lookup f12=some ⟨o12,d12,.func (PySem.W.fnOf "states_where" "states_where" (gE bh) (fE bh) (bq bh) .none v12 j12 p12 SQ r12 u12),t12⟩) (V8:PySem.W.codeIn K r12 "states_where" = true) (V9:PySem.W.keepIn K (.ref f12)=true)
  (V_:PySem.W.nsIn K mainGlobals "held_at" = some (some (.ref f13))) (Wa:K.lookup f13=some ⟨o13,d13,.func (PySem.W.fnOf "held_at" "held_at" (gE dU) (fE dU) (bq dU) .none v13 j13 p13 e13 r13 u13),t13⟩) (Wb:PySem.W.codeIn K r13 "held_at" = true) (Wc:PySem.W.keepIn K (.ref f13)=true)
  (Wd:PySem.W.nsIn K mainGlobals "holds" = some (some (.ref f14))) (Wg:K.lookup f14=some ⟨o14,d14,.func (PySem.W.fnOf "holds" "holds" (gE fC) (fE fC) (bq fC) .none v14 j14 p14 VQ r14 u14),t14⟩) (Wh:PySem.W.codeIn K r14 "holds" = true) (Wi:PySem.W.keepIn K (.ref f14)=true)
  (Wj:PySem.W.nsIn K mainGlobals "_law_cell_at" = some (some (.ref f15))) (Wk:K.lookup f15=some ⟨o15,d15,.func (PySem.W.fnOf "_law_cell_at" "_law_cell_at" (gE bL) (fE bL) (bq bL) .none v15 j15 p15 e15 r15 u15),t15⟩) (Wl:PySem.W.codeIn K r15 "_law_cell_at" = true) (Wm:PySem.W.keepIn K (.ref f15)=true)
  (Wn:PySem.W.nsIn K mainGlobals "_law_deeds" = some (some (.ref f16))) (Wo:K.lookup f16=some ⟨o16,d16,.func (PySem.W.fnOf "_law_deeds" "_law_deeds" (gE bA) (fE bA) (bq bA) .none v16 j16 p16 VP r16 u16),t16⟩) (c16:PySem.W.codeIn K r16 "_law_deeds" = true) (Wq:PySem.W.keepIn K (.ref f16)=true)
  (Wr:PySem.W.nsIn K mainGlobals "_law_steps" = some (some (.ref f17))) (Ws:K.lookup f17=some ⟨o17,d17,.func (PySem.W.fnOf "_law_steps" "_law_steps" (gE cO) (fE cO) (bq cO) .none v17 j17 p17 e17 r17 u17),t17⟩) (Wt:PySem.W.codeIn K r17 "_law_steps" = true) (Wu:PySem.W.keepIn K (.ref f17)=true)
  (Wv:PySem.W.nsIn K mainGlobals "_law_row" = some (some (.ref f18))) (Ww:K.lookup f18=some ⟨o18,d18,.func (PySem.W.fnOf "_law_row" "_law_row" (gE dH) (fE dH) (bq dH) .none v18 j18 p18 e18 r18 u18),t18⟩) (Wx:PySem.W.codeIn K r18 "_law_row" = true) (Wy:PySem.W.keepIn K (.ref f18)=true)
  (Wz:PySem.W.nsIn K mainGlobals "_law_scroll" = some (some (.ref f19))) (WB:K.lookup f19=some ⟨o19,d19,.func (PySem.W.fnOf "_law_scroll" "_law_scroll" (gE bB) (fE bB) (bq bB) .none v19 j19 p19 e19 r19 u19),t19⟩) (WC:PySem.W.codeIn K r19 "_law_scroll" = true) (WD:PySem.W.keepIn K (.ref f19)=true)
  (WH:PySem.W.nsIn K mainGlobals "_law_whole" = some (some (.ref f20))) (WK:K.lookup f20=some ⟨o20,d20,.func (PySem.W.fnOf "_law_whole" "_law_whole" (gE cR) (fE cR) (bq cR) .none v20 j20 p20 VN r20 u20),t20⟩) (WL:PySem.W.codeIn K r20 "_law_whole" = true) (WM:PySem.W.keepIn K (.ref f20)=true)
  (WN:PySem.W.nsIn K mainGlobals "_law_out" = some (some (.ref f21))) (WQ:K.lookup f21=some ⟨o21,d21,.func (PySem.W.fnOf "_law_out" "_law_out" (gE dO) (fE dO) (bq dO) .none v21 j21 p21 e21 r21 u21),t21⟩) (WR:PySem.W.codeIn K r21 "_law_out" = true) (WU:PySem.W.keepIn K (.ref f21)=true)
  (WV:PySem.W.nsIn K mainGlobals "_law_says" = some (some (.ref f22))) (NF:K.lookup f22=some ⟨o22,d22,.func (PySem.W.fnOf "_law_says" "_law_says" (gE bf) (fE bf) (bq bf) .none v22 j22 p22 e22 r22 u22),t22⟩) (WW:PySem.W.codeIn K r22 "_law_says" = true) (WX:PySem.W.keepIn K (.ref f22)=true)
  (WY:PySem.W.nsIn K mainGlobals "_law_good" = some (some (.ref f23))) (WZ:K.lookup f23=some ⟨o23,d23,.func (PySem.W.fnOf "_law_good" "_law_good" (gE bO) (fE bO) (bq bO) .none v23 j23 p23 e23 r23 u23),t23⟩) (W0:PySem.W.codeIn K r23 "_law_good" = true) (MD:PySem.W.keepIn K (.ref f23)=true)
  (W3:PySem.W.nsIn K mainGlobals "_law_refused" = some (some (.ref f24))) (W4:K.lookup f24=some ⟨o24,d24,.func (PySem.W.fnOf "_law_refused" "_law_refused" (gE bK) (fE bK) (bq bK) .none v24 j24 p24 e24 r24 u24),t24⟩) (W5:PySem.W.codeIn K r24 "_law_refused" = true) (W6:PySem.W.keepIn K (.ref f24)=true)
  (W7:PySem.W.nsIn K mainGlobals "_law_by_states" = some (some (.ref f25))) (W8:K.lookup f25=some ⟨o25,d25,.func (PySem.W.fnOf "_law_by_states" "_law_by_states" (gE aX) (fE aX) (bq aX) .none v25 j25 p25 e25 r25 u25),t25⟩) (W9:PySem.W.codeIn K r25 "_law_by_states" = true) (W_:PySem.W.keepIn K (.ref f25)=true)
  (Xa:PySem.W.nsIn K mainGlobals "_law_drawn" = some (some (.ref f26))) (Xb:K.lookup f26=some ⟨o26,d26,.func (PySem.W.fnOf "_law_drawn" "_law_drawn" (gE bz) (fE bz) (bq bz) .none v26 j26 p26 e26 r26 u26),t26⟩) (Xc:PySem.W.codeIn K r26 "_law_drawn" = true) (Xd:PySem.W.keepIn K (.ref f26)=true)
  (Xe:PySem.W.nsIn K mainGlobals "law" = some (some (.ref f27))) (Xf:K.lookup f27=some ⟨o27,d27,.func (PySem.W.fnOf "law" "law" (gE lQ) (fE lQ) (bq lQ) .none v27 j27 p27 e27 r27 u27),t27⟩) (Xg:PySem.W.codeIn K r27 "law" = true) (Xh:PySem.W.keepIn K (.ref f27)=true)
  (PC:PySem.W.nsIn K mainGlobals "ValueError" = some none)
  (zt:PySem.W.nsIn K mainGlobals "all" = some none)
  (IL:PySem.W.nsIn K mainGlobals "any" = some none)
  (Fh:PySem.W.nsIn K mainGlobals "bool" = some none)
  (IQ:PySem.W.nsIn K mainGlobals "enumerate" = some none)
  (IU:PySem.W.nsIn K mainGlobals "int" = some none)
  (ny:PySem.W.nsIn K mainGlobals "isinstance" = some none)
  (kQ:PySem.W.nsIn K mainGlobals "len" = some none)
  (zv:PySem.W.nsIn K mainGlobals "list" = some none)
  (PD:PySem.W.nsIn K mainGlobals "min" = some none)
  (rS:PySem.W.nsIn K mainGlobals "range" = some none)
  (IX:PySem.W.nsIn K mainGlobals "set" = some none)
  (IY:PySem.W.nsIn K mainGlobals "sorted" = some none)
  (Fm:PySem.W.nsIn K mainGlobals "str" = some none)
  (Fn:PySem.W.nsIn K mainGlobals "tuple" = some none)
  (PF:PySem.W.nsIn K mainGlobals "zip" = some none)
  {kG':Tok} (PH:PySem.W.nsIn K mainGlobals "HIDDEN" = some (some (.str "*" kG')))
  {kH':Tok} (PK:PySem.W.nsIn K mainGlobals "LETTERS" = some (some (.str "abcdefghijklmnopqrstuvwxyz" kH')))
  {kI':Tok} (PR:PySem.W.nsIn K mainGlobals "MOST_LETTERS" = some (some (.int 6 kI')))
  {kJ':Tok} (PY:PySem.W.nsIn K mainGlobals "MOST_ROWS" = some (some (.int 2000 kJ')))
  {kK':Tok} (PZ:PySem.W.nsIn K mainGlobals "MOST_PARTS" = some (some (.int 200 kK')))
  {DM:Addr} (Xi:PySem.W.nsIn K mainGlobals "KinError" = some (some (.ref DM)))
  {bt':Addr} (Xj:PySem.W.nsIn K mainGlobals "NoDeed" = some (some (.ref bt')))
  {bu':Addr} (Xk:PySem.W.nsIn K mainGlobals "NoMachine" = some (some (.ref bu')))
  {bv':Addr} (Xl:PySem.W.nsIn K mainGlobals "NoScroll" = some (some (.ref bv')))
  {qE:Addr} (Xm:PySem.W.nsIn K mainGlobals "NoState" = some (some (.ref qE)))
  {bw':Addr} (Xn:PySem.W.nsIn K mainGlobals "TooBig" = some (some (.ref bw')))
  (Xo:PySem.W.excIn K DM [.type "ValueError",.type "Exception",.type "BaseException",.type "object"] "ValueError.__new__" = true) (Xp:PySem.W.findIn K (.ref DM) "__getattr__" = some none) (Xq:PySem.W.findIn K (.ref DM) "__getattribute__" = some (some (.builtin "BaseException.__getattribute__"))) (Xr:PySem.W.findIn K (.ref DM) "__class__" = some (some (.builtin "object.__class__"))) (Xu:PySem.W.mroIn K DM (.type "object")=some true)
  (Xv:PySem.W.excIn K qE [.type "ValueError",.type "Exception",.type "BaseException",.type "object"] "ValueError.__new__" = true) (Xw:PySem.W.findIn K (.ref qE) "__getattr__" = some none) (Xx:PySem.W.findIn K (.ref qE) "__getattribute__" = some (some (.builtin "BaseException.__getattribute__"))) (Xy:PySem.W.findIn K (.ref qE) "__class__" = some (some (.builtin "object.__class__"))) (Xz:PySem.W.mroIn K qE (.type "object")=some true)
  (XC:PySem.W.mroIn K qE (.ref DM)=some true)
  (XD:PySem.W.kitOne K (.ref qE) (.ref bv')=some false)
  (XF:PySem.W.kitOne K (.ref qE) (.ref bw')=some false)
  (XH:PySem.W.kitOne K (.ref qE) (.ref bt')=some false)
  (XJ:PySem.W.kitOne K (.ref qE) (.ref bu')=some false)
  (XM:PySem.W.kitOne K (.ref qE) (.type "ValueError")=some true)
  (XQ:PySem.W.kitOne K (.ref qE) (.ref qE)=some true)
  : ∃ fd:FuncData,(∀ (s:Shared) (v:Value),BindsTo s fd ⟨[v],[]⟩ [("_law_script",v)])/\∀ base:Heap,K.In base->base.Ns mainGlobals mg->ft l.prog w K mg base gu 9 fa fd ["_law_script"] (au K II):=by
 have e:=hfa.symm.trans (PySem.W.mg_of X G Xe)
 cases e
 have kL':=PySem.W.mg_of X G Xi
 have kM':=PySem.W.mg_of X G Xj
 have kN':=PySem.W.mg_of X G Xk
 have kO':=PySem.W.mg_of X G Xl
 have XR:=PySem.W.mg_of X G Xm
 have kP':=PySem.W.mg_of X G Xn
 have kQ':nh K DM:=⟨Xo,Xp,Xq,Xr,Xu⟩
 have bx':nh K qE:=⟨Xv,Xw,Xx,Xy,Xz⟩
 have each:∀ {G:Str->Addr->Prop},G "NoState" qE->∀ n C,n∈rn->mg n=some (.ref C)->G n C:=by
  intro G kR' n C hn hm
  simp only[rn,dA,xE,or_false] at hn
  rcases hn with rfl
  ·rw[XR] at hm;cases hm;exact kR'
 have T:Txt K mg:=⟨PySem.W.mg_none_of X G PC,PySem.W.mg_none_of X G zt,PySem.W.mg_none_of X G IL,PySem.W.mg_none_of X G Fh,PySem.W.mg_none_of X G IQ,PySem.W.mg_none_of X G IU,PySem.W.mg_none_of X G ny,PySem.W.mg_none_of X G kQ,PySem.W.mg_none_of X G zv,PySem.W.mg_none_of X G PD,PySem.W.mg_none_of X G rS,PySem.W.mg_none_of X G IX,PySem.W.mg_none_of X G IY,PySem.W.mg_none_of X G Fm,PySem.W.mg_none_of X G Fn,PySem.W.mg_none_of X G PF,⟨_,PySem.W.mg_of X G PH⟩,⟨_,PySem.W.mg_of X G PK⟩,⟨_,PySem.W.mg_of X G PR⟩,⟨_,PySem.W.mg_of X G PY⟩,⟨_,PySem.W.mg_of X G PZ⟩,⟨_,XR,bx'⟩,⟨_,kL',kQ',each ⟨bx',XC⟩⟩,each ⟨_,kO',XD⟩,each ⟨_,kP',XF⟩,each ⟨_,kM',XH⟩,each ⟨_,kN',XJ⟩,each XM,each ⟨_,XR,XQ⟩⟩
 have F0:=js (st:=dW) l0 c0 k0
 have F1:=js (st:=fO) l1 c1 k1
 have F2:=js (st:=dM) l2 c2 k2
 have F3:=js (st:=aR) l3 c3 k3
 have F4:=js (st:=fH) l4 c4 k4
 have F5:=js (st:=dJ) l5 c5 k5
 have F6:=js (st:=cB) l6 c6 k6
 have F7:=js (st:=iC) l7 c7 k7
 have F8:=js (st:=cz) l8 c8 k8
 have F9:=js (st:=bJ) l9 c9 k9
 have F10:=js (st:=bD) l10 V0 V1
 have F11:=js (st:=cG) V3 V4 V5
 have F12:=js (st:=bh) V7 V8 V9
 have F13:=js (st:=dU) Wa Wb Wc
 have F14:=js (st:=fC) Wg Wh Wi
 have F15:=js (st:=bL) Wk Wl Wm
 have F16:=js (st:=bA) Wo c16 Wq
 have F17:=js (st:=cO) Ws Wt Wu
 have F18:=js (st:=dH) Ww Wx Wy
 have F19:=js (st:=bB) WB WC WD
 have F20:=js (st:=cR) WK WL WM
 have F21:=js (st:=dO) WQ WR WU
 have F22:=js (st:=bf) NF WW WX
 have F23:=js (st:=bO) WZ W0 MD
 have F24:=js (st:=bK) W4 W5 W6
 have F25:=js (st:=aX) W8 W9 W_
 have F26:=js (st:=bz) Xb Xc Xd
 have F27:=js (st:=lQ) Xf Xg Xh
 refine⟨PySem.W.fnOf "law" "law" (gE lQ) (fE lQ) (bq lQ) .none v27 j27 p27 e27 r27 u27,fun s v=>.of_eq rfl,fun base _ _=>?_⟩
 have C0:dr l.prog w K mg base 1 "is_open" ["thing"] (au K dR):=F0.kD (PySem.W.mg_of X G a0) (xX F0 T ) fun _ _ _ _ _ _ us hl=>by obtain⟨_,rfl⟩:=BG hl;rfl
 have C2:dr l.prog w K mg base 1 "is_whole" ["thing"] (au K dg):=F2.kD (PySem.W.mg_of X G a2) (vO F2 T ) fun _ _ _ _ _ _ us hl=>by obtain⟨_,rfl⟩:=BG hl;rfl
 have C3:BE l.prog w K mg base rn 1 "check_state" ["m", "state"] a_:=fA.aH' F3 (PySem.W.mg_of X G a3) (oX F3 T ) fun _ _ _ _ _ _ us hl=>by obtain⟨_,_,rfl⟩:=zC hl;rfl
 have C4:dr l.prog w K mg base 1 "ways_of" ["m"] (au K dh):=F4.kD (PySem.W.mg_of X G a4) (yh F4 T ) fun _ _ _ _ _ _ us hl=>by obtain⟨_,rfl⟩:=BG hl;rfl
 have C10:dr l.prog w K mg base 1 "row_holds" ["ways", "truths", "row", "state"] (au K cH):=F10.kD (PySem.W.mg_of X G VZ) (uB F10 T ) fun _ _ _ _ _ _ us hl=>by obtain⟨_,_,_,_,rfl⟩:=us4 hl;rfl
 have C12:dr l.prog w K mg base 1 "states_where" ["truth"] (au K bw):=F12.kD (PySem.W.mg_of X G V6) (oH F12 T ) fun _ _ _ _ _ _ us hl=>by obtain⟨_,rfl⟩:=BG hl;rfl
 have C15:dr l.prog w K mg base 1 "_law_cell_at" ["_law_script", "_law_k"] (au K aA):=F15.kD (PySem.W.mg_of X G Wj) (nT F15 T ) fun _ _ _ _ _ _ us hl=>by obtain⟨_,_,rfl⟩:=zC hl;rfl
 have C16:dr l.prog w K mg base 1 "_law_deeds" ["_law_cell", "_law_turn"] (au K bW):=F16.kD (PySem.W.mg_of X G Wn) (qH F16 T ) fun _ _ _ _ _ _ us hl=>by obtain⟨_,_,rfl⟩:=zC hl;rfl
 have C17:dr l.prog w K mg base 1 "_law_steps" ["_law_cells", "_law_many", "_law_deeds_here"] (au K bC):=F17.kD (PySem.W.mg_of X G Wr) (qx F17 T ) fun _ _ _ _ _ _ us hl=>by obtain⟨_,_,_,rfl⟩:=IZ hl;rfl
 have C18:dr l.prog w K mg base 1 "_law_row" ["_law_cell", "_law_k", "_law_names"] (au K cZ):=F18.kD (PySem.W.mg_of X G Wv) (vN F18 T ) fun _ _ _ _ _ _ us hl=>by obtain⟨_,_,_,rfl⟩:=IZ hl;rfl
 have C20:dr l.prog w K mg base 1 "_law_whole" ["_law_found"] (au K b7):=F20.kD (PySem.W.mg_of X G WH) (q_ F20 T ) fun _ _ _ _ _ _ us hl=>by obtain⟨_,rfl⟩:=BG hl;rfl
 have C21:dr l.prog w K mg base 1 "_law_out" ["_law_m"] (au K cY):=F21.kD (PySem.W.mg_of X G WN) (vQ F21 T ) fun _ _ _ _ _ _ us hl=>by obtain⟨_,rfl⟩:=BG hl;rfl
 have C22:dr l.prog w K mg base 1 "_law_says" ["_law_row_here", "_law_state", "_law_out_here", "_law_lists"] (au K cQ):=F22.kD (PySem.W.mg_of X G WV) (ug F22 T ) fun _ _ _ _ _ _ us hl=>by obtain⟨_,_,_,_,rfl⟩:=us4 hl;rfl
 have C1:dr l.prog w K mg base 2 "is_deed" ["thing"] (au K dI):=F1.kD (PySem.W.mg_of X G a1) (yj F1 T C0) fun _ _ _ _ _ _ us hl=>by obtain⟨_,rfl⟩:=BG hl;rfl
 have C5:dr l.prog w K mg base 2 "is_ahead" ["k", "thing"] (au K bF):=F5.kD (PySem.W.mg_of X G a5) (vP F5 T C2) fun _ _ _ _ _ _ us hl=>by obtain⟨_,_,rfl⟩:=zC hl;rfl
 have C11:dr l.prog w K mg base 2 "truths_of" ["m", "scroll"] (au K aZ):=F11.kD (PySem.W.mg_of X G V2) (tY F11 T C4 C10) fun _ _ _ _ _ _ us hl=>by obtain⟨_,_,rfl⟩:=zC hl;rfl
 have C19:dr l.prog w K mg base 2 "_law_scroll" ["_law_cells", "_law_names"] (au K bH):=F19.kD (PySem.W.mg_of X G Wz) (oZ F19 T C18) fun _ _ _ _ _ _ us hl=>by obtain⟨_,_,rfl⟩:=zC hl;rfl
 have C23:dr l.prog w K mg base 2 "_law_good" ["_law_m", "_law_scroll_here", "_law_found"] (au K cN):=F23.kD (PySem.W.mg_of X G WY) (sE F23 T C21 C22 C20) fun _ _ _ _ _ _ us hl=>by obtain⟨_,_,_,rfl⟩:=IZ hl;rfl
 have C6:dr l.prog w K mg base 3 "are_parts" ["k", "thing"] (au K cM):=F6.kD (PySem.W.mg_of X G a6) (tG F6 T C5) fun _ _ _ _ _ _ us hl=>by obtain⟨_,_,rfl⟩:=zC hl;rfl
 have C26:dr l.prog w K mg base 3 "_law_drawn" ["_law_script", "_law_first"] (au K bU):=F26.kD (PySem.W.mg_of X G Xa) (qz F26 T C16 C17 C15 C19) fun _ _ _ _ _ _ us hl=>by obtain⟨_,_,rfl⟩:=zC hl;rfl
 have C7:dr l.prog w K mg base 4 "is_row" ["k", "thing"] (au K fQ):=F7.kD (PySem.W.mg_of X G a7) (zO F7 T C1 C5 C6) fun _ _ _ _ _ _ us hl=>by obtain⟨_,_,rfl⟩:=zC hl;rfl
 have C8:dr l.prog w K mg base 5 "is_scroll" ["thing"] (au K cJ):=F8.kD (PySem.W.mg_of X G a8) (sS F8 T C7) fun _ _ _ _ _ _ us hl=>by obtain⟨_,rfl⟩:=BG hl;rfl
 have C9:dr l.prog w K mg base 6 "check_scroll" ["thing"] (au K aL):=F9.kD (PySem.W.mg_of X G a9) (m5 F9 T C8) fun _ _ _ _ _ _ us hl=>by obtain⟨_,rfl⟩:=BG hl;rfl
 have C13:dr l.prog w K mg base 7 "held_at" ["m", "scroll"] (au K cT):=F13.kD (PySem.W.mg_of X G V_) (yg F13 T C9 C12 C11) fun _ _ _ _ _ _ us hl=>by obtain⟨_,_,rfl⟩:=zC hl;rfl
 have C14:BE l.prog w K mg base rn 7 "holds" ["m", "scroll", "state"] eO:=fA.aH' F14 (PySem.W.mg_of X G Wd) (Dm F14 T C9 C3 C11) fun _ _ _ _ _ _ us hl=>by obtain⟨_,_,_,rfl⟩:=IZ hl;rfl
 have C24:dr l.prog w K mg base 8 "_law_refused" ["_law_m", "_law_scroll_here", "_law_state"] (au K bu):=F24.kD (PySem.W.mg_of X G W3) (mZ F24 T C14) fun _ _ _ _ _ _ us hl=>by obtain⟨_,_,_,rfl⟩:=IZ hl;rfl
 have C25:dr l.prog w K mg base 8 "_law_by_states" ["_law_m", "_law_scroll_here", "_law_states"] (au K aK):=F25.kD (PySem.W.mg_of X G W7) (jR F25 T C14) fun _ _ _ _ _ _ us hl=>by obtain⟨_,_,_,rfl⟩:=IZ hl;rfl
 exact kd' F27 T C26 C15 C13 C25 C24 C23
theorem walk{l:PySem.W.OpenLaw}{q:Program}{loose:List Str}{XP:(Str->Option Value)->Heap->Prop}{YP:World->Heap->Prop}{d:DefRec}{K:Params->PySem.W.Frag}(hn:l.most=some 63)(My:d.params.defaults=[])
  (hY:∀ (w:World) (h:Heap),YP w h->(K w.params).In h)
  (F:∀ (w:World) (mg:Str->Option Value) (fa:Addr) (h:Heap),(K w.params).In h->h.Ns mainGlobals mg->mg d.name=some (.ref fa) ->
   ∃ fd:FuncData,(∀ (s:Shared) (u:Value),BindsTo s fd ⟨[u],[]⟩ [("_law_script",u)])/\∀ base:Heap,(K w.params).In base->base.Ns mainGlobals mg->ft l.prog w (K w.params) mg base gu 9 fa fd ["_law_script"] (au (K w.params) II)) :
  PySem.W.WalkO q loose XP YP l.row.toRowW d [] (fun f vs=>PySem.call f vs) :=
 L2.fr' (n:=63) (k:=9) (x := "_law_script") (CX:=fun _=>gu) (sp:=fun w=>au (K w.params) II) hn (by decide) My ⟨rfl,by decide,by decide⟩ hY F (fun w H a ns hl hO hS=>Cq hl hS) fun _ _ _ _ _ z=>z
end L2.Q.VF
open PySem PySem.W PyProof.Rows
namespace PySem.W.Fast
def tw6389210042563851272:=0
def tw14617177999793757726:=0
def tw14793893670584945997:=0
def tw4545135310487711779:=0
def tw7762596481746364315:=0
def tw15263460903231623183:=0
def tw2088211788812591402:=0
def tw12405643162691054540:=0
def tw15418976111239825491:=0
def tw4104512289214634115:=0
def tw3751441367447692189:=0
def tw16630587505409154322:=0
def tw4312085158048665913:=0
def tw12722412439612095345:=0
def tw6498596617550098956:=0
def tw9599677509647642840:=0
def tw7458891736208985060:=0
def tw3926773442075817553:=0
def tw5491880096363424278:=0
def tw12251368651862750461:=0
def tw10354698630090413419:=0
def tw13669555363763119263:=0
def tw9721727412216585820:=0
def tw13172275017077454552:=0
def tw16336159184345035236:=0
def tw601871690832304927:=0
def tw14569999664261018301:=0
def tw469299204983145260:=0
def tw13792272210152448236:=0
def tw12148065400735439718:=0
def tw16452921327431766982:=0
def tw8225398389777549639:=0
def tw4995660935722183409:=0
def tw14915476501735303367:=0
def tw17399430475119186868:=0
def tw5983460947359267470:=0
def tw2763854473869104381:=0
def tw13418288249154782740:=0
def tw9127519685310999867:=0
def tw6308036760864940504:=0
end PySem.W.Fast
set_option maxRecDepth 100000 in
set_option maxHeartbeats 0 in
theorem PySem.Challenge.cw_kinlook_k20_where_it_holds_holds : PySem.Challenge.rw_kinlook_k20_where_it_holds.Holds := by
 w_on;o_law;k_head;(case hw=>w_witness2)
 k_fill
 refine L2.Q.VF.walk (l:=PySem.Challenge.rw_kinlook_k20_where_it_holds) rfl rfl (fun w h Y=>PySem.W.kIn_of Y) ?F
 case F =>
  intro w mg fa h KX G MA
  refine' L2.Q.VF.all_mk KX G MA ?a0 ?l0 ?c0 ?k0 ?a1 ?l1 ?c1 ?k1 ?a2 ?l2 ?c2 ?k2 ?a3 ?l3 ?c3 ?k3 ?a4 ?l4 ?c4 ?k4 ?a5 ?l5 ?c5 ?k5 ?a6 ?l6 ?c6 ?k6 ?a7 ?l7 ?c7 ?k7 ?a8 ?l8 ?c8 ?k8 ?a9 ?l9 ?c9 ?k9 ?VZ ?l10 ?V0 ?V1 ?V2 ?V3 ?V4 ?V5 ?V6 ?V7 ?V8 ?V9 ?V_ ?Wa ?Wb ?Wc ?Wd ?Wg ?Wh ?Wi ?Wj ?Wk ?Wl ?Wm ?Wn ?Wo ?c16 ?Wq ?Wr ?Ws ?Wt ?Wu ?Wv ?Ww ?Wx ?Wy ?Wz ?WB ?WC ?WD ?WH ?WK ?WL ?WM ?WN ?WQ ?WR ?WU ?WV ?NF ?WW ?WX ?WY ?WZ ?W0 ?MD ?W3 ?W4 ?W5 ?W6 ?W7 ?W8 ?W9 ?W_ ?Xa ?Xb ?Xc ?Xd ?Xe ?Xf ?Xg ?Xh ?PC ?zt ?IL ?Fh ?IQ ?IU ?ny ?kQ ?zv ?PD ?rS ?IX ?IY ?Fm ?Fn ?PF ?PH ?PK ?PR ?PY ?PZ ?Xi ?Xj ?Xk ?Xl ?Xm ?Xn ?Xo ?Xp ?Xq ?Xr ?Xu ?Xv ?Xw ?Xx ?Xy ?Xz ?XC ?XD ?XF ?XH ?XJ ?XM ?XQ
  (case a0=>k_is)
  (case l0=>k_is)
  (case c0=>k_is)
  (case k0=>k_is)
  (case a1=>k_is)
  (case l1=>k_is)
  (case c1=>k_is)
  (case k1=>k_is)
  (case a2=>k_is)
  (case l2=>k_is)
  (case c2=>k_is)
  (case k2=>k_is)
  (case a3=>k_is)
  (case l3=>k_is)
  (case c3=>k_is)
  (case k3=>k_is)
  (case a4=>k_is)
  (case l4=>k_is)
  (case c4=>k_is)
  (case k4=>k_is)
  (case a5=>k_is)
  (case l5=>k_is)
  (case c5=>k_is)
  (case k5=>k_is)
  (case a6=>k_is)
  (case l6=>k_is)
  (case c6=>k_is)
  (case k6=>k_is)
  (case a7=>k_is)
  (case l7=>k_is)
  (case c7=>k_is)
  (case k7=>k_is)
  (case a8=>k_is)
  (case l8=>k_is)
  (case c8=>k_is)
  (case k8=>k_is)
  (case a9=>k_is)
  (case l9=>k_is)
  (case c9=>k_is)
  (case k9=>k_is)
  (case VZ=>k_is)
  (case l10=>k_is)
  (case V0=>k_is)
  (case V1=>k_is)
  (case V2=>k_is)
  (case V3=>k_is)
  (case V4=>k_is)
  (case V5=>k_is)
  (case V6=>k_is)
  (case V7=>k_is)
  (case V8=>k_is)
  (case V9=>k_is)
  (case V_=>k_is)
  (case Wa=>k_is)
  (case Wb=>k_is)
  (case Wc=>k_is)
  (case Wd=>k_is)
  (case Wg=>k_is)
  (case Wh=>k_is)
  (case Wi=>k_is)
  (case Wj=>k_is)
  (case Wk=>k_is)
  (case Wl=>k_is)
  (case Wm=>k_is)
  (case Wn=>k_is)
  (case Wo=>k_is)
  (case c16=>k_is)
  (case Wq=>k_is)
  (case Wr=>k_is)
  (case Ws=>k_is)
  (case Wt=>k_is)
  (case Wu=>k_is)
  (case Wv=>k_is)
  (case Ww=>k_is)
  (case Wx=>k_is)
  (case Wy=>k_is)
  (case Wz=>k_is)
  (case WB=>k_is)
  (case WC=>k_is)
  (case WD=>k_is)
  (case WH=>k_is)
  (case WK=>k_is)
  (case WL=>k_is)
  (case WM=>k_is)
  (case WN=>k_is)
  (case WQ=>k_is)
  (case WR=>k_is)
  (case WU=>k_is)
  (case WV=>k_is)
  (case NF=>k_is)
  (case WW=>k_is)
  (case WX=>k_is)
  (case WY=>k_is)
  (case WZ=>k_is)
  (case W0=>k_is)
  (case MD=>k_is)
  (case W3=>k_is)
  (case W4=>k_is)
  (case W5=>k_is)
  (case W6=>k_is)
  (case W7=>k_is)
  (case W8=>k_is)
  (case W9=>k_is)
  (case W_=>k_is)
  (case Xa=>k_is)
  (case Xb=>k_is)
  (case Xc=>k_is)
  (case Xd=>k_is)
  (case Xe=>k_is)
  (case Xf=>k_is)
  (case Xg=>k_is)
  (case Xh=>k_is)
  (case PC=>k_is)
  (case zt=>k_is)
  (case IL=>k_is)
  (case Fh=>k_is)
  (case IQ=>k_is)
  (case IU=>k_is)
  (case ny=>k_is)
  (case kQ=>k_is)
  (case zv=>k_is)
  (case PD=>k_is)
  (case rS=>k_is)
  (case IX=>k_is)
  (case IY=>k_is)
  (case Fm=>k_is)
  (case Fn=>k_is)
  (case PF=>k_is)
  (case PH=>k_is)
  (case PK=>k_is)
  (case PR=>k_is)
  (case PY=>k_is)
  (case PZ=>k_is)
  (case Xi=>k_is)
  (case Xj=>k_is)
  (case Xk=>k_is)
  (case Xl=>k_is)
  (case Xm=>k_is)
  (case Xn=>k_is)
  (case Xo=>k_exc)
  (case Xp=>k_is)
  (case Xq=>k_is)
  (case Xr=>k_is)
  (case Xu=>k_is)
  (case Xv=>k_exc)
  (case Xw=>k_is)
  (case Xx=>k_is)
  (case Xy=>k_is)
  (case Xz=>k_is)
  (case XC=>k_is)
  (case XD=>kit_is)
  (case XF=>kit_is)
  (case XH=>kit_is)
  (case XJ=>kit_is)
  (case XM=>kit_is)
  (case XQ=>kit_is)
